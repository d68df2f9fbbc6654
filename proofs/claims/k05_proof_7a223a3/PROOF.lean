import PyProof.Rows.All
import Wide.All
import OpenK.AllK
import Wide.FinOn
import Lean
import PyProof.EqAt
import PyProof.EqKinds
import PyProof.TupleCall
import KE.KDictSum
import PyProof.Rows.SortStr
import PyProof.EnumStmt
import PyProof.EnumMake
import PyProof.StrBlockH
import PyProof.ReprStr
import PyProof.StrLawsRepr
import PyProof.FString
import PyProof.DictCompW
import PyProof.P3Eq
import PyProof.P3In
import PyProof.NeData
import PyProof.ReprHeadsTuple
import KE.KSortTup
import PyProof.ExcInit
import PyProof.InstStoreFacts
import PyProof.StrWalks
import PyProof.FString5
import PySem.Challenge.RW_shoretold_k05_a_ditch_put_in
set_option bootstrap.genMatcherCode false
set_option genSizeOfSpec false
set_option genSizeOf false
set_option Elab.async false
set_option linter.all false
set_option maxRecDepth 100000
namespace L2
open PySem PySem.Spec PyProof.Rows
noncomputable abbrev Key := Sum Int Str
noncomputable def keyIs : Key → Value → Bool
  | .inl k, v => Value.isInt k v
  | .inr x, v => Value.isStrOf x v
noncomputable def keyH (w : World) : Key → Int
  | .inl k => hashInt k
  | .inr x => hashStr w x
theorem keyIs_shape : ∀ {k : Key} {v : Value}, keyIs k v = true → (∃ i t, k = Sum.inl i ∧ v = Value.int i t) ∨ (∃ x t, k = Sum.inr x ∧ v = Value.str x t)
  | .inl i, v, h => by
    obtain ⟨t, e⟩ := Value.isInt_shape (k := i) (v := v) h
    exact .inl ⟨i, t, rfl, e⟩
  | .inr x, v, h => by
    obtain ⟨t, e⟩ := Value.isStrOf_shape (x := x) (v := v) h
    exact .inr ⟨x, t, rfl, e⟩
theorem keyIs_int (i : Int) (t : Tok) : keyIs (.inl i) (.int i t) = true := by simp [keyIs, Value.isInt]
theorem keyIs_str (x : Str) (t : Tok) : keyIs (.inr x) (.str x t) = true := by simp [keyIs, Value.isStrOf]
theorem key_ll (a b : Int) : decide ((Sum.inl a : Key) = Sum.inl b) = (a == b) := by
  by_cases e : a = b
  · subst e; simp
  · have h : ¬ (Sum.inl a : Key) = Sum.inl b := fun q => e (Sum.inl.inj q)
    rw [decide_eq_false h]
    exact (beq_eq_false_iff_ne.mpr e).symm
theorem key_rr (a b : Str) : decide ((Sum.inr a : Key) = Sum.inr b) = decide (a = b) := by
  by_cases e : a = b
  · subst e; simp
  · have h : ¬ (Sum.inr a : Key) = Sum.inr b := fun q => e (Sum.inr.inj q)
    rw [decide_eq_false h, decide_eq_false e]
theorem key_lr (a : Int) (b : Str) : decide ((Sum.inl a : Key) = Sum.inr b) = false := decide_eq_false (fun q => nomatch q)
theorem key_rl (a : Str) (b : Int) : decide ((Sum.inr a : Key) = Sum.inl b) = false := decide_eq_false (fun q => nomatch q)
noncomputable def mixKind (prog : Program) (w : World) : PySem.KeyKind prog w Key where
  is := keyIs
  hash := keyH w
  inj := fun v a b ha hb => by
    rcases keyIs_shape ha with ⟨i, t, rfl, rfl⟩ | ⟨x, t, rfl, rfl⟩
    · rcases keyIs_shape hb with ⟨j, u, rfl, e⟩ | ⟨y, u, rfl, e⟩
      · injection e with e1 _; rw [e1]
      · exact nomatch e
    · rcases keyIs_shape hb with ⟨j, u, rfl, e⟩ | ⟨y, u, rfl, e⟩
      · exact nomatch e
      · injection e with e1 _; rw [e1]
  byValue := fun k v h => by
    rcases keyIs_shape h with ⟨i, t, rfl, rfl⟩ | ⟨x, t, rfl, rfl⟩ <;> rfl
  pyHash := fun hv h => by
    rcases keyIs_shape hv with ⟨i, t, rfl, rfl⟩ | ⟨x, t, rfl, rfl⟩
    · exact wpAny_pyHash_int h
    · exact wpAny_pyHash_str h
  eqBool := fun hu hv h => by
    rcases keyIs_shape hu with ⟨i, t, rfl, rfl⟩ | ⟨x, t, rfl, rfl⟩
    · rcases keyIs_shape hv with ⟨j, u, rfl, rfl⟩ | ⟨y, u, rfl, rfl⟩
      · rw [key_ll] at h; exact wpAny_eqBool_int h
      · rw [key_lr] at h; exact SeqAt.EqAt.int_str i t y u _ _ _ _ h
    · rcases keyIs_shape hv with ⟨j, u, rfl, rfl⟩ | ⟨y, u, rfl, rfl⟩
      · rw [key_rl] at h; exact SeqAt.EqAt.str_int x t j u _ _ _ _ h
      · rw [key_rr] at h; exact wpAny_eqBool_str h
  «strs» := fun k x t v h => by
    rcases keyIs_shape h with ⟨i, u, rfl, e⟩ | ⟨y, u, rfl, e⟩
    · exact nomatch e
    · injection e with e1 _
      subst e1
      cases v <;> rfl
theorem mixKind_int (prog : Program) (w : World) (i : Int) (t : Tok) : (mixKind prog w).is (.inl i) (.int i t) = true := keyIs_int i t
theorem mixKind_str (prog : Program) (w : World) (x : Str) (t : Tok) : (mixKind prog w).is (.inr x) (.str x t) = true := keyIs_str x t
end L2
namespace L2
open PySem PySem.Spec PyProof.Rows
inductive V where
  | non | bl (b : Bool) | int (i : Int) | str (x : Str) | byt (b : Array UInt8) | flt (b : UInt64) | ref (a : Addr) | ty (n : String)
  deriving DecidableEq
noncomputable def RelV : V → Value → Prop
  | .non, u => u = Value.none
  | .bl b, u => u = Value.bool b
  | .int i, u => ∃ t, u = Value.int i t
  | .str x, u => ∃ t, u = Value.str x t
  | .byt b, u => ∃ t, u = Value.bytes b t
  | .flt b, u => ∃ t, u = Value.float b t
  | .ref a, u => u = Value.ref a
  | .ty n, u => u = Value.type n
noncomputable abbrev Vals : List V → List Value → Prop := Paired RelV
theorem Vals.length {xs : List V} {us : List Value} (r : Vals xs us) : xs.length = us.length := Paired.length r
theorem Vals.get : ∀ {xs : List V} {us : List Value} {i : Nat} {x : V}, Vals xs us → xs[i]? = some x → ∃ u, us[i]? = some u ∧ RelV x u
  | _, _, _, _, .nil, e => by simp at e
  | _, _, 0, _, .cons r _, e => by simp at e; subst e; exact ⟨_, rfl, r⟩
  | _, _, i + 1, x, .cons _ t, e => by
    obtain ⟨u, h1, h2⟩ := Vals.get (i := i) (x := x) t (by simpa using e)
    exact ⟨u, by simpa using h1, h2⟩
theorem Vals.set {x : V} {u : Value} (r : RelV x u) : ∀ {xs : List V} {us : List Value} (i : Nat), Vals xs us → Vals (xs.set i x) (us.set i u)
  | _, _, _, .nil => .nil
  | _, _, 0, .cons _ t => .cons r t
  | _, _, i + 1, .cons q t => .cons q (Vals.set r i t)
theorem Vals.append {xs ys : List V} {us ws : List Value} (h : Vals xs us) (s : Vals ys ws) : Vals (xs ++ ys) (us ++ ws) := by
  induction h with
  | nil => exact s
  | cons r t ih => exact .cons r ih
theorem Vals.take : ∀ {xs : List V} {us : List Value} (n : Nat), Vals xs us → Vals (xs.take n) (us.take n)
  | _, _, 0, _ => .nil
  | _, _, _ + 1, .nil => .nil
  | _, _, n + 1, .cons r t => .cons r (Vals.take n t)
theorem Vals.drop : ∀ {xs : List V} {us : List Value} (n : Nat), Vals xs us → Vals (xs.drop n) (us.drop n)
  | _, _, 0, r => r
  | _, _, _ + 1, .nil => .nil
  | _, _, n + 1, .cons _ t => Vals.drop n t
noncomputable def RelO : Option V → Option Value → Prop
  | some v, some u => RelV v u
  | none, none => True
  | _, _ => False
noncomputable def KV {κ : Type} : List (κ × V) → List (κ × Value) → Prop := Paired fun (p : κ × V) (q : κ × Value) => p.1 = q.1 ∧ RelV p.2 q.2
noncomputable def kV : Key → V
  | .inl i => .int i
  | .inr x => .str x
inductive HO where
    | lst (xs : List V)
    | tup (xs : List V)
    | dK (kvs : List (Key × V)) | dT (kvs : List (List Key × V))
    | set (S : Int → Bool) (n : Nat)
    | ins (C dx : Addr) (fs : List (Str × V))
    | own (x : Addr)
    | xd (fs : List (Str × V))
    | met (f x : Addr)
    | rng (lo hi : Int)
    | frz (o : Obj) (u : HO)
    | tbl (ps : Array Value)
    | ext (φ : Heap → Prop)
noncomputable abbrev Hp := Addr → Option HO
noncomputable def upd (H : Hp) (a : Addr) (o : HO) : Hp := fun b => if b = a then some o else H b
theorem upd_same {H : Hp} {a : Addr} {o : HO} : upd H a o a = some o := by unfold upd; rw [if_pos rfl]
theorem upd_ne {H : Hp} {a b : Addr} {o : HO} (h : b ≠ a) : upd H a o b = H b := by unfold upd; rw [if_neg h]
theorem ne_of {H : Hp} {a b : Addr} {o u : HO} (h : H a = some o) (h' : H b = some u) (d : o ≠ u) : a ≠ b := by
  intro e; subst e; rw [h] at h'; exact d (Option.some.inj h')
theorem ne_of_none {H : Hp} {a b : Addr} {o : HO} (h : H a = some o) (h' : H b = none) : a ≠ b := by
  intro e; subst e; rw [h] at h'; cases h'
section
variable (P : Program) (w : World)
noncomputable def ObjOk (H : Hp) (h : Heap) (a : Addr) : HO → Prop
  | .lst xs => xs.length ≤ sizeLine ∧ ∃ (its : List Value) (n : Nat), Vals xs its ∧ h.get? a = some { cls := .type "list", data := .seq its.toArray n }
  | .tup xs => xs.length ≤ sizeLine ∧ ∃ its : List Value, Vals xs its ∧ IsTup h a its.toArray
  | .dK kvs => kvs.length ≤ sizeLine ∧ (a == sysModules) = false ∧ ∃ vs, KV kvs vs ∧ h.DictOf (mixKind P w) a vs
  | .dT kvs => kvs.length ≤ sizeLine ∧ (a == sysModules) = false ∧ ∃ xs : List (List Key × Addr × Value),
      Paired (fun (p : List Key × V) (q : List Key × Addr × Value) => p.1 = q.1 ∧ H q.2.1 = some (.tup (p.1.map kV)) ∧ RelV p.2 q.2.2) kvs xs ∧
      ∃ o es ep, h.get? a = some o ∧ o.ExactDict ∧ o.data = .dict es ep ∧ es.toList = xs.map (entryOfKey (tupleKind (mixKind P w))) ∧ (xs.map (·.1)).Nodup
  | .set S n => h.SetOf (intKind P w) a S n
  | .ins C dx fs => H dx = some (.own a) ∧ fs.length ≤ 1000 ∧ dx ≠ a ∧ h.get? a = some (PySem.W.instObj C dx) ∧
      ∃ mA, h.Ns1 dx mA ∧ (∀ f, RelO (fs.lookup f) (mA f)) ∧ PySem.Within mA (fs.map (·.1))
  | .own _ => ∃ o, h.get? a = some o
  | .xd fs => ∃ mA, h.Ns1 a mA ∧ ∀ f, RelO (fs.lookup f) (mA f)
  | .rng lo hi => ∃ t u v, h.get? a = some { cls := .type "range", data := .fields #[.int lo t, .int hi u, .int 1 v] }
  | .frz o u => h.get? a = some o ∧ ObjOk H h a u
  | .tbl ps => h.get? a = some { cls := .none, data := .fields ps }
  | .met f x => h.get? a = some (PySem.W.methodObj (.ref f) (.ref x))
  | .ext φ => φ h ∧ (∃ o, h.get? a = some o) ∧ ∀ h1 h2 : Heap, φ h1 → (∀ o, h1.get? a = some o → h2.get? a = some o) → φ h2
noncomputable def HOk (H : Hp) (h : Heap) : Prop := ∀ a o, H a = some o → ObjOk P w H h a o
end
section
variable {P : Program} {w : World} {H H' : Hp} {h h' : Heap} {a : Addr} {o : HO}
theorem ObjOk.lt (x : ObjOk P w H h a o) : a < h.objs.size := by
  cases o with
  | lst xs => obtain ⟨_, _, _, _, e⟩ := x; exact Heap.lt_size e
  | tup xs => obtain ⟨_, _, _, p⟩ := x; exact p.lt
  | dK kvs => obtain ⟨_, _, _, _, o, _, _, e, _⟩ := x; exact Heap.lt_size e
  | dT kvs => obtain ⟨_, _, _, _, o, _, _, e, _⟩ := x; exact Heap.lt_size e
  | set S n => obtain ⟨o, _, _, _, e, _⟩ := x; exact Heap.lt_size e
  | ins C dx fs => obtain ⟨_, _, _, e, _⟩ := x; exact Heap.lt_size e
  | own y => obtain ⟨_, e⟩ := x; exact Heap.lt_size e
  | xd fs => obtain ⟨_, ⟨_, _, _, e, _⟩, _⟩ := x; exact Heap.lt_size e
  | rng lo hi => obtain ⟨_, _, _, e⟩ := x; exact Heap.lt_size e
  | frz ob u => obtain ⟨e, _⟩ := x; exact Heap.lt_size e
  | tbl ps => exact Heap.lt_size (show h.get? a = some _ from x)
  | met f y => exact Heap.lt_size (show h.get? a = some _ from x)
  | ext φ => obtain ⟨_, ⟨_, e⟩, _⟩ := x; exact Heap.lt_size e
theorem Paired.mapP {α β : Type} {F G : α → β → Prop} : ∀ {l₁ : List α} {l₂ : List β}, Paired F l₁ l₂ → (∀ a b, F a b → G a b) → Paired G l₁ l₂
  | _, _, .nil, _ => .nil
  | _, _, .cons r t, f => .cons (f _ _ r) (Paired.mapP t f)
theorem ObjOk.stay (x : ObjOk P w H h a o) (k : ∀ b u, (b = a ∨ H b = some (.own a)) → h.get? b = some u → h'.get? b = some u)
    (ho : ∀ b, H b = some (.own a) → H' b = some (.own a)) (ht : ∀ b xs, H b = some (.tup xs) → H' b = some (.tup xs)) : ObjOk P w H' h' a o := by
  induction o with
  | lst xs => obtain ⟨z, its, n, r, e⟩ := x; exact ⟨z, its, n, r, k _ _ (.inl rfl) e⟩
  | tup xs => obtain ⟨z, its, r, ob, e, c⟩ := x; exact ⟨z, its, r, ob, k _ _ (.inl rfl) e, c⟩
  | dK kvs => obtain ⟨z, y, vs, r, ob, es, ep, e, c⟩ := x; exact ⟨z, y, vs, r, ob, es, ep, k _ _ (.inl rfl) e, c⟩
  | dT kvs =>
    obtain ⟨z, y, xs, r, ob, es, ep, e, c⟩ := x
    exact ⟨z, y, xs, Paired.mapP r fun p q z => ⟨z.1, ht _ _ z.2.1, z.2.2⟩, ob, es, ep, k _ _ (.inl rfl) e, c⟩
  | set S n => obtain ⟨ob, es, ep, t, e, c⟩ := x; exact ⟨ob, es, ep, t, k _ _ (.inl rfl) e, c⟩
  | ins C dx fs =>
    obtain ⟨d, z, ne, e, mA, ⟨od, es, ep, e2, c⟩, r⟩ := x
    exact ⟨ho _ d, z, ne, k _ _ (.inl rfl) e, mA, ⟨od, es, ep, k _ _ (.inr d) e2, c⟩, r⟩
  | own y => obtain ⟨ob, e⟩ := x; exact ⟨ob, k _ _ (.inl rfl) e⟩
  | xd fs => obtain ⟨mA, ⟨od, es, ep, e, c⟩, r⟩ := x; exact ⟨mA, ⟨od, es, ep, k _ _ (.inl rfl) e, c⟩, r⟩
  | rng lo hi => obtain ⟨t, u, v, e⟩ := x; exact ⟨t, u, v, k _ _ (.inl rfl) e⟩
  | frz ob u ih => obtain ⟨e, q⟩ := x; exact ⟨k _ _ (.inl rfl) e, ih q⟩
  | tbl ps =>
    have e : h.get? a = some { cls := .none, data := .fields ps } := x
    show h'.get? a = some { cls := .none, data := .fields ps }
    exact k a _ (.inl rfl) e
  | met f y =>
    have e : h.get? a = some (PySem.W.methodObj (.ref f) (.ref y)) := x
    show h'.get? a = some (PySem.W.methodObj (.ref f) (.ref y))
    exact k a _ (.inl rfl) e
  | ext φ => obtain ⟨p, ⟨o, e⟩, st⟩ := x; exact ⟨st _ _ p fun o q => k _ _ (.inl rfl) q, ⟨o, k _ _ (.inl rfl) e⟩, st⟩
theorem HOk.lt (x : HOk P w H h) (e : H a = some o) : a < h.objs.size := (x a o e).lt
theorem HOk.fresh (x : HOk P w H h) (e : h.objs.size ≤ a) : H a = none := by
  cases q : H a with
  | none => rfl
  | some u => exact absurd (Nat.lt_of_lt_of_le (x.lt q) e) (Nat.lt_irrefl _)
theorem HOk.kept (x : HOk P w H h) (k : ∀ b u, h.get? b = some u → h'.get? b = some u) : HOk P w H h' := fun a o e =>
  (x a o e).stay (fun b u _ q => k b u q) (fun _ q => q) fun _ _ q => q
theorem HOk.laid (x : HOk P w H h) (k : ∀ b u, h.get? b = some u → h'.get? b = some u) (hp : h.objs.size ≤ a) (new : ObjOk P w (upd H a o) h' a o) : HOk P w (upd H a o) h' := fun b u e => by
  have hn := x.fresh hp
  by_cases hb : b = a
  · subst hb; rw [upd_same] at e; cases e; exact new
  · rw [upd_ne hb] at e
    exact (x b u e).stay (fun c v _ q => k c v q) (fun c q => by rw [upd_ne (ne_of_none q hn)]; exact q) fun c xs q => by rw [upd_ne (ne_of_none q hn)]; exact q
end
noncomputable def Rd (H : Hp) (a : Addr) (u : HO) : Prop := H a = some u ∨ ∃ o, H a = some (.frz o u)
theorem Rd.ok {P : Program} {w : World} {H : Hp} {h : Heap} {a : Addr} {u : HO} (r : Rd H a u) (x : HOk P w H h) : ObjOk P w H h a u := by
  rcases r with r | ⟨o, r⟩
  · exact x a u r
  · obtain ⟨_, q⟩ := x a _ r
    exact q
noncomputable def Mut : Option HO → Prop
  | some (.lst _) => True
  | some (.dK _) => True
  | some (.dT _) => True
  | some (.set _ _) => True
  | some (.ins _ _ _) => True
  | some (.ext _) => True
  | _ => False
section
variable {P : Program} {w : World} {H : Hp} {h h' : Heap} {x e : Addr} {o' : HO}
theorem HOk.write (ok : HOk P w H h) (mu : Mut (H x)) (he : e = x ∨ H e = some (.own x)) (k : ∀ b u, b ≠ e → h.get? b = some u → h'.get? b = some u) (heo : ∃ u, h'.get? e = some u)
    (new : ObjOk P w (upd H x o') h' x o') : HOk P w (upd H x o') h' := fun b u q => by
  have nown : ∀ c y, H c = some (.own y) → c ≠ x := fun c y r z => by subst z; rw [r] at mu; exact mu
  have ntup : ∀ c xs, H c = some (.tup xs) → c ≠ x := fun c xs r z => by subst z; rw [r] at mu; exact mu
  by_cases hb : b = x
  · subst hb; rw [upd_same] at q; cases q; exact new
  · rw [upd_ne hb] at q
    by_cases hbe : b = e
    · have q' : H b = some (.own x) := by
        rcases he with z | z
        · exact absurd (hbe.trans z) hb
        · rw [hbe]; exact z
      rw [q] at q'; cases q'
      obtain ⟨v, hv⟩ := heo
      exact ⟨v, by rw [hbe]; exact hv⟩
    · refine (ok b u q).stay (fun c v hc r => k c v ?_ r) (fun c r => by rw [upd_ne (nown c b r)]; exact r) fun c xs r => by rw [upd_ne (ntup c xs r)]; exact r
      rcases hc with rfl | hc
      · exact hbe
      · rintro rfl
        rcases he with z | z
        · exact nown c b hc z
        · rw [hc] at z; cases z; exact hb rfl
end
structure Un (fs ex : List Addr) (H H' : Hp) (h h' : Heap) : Prop where
  keep : ∀ b o, h.get? b = some o → H b = none → b ∉ fs → b ∉ ex → h'.get? b = some o
  slot : ∀ b o, h.get? b = some o → H b = none → b ∈ fs → b ∉ ex → ∃ sl, h'.get? b = some { o with slots := sl }
  free : ∀ b o, h.get? b = some o → H b = none → b ∉ ex → H' b = none
  there : ∀ b o, h.get? b = some o → b ∉ ex → ∃ o', h'.get? b = some o'
  tups : ∀ b xs, H b = some (.tup xs) → H' b = some (.tup xs)
  frzs : ∀ b o u, H b = some (.frz o u) → H' b = some (.frz o u)
  tbls : ∀ b ps, H b = some (.tbl ps) → ∃ more, H' b = some (.tbl (ps ++ more))
section
variable {fs fs' ex ex' : List Addr} {H H1 H2 : Hp} {h h1 h2 h' : Heap} {a x e : Addr} {o : HO}
theorem Un.any (u : Un fs ex H H1 h h1) {b : Addr} {ob : Obj} (q : h.get? b = some ob) (n : H b = none) (hx : b ∉ ex) : ∃ sl, h1.get? b = some { ob with slots := sl } := by
  by_cases hb : b ∈ fs
  · exact u.slot b ob q n hb hx
  · exact ⟨ob.slots, u.keep b ob q n hb hx⟩
theorem Un.kept (k : ∀ b u, h.get? b = some u → h'.get? b = some u) : Un fs ex H H h h' :=
  ⟨fun b ob q _ _ _ => k b ob q, fun b ob q _ _ _ => ⟨ob.slots, k b ob q⟩, fun _ _ _ n _ => n, fun b ob q _ => ⟨ob, k b ob q⟩, fun _ _ q => q, fun _ _ _ q => q, fun _ ps q => ⟨#[], by rw [q]; simp⟩⟩
theorem Un.refl : Un fs ex H H h h := Un.kept fun _ _ q => q
theorem Un.laid (k : ∀ b u, h.get? b = some u → h'.get? b = some u) (hp : h.objs.size ≤ a) (hn : H a = none) : Un fs ex H (upd H a o) h h' where
  keep := fun b u q _ _ _ => k b u q
  slot := fun b u q _ _ _ => ⟨u.slots, k b u q⟩
  free := fun b u q n _ => by rw [upd_ne (Nat.ne_of_lt (Nat.lt_of_lt_of_le (Heap.lt_size q) hp))]; exact n
  there := fun b u q _ => ⟨u, k b u q⟩
  tups := fun b xs q => by rw [upd_ne (ne_of_none q hn)]; exact q
  frzs := fun b u xs q => by rw [upd_ne (ne_of_none q hn)]; exact q
  tbls := fun b ps q => ⟨#[], by rw [upd_ne (ne_of_none q hn), q]; simp⟩
theorem Un.write (mu : Mut (H x)) (he : e = x ∨ H e = some (.own x)) (k : ∀ b u, b ≠ e → h.get? b = some u → h'.get? b = some u) (heo : ∃ u, h'.get? e = some u) : Un fs ex H (upd H x o) h h' := by
  have hx : ∀ b, H b = none → b ≠ x := fun b n z => by subst z; rw [n] at mu; exact mu
  have hb : ∀ b, H b = none → b ≠ e := fun b n z => by
    subst z
    rcases he with r | r
    · exact hx b n r
    · rw [n] at r; cases r
  have hm : ∀ b u, H b = some u → ¬ Mut (some u) → b ≠ x := fun b u q nm z => by subst z; rw [q] at mu; exact nm mu
  refine ⟨fun b u q n _ _ => k b u (hb b n) q, fun b u q n _ _ => ⟨u.slots, k b u (hb b n) q⟩, fun b u q n _ => by rw [upd_ne (hx b n)]; exact n, fun b u q _ => ?_,
    fun b xs q => by rw [upd_ne (hm b _ q fun z => z)]; exact q, fun b u xs q => by rw [upd_ne (hm b _ q fun z => z)]; exact q, fun b ps q => ⟨#[], by rw [upd_ne (hm b _ q fun z => z), q]; simp⟩⟩
  by_cases hbe : b = e
  · subst hbe; exact heo
  · exact ⟨u, k b u hbe q⟩
end
noncomputable def trk (h : Heap) (H : Hp) : List Addr := (List.range h.objs.size).filter fun a => (H a).isSome
noncomputable def hidT (h : Heap) (H : Hp) : Heap := PySem.W.hideAll h (trk h H)
theorem hidT_size (h : Heap) (H : Hp) : (hidT h H).objs.size = h.objs.size := PySem.W.hideAll_size _ _
theorem hidT_get {h : Heap} {H : Hp} {b : Addr} {o : Obj} (e : h.get? b = some o) (n : H b = none) : (hidT h H).get? b = some o :=
  PySem.W.hideAll_get _ e fun hm => by
    have q : (H b).isSome = true := (List.mem_filter.mp hm).2
    rw [n] at q; simp at q
theorem of_hidT {h : Heap} {H : Hp} {b : Addr} {o : Obj} (e : (hidT h H).get? b = some o) : h.get? b = some o ∧ H b = none := by
  have e' : h.get? b = some o := PySem.W.of_hideAll (trk h H) e
  refine ⟨e', ?_⟩
  cases q : H b with
  | none => rfl
  | some x =>
    have hm : b ∈ trk h H := List.mem_filter.mpr ⟨List.mem_range.mpr (Heap.lt_size e'), by simp [q]⟩
    have z : (hidT h H).get? b = none := PySem.W.hideAll_none (trk h H) hm
    rw [z] at e; cases e
noncomputable def allNews (g h : Heap) (L : Addr) : List (Addr × Obj) := (List.range h.objs.size).filterMap fun a => if a = L ∨ (g.get? a).isSome = true then none else (h.get? a).map fun o => (a, o)
noncomputable def rest (g h : Heap) (L d : Addr) : List (Addr × Obj) := (allNews g h L).filter fun p => decide (p.1 ≠ d)
end L2
namespace L2
open PySem PySem.Spec PyProof.Rows
structure Mod (K : PySem.W.Frag) (mg : Str → Option Value) (base : Heap) : Prop where
  kin : K.In base
  glob : base.Ns mainGlobals mg
  blt : ∃ mb, base.Ns builtinsNs mb ∧ ∀ x : Str, x ≠ "__name__" → mb x = bootBuiltins x
  nolimit : base.NoLimit
structure Cx where
  prog : Program
  w : World
  K : PySem.W.Frag
  mg : Str → Option Value
  base : Heap
  A : Around
  N : List Str
  s₀ : Shared
  H₀ : Hp
  env : Env
  outer : List Env
  stack : List Env
  ex : List Addr
  fn : Str → Bool
  calm : Bool
  pn : List (Addr × Obj)
  xe : Value → Shared → Prop
noncomputable def frs (l : List Env) : List Addr := l.filterMap (·.frame)
noncomputable abbrev Cx.fs (X : Cx) : List Addr := frs X.outer
noncomputable def Vis (sc : Scope) (x : Str) : Prop := sc.names.lookup x = some .local ∨ sc.names.lookup x = some .cell ∨ sc.names.lookup x = some .free
noncomputable def Loc (sc : Scope) (x : Str) : Prop := sc.names.lookup x = some .local ∨ sc.names.lookup x = some .cell
noncomputable def Look (env : Env) (h : Heap) (m : Str → Option Value) (x : Str) (u : Value) : Prop :=
  (env.kindOf x = some .local ∧ m x = some u) ∨ ((env.kindOf x = some .cell ∨ env.kindOf x = some .free) ∧ ∃ c, env.cells.lookup x = some c ∧ h.IsCell c (some u))
structure Cx.Ok (X : Cx) : Prop where
  mod : Mod X.K X.mg X.base
  kind : X.env.scope.kind = .function
  glob : X.env.globals = mainGlobals
  blt : X.env.builtins = builtinsNs
  above : X.s₀.heap.objs.size ≤ X.env.locals
  inj : ∀ x y c, X.env.cells.lookup x = some c → X.env.cells.lookup y = some c → x = y
  has : ∀ x, (X.env.kindOf x = some .cell ∨ X.env.kindOf x = some .free) → ∃ c, X.env.cells.lookup x = some c
  cab : ∀ x c, X.fn x = true → X.env.cells.lookup x = some c → X.s₀.heap.objs.size ≤ c
  hd : X.calm = true → X.A.handled = none
  frames : X.A.frames = some X.stack
  stk : X.stack = X.outer ∨ (X.stack = X.env :: X.outer ∧ X.env.frame = some X.env.locals)
  exf : ∀ b ∈ X.ex, b ≠ X.env.locals ∧ ∀ x c, X.env.cells.lookup x = some c → c ≠ b
  bs : ∀ b o, X.base.get? b = some o → X.s₀.heap.get? b = some o ∧ X.H₀ b = none
  bsz : X.base.objs.size ≤ X.s₀.heap.objs.size
  noex : ∀ b o, X.base.get? b = some o → b ∉ X.ex
  exfs : ∀ b ∈ X.ex, b ∉ X.fs
  funs : X.s₀.heap.FunFrames X.base X.outer
  frf : ∀ b ∈ X.fs, X.H₀ b = none
structure Inv (X : Cx) (pins : List (Addr × Obj)) (σ : List (Option V)) (H : Hp) (s : Shared) : Prop where
  ok : X.Ok
  os : s.os = X.s₀.os
  bare : AllBare s.gens
  base : Un X.fs X.ex X.H₀ H X.s₀.heap s.heap
  loc : ∃ m, s.heap.Ns X.env.locals m ∧ ∀ (i : Nat) (x : Str) (v : V), X.N[i]? = some x → σ[i]? = some (some v) → Vis X.env.scope x → ∃ u, RelV v u ∧ Look X.env s.heap m x u
  cell : ∀ x c, X.env.cells.lookup x = some c → ∃ v, s.heap.IsCell c v
  free : H X.env.locals = none
  freeC : ∀ x c, X.env.cells.lookup x = some c → H c = none
  pin : ∀ p ∈ X.pn ++ pins, s.heap.get? p.1 = some p.2 ∧ H p.1 = none ∧ p.1 ≠ X.env.locals ∧ p.1 ∉ X.fs ∧ ∀ v, p.2.data ≠ .cell v
  hok : HOk X.prog X.w H s.heap
  len : σ.length = X.N.length
section
variable {X : Cx} {pins : List (Addr × Obj)} {σ : List (Option V)} {H H' : Hp} {s : Shared} {h' : Heap}
theorem Cx.Ok.nofr (ok : X.Ok) {b : Addr} {o : Obj} (e : X.base.get? b = some o) : b ∉ X.fs := fun hb => by
  have := (ok.funs.mem hb).1
  rw [e] at this; cases this
theorem Inv.bs (I : Inv X pins σ H s) : ∀ b o, X.base.get? b = some o → s.heap.get? b = some o ∧ H b = none := fun b o e =>
  ⟨I.base.keep b o (I.ok.bs b o e).1 (I.ok.bs b o e).2 (I.ok.nofr e) (I.ok.noex b o e), I.base.free b o (I.ok.bs b o e).1 (I.ok.bs b o e).2 (I.ok.noex b o e)⟩
theorem Inv.bk (I : Inv X pins σ H s) : ∀ b o, X.base.get? b = some o → s.heap.get? b = some o := fun b o e => (I.bs b o e).1
theorem Inv.mod (I : Inv X pins σ H s) : Mod X.K X.mg X.base := I.ok.mod
theorem Inv.kIn (I : Inv X pins σ H s) : X.K.In s.heap := I.ok.mod.kin.keeps I.bk
theorem Inv.lt (I : Inv X pins σ H s) : X.env.locals < s.heap.objs.size := by obtain ⟨_, hn, _⟩ := I.loc; exact hn.lt
theorem Inv.sz (I : Inv X pins σ H s) : X.s₀.heap.objs.size ≤ s.heap.objs.size := Nat.le_trans I.ok.above (Nat.le_of_lt I.lt)
theorem Inv.nofs (I : Inv X pins σ H s) {a : Addr} (h : s.heap.objs.size ≤ a) : a ∉ X.fs := fun hb => by
  obtain ⟨_, o, ho, _⟩ := I.ok.funs.mem hb
  exact absurd (Nat.lt_of_lt_of_le (Heap.lt_size ho) (Nat.le_trans I.sz h)) (Nat.lt_irrefl _)
theorem Inv.cne (I : Inv X pins σ H s) : ∀ x c, X.env.cells.lookup x = some c → c ≠ X.env.locals := fun x c e z => by
  obtain ⟨v, o, ho, hd⟩ := I.cell x c e
  obtain ⟨m, ⟨o', es, ep, ho', hd', _⟩, _⟩ := I.loc
  rw [z, ho'] at ho; cases ho; rw [hd'] at hd; cases hd
theorem Inv.funs (I : Inv X pins σ H s) : s.heap.FunFrames X.base X.outer := by
  have all : ∀ (l : List Env), (∀ b ∈ frs l, b ∈ X.fs) → X.s₀.heap.FunFrames X.base l → s.heap.FunFrames X.base l := by
    intro l
    induction l with
    | nil => intro _ _; trivial
    | cons env r ih =>
      intro hs hl
      obtain ⟨hk, ⟨L, o, hf, hn, ho, hd⟩, hr⟩ := hl
      have hL : L ∈ X.fs := hs L (by unfold frs; rw [List.filterMap_cons, hf]; exact List.mem_cons_self)
      obtain ⟨sl, e⟩ := I.base.slot L o ho (I.ok.frf L hL) hL fun z => I.ok.exfs L z hL
      exact ⟨hk, ⟨L, _, hf, hn, e, hd⟩, ih (fun b hb => hs b (by unfold frs; rw [List.filterMap_cons, hf]; exact List.mem_cons_of_mem _ hb)) hr⟩
  exact all X.outer (fun _ hb => hb) I.ok.funs
theorem Inv.stack (I : Inv X pins σ H s) : s.heap.FunFrames X.base X.stack := by
  rcases I.ok.stk with e | ⟨e, hf⟩
  · rw [e]; exact I.funs
  · rw [e]
    obtain ⟨m, hn, _⟩ := I.loc
    refine .cons (by rw [I.ok.kind]; decide) hf hn ?_ I.funs
    exact Heap.get?_none_of_le (Nat.le_trans I.ok.bsz I.ok.above)
theorem Inv.stkSub (I : Inv X pins σ H s) : ∀ b ∈ frs X.stack, b ∈ X.env.locals :: X.fs := fun b hb => by
  rcases I.ok.stk with e | ⟨e, hf⟩
  · rw [e] at hb; exact List.mem_cons_of_mem _ hb
  · rw [e] at hb
    unfold frs at hb
    rw [List.filterMap_cons, hf] at hb
    exact hb
theorem Inv.stkFree (I : Inv X pins σ H s) : ∀ b ∈ frs X.stack, H b = none := fun b hb => by
  rcases List.mem_cons.mp (I.stkSub b hb) with e | hb
  · rw [e]; exact I.free
  · obtain ⟨_, o, ho, _⟩ := I.ok.funs.mem hb
    exact I.base.free b o ho (I.ok.frf b hb) fun z => I.ok.exfs b z hb
theorem Inv.step {g' : Array GenState} {t' : Nat} {d' : Drawn} {ch : List Addr} (I : Inv X pins σ H s)
    (hch : ∀ b ∈ ch, (b ∈ X.ex ∨ X.s₀.heap.objs.size ≤ b) ∧ b ≠ X.env.locals ∧ (∀ x c, X.env.cells.lookup x = some c → c ≠ b) ∧ ∀ p ∈ X.pn ++ pins, p.1 ≠ b)
    (keep : ∀ b o, b ≠ X.env.locals → b ∉ X.fs → b ∉ ch → s.heap.get? b = some o → H b = none → h'.get? b = some o)
    (slot : ∀ b o, b ≠ X.env.locals → b ∈ X.fs → b ∉ ch → s.heap.get? b = some o → H b = none → ∃ sl, h'.get? b = some { o with slots := sl }) (free : ∀ b o, b ∉ ch → s.heap.get? b = some o → H b = none → H' b = none)
    (there : ∀ b o, b ∉ ch → s.heap.get? b = some o → ∃ o', h'.get? b = some o')
    (tups : ∀ b xs, H b = some (.tup xs) → H' b = some (.tup xs)) (frzs : ∀ b o u, H b = some (.frz o u) → H' b = some (.frz o u)) (tbls : ∀ b ps, H b = some (.tbl ps) → ∃ more, H' b = some (.tbl (ps ++ more)))
    (ns : ∀ m, s.heap.Ns X.env.locals m → h'.Ns X.env.locals m) (hok : HOk X.prog X.w H' h') (hg : AllBare g') :
    Inv X pins σ H' { s with heap := h', gens := g', drawn := d', toks := t' } := by
  have neL : ∀ b o, X.s₀.heap.get? b = some o → b ≠ X.env.locals := fun b o e => Nat.ne_of_lt (Nat.lt_of_lt_of_le (Heap.lt_size e) I.ok.above)
  have neC : ∀ b o, X.s₀.heap.get? b = some o → b ∉ X.ex → b ∉ ch := fun b o e hx hb => by
    rcases (hch b hb).1 with z | z
    · exact hx z
    · exact absurd (Nat.lt_of_lt_of_le (Heap.lt_size e) z) (Nat.lt_irrefl _)
  have cellK : ∀ x c, X.env.cells.lookup x = some c → ∀ v, s.heap.IsCell c v → h'.IsCell c v := fun x c e v ⟨o, ho, hd⟩ => by
    have nch : c ∉ ch := fun z => (hch c z).2.2.1 x c e rfl
    by_cases hc : c ∈ X.fs
    · obtain ⟨sl, q⟩ := slot c o (I.cne x c e) hc nch ho (I.freeC x c e)
      exact ⟨_, q, hd⟩
    · exact ⟨o, keep c o (I.cne x c e) hc nch ho (I.freeC x c e), hd⟩
  refine ⟨I.ok, I.os, hg, ⟨fun b o e n hb hx => ?_, fun b o e n hb hx => ?_, fun b o e n hx => ?_, fun b o e hx => ?_, fun b xs e => tups b xs (I.base.tups b xs e), fun b o xs e => frzs b o xs (I.base.frzs b o xs e), fun b ps e => ?_⟩, ?_, fun x c e => ?_, ?_, fun x c e => ?_, fun p hp => ?_, hok, I.len⟩
  · exact keep b o (neL b o e) hb (neC b o e hx) (I.base.keep b o e n hb hx) (I.base.free b o e n hx)
  · obtain ⟨sl, e1⟩ := I.base.slot b o e n hb hx
    obtain ⟨sl', e2⟩ := slot b _ (neL b o e) hb (neC b o e hx) e1 (I.base.free b o e n hx)
    exact ⟨sl', e2⟩
  · obtain ⟨o', e1⟩ := I.base.there b o e hx
    exact free b o' (neC b o e hx) e1 (I.base.free b o e n hx)
  · obtain ⟨o', e1⟩ := I.base.there b o e hx
    exact there b o' (neC b o e hx) e1
  · obtain ⟨m1, e1⟩ := I.base.tbls b ps e
    obtain ⟨m2, e2⟩ := tbls b _ e1
    exact ⟨m1 ++ m2, by rw [e2, Array.append_assoc]⟩
  · obtain ⟨m, hn, hl⟩ := I.loc
    refine ⟨m, ns m hn, fun i x v e1 e2 e3 => ?_⟩
    obtain ⟨u, r, l⟩ := hl i x v e1 e2 e3
    refine ⟨u, r, ?_⟩
    rcases l with l | ⟨k, c, e, z⟩
    · exact .inl l
    · exact .inr ⟨k, c, e, cellK x c e _ z⟩
  · obtain ⟨v, z⟩ := I.cell x c e
    exact ⟨v, cellK x c e v z⟩
  · obtain ⟨m, ⟨o, _, _, ho, _⟩, _⟩ := I.loc
    exact free _ o (fun z => (hch _ z).2.1 rfl) ho I.free
  · obtain ⟨v, o, ho, hd⟩ := I.cell x c e
    exact free c o (fun z => (hch c z).2.2.1 x c e rfl) ho (I.freeC x c e)
  · obtain ⟨e, n, ne, nf, d⟩ := I.pin p hp
    have nch : p.1 ∉ ch := fun z => (hch p.1 z).2.2.2 p hp rfl
    exact ⟨keep p.1 p.2 ne nf nch e n, free p.1 p.2 nch e n, ne, nf, d⟩
theorem Inv.un {t' : Nat} (I : Inv X pins σ H s) (u : Un X.fs [] H H' s.heap h') (hok : HOk X.prog X.w H' h') : Inv X pins σ H' { s with heap := h', toks := t' } := by
  obtain ⟨m, ⟨o, es, ep, ho, r⟩, _⟩ := id I.loc
  obtain ⟨sl, hL⟩ := u.any ho I.free (by simp)
  exact I.step (g' := s.gens) (d' := s.drawn) (ch := []) (fun _ z => nomatch z) (fun b o _ hb _ e n => u.keep b o e n hb (by simp)) (fun b o _ hb _ e n => u.slot b o e n hb (by simp)) (fun b o _ e n => u.free b o e n (by simp)) (fun b o _ e => u.there b o e (by simp)) u.tups u.frzs u.tbls (fun m' hm => by
    obtain ⟨o', es', ep', ho', r'⟩ := hm
    rw [ho] at ho'; cases ho'
    exact ⟨_, es', ep', hL, r'⟩) hok I.bare
theorem Inv.call {g' : Array GenState} {t' : Nat} {d' : Drawn} {ch : List Addr} (I : Inv X pins σ H s) (u : Un (frs X.stack) ch H H' s.heap h') (hok : HOk X.prog X.w H' h') (hg : AllBare g')
    (hch : ∀ b ∈ ch, (b ∈ X.ex ∨ X.s₀.heap.objs.size ≤ b) ∧ b ≠ X.env.locals ∧ (∀ x c, X.env.cells.lookup x = some c → c ≠ b) ∧ ∀ p ∈ X.pn ++ pins, p.1 ≠ b) :
    Inv X pins σ H' { s with heap := h', gens := g', drawn := d', toks := t' } := by
  obtain ⟨m, ⟨o, es, ep, ho, r⟩, _⟩ := id I.loc
  obtain ⟨sl, hL⟩ := u.any ho I.free fun z => (hch _ z).2.1 rfl
  exact I.step (ch := ch) hch (fun b o hL hb hc e n => u.keep b o e n (fun z => (List.mem_cons.mp (I.stkSub b z)).elim hL hb) hc) (fun b o _ _ hc e n => u.any e n hc) (fun b o hc e n => u.free b o e n hc) (fun b o hc e => u.there b o e hc) u.tups u.frzs u.tbls (fun m' hm => by
    obtain ⟨o', es', ep', ho', r'⟩ := hm
    rw [ho] at ho'; cases ho'
    exact ⟨_, es', ep', hL, r'⟩) hok hg
theorem Inv.turned {t' : Nat} {it : Addr} (I : Inv X pins σ H s) (k : ∀ b o, b ≠ it → s.heap.get? b = some o → h'.get? b = some o) (hn : H it = none) (hL : it ≠ X.env.locals)
    (h1 : it ∈ X.ex ∨ X.s₀.heap.objs.size ≤ it) (h2 : ∀ x c, X.env.cells.lookup x = some c → c ≠ it) (h3 : ∀ p ∈ X.pn ++ pins, p.1 ≠ it) : Inv X pins σ H { s with heap := h', toks := t' } := by
  have nit : ∀ b u, H b = some u → b ≠ it := fun b u e z => by rw [z, hn] at e; cases e
  refine I.step (g' := s.gens) (d' := s.drawn) (ch := [it]) (fun b hb => ?_) (fun b o _ _ hc e _ => k b o (fun z => hc (by simp [z])) e) (fun b o _ _ hc e _ => ⟨o.slots, k b o (fun z => hc (by simp [z])) e⟩) (fun _ _ _ _ n => n)
    (fun b o hc e => ⟨o, k b o (fun z => hc (by simp [z])) e⟩) (fun _ _ e => e) (fun _ _ _ e => e) (fun b ps e => ⟨#[], by rw [e]; simp⟩) (fun m hm => ?_) (fun b u e => ?_) I.bare
  · have e : b = it := by simpa using hb
    subst e
    exact ⟨h1, hL, h2, h3⟩
  · obtain ⟨o, es, ep, ho, r⟩ := hm
    exact ⟨o, es, ep, k _ o (Ne.symm hL) ho, r⟩
  · refine (I.hok b u e).stay (fun c v hc q => k c v ?_ q) (fun _ q => q) fun _ _ q => q
    rcases hc with z | z
    · rw [z]; exact nit b u e
    · exact nit c _ z
theorem Inv.tok (I : Inv X pins σ H s) (t : Nat) : Inv X pins σ H { s with toks := t } := I.un (h' := s.heap) (t' := t) Un.refl I.hok
theorem Inv.kept {t' : Nat} (I : Inv X pins σ H s) (k : ∀ b u, s.heap.get? b = some u → h'.get? b = some u) : Inv X pins σ H { s with heap := h', toks := t' } := I.un (Un.kept k) (I.hok.kept k)
theorem Inv.laid {a : Addr} {o : HO} {t' : Nat} (I : Inv X pins σ H s) (k : ∀ b u, s.heap.get? b = some u → h'.get? b = some u) (hp : s.heap.objs.size ≤ a) (new : ObjOk X.prog X.w (upd H a o) h' a o) :
    Inv X pins σ (upd H a o) { s with heap := h', toks := t' } := I.un (Un.laid k hp (I.hok.fresh hp)) (I.hok.laid k hp new)
theorem Inv.write {x e : Addr} {o : HO} {t' : Nat} (I : Inv X pins σ H s) (mu : Mut (H x)) (he : e = x ∨ H e = some (.own x)) (k : ∀ b u, b ≠ e → s.heap.get? b = some u → h'.get? b = some u) (heo : ∃ u, h'.get? e = some u)
    (new : ObjOk X.prog X.w (upd H x o) h' x o) : Inv X pins σ (upd H x o) { s with heap := h', toks := t' } := I.un (Un.write mu he k heo) (I.hok.write mu he k heo new)
theorem Inv.pins_of {pins' : List (Addr × Obj)} (I : Inv X pins σ H s) (h : ∀ p ∈ pins', s.heap.get? p.1 = some p.2 ∧ H p.1 = none ∧ p.1 ≠ X.env.locals ∧ p.1 ∉ X.fs ∧ ∀ v, p.2.data ≠ .cell v) : Inv X pins' σ H s :=
  ⟨I.ok, I.os, I.bare, I.base, I.loc, I.cell, I.free, I.freeC, fun p hp => (List.mem_append.mp hp).elim (fun z => I.pin p (List.mem_append_left _ z)) (h p), I.hok, I.len⟩
theorem nodup_ix {N : List Str} (hN : N.Nodup) {i j : Nat} {x : Str} (a : N[i]? = some x) (b : N[j]? = some x) : i = j := by
  obtain ⟨h1, e1⟩ := List.getElem?_eq_some_iff.mp a
  obtain ⟨h2, e2⟩ := List.getElem?_eq_some_iff.mp b
  exact (List.getElem_inj hN).mp (e1.trans e2.symm)
theorem store_ok2 {M : Model} {A : Around} {E : Value → Shared → Prop} {i : Nat} {x : Str} {v : V} {u : Value} {Q : Unit → Shared → Prop} (I : Inv X pins σ H s) (hN : X.N.Nodup) (hi : X.N[i]? = some x) (hx : Loc X.env.scope x) (r : RelV v u)
    (h : ∀ s', Inv X pins (σ.set i (some v)) H s' → (∃ a, Heap.SameBut a s.heap s'.heap ∧ (a = X.env.locals ∨ X.env.cells.lookup x = some a)) → Q () s') (hf : X.fn x = true ∨ X.env.scope.names.lookup x = some .local := by first | exact .inl rfl | exact .inr rfl | assumption) : wpAny M A (storeName X.env x u) Q E s := by
  obtain ⟨m, hn, hl⟩ := id I.loc
  have hcls : (X.env.scope.kind == .class || (X.env.scope.kind == .module && X.env.locals != X.env.globals)) = false := by rw [I.ok.kind]; rfl
  have hiσ : i < σ.length := by rw [I.len]; exact (List.getElem?_eq_some_iff.mp hi).1
  have cne := I.cne
  have tracked : ∀ {a : Addr} {h' : Heap}, (∃ o, s.heap.get? a = some o ∧ H a = none) → Heap.SameBut a s.heap h' → HOk X.prog X.w H h' := fun {a h'} ha hs b ob e => by
    obtain ⟨_, _, hfree⟩ := ha
    refine (I.hok b ob e).stay (fun c w' hc q => (hs.2 c ?_).trans q) (fun _ q => q) fun _ _ q => q
    rintro rfl
    rcases hc with rfl | hc
    · rw [hfree] at e; cases e
    · rw [hfree] at hc; cases hc
  rcases hx with hk | hk
  · refine wpAny_storeName_local hk hn (fun h' hn' hs => ?_) hcls
    obtain ⟨oL, _, _, hoL, _⟩ := id hn
    refine h _ ⟨I.ok, I.os, I.bare, ⟨fun b o e n hb hx => ?_, fun b o e n hb hx => ?_, I.base.free, fun b o e hx => ?_, I.base.tups, I.base.frzs, I.base.tbls⟩, ⟨_, hn', fun j y v' e1 e2 e3 => ?_⟩, fun y c e => ?_, I.free, I.freeC, fun p hp => ?_, tracked ⟨oL, hoL, I.free⟩ hs, by simpa using I.len⟩ ⟨_, hs, .inl rfl⟩
    · exact (hs.2 b (Nat.ne_of_lt (Nat.lt_of_lt_of_le (Heap.lt_size e) I.ok.above))).trans (I.base.keep b o e n hb hx)
    · obtain ⟨sl, e1⟩ := I.base.slot b o e n hb hx
      exact ⟨sl, (hs.2 b (Nat.ne_of_lt (Nat.lt_of_lt_of_le (Heap.lt_size e) I.ok.above))).trans e1⟩
    · obtain ⟨o', e1⟩ := I.base.there b o e hx
      exact ⟨o', (hs.2 b (Nat.ne_of_lt (Nat.lt_of_lt_of_le (Heap.lt_size e) I.ok.above))).trans e1⟩
    · by_cases hj : j = i
      · subst hj
        rw [hi] at e1; cases e1
        rw [List.getElem?_set_self hiσ] at e2
        cases e2
        exact ⟨u, r, .inl ⟨hk, by simp⟩⟩
      · rw [List.getElem?_set_ne (Ne.symm hj)] at e2
        obtain ⟨u', r', q⟩ := hl j y v' e1 e2 e3
        refine ⟨u', r', ?_⟩
        rcases q with ⟨k, e⟩ | ⟨k, c, e, z⟩
        · refine .inl ⟨k, ?_⟩
          have : y ≠ x := fun e => hj (nodup_ix hN e1 (e ▸ hi))
          simp [this, e]
        · exact .inr ⟨k, c, e, z.sameBut hs (cne y c e)⟩
    · obtain ⟨w', z⟩ := I.cell y c e
      exact ⟨w', z.sameBut hs (cne y c e)⟩
    · obtain ⟨e, n, ne, nf, d⟩ := I.pin p hp
      exact ⟨(hs.2 p.1 ne).trans e, n, ne, nf, d⟩
  · have hfn : X.fn x = true := by
      rcases hf with z | z
      · exact z
      · rw [z] at hk; cases hk
    obtain ⟨c, hc⟩ := I.ok.has x (.inl hk)
    obtain ⟨w', z⟩ := I.cell x c hc
    refine wpAny_storeName_cell I.ok.kind hk hc z (fun h' hc' hs => ?_)
    obtain ⟨oc, hoc, hocd⟩ := id z
    refine h { s with heap := h' } ⟨I.ok, I.os, I.bare, ⟨fun b o e n hb hx => ?_, fun b o e n hb hx => ?_, I.base.free, fun b o e hx => ?_, I.base.tups, I.base.frzs, I.base.tbls⟩, ⟨m, hn.sameBut hs (Ne.symm (cne x c hc)), fun j y v' e1 e2 e3 => ?_⟩, fun y c' e => ?_, I.free, I.freeC, fun p hp => ?_, tracked ⟨oc, hoc, I.freeC x c hc⟩ hs, by simpa using I.len⟩ ⟨c, hs, .inr hc⟩
    · exact (hs.2 b (Nat.ne_of_lt (Nat.lt_of_lt_of_le (Heap.lt_size e) (I.ok.cab x c hfn hc)))).trans (I.base.keep b o e n hb hx)
    · obtain ⟨sl, e1⟩ := I.base.slot b o e n hb hx
      exact ⟨sl, (hs.2 b (Nat.ne_of_lt (Nat.lt_of_lt_of_le (Heap.lt_size e) (I.ok.cab x c hfn hc)))).trans e1⟩
    · obtain ⟨o', e1⟩ := I.base.there b o e hx
      exact ⟨o', (hs.2 b (Nat.ne_of_lt (Nat.lt_of_lt_of_le (Heap.lt_size e) (I.ok.cab x c hfn hc)))).trans e1⟩
    · by_cases hj : j = i
      · subst hj
        rw [hi] at e1; cases e1
        rw [List.getElem?_set_self hiσ] at e2
        cases e2
        exact ⟨u, r, .inr ⟨.inl hk, c, hc, hc'⟩⟩
      · rw [List.getElem?_set_ne (Ne.symm hj)] at e2
        obtain ⟨u', r', q⟩ := hl j y v' e1 e2 e3
        refine ⟨u', r', ?_⟩
        rcases q with q | ⟨k, c', e, z'⟩
        · exact .inl q
        · refine .inr ⟨k, c', e, z'.sameBut hs ?_⟩
          rintro rfl
          exact hj (nodup_ix hN e1 (I.ok.inj _ _ _ e hc ▸ hi))
    · by_cases hcc : c' = c
      · subst hcc; exact ⟨_, hc'⟩
      · obtain ⟨w2, z2⟩ := I.cell y c' e
        exact ⟨w2, z2.sameBut hs hcc⟩
    · obtain ⟨e, n, ne, nf, d⟩ := I.pin p hp
      refine ⟨(hs.2 p.1 ?_).trans e, n, ne, nf, d⟩
      intro q
      rw [q, hoc] at e
      have q' : oc = p.2 := Option.some.inj e
      exact d w' (by rw [← q']; exact hocd)
theorem store_ok {M : Model} {A : Around} {E : Value → Shared → Prop} {i : Nat} {x : Str} {v : V} {u : Value} {Q : Unit → Shared → Prop} (I : Inv X pins σ H s) (hN : X.N.Nodup) (hi : X.N[i]? = some x) (hx : Loc X.env.scope x) (r : RelV v u)
    (h : ∀ s', Inv X pins (σ.set i (some v)) H s' → Q () s') (hf : X.fn x = true ∨ X.env.scope.names.lookup x = some .local := by first | exact .inl rfl | exact .inr rfl | assumption) : wpAny M A (storeName X.env x u) Q E s :=
  store_ok2 I hN hi hx r (fun s' I' _ => h s' I') hf
theorem Inv.call' {s' : Shared} {ch : List Addr} (I : Inv X pins σ H s) (ho : s'.os = s.os) (u : Un (frs X.stack) ch H H' s.heap s'.heap) (hok : HOk X.prog X.w H' s'.heap) (hg : AllBare s'.gens)
    (hch : ∀ b ∈ ch, (b ∈ X.ex ∨ X.s₀.heap.objs.size ≤ b) ∧ b ≠ X.env.locals ∧ (∀ x c, X.env.cells.lookup x = some c → c ≠ b) ∧ ∀ p ∈ X.pn ++ pins, p.1 ≠ b) : Inv X pins σ H' s' := by
  obtain ⟨h', g', d', t', o'⟩ := s'
  have e : o' = s.os := ho
  subst e
  exact I.call (g' := g') (t' := t') (d' := d') u hok hg hch
end
noncomputable abbrev XK := Value → Option Addr → Hp → Prop
noncomputable abbrev St := List (Option V)
noncomputable abbrev VK := V → Hp → Prop
noncomputable abbrev TE := St → Hp → VK → Prop
noncomputable abbrev TT := St → Hp → (Bool → Hp → Prop) → Prop
noncomputable abbrev TA := St → Hp → (List V → Hp → Prop) → Prop
structure Ends where
  nx : St → Hp → Prop
  rt : VK
  bk : St → Hp → Prop := fun _ _ => False
  ct : St → Hp → Prop := fun _ _ => False
noncomputable abbrev TS := Ends → St → Hp → Prop
noncomputable def EP (X : Cx) (pins : List (Addr × Obj)) (σ : St) (Q : VK) (u : Value) (s' : Shared) : Prop := ∃ v H', Inv X pins σ H' s' ∧ RelV v u ∧ Q v H'
noncomputable def TP (X : Cx) (pins : List (Addr × Obj)) (σ : St) (Q : Bool → Hp → Prop) (b : Bool) (s' : Shared) : Prop := ∃ H', Inv X pins σ H' s' ∧ Q b H'
noncomputable def AP (X : Cx) (pins : List (Addr × Obj)) (σ : St) (Q : List V → Hp → Prop) (us : List Value) (s' : Shared) : Prop := ∃ vs H', Inv X pins σ H' s' ∧ Vals vs us ∧ Q vs H'
noncomputable def SP (X : Cx) (pins : List (Addr × Obj)) (D : Ends) (f : Flow) (s' : Shared) : Prop :=
  match f with
  | .next => ∃ σ' H', Inv X pins σ' H' s' ∧ D.nx σ' H'
  | .brk => ∃ σ' H', Inv X pins σ' H' s' ∧ D.bk σ' H'
  | .cont => ∃ σ' H', Inv X pins σ' H' s' ∧ D.ct σ' H'
  | .ret u => ∃ v σ' H', Inv X pins σ' H' s' ∧ RelV v u ∧ D.rt v H'
noncomputable def PE (X : Cx) (e : Expr) (t : TE) : Prop :=
  ∀ (pins : List (Addr × Obj)) (s : Shared) (σ : St) (H : Hp) (Q : VK), Inv X pins σ H s → t σ H Q → wpAny (model X.prog X.w) X.A (eval e X.env) (EP X pins σ Q) X.xe s
noncomputable def PT (X : Cx) (e : Expr) (t : TT) : Prop :=
  ∀ (pins : List (Addr × Obj)) (s : Shared) (σ : St) (H : Hp) (Q : Bool → Hp → Prop), Inv X pins σ H s → t σ H Q → wpAny (model X.prog X.w) X.A (isTrue e X.env (eval e X.env)) (TP X pins σ Q) X.xe s
noncomputable def PW (X : Cx) (e : Expr) (t : TT) : Prop :=
  ∀ (whole : Sem Value) (pins : List (Addr × Obj)) (s : Shared) (σ : St) (H : Hp) (Q : Bool → Hp → Prop), Inv X pins σ H s → t σ H Q → wpAny (model X.prog X.w) X.A (isTrue e X.env whole) (TP X pins σ Q) X.xe s
theorem PW.pt {X : Cx} {e : Expr} {t : TT} (h : PW X e t) : PT X e t := h _
noncomputable def PA (X : Cx) (es : List Expr) (t : TA) : Prop :=
  ∀ (pos : Pos) (pins : List (Addr × Obj)) (s : Shared) (σ : St) (H : Hp) (Q : List V → Hp → Prop), Inv X pins σ H s → t σ H Q → wpAny (model X.prog X.w) X.A (spliced (backTo pos (starEach es X.env))) (AP X pins σ Q) X.xe s
noncomputable def PS (X : Cx) (st : Stmt) (t : TS) : Prop :=
  ∀ (pins : List (Addr × Obj)) (s : Shared) (σ : St) (H : Hp) (D : Ends), Inv X pins σ H s → t D σ H → wpAny (model X.prog X.w) X.A (exec st X.env) (SP X pins D) X.xe s
noncomputable def PSs (X : Cx) (st : List Stmt) (t : TS) : Prop :=
  ∀ (pins : List (Addr × Obj)) (s : Shared) (σ : St) (H : Hp) (D : Ends), Inv X pins σ H s → t D σ H → wpAny (model X.prog X.w) X.A (execs st X.env) (SP X pins D) X.xe s
theorem thn {α : Type} {t : Sem α} {Q Q' : α → Shared → Prop} {M : Model} {A : Around} {E : Value → Shared → Prop} {s : Shared} (h : wpAny M A t Q E s) (hQ : ∀ a s, Q a s → Q' a s) : wpAny M A t Q' E s := wpAny_mono h hQ fun _ _ x => x
end L2
namespace L2
open PySem PySem.Spec PyProof.Rows
section
variable {X : Cx}
noncomputable def tVar (i : Nat) : TE := fun σ H Q => ∃ v, σ[i]? = some (some v) ∧ Q v H
noncomputable def tC (v : V) : TE := fun _ H Q => Q v H
theorem pe_var {i : Nat} {x : Str} {pos : Pos} (hN : X.N[i]? = some x) (hv : Vis X.env.scope x) (hd : (x == ("__debug__" : Str)) = false := by decide) (hcd : (x == ("__classdict__" : Str)) = false := by decide) : PE X (.Name x pos) (tVar i) := by
  intro pins s σ H Q I h
  obtain ⟨v, e, h⟩ := h
  obtain ⟨m, hn, hl⟩ := I.loc
  obtain ⟨u, r, l⟩ := hl i x v hN e hv
  have fin : EP X pins σ Q u s := ⟨v, H, I, r, h⟩
  rcases l with ⟨hk, hm⟩ | ⟨hk, c, hc, hcell⟩
  · exact wpAny_Name (wpAny_loadName_local I.ok.kind hk hn hm fin) hd
  · rcases hk with hk | hk
    · exact wpAny_Name (wpAny_loadName_cell I.ok.kind hk hc hcell fin) hd
    · exact wpAny_Name (wpAny_loadName_free I.ok.kind hk hc hcell fin hcd) hd
theorem pe_int {i j pos} : PE X (.Constant (.int i) j pos) (tC (.int i)) := fun _ _ _ H _ I h => wpAny_Constant_int ⟨.int i, H, I.tok _, ⟨_, rfl⟩, h⟩
theorem pe_bl {b j pos} : PE X (.Constant (.bool b) j pos) (tC (.bl b)) := fun _ _ _ H _ I h => Constant_bool ⟨.bl b, H, I, rfl, h⟩
theorem pe_non {j pos} : PE X (.Constant .none j pos) (tC .non) := fun _ _ _ H _ I h => Constant_none ⟨.non, H, I, rfl, h⟩
theorem pe_str {x j pos} : PE X (.Constant (.str x) j pos) (tC (.str x)) := fun _ _ _ H _ I h => Calls.Constant_str ⟨.str x, H, I.tok _, ⟨_, rfl⟩, h⟩
noncomputable def Gl (X : Cx) (x : Str) : Prop := X.env.kindOf x = some .globalImplicit
theorem ld_glob {E : Value → Shared → Prop} {pins : List (Addr × Obj)} {s : Shared} {σ : St} {H : Hp} {x : Str} {u : Value} {pos : Pos} {Q : Value → Shared → Prop} (I : Inv X pins σ H s) (hg : Gl X x) (hm : X.mg x = some u) (h : Q u s)
    (hd : (x == ("__debug__" : Str)) = false := by decide) : wpAny (model X.prog X.w) X.A (eval (.Name x pos) X.env) Q E s :=
  Calls.Name_function_global I.ok.kind hg (Calls.loadGlobal_global (by rw [I.ok.glob]; exact I.mod.glob.keeps I.bk) hm h) hd
theorem ld_blt {E : Value → Shared → Prop} {pins : List (Addr × Obj)} {s : Shared} {σ : St} {H : Hp} {x : Str} {u : Value} {pos : Pos} {Q : Value → Shared → Prop} (I : Inv X pins σ H s) (hg : Gl X x) (hm : X.mg x = none) (hv : bootBuiltins x = some u) (h : Q u s)
    (hn : x ≠ "__name__" := by decide) (hd : (x == ("__debug__" : Str)) = false := by decide) : wpAny (model X.prog X.w) X.A (eval (.Name x pos) X.env) Q E s := by
  obtain ⟨mb, h1, h2⟩ := I.mod.blt
  exact Calls.Name_function_global I.ok.kind hg (Calls.loadGlobal_builtin (by rw [I.ok.glob]; exact I.mod.glob.keeps I.bk) hm (by rw [I.ok.blt]; exact h1.keeps I.bk) ((h2 x hn).trans hv) h) hd
theorem pe_glob {x : Str} {v : V} {u : Value} {pos : Pos} (hg : Gl X x) (hm : X.mg x = some u) (r : RelV v u) (hd : (x == ("__debug__" : Str)) = false := by decide) : PE X (.Name x pos) (tC v) :=
  fun _ _ _ H _ I h => ld_glob I hg hm ⟨v, H, I, r, h⟩ hd
theorem pe_bltn {x : Str} {v : V} {u : Value} {pos : Pos} (hg : Gl X x) (hm : X.mg x = none) (hv : bootBuiltins x = some u) (r : RelV v u) (hn : x ≠ "__name__" := by decide) (hd : (x == ("__debug__" : Str)) = false := by decide) : PE X (.Name x pos) (tC v) :=
  fun _ _ _ H _ I h => ld_blt I hg hm hv ⟨v, H, I, r, h⟩ hn hd
noncomputable def t2I (ta tb : TE) (k : Int → Int → Hp → Prop) : St → Hp → Prop := fun σ H => ta σ H fun x H1 => tb σ H1 fun y H2 => ∃ i j, x = .int i ∧ y = .int j ∧ k i j H2
noncomputable def tAdd (ta tb : TE) : TE := fun σ H Q => t2I ta tb (fun i j H2 => Q (.int (i + j)) H2) σ H
noncomputable def tSub (ta tb : TE) : TE := fun σ H Q => t2I ta tb (fun i j H2 => Q (.int (i - j)) H2) σ H
noncomputable def tMul (ta tb : TE) : TE := fun σ H Q => t2I ta tb (fun i j H2 => (-(2 ^ 64) < i ∧ i < 2 ^ 64) ∧ Q (.int (i * j)) H2) σ H
variable {a b : Expr} {ta tb : TE} {pos : Pos}
noncomputable def PC (X : Cx) (op : CmpOp) (a b : Expr) (t : TE) : Prop :=
  ∀ (pins : List (Addr × Obj)) (s : Shared) (σ : St) (H : Hp) (Q : VK), Inv X pins σ H s → t σ H Q →
    wpAny (model X.prog X.w) X.A (eval a X.env) (fun v s₁ => wpAny (model X.prog X.w) X.A (eval b X.env) (fun u s₂ => wpAny (model X.prog X.w) X.A (compareOp op v u) (EP X pins σ Q) X.xe s₂) X.xe s₁) X.xe s
noncomputable def tCmp (p : Int → Int → Bool) (ta tb : TE) : TE := fun σ H Q => t2I ta tb (fun i j H2 => Q (.bl (p i j)) H2) σ H
noncomputable abbrev tLt : TE → TE → TE := tCmp fun i j => decide (i < j)
noncomputable abbrev tLe : TE → TE → TE := tCmp fun i j => decide (i ≤ j)
noncomputable abbrev tGt : TE → TE → TE := tCmp fun i j => decide (j < i)
noncomputable abbrev tGe : TE → TE → TE := tCmp fun i j => decide (j ≤ i)
noncomputable abbrev tEqI : TE → TE → TE := tCmp fun i j => decide (i = j)
noncomputable abbrev tNeI : TE → TE → TE := tCmp fun i j => !decide (i = j)
noncomputable def tIsN (ta : TE) : TE := fun σ H Q => ta σ H fun x H1 => Q (.bl (decide (x = .non))) H1
noncomputable def tNotN (ta : TE) : TE := fun σ H Q => ta σ H fun x H1 => Q (.bl (!decide (x = .non))) H1
noncomputable def tB (t : TE) : TT := fun σ H Q => t σ H fun x H1 => ∃ c, x = .bl c ∧ Q c H1
theorem pt_val {e : Expr} {t : TE} (h : PE X e t) (he : ∀ whole, isTrue e X.env whole = (do let v ← whole; standAt e.pos; holding [v] (truthy v)) := by intro _; rfl) : PT X e (tB t) := by
  intro pins s σ H Q I hw
  refine isTrue_plain (thn (h pins s σ H _ I hw) fun v s1 zz => ?_) (he _)
  obtain ⟨x, H1, I1, r1, q1⟩ := zz
  obtain ⟨d, rfl, q⟩ := q1
  cases r1
  exact wpAny_truthy_bool ⟨H1, I1, q⟩
variable {tA tB' : TT} {rest : List Expr}
noncomputable def tAnd (t u : TT) : TT := fun σ H Q => t σ H fun c H1 => if c = true then u σ H1 Q else Q false H1
noncomputable def tOr (t u : TT) : TT := fun σ H Q => t σ H fun c H1 => if c = true then Q true H1 else u σ H1 Q
noncomputable def tNot (t : TT) : TT := fun σ H Q => t σ H fun c H1 => Q (!c) H1
theorem pw_and1 (ha : PT X a tA) : PW X (.BoolOp .And [a] pos) tA := by
  intro wh pins s σ H Q I h
  refine isTrue_and (thn (ha pins s σ H Q I h) fun c s1 e => ?_)
  cases c with
  | true => exact isTrue_and_nil e
  | false => exact e
theorem pw_or1 (ha : PT X a tA) : PW X (.BoolOp .Or [a] pos) tA := by
  intro wh pins s σ H Q I h
  refine isTrue_or (thn (ha pins s σ H Q I h) fun c s1 e => ?_)
  cases c with
  | false => exact isTrue_or_nil e
  | true => exact e
theorem pw_and (ha : PT X a tA) (hb : PW X (.BoolOp .And (b :: rest) pos) tB') : PW X (.BoolOp .And (a :: b :: rest) pos) (tAnd tA tB') := by
  intro wh pins s σ H Q I h
  refine isTrue_and (thn (ha pins s σ H _ I h) fun c s1 zz => ?_)
  obtain ⟨H1, I1, q1⟩ := zz
  cases c with
  | true => exact hb wh pins s1 σ H1 Q I1 q1
  | false => exact ⟨H1, I1, q1⟩
theorem pw_or (ha : PT X a tA) (hb : PW X (.BoolOp .Or (b :: rest) pos) tB') : PW X (.BoolOp .Or (a :: b :: rest) pos) (tOr tA tB') := by
  intro wh pins s σ H Q I h
  refine isTrue_or (thn (ha pins s σ H _ I h) fun c s1 zz => ?_)
  obtain ⟨H1, I1, q1⟩ := zz
  cases c with
  | true => exact ⟨H1, I1, q1⟩
  | false => exact hb wh pins s1 σ H1 Q I1 q1
theorem pt_not (ha : PT X a tA) : PT X (.UnaryOp .Not a pos) (tNot tA) := by
  intro pins s σ H Q I h
  exact isTrue_not (ha pins s σ H (fun c H1 => Q (!c) H1) I h)
noncomputable def tAndV (ta tb : TE) : TE := fun σ H Q => ta σ H fun x H1 => ∃ c, x = .bl c ∧ if c = true then tb σ H1 Q else Q (.bl false) H1
noncomputable def tOrV (ta tb : TE) : TE := fun σ H Q => ta σ H fun x H1 => ∃ c, x = .bl c ∧ if c = true then Q (.bl true) H1 else tb σ H1 Q
noncomputable def tNotV (ta : TE) : TE := fun σ H Q => ta σ H fun x H1 => ∃ c, x = .bl c ∧ Q (.bl (!c)) H1
theorem pe_one {op} {t : TE} (h : PE X a t) : PE X (.BoolOp op [a] pos) t := fun pins s σ H Q I hw => BoolOp_one (h pins s σ H Q I hw)
theorem pe_and (ha : PE X a ta) (hb : PE X (.BoolOp .And (b :: rest) pos) tb) : PE X (.BoolOp .And (a :: b :: rest) pos) (tAndV ta tb) := by
  intro pins s σ H Q I h
  refine BoolOp_and (thn (ha pins s σ H _ I h) fun v s1 zz => ?_)
  obtain ⟨x, H1, I1, r1, q1⟩ := zz
  obtain ⟨c, rfl, q1⟩ := q1
  cases r1
  refine wpAny_truthy_bool ?_
  cases c with
  | true => exact hb pins s1 σ H1 Q I1 q1
  | false => exact ⟨.bl false, H1, I1, rfl, q1⟩
noncomputable def tIf (t : TT) (ta tb : TE) : TE := fun σ H Q => t σ H fun c H1 => if c = true then ta σ H1 Q else tb σ H1 Q
theorem pe_ifExp {c : Expr} (hc : PT X c tA) (ha : PE X a ta) (hb : PE X b tb) : PE X (.IfExp c a b pos) (tIf tA ta tb) := by
  intro pins s σ H Q I h
  refine wpAny_IfExp (thn (hc pins s σ H _ I h) fun d s1 zz => ?_)
  obtain ⟨H1, I1, q1⟩ := zz
  cases d with
  | true => exact ha pins s1 σ H1 Q I1 q1
  | false => exact hb pins s1 σ H1 Q I1 q1
end
end L2
namespace L2
open PySem PySem.Spec PyProof.Rows
noncomputable def SqL (K : PySem.W.Frag) (H : Hp) (a : Addr) (xs : List V) : Prop :=
  Rd H a (.lst xs) ∨
    ∃ (o : Obj) (its : Array Value) (n : Nat), K.lookup a = some o ∧ o.cls = .type "list" ∧ o.dict = none ∧ o.data = .seq its n ∧ its.size ≤ sizeLine ∧ Vals xs its.toList
noncomputable def SqT (K : PySem.W.Frag) (H : Hp) (a : Addr) (xs : List V) : Prop :=
  Rd H a (.tup xs) ∨
    ∃ (o : Obj) (its : Array Value) (n : Nat), K.lookup a = some o ∧ o.cls = .type "tuple" ∧ o.data = .seq its n ∧ its.size ≤ sizeLine ∧ Vals xs its.toList
noncomputable def absV : Value → Option V
  | .none => some .non
  | .bool b => some (.bl b)
  | .int i _ => some (.int i)
  | .str x _ => some (.str x)
  | .bytes b _ => some (.byt b)
  | .float b _ => some (.flt b)
  | .ref a => some (.ref a)
  | .type n => some (.ty n)
  | _ => none
theorem RelV.abs {x : V} {u : Value} (r : RelV x u) : absV u = some x := by
  cases x with
  | non => cases r; rfl
  | bl _ => cases r; rfl
  | int _ => obtain ⟨t, rfl⟩ := r; rfl
  | str _ => obtain ⟨t, rfl⟩ := r; rfl
  | byt _ => obtain ⟨t, rfl⟩ := r; rfl
  | flt _ => obtain ⟨t, rfl⟩ := r; rfl
  | ref _ => cases r; rfl
  | ty _ => cases r; rfl
theorem RelV.inj {x y : V} {u : Value} (r : RelV x u) (q : RelV y u) : x = y := Option.some.inj (r.abs.symm.trans q.abs)
theorem Vals.inj {xs ys : List V} {us : List Value} (h : Vals xs us) (g : Vals ys us) : xs = ys := by
  induction h generalizing ys with
  | nil => cases g; rfl
  | cons r t ih =>
    cases g with
    | cons r' t' => rw [r.inj r', ih t']
section
variable {X : Cx} {pins : List (Addr × Obj)} {σ : St} {H : Hp} {s : Shared} {a : Addr} {xs ys : List V}
theorem SqL.of {K : PySem.W.Frag} (h : H a = some (.lst xs)) : SqL K H a xs := .inl (.inl h)
theorem SqT.of {K : PySem.W.Frag} (h : H a = some (.tup xs)) : SqT K H a xs := .inl (.inl h)
theorem Inv.list (I : Inv X pins σ H s) (h : SqL X.K H a xs) : ∃ its : List Value, Vals xs its ∧ PlainL s.heap a its.toArray ∧ xs.length ≤ sizeLine := by
  rcases h with h | ⟨o, its, n, hk, hc, hd, hs, hz, r⟩
  · obtain ⟨z, its, n, r, e⟩ := h.ok I.hok
    exact ⟨its, r, ⟨_, n, e, rfl, rfl, rfl⟩, z⟩
  · refine ⟨its.toList, r, ⟨o, n, I.kIn a o hk, hc, hd, by simpa using hs⟩, ?_⟩
    have e := r.length
    simp only [Array.length_toList] at e
    omega
theorem Inv.tuple (I : Inv X pins σ H s) (h : SqT X.K H a xs) : ∃ its : List Value, Vals xs its ∧ IsTup s.heap a its.toArray ∧ xs.length ≤ sizeLine := by
  rcases h with h | ⟨o, its, n, hk, hc, hs, hz, r⟩
  · obtain ⟨z, its, r, p⟩ := h.ok I.hok
    exact ⟨its, r, p, z⟩
  · refine ⟨its.toList, r, ⟨o, I.kIn a o hk, hc, n, by simpa using hs⟩, ?_⟩
    have e := r.length
    simp only [Array.length_toList] at e
    omega
theorem Inv.list_inj (I : Inv X pins σ H s) (h : SqL X.K H a xs) (h' : SqL X.K H a ys) : xs = ys := by
  obtain ⟨its, r, ⟨o, n, e, _, _, d⟩, _⟩ := I.list h
  obtain ⟨its', r', ⟨o', n', e', _, _, d'⟩, _⟩ := I.list h'
  rw [e] at e'; cases e'
  rw [d] at d'
  injection d' with d1 _
  have : its = its' := by simpa using congrArg Array.toList d1
  subst this
  exact r.inj r'
end
noncomputable abbrev Cx.wish (X : Cx) (E : Value → Shared → Prop) : Cx := { X with xe := E }
noncomputable abbrev Cx.nox (X : Cx) : Cx := X.wish fun _ _ => False
theorem Cx.Ok.wish {X : Cx} (ok : X.Ok) (E : Value → Shared → Prop) : (X.wish E).Ok :=
  ⟨ok.mod, ok.kind, ok.glob, ok.blt, ok.above, ok.inj, ok.has, ok.cab, ok.hd, ok.frames, ok.stk, ok.exf, ok.bs, ok.bsz, ok.noex, ok.exfs, ok.funs, ok.frf⟩
theorem Cx.Ok.unwish {X : Cx} {E : Value → Shared → Prop} (ok : (X.wish E).Ok) : X.Ok :=
  ⟨ok.mod, ok.kind, ok.glob, ok.blt, ok.above, ok.inj, ok.has, ok.cab, ok.hd, ok.frames, ok.stk, ok.exf, ok.bs, ok.bsz, ok.noex, ok.exfs, ok.funs, ok.frf⟩
section
variable {X : Cx} {pins : List (Addr × Obj)} {σ : St} {H : Hp} {s : Shared} {E : Value → Shared → Prop}
theorem Inv.wish (I : Inv X pins σ H s) (E : Value → Shared → Prop) : Inv (X.wish E) pins σ H s := ⟨I.ok.wish E, I.os, I.bare, I.base, I.loc, I.cell, I.free, I.freeC, I.pin, I.hok, I.len⟩
theorem Inv.unwish (I : Inv (X.wish E) pins σ H s) : Inv X pins σ H s := ⟨I.ok.unwish, I.os, I.bare, I.base, I.loc, I.cell, I.free, I.freeC, I.pin, I.hok, I.len⟩
theorem SP.unwish {D : Ends} {f : Flow} {s' : Shared} (h : SP (X.wish E) pins D f s') : SP X pins D f s' := by
  cases f with
  | next => obtain ⟨σ', H', I, q⟩ := h; exact ⟨σ', H', I.unwish, q⟩
  | brk => obtain ⟨σ', H', I, q⟩ := h; exact ⟨σ', H', I.unwish, q⟩
  | cont => obtain ⟨σ', H', I, q⟩ := h; exact ⟨σ', H', I.unwish, q⟩
  | ret u => obtain ⟨v, σ', H', I, r, q⟩ := h; exact ⟨v, σ', H', I.unwish, r, q⟩
theorem PSs.nox {st : List Stmt} {t : TS} (h : PSs X.nox st t) : PSs X st t := fun pins s σ H D I hw =>
  wpAny_mono (h pins s σ H D (I.wish _) hw) (fun _ _ q => q.unwish) fun _ _ z => False.elim z
end
section
variable {X : Cx} {st : Stmt} {rest : List Stmt} {t u : TS} {e : Expr} {te : TE} {pos : Pos}
noncomputable def tNext : TS := fun D σ H => D.nx σ H
noncomputable def tSeq (t u : TS) : TS := fun D σ H => t { D with nx := u D } σ H
theorem pss_nil : PSs X [] tNext := fun _ _ σ H _ I h => wpAny_execs_nil ⟨σ, H, I, h⟩
theorem pss_cons (h1 : PS X st t) (h2 : PSs X rest u) : PSs X (st :: rest) (tSeq t u) := by
  intro pins s σ H D I h
  refine wpAny_execs_cons (thn (h1 pins s σ H { D with nx := u D } I h) fun f s1 q => ?_)
  cases f with
  | next =>
    obtain ⟨σ', H', I', q⟩ := q
    exact h2 pins s1 σ' H' D I' q
  | ret v => exact q
  | brk => exact q
  | cont => exact q
theorem pss_one (h1 : PS X st t) : PSs X [st] t := by
  intro pins s σ H D I h
  refine wpAny_execs_cons (thn (h1 pins s σ H D I h) fun f s1 q => ?_)
  cases f with
  | next => exact wpAny_execs_nil q
  | ret v => exact q
  | brk => exact q
  | cont => exact q
noncomputable def tBreak : TS := fun D σ H => D.bk σ H
noncomputable def tCont : TS := fun D σ H => D.ct σ H
theorem Inv.quiet {pins : List (Addr × Obj)} {σ : St} {H : Hp} {s : Shared} (I : Inv X pins σ H s) : interactive X.env = false := by simp [interactive, I.ok.kind]
noncomputable def tDrop (te : TE) : TS := fun D σ H => te σ H fun _ H1 => D.nx σ H1
theorem ps_expr (he : PE X e te) (hs : swapsWith e none pos.line X.env = pure false := by rfl) : PS X (.Expr e pos) (tDrop te) := by
  intro pins s σ H D I h
  exact wpAny_Expr_any (thn (he pins s σ H _ I h) fun v s1 zz => by obtain ⟨x, H1, I1, r1, q1⟩ := zz; exact ⟨σ, H1, I1, q1⟩) I.quiet hs
noncomputable def tRet (te : TE) : TS := fun D σ H => te σ H D.rt
theorem ps_ret (he : PE X e te) : PS X (.Return (some e) pos) (tRet te) := by
  intro pins s σ H D I h
  exact wpAny_Return_some (thn (he pins s σ H _ I h) fun v s1 zz => by obtain ⟨x, H1, I1, r1, q1⟩ := zz; exact ⟨x, σ, H1, I1, r1, q1⟩)
noncomputable def tRetN : TS := fun D _ H => D.rt .non H
noncomputable def tIfS (c : TT) (t u : TS) : TS := fun D σ H => c σ H fun b H1 => if b = true then t D σ H1 else u D σ H1
theorem ps_if {c : Expr} {a b : List Stmt} {tc : TT} (hc : PT X c tc) (ha : PSs X a t) (hb : PSs X b u) : PS X (.If c a b pos) (tIfS tc t u) := by
  intro pins s σ H D I h
  refine wpAny_If (thn (hc pins s σ H _ I h) fun d s1 zz => ?_)
  obtain ⟨H1, I1, q1⟩ := zz
  cases d with
  | true => exact ha pins s1 σ H1 D I1 q1
  | false => exact hb pins s1 σ H1 D I1 q1
noncomputable def tNever : TS := fun _ _ _ => False
end
noncomputable abbrev TG := V → St → Hp → (St → Hp → Prop) → Prop
noncomputable abbrev TGs := List V → St → Hp → (St → Hp → Prop) → Prop
noncomputable def PG (X : Cx) (target : Expr) (t : TG) : Prop :=
  ∀ (pins : List (Addr × Obj)) (s : Shared) (σ : St) (H : Hp) (v : V) (u : Value) (Q : St → Hp → Prop), Inv X pins σ H s → RelV v u → t v σ H Q →
    wpAny (model X.prog X.w) X.A (assign target X.env u) (fun _ s' => ∃ σ' H', Inv X pins σ' H' s' ∧ Q σ' H') X.xe s
noncomputable def PGs (X : Cx) (ts : List Expr) (t : TGs) : Prop :=
  ∀ (pins : List (Addr × Obj)) (s : Shared) (σ : St) (H : Hp) (vs : List V) (us : List Value) (Q : St → Hp → Prop), Inv X pins σ H s → Vals vs us → t vs σ H Q →
    wpAny (model X.prog X.w) X.A (assignInOrder ((assignEach ts X.env).map (·.2)) us) (fun _ s' => ∃ σ' H', Inv X pins σ' H' s' ∧ Q σ' H') X.xe s
noncomputable abbrev TSet := V → V → V → Hp → (Hp → Prop) → Prop
noncomputable def PSet (X : Cx) (t : TSet) : Prop :=
  ∀ (pins : List (Addr × Obj)) (s : Shared) (σ : St) (H : Hp) (o i v : V) (ov iv u : Value) (Q : Hp → Prop), Inv X pins σ H s → RelV o ov → RelV i iv → RelV v u → t o i v H Q →
    wpAny (model X.prog X.w) X.A (setItem ov iv u) (fun _ s' => ∃ H', Inv X pins σ H' s' ∧ Q H') X.xe s
noncomputable abbrev TIp := V → V → Hp → VK → Prop
noncomputable def PIp (X : Cx) (op : Operator) (t : TIp) : Prop :=
  ∀ (pins : List (Addr × Obj)) (s : Shared) (σ : St) (H : Hp) (x y : V) (v u : Value) (Q : VK), Inv X pins σ H s → RelV x v → RelV y u → t x y H Q →
    wpAny (model X.prog X.w) X.A (inplaceOp op v u) (EP X pins σ Q) X.xe s
section
variable {X : Cx} {pos : Pos}
noncomputable def gName (i : Nat) : TG := fun v σ H Q => Q (σ.set i (some v)) H
theorem pg_name {i : Nat} {x : Str} (hN : X.N.Nodup) (hi : X.N[i]? = some x) (hx : Loc X.env.scope x) (hf : X.fn x = true ∨ X.env.scope.names.lookup x = some .local := by first | exact .inl rfl | exact .inr rfl | assumption) : PG X (.Name x pos) (gName i) := by
  intro pins s σ H v u Q I r h
  exact wpAny_assign_Name (store_ok I hN hi hx r (fun s' I' => ⟨_, H, I', h⟩) hf)
noncomputable def gNil : TGs := fun vs σ H Q => vs = [] ∧ Q σ H
noncomputable def gCons (t : TG) (u : TGs) : TGs := fun vs σ H Q => ∃ v r, vs = v :: r ∧ t v σ H fun σ' H' => u r σ' H' Q
theorem pgs_nil : PGs X [] gNil := by
  intro pins s σ H vs us Q I r h
  obtain ⟨e, h⟩ := h
  subst e
  cases r
  exact assignInOrder_nil ⟨σ, H, I, h⟩
theorem pgs_cons {e : Expr} {es : List Expr} {t : TG} {u : TGs} (h1 : PG X e t) (h2 : PGs X es u)
    (hs : (assignEach (e :: es) X.env).map (·.2) = assign e X.env :: (assignEach es X.env).map (·.2) := by rfl) : PGs X (e :: es) (gCons t u) := by
  intro pins s σ H vs us Q I r h
  obtain ⟨v, vr, e1, h⟩ := h
  subst e1
  cases r with
  | cons r rr =>
    rw [hs]
    refine assignInOrder_cons (thn (h1 pins s σ H _ _ _ I r h) fun _ s1 zz => ?_)
    obtain ⟨σ1, H1, I1, q1⟩ := zz
    exact h2 pins s1 σ1 H1 _ _ Q I1 rr q1
noncomputable def gTup (K : PySem.W.Frag) (n : Nat) (t : TGs) : TG := fun v σ H Q => ∃ a xs, v = .ref a ∧ SqT K H a xs ∧ xs.length = n ∧ t xs σ H Q
theorem pg_tup {es : List Expr} {k : Nat} {t : TGs} {n : Nat} (hc : X.calm = true) (h : PGs X es t)
    (hn : (assignEach es X.env).length = n := by rfl) (hst : (assignEach es X.env).findIdx? (·.1) = none := by rfl) : PG X (.Tuple es k pos) (gTup X.K n t) := by
  intro pins s σ H v u Q I r hw
  obtain ⟨a, xs, e1, hq, hl, hw⟩ := hw
  subst e1
  cases r
  obtain ⟨its, rv, ht, hz⟩ := I.tuple hq
  refine assign_Tuple_tuple (I.ok.hd hc) ht (by simp [hn, ← hl, rv.length]) hst fun h' hx => ?_
  have I1 : Inv X pins σ H { s with heap := h' } := I.kept (t' := s.toks) fun b o e => hx b o (Nat.ne_of_lt (Heap.lt_size e)) e
  exact h pins _ σ H xs _ Q I1 (by simpa using rv) hw
noncomputable def gSub (to ti : TE) (t : TSet) : TG := fun v σ H Q => to σ H fun o H1 => ti σ H1 fun i H2 => t o i v H2 fun H3 => Q σ H3
theorem pg_sub {o i : Expr} {to ti : TE} {t : TSet} (ho : PE X o to) (hi : PE X i ti) (hs : PSet X t)
    (ha : ∀ v, assign (.Subscript o i pos) X.env v = (do
      let ov ← holding [v] (eval o X.env)
      let iv ← holding [v, ov] (eval i X.env)
      standAt pos
      holding [v, ov, iv] (setItem ov iv v)
      release [v, ov, iv] []) := by intro _; rfl) : PG X (.Subscript o i pos) (gSub to ti t) := by
  intro pins s σ H v u Q I r h
  rw [ha]
  refine wpAny_bind (wpAny_holding (thn (ho pins s σ H _ I h) fun ov s1 zz => ?_))
  obtain ⟨x, H1, I1, r1, q1⟩ := zz
  refine wpAny_bind (wpAny_holding (thn (hi pins s1 σ H1 _ I1 q1) fun iv s2 zz => ?_))
  obtain ⟨y, H2, I2, r2, q2⟩ := zz
  refine wpAny_bind (wpAny_standAt (wpAny_bind (wpAny_holding (thn (hs pins s2 σ H2 x y v ov iv u _ I2 r1 r2 r q2) fun _ s3 zz => ?_))))
  obtain ⟨H3, I3, q3⟩ := zz
  exact wpAny_release ⟨σ, H3, I3, q3⟩
noncomputable def tAsg (te : TE) (g : TG) : TS := fun D σ H => te σ H fun x H1 => g x σ H1 D.nx
theorem ps_asg {tg e : Expr} {te : TE} {g : TG} (he : PE X e te) (hg : PG X tg g) (hs : swapsWithSole [tg] e pos.line X.env = pure false := by rfl) (hw : swappedStores [tg] e X.env = pure none := by rfl)
    (h1 : (assignEach [tg] X.env).map (·.2) = [assign tg X.env] := by rfl) : PS X (.Assign [tg] e pos) (tAsg te g) := by
  intro pins s σ H D I h
  refine wpAny_Assign_stores (thn (he pins s σ H _ I h) fun v s1 zz => ?_) hs hw
  obtain ⟨x, H1, I1, r1, q1⟩ := zz
  rw [h1]
  exact thn (hg pins s1 σ H1 x v _ I1 r1 q1) fun _ s2 q => q
theorem ps_set {i : Nat} {x : Str} {e : Expr} {te : TE} {pos' : Pos} (hN : X.N.Nodup) (hi : X.N[i]? = some x) (hx : Loc X.env.scope x) (he : PE X e te) (hs : swapsWith e (some (.Name x pos')) pos.line X.env = pure false := by rfl) (hf : X.fn x = true ∨ X.env.scope.names.lookup x = some .local := by first | exact .inl rfl | exact .inr rfl | assumption) :
    PS X (.Assign [.Name x pos'] e pos) (tAsg te (gName i)) := by
  intro pins s σ H D I h
  refine wpAny_Assign_Name (thn (he pins s σ H _ I h) fun v s1 zz => ?_) hs
  obtain ⟨y, H1, I1, r1, q1⟩ := zz
  exact store_ok I1 hN hi hx r1 (fun s2 I2 => ⟨_, H1, I2, q1⟩) hf
noncomputable def tPar (i j : Nat) (ta : TA) : TS := fun D σ H => ta σ H fun vs H1 => ∃ v w, vs = [v, w] ∧ D.nx ((σ.set i (some v)).set j (some w)) H1
noncomputable def tAug (i : Nat) (te : TE) (ti : TIp) : TS := fun D σ H => ∃ x, σ[i]? = some (some x) ∧ te σ H fun y H1 => ti x y H1 fun z H2 => D.nx (σ.set i (some z)) H2
noncomputable def tAugS (to ti te : TE) (tget : V → V → Hp → VK → Prop) (tip : TIp) (tset : TSet) : TS := fun D σ H => to σ H fun o H1 => ti σ H1 fun i H2 => tget o i H2 fun x H3 => te σ H3 fun y H4 => tip x y H4 fun z H5 => tset o i z H5 fun H6 => D.nx σ H6
noncomputable def PGet (X : Cx) (t : V → V → Hp → VK → Prop) : Prop :=
  ∀ (pins : List (Addr × Obj)) (s : Shared) (σ : St) (H : Hp) (o i : V) (ov iv : Value) (Q : VK), Inv X pins σ H s → RelV o ov → RelV i iv → t o i H Q →
    wpAny (model X.prog X.w) X.A (getItem ov iv) (EP X pins σ Q) X.xe s
noncomputable def ipI (f : Int → Int → Int) : TIp := fun x y H Q => ∃ i j, x = .int i ∧ y = .int j ∧ Q (.int (f i j)) H
end
section
variable {X : Cx} {pos : Pos}
noncomputable def tWhile (c : TT) (tb : TS) : TS := fun D σ H => ∃ W : Nat → St → Hp → Prop, (∃ m, W m σ H) ∧ ∀ m σ H, W m σ H →
  c σ H fun b H1 => if b = true then ∃ N : St → Hp → Prop, (∀ σ' H', N σ' H' → ∃ m', m' < m ∧ W m' σ' H') ∧ tb { D with nx := N, ct := N, bk := D.nx } σ H1 else D.nx σ H1
end
structure It where
  go : Nat → Hp → Prop
  yld : Nat → Hp → V → Hp → Prop
  stop : Nat → Hp → Prop
noncomputable def FpOk (X : Cx) (pins : List (Addr × Obj)) (H : Hp) (b : Addr) : Prop :=
  H b = none ∧ b ≠ X.env.locals ∧ b ∉ X.fs ∧ (b ∈ X.ex ∨ X.s₀.heap.objs.size ≤ b) ∧ (∀ x c, X.env.cells.lookup x = some c → c ≠ b) ∧ ∀ p ∈ X.pn ++ pins, p.1 ≠ b
theorem Inv.fpOk {X : Cx} {pins : List (Addr × Obj)} {σ : St} {H H' : Hp} {s : Shared} {b : Addr} (I : Inv X pins σ H s) (hb : s.heap.objs.size ≤ b) (hn : H' b = none) : FpOk X pins H' b := by
  refine ⟨hn, Nat.ne_of_gt (Nat.lt_of_lt_of_le I.lt hb), I.nofs hb, .inr (Nat.le_trans I.sz hb), fun x c e z => ?_, fun p hp z => ?_⟩
  · obtain ⟨v, q⟩ := I.cell x c e
    exact absurd (Nat.lt_of_lt_of_le q.lt (by rw [z]; exact hb)) (Nat.lt_irrefl _)
  · exact absurd (Nat.lt_of_lt_of_le (Heap.lt_size (I.pin p hp).1) (by rw [z]; exact hb)) (Nat.lt_irrefl _)
structure Turn (P : Program) (w : World) (K : PySem.W.Frag) (tg : Expr) (J : It) (fp : List Addr) (it : Addr) (tn : Nat → Heap → Prop) : Prop where
  mem : it ∈ fp
  obj : ∀ i h, tn i h → ∀ b ∈ fp, ∃ o, h.get? b = some o ∧ ∀ v, o.data ≠ .cell v
  keep : ∀ i h h', tn i h → (∀ b ∈ fp, ∀ o, h.get? b = some o → h'.get? b = some o) → tn i h'
  item : ∀ (X : Cx), X.prog = P → X.w = w → X.K = K → X.calm = true → ∀ (i : Nat) (pins : List (Addr × Obj)) (s : Shared) (σ : St) (H : Hp) (E : Value → Shared → Prop), Inv X pins σ H s → (∀ b ∈ fp, FpOk X pins H b) → tn i s.heap → J.go i H →
    wpAny (model P w) X.A (pyNext (.ref it)) (fun r s1 => ∃ u, r = some u ∧
      wpAny (model P w) X.A (letOwnedTupleGo tg (.ref it) u) (fun _ s2 => ∃ x H', Inv X pins σ H' s2 ∧ RelV x u ∧ J.yld i H x H' ∧ tn (i + 1) s2.heap ∧ ∀ b ∈ fp, H' b = none) E s1) E s
  done : ∀ (X : Cx), X.prog = P → X.w = w → X.K = K → X.calm = true → ∀ (i : Nat) (pins : List (Addr × Obj)) (s : Shared) (σ : St) (H : Hp) (E : Value → Shared → Prop), Inv X pins σ H s → (∀ b ∈ fp, FpOk X pins H b) → tn i s.heap → J.stop i H →
    wpAny (model P w) X.A (pyNext (.ref it)) (fun r s1 => r = none ∧ Inv X pins σ H s1) E s
  self : ∀ (A : Around) (i : Nat) (s : Shared) (Q : Value → Shared → Prop) (E : Value → Shared → Prop), tn i s.heap → Q (.ref it) s → wpAny (model P w) A (pyIter (.ref it)) Q E s
noncomputable abbrev TI := St → Hp → (It → Hp → Prop) → Prop
noncomputable def PIE (X : Cx) (pins : List (Addr × Obj)) (σ : St) (tg : Expr) (R : It → Hp → Prop) (itv : Value) (s2 : Shared) : Prop :=
  ∃ (it : Addr) (fp : List Addr) (tn : Nat → Heap → Prop) (J : It) (H' : Hp), itv = .ref it ∧ Inv X pins σ H' s2 ∧ Turn X.prog X.w X.K tg J fp it tn ∧ tn 0 s2.heap ∧ (∀ b ∈ fp, FpOk X pins H' b) ∧ R J H'
noncomputable def PI (X : Cx) (tg iter : Expr) (wi : TI) : Prop :=
  ∀ (pins : List (Addr × Obj)) (s : Shared) (σ : St) (H : Hp) (R : It → Hp → Prop), Inv X pins σ H s → wi σ H R →
    wpAny (model X.prog X.w) X.A (eval iter X.env) (fun v s1 => wpAny (model X.prog X.w) X.A (pyIter v) (PIE X pins σ tg R) X.xe s1) X.xe s
theorem go_of {M : Model} {A : Around} {E : Value → Shared → Prop} {s : Shared} {tg : Expr} {it : Addr} {u : Value} {o : Obj} {n : String} {vs : Array Value} {Q : Unit → Shared → Prop} (ho : s.heap.get? it = some o) (hc : o.cls = .type n) (hd : o.data = .fields vs)
    (hn : ["enumerate", "zip", "dict_itemiterator", "dict_reverseitemiterator", "odict_iterator", "itertools.zip_longest", "itertools.pairwise"].contains n = false) (hQ : Q () s) : wpAny M A (letOwnedTupleGo tg (.ref it) u) Q E s := by
  unfold letOwnedTupleGo
  cases tg <;> first
    | exact wpAny_pure hQ
    | (cases u <;> first
        | exact wpAny_pure hQ
        | (refine wpAny_bind (wpAny_load ho ?_)
           rw [hc, hd]
           show wpAny M A (if (["enumerate", "zip", "dict_itemiterator", "dict_reverseitemiterator", "odict_iterator", "itertools.zip_longest", "itertools.pairwise"].contains n && vs[0]? == some (rawInt _)) = true then _ else _) Q E s
           rw [if_neg (by intro h; rw [hn, Bool.false_and] at h; cases h)]
           exact wpAny_pure hQ))
noncomputable def Itl (K : PySem.W.Frag) (a : Addr) : It :=
  ⟨fun i H => ∃ xs x, SqL K H a xs ∧ xs[i]? = some x, fun i H x H' => H' = H ∧ ∀ xs, SqL K H a xs → xs[i]? = some x, fun i H => ∃ xs, SqL K H a xs ∧ xs.length ≤ i⟩
noncomputable def Itt (K : PySem.W.Frag) (a : Addr) : It :=
  ⟨fun i H => ∃ xs x, SqT K H a xs ∧ xs[i]? = some x, fun i H x H' => H' = H ∧ ∀ xs, SqT K H a xs → xs[i]? = some x, fun i H => ∃ xs, SqT K H a xs ∧ xs.length ≤ i⟩
noncomputable def Itr (lo : Int) (n : Nat) : It := ⟨fun i _ => i < n, fun i H x H' => H' = H ∧ x = .int (lo + i), fun i _ => n ≤ i⟩
theorem turn_list {P : Program} {w : World} {K : PySem.W.Frag} {tg : Expr} (a it : Addr) : Turn P w K tg (Itl K a) [it] it (fun i h => h.IsListIter it a i) where
  mem := by simp
  obj := fun i h st b hb => by
    have e : b = it := by simpa using hb
    subst e
    obtain ⟨o, e, c, d⟩ := st
    exact ⟨o, e, fun v z => by rw [d] at z; cases z⟩
  keep := fun i h h' st k => st.at fun o e => k it (by simp) o e
  item := by
    intro X hP hw hK hc i pins s σ H E I hf st hg
    subst hP hw hK
    obtain ⟨xs, x, hq, hx⟩ := hg
    obtain ⟨its, rv, p, hz⟩ := I.list hq
    obtain ⟨u, hu, ru⟩ := rv.get hx
    obtain ⟨f0, f1, f2, f3, f4, f5⟩ := hf it (by simp)
    refine wpAny_pyNext_list_item st p.isList (x := u) (by simpa using hu) fun h' st' sb => ?_
    have I1 : Inv X pins σ H { s with heap := h' } := I.turned (t' := s.toks) (fun b o hb e => (sb.2 b hb).trans e) f0 f1 f3 f4 f5
    obtain ⟨o, e, c, d⟩ := id st'
    exact ⟨u, rfl, go_of (s := { s with heap := h' }) e c d (by decide) ⟨x, H, I1, ru, ⟨rfl, fun ys hy => by rw [I.list_inj hy hq]; exact hx⟩, st', fun b hb => (hf b hb).1⟩⟩
  done := by
    intro X hP hw hK hc i pins s σ H E I hf st hg
    subst hP hw hK
    obtain ⟨xs, hq, hx⟩ := hg
    obtain ⟨its, rv, p, hz⟩ := I.list hq
    obtain ⟨f0, f1, f2, f3, f4, f5⟩ := hf it (by simp)
    have hl := rv.length
    exact wpAny_pyNext_list_end (I.ok.hd hc) st p.isList (by simp; omega) fun h' eb => ⟨rfl, I.turned (t' := s.toks) (fun b o hb e => eb b o hb e) f0 f1 f3 f4 f5⟩
  self := fun _ _ _ _ _ st h => wpAny_pyIter_listiter st h
theorem turn_range {P : Program} {w : World} {K : PySem.W.Frag} {tg : Expr} (it : Addr) (lo : Int) (n : Nat) : Turn P w K tg (Itr lo n) [it] it (fun i h => IsRangeIter h it (lo + (i : Nat) * 1) ((n : Int) - (i : Nat)) 1) where
  mem := by simp
  obj := fun i h st b hb => by
    have e : b = it := by simpa using hb
    subst e
    exact ⟨_, st, fun v z => by
      have z' : Data.fields _ = Data.cell v := z
      cases z'⟩
  keep := fun i h h' st k => k it (by simp) _ st
  item := by
    intro X hP hw hK hc i pins s σ H E I hf st hg
    subst hP hw hK
    obtain ⟨f0, f1, f2, f3, f4, f5⟩ := hf it (by simp)
    have W := Walks.range (prog := X.prog) (w := X.w) (I.ok.hd hc) it lo 1 n
    refine W.item i s _ _ hg st fun v h' tk hv st' kk => ?_
    obtain ⟨t, rfl⟩ := hv
    have I1 : Inv X pins σ H { s with heap := h', toks := tk } := I.turned (fun b o hb e => kk b o (by simpa using hb) e) f0 f1 f3 f4 f5
    refine ⟨_, rfl, go_of (s := { s with heap := h', toks := tk }) (n := "range_iterator") st' rfl rfl (by decide) ⟨.int (lo + i), H, I1, ⟨t, ?_⟩, ⟨rfl, rfl⟩, st', fun b hb => (hf b hb).1⟩⟩
    rw [Int.mul_one]
  done := by
    intro X hP hw hK hc i pins s σ H E I hf st hg
    subst hP hw hK
    obtain ⟨f0, f1, f2, f3, f4, f5⟩ := hf it (by simp)
    exact wpAny_pyNext_range_end (I.ok.hd hc) st (by have : n ≤ i := hg; omega) fun h' eb => ⟨rfl, I.turned (t' := s.toks) (fun b o hb e => eb b o hb e) f0 f1 f3 f4 f5⟩
  self := fun _ _ _ _ _ st h => wpAny_pyIter_rangeiter st h
end L2
namespace L2
open PySem PySem.Spec PyProof.Rows
section
variable {X : Cx} {tg : Expr}
noncomputable def iList (K : PySem.W.Frag) (tl : TE) : TI := fun σ H R => tl σ H fun x H1 => ∃ a, x = .ref a ∧ (∃ xs, SqL K H1 a xs) ∧ R (Itl K a) H1
noncomputable def iTup (K : PySem.W.Frag) (tl : TE) : TI := fun σ H R => tl σ H fun x H1 => ∃ a, x = .ref a ∧ (∃ xs, SqT K H1 a xs) ∧ R (Itt K a) H1
theorem pi_list {l : Expr} {tl : TE} (hl : PE X l tl) : PI X tg l (iList X.K tl) := by
  intro pins s σ H R I h
  refine thn (hl pins s σ H _ I h) fun v s1 zz => ?_
  obtain ⟨x, H1, I1, r1, q1⟩ := zz
  obtain ⟨a, e, ⟨xs, hq⟩, q⟩ := q1
  subst e
  cases r1
  obtain ⟨its, rv, p, hz⟩ := I1.list hq
  refine wpAny_pyIter_list p.isList ?_
  refine ⟨s1.heap.objs.size, [s1.heap.objs.size], _, _, H1, rfl, I1.kept (t' := s1.toks) fun b o e => Heap.get?_push_of_some _ e, turn_list a _, ⟨_, Heap.get?_push_size _ rfl, rfl, rfl⟩, fun b hb => ?_, q⟩
  have e : b = s1.heap.objs.size := by simpa using hb
  subst e
  exact I1.fpOk (Nat.le_refl _) (I1.hok.fresh (Nat.le_refl _))
theorem range_it {pins : List (Addr × Obj)} {σ : St} {H : Hp} {s : Shared} {R : It → Hp → Prop} {E : Value → Shared → Prop} {lo hi : Int} {t u v : Tok} {tk : Nat} (I : Inv X pins σ H s) (h1 : -(2 ^ 62) ≤ lo) (h2 : lo < 2 ^ 62) (h3 : -(2 ^ 62) ≤ hi) (h4 : hi < 2 ^ 62)
    (q : R (Itr lo (hi - lo).toNat) H) : wpAny (model X.prog X.w) X.A (pyIter (.ref s.heap.objs.size)) (PIE X pins σ tg R) E { s with heap := s.heap.push { cls := .type "range", data := .fields #[.int lo t, .int hi u, .int 1 v] }, toks := tk } := by
  refine wpAny_pyIter_range (IsRange.new ..) (small_one h1 h2 h3 h4) ?_
  have I1 : Inv X pins σ H { s with heap := s.heap.push { cls := .type "range", data := .fields #[.int lo t, .int hi u, .int 1 v] }, toks := tk } := I.kept fun b o e => Heap.get?_push_of_some _ e
  refine ⟨(s.heap.push { cls := .type "range", data := .fields #[.int lo t, .int hi u, .int 1 v] }).objs.size, [(s.heap.push { cls := .type "range", data := .fields #[.int lo t, .int hi u, .int 1 v] }).objs.size], _, _, H, rfl,
    I1.kept (t' := tk) fun b o e => Heap.get?_push_of_some _ e, turn_range _ lo (hi - lo).toNat, ?_, fun b hb => ?_, q⟩
  · have e1 : lo + ((0 : Nat) : Int) * 1 = lo := by simp
    have e2 : (((hi - lo).toNat : Nat) : Int) - ((0 : Nat) : Int) = Builtin.Range.rangeSize lo hi 1 := by rw [rangeSize_one]; split <;> omega
    show IsRangeIter _ _ (lo + ((0 : Nat) : Int) * 1) ((((hi - lo).toNat : Nat) : Int) - ((0 : Nat) : Int)) 1
    rw [e1, e2]
    exact Heap.get?_push_size _ rfl
  · have e : b = (s.heap.push { cls := .type "range", data := .fields #[.int lo t, .int hi u, .int 1 v] }).objs.size := by simpa using hb
    subst e
    exact I1.fpOk (Nat.le_refl _) (I1.hok.fresh (Nat.le_refl _))
noncomputable def iRng1 (ta : TA) : TI := fun σ H R => ta σ H fun vs H1 => ∃ j : Int, vs = [.int j] ∧ -(2 ^ 62) ≤ j ∧ j < 2 ^ 62 ∧ R (Itr 0 j.toNat) H1
noncomputable def iRng2 (ta : TA) : TI := fun σ H R => ta σ H fun vs H1 => ∃ i j : Int, vs = [.int i, .int j] ∧ (-(2 ^ 62) ≤ i ∧ i < 2 ^ 62 ∧ -(2 ^ 62) ≤ j ∧ j < 2 ^ 62) ∧ R (Itr i (j - i).toNat) H1
theorem pi_range1 {a : Expr} {ta : TA} {p pos : Pos} (hg : Gl X "range") (hm : X.mg "range" = none) (ha : PA X [a] ta) (hs : starEach [a] X.env = [(false, eval a X.env)] := by rfl) : PI X tg (.Call (.Name "range" p) [a] [] pos) (iRng1 ta) := by
  intro pins s σ H R I h
  refine Call_ (ld_blt I hg hm boot_range (PyProof.Rows.callWith_type1 (thn (ha pos pins s σ H _ I h) fun us s1 zz => ?_) hs rfl))
  obtain ⟨vs, H1, I1, r1, q1⟩ := zz
  obtain ⟨j, e, q1, q2, q⟩ := q1
  subst e
  cases r1 with
  | cons r rr =>
    cases rr
    obtain ⟨t, rfl⟩ := r
    exact call_range_1 (range_it I1 (by omega) (by omega) q1 q2 (by simpa using q))
theorem pi_range2 {a b : Expr} {ta : TA} {p pos : Pos} (hg : Gl X "range") (hm : X.mg "range" = none) (ha : PA X [a, b] ta) (hs : starEach [a, b] X.env = [(false, eval a X.env), (false, eval b X.env)] := by rfl) (hs2 : starEach [b] X.env = [(false, eval b X.env)] := by rfl) :
    PI X tg (.Call (.Name "range" p) [a, b] [] pos) (iRng2 ta) := by
  intro pins s σ H R I h
  refine Call_ (ld_blt I hg hm boot_range (PyProof.Rows.callWith_type1 (thn (ha pos pins s σ H _ I h) fun us s1 zz => ?_) (by rw [hs, hs2]) (by rw [hs2]; rfl)))
  obtain ⟨vs, H1, I1, r1, q1⟩ := zz
  obtain ⟨i, j, e, ⟨q1, q2, q3, q4⟩, q⟩ := q1
  subst e
  cases r1 with
  | cons r rr =>
    cases rr with
    | cons r' rr =>
      cases rr
      obtain ⟨t, rfl⟩ := r
      obtain ⟨t', rfl⟩ := r'
      exact call_range_2 (range_it I1 q1 q2 q3 q4 q)
noncomputable def tFor (wi : TI) (g : TG) (tb : TS) : TS := fun D σ H => wi σ H fun J H1 => ∃ W : Nat → Nat → St → Hp → Prop, (∃ m, W 0 m σ H1) ∧ ∀ i m σ H, W i m σ H →
  (J.stop i H ∧ D.nx σ H) ∨ (J.go i H ∧ ∃ N : St → Hp → Prop, (∀ σ' H', N σ' H' → ∃ m', m' < m ∧ W (i + 1) m' σ' H') ∧ ∀ x H', J.yld i H x H' → g x σ H' fun σ2 H2 => tb { D with nx := N, ct := N, bk := D.nx } σ2 H2)
noncomputable def pinsAt (fp : List Addr) (h : Heap) : List (Addr × Obj) := fp.filterMap fun b => (h.get? b).map fun o => (b, o)
theorem mem_pinsAt {fp : List Addr} {h : Heap} {b : Addr} {o : Obj} (hb : b ∈ fp) (e : h.get? b = some o) : (b, o) ∈ pinsAt fp h := List.mem_filterMap.mpr ⟨b, hb, by rw [e]; rfl⟩
theorem of_pinsAt {fp : List Addr} {h : Heap} {p : Addr × Obj} (hp : p ∈ pinsAt fp h) : p.1 ∈ fp ∧ h.get? p.1 = some p.2 := by
  obtain ⟨b, hb, e⟩ := List.mem_filterMap.mp hp
  cases q : h.get? b with
  | none => rw [q] at e; cases e
  | some o =>
    rw [q] at e
    have e' : (b, o) = p := Option.some.inj e
    subst e'
    exact ⟨hb, q⟩
theorem Inv.pinned {pins : List (Addr × Obj)} {σ : St} {H : Hp} {s : Shared} {fp : List Addr} (I : Inv X pins σ H s) (hf : ∀ b ∈ fp, FpOk X pins H b) (ho : ∀ b ∈ fp, ∃ o, s.heap.get? b = some o ∧ ∀ v, o.data ≠ .cell v) : Inv X (pins ++ pinsAt fp s.heap) σ H s :=
  I.pins_of fun p hp => (List.mem_append.mp hp).elim (fun z => I.pin p (List.mem_append_right _ z)) fun z => by
    obtain ⟨hb, e⟩ := of_pinsAt z
    obtain ⟨f0, f1, f2, _⟩ := hf p.1 hb
    obtain ⟨o, e', d⟩ := ho p.1 hb
    rw [e] at e'; cases e'
    exact ⟨e, f0, f1, f2, d⟩
theorem Inv.unpinned {pins pl : List (Addr × Obj)} {σ : St} {H : Hp} {s : Shared} (I : Inv X (pins ++ pl) σ H s) : Inv X pins σ H s := I.pins_of fun p hp => I.pin p (List.mem_append_right _ (List.mem_append_left _ hp))
theorem ps_for {iter : Expr} {body : List Stmt} {wi : TI} {g : TG} {tb : TS} {pos : Pos} (hp : PassesOwn (model X.prog X.w) X.A X.env X.xe) (hc : X.calm = true) (hi : PI X tg iter wi) (hg : PG X tg g) (hb : PSs X body tb)
    (hs : ∀ x, foldedSetIterable iter X.env x = pure x := by intro _; rfl) : PS X (.For tg iter body [] pos) (tFor wi g tb) := by
  intro pins s σ H D I h
  refine wpAny_For (thn (hi pins s σ H _ I h) fun v s1 h1 => thn h1 fun itv s2 h2 => ?_) hs
  obtain ⟨it, fp, tn, J, H2, e, I2, T, st2, f2, W, ⟨m0, w0⟩, turn⟩ := h2
  subst e
  have stat : ∀ {H' : Hp}, (∀ b ∈ fp, H' b = none) → ∀ b ∈ fp, FpOk X pins H' b := fun hn b hb => ⟨hn b hb, (f2 b hb).2⟩
  refine codeAny_forLoop_any (fun n s' => ∃ i σ' H', Inv X pins σ' H' s' ∧ tn i s'.heap ∧ (∀ b ∈ fp, H' b = none) ∧ W i n σ' H') ?_ m0 ⟨0, σ, H2, I2, st2, fun b hb => (f2 b hb).1, w0⟩
  rintro n s3 ⟨i, σ3, H3, I3, st3, fr3, w3⟩
  rcases turn i n σ3 H3 w3 with ⟨stop, qn⟩ | ⟨go, N, hN, step⟩
  · refine wpAny_passesOwn hp (thn (T.done X rfl rfl rfl hc i pins s3 σ3 H3 X.xe I3 (stat fr3) st3 stop) fun r s4 zz => ?_)
    obtain ⟨hr, I4⟩ := zz
    subst hr
    exact wpAny_execs_nil ⟨σ3, H3, I4, qn⟩
  · refine wpAny_passesOwn hp (thn (T.item X rfl rfl rfl hc i pins s3 σ3 H3 X.xe I3 (stat fr3) st3 go) fun r s4 zz => ?_)
    obtain ⟨u, hr, h4⟩ := zz
    subst hr
    refine wpAny_passesOwn hp (thn h4 fun _ s5 zz => ?_)
    obtain ⟨x, H5, I5, r5, y5, st5, fr5⟩ := zz
    have I5' := I5.pinned (stat fr5) (T.obj _ _ st5)
    refine wpAny_passesOwn hp (thn (hg _ s5 σ3 H5 x u _ I5' r5 (step x H5 y5)) fun _ s6 zz => ?_)
    obtain ⟨σ6, H6, I6, q6⟩ := zz
    refine wpAny_passesOwn hp (thn (hb _ s6 σ6 H6 _ I6 q6) fun f s7 q7 => ?_)
    have again : ∀ {σ7 : St} {H7 : Hp}, Inv X (pins ++ pinsAt fp s5.heap) σ7 H7 s7 → N σ7 H7 → ∃ m, m < n ∧ ∃ i σ' H', Inv X pins σ' H' s7 ∧ tn i s7.heap ∧ (∀ b ∈ fp, H' b = none) ∧ W i m σ' H' := fun {σ7 H7} I7 n7 => by
      obtain ⟨m', hm, w7⟩ := hN σ7 H7 n7
      refine ⟨m', hm, i + 1, σ7, H7, I7.unpinned, T.keep _ _ _ st5 fun b hb o e => (I7.pin (b, o) (List.mem_append_right _ (List.mem_append_right _ (mem_pinsAt hb e)))).1, fun b hb => ?_, w7⟩
      obtain ⟨o, e, d⟩ := T.obj _ _ st5 b hb
      exact (I7.pin (b, o) (List.mem_append_right _ (List.mem_append_right _ (mem_pinsAt hb e)))).2.1
    cases f with
    | next => obtain ⟨σ7, H7, I7, n7⟩ := q7; exact again I7 n7
    | cont => obtain ⟨σ7, H7, I7, n7⟩ := q7; exact again I7 n7
    | brk => obtain ⟨σ7, H7, I7, q7⟩ := q7; exact ⟨σ7, H7, I7.unpinned, q7⟩
    | ret v => obtain ⟨x7, σ7, H7, I7, r7, q7⟩ := q7; exact ⟨x7, σ7, H7, I7.unpinned, r7, q7⟩
end
theorem for_list {K : PySem.W.Frag} {a : Addr} {xs : List V} {g : TG} {tb : TS} {D : Ends} {σ : St} {H : Hp} (Pv : Nat → St → Hp → Prop) (h0 : Pv 0 σ H) (hl : ∀ i σ H, i ≤ xs.length → Pv i σ H → SqL K H a xs)
    (hs : ∀ i x σ H, xs[i]? = some x → Pv i σ H → g x σ H fun σ2 H2 => tb { D with nx := Pv (i + 1), ct := Pv (i + 1), bk := D.nx } σ2 H2) (hd : ∀ σ H, Pv xs.length σ H → D.nx σ H) :
    ∃ W : Nat → Nat → St → Hp → Prop, (∃ m, W 0 m σ H) ∧ ∀ i m σ H, W i m σ H →
      ((Itl K a).stop i H ∧ D.nx σ H) ∨ ((Itl K a).go i H ∧ ∃ N : St → Hp → Prop, (∀ σ' H', N σ' H' → ∃ m', m' < m ∧ W (i + 1) m' σ' H') ∧ ∀ x H', (Itl K a).yld i H x H' → g x σ H' fun σ2 H2 => tb { D with nx := N, ct := N, bk := D.nx } σ2 H2) := by
  refine ⟨fun i m σ H => m = xs.length - i ∧ i ≤ xs.length ∧ Pv i σ H, ⟨xs.length, by simp, Nat.zero_le _, h0⟩, ?_⟩
  rintro i m σ H ⟨rfl, hi, p⟩
  have q := hl i σ H hi p
  by_cases hlt : i < xs.length
  · refine .inr ⟨⟨xs, xs[i], q, by simp [hlt]⟩, Pv (i + 1), fun σ' H' p' => ⟨xs.length - (i + 1), by omega, rfl, hlt, p'⟩, fun x H' y => ?_⟩
    obtain ⟨e, y⟩ := y
    subst e
    exact hs i x σ _ (y xs q) p
  · have e : i = xs.length := by omega
    subst e
    exact .inl ⟨⟨xs, q, Nat.le_refl _⟩, hd σ H p⟩
theorem for_range {lo : Int} {n : Nat} {g : TG} {tb : TS} {D : Ends} {σ : St} {H : Hp} (Pv : Nat → St → Hp → Prop) (h0 : Pv 0 σ H)
    (hs : ∀ i σ H, i < n → Pv i σ H → g (.int (lo + i)) σ H fun σ2 H2 => tb { D with nx := Pv (i + 1), ct := Pv (i + 1), bk := D.nx } σ2 H2) (hd : ∀ σ H, Pv n σ H → D.nx σ H) :
    ∃ W : Nat → Nat → St → Hp → Prop, (∃ m, W 0 m σ H) ∧ ∀ i m σ H, W i m σ H →
      ((Itr lo n).stop i H ∧ D.nx σ H) ∨ ((Itr lo n).go i H ∧ ∃ N : St → Hp → Prop, (∀ σ' H', N σ' H' → ∃ m', m' < m ∧ W (i + 1) m' σ' H') ∧ ∀ x H', (Itr lo n).yld i H x H' → g x σ H' fun σ2 H2 => tb { D with nx := N, ct := N, bk := D.nx } σ2 H2) := by
  refine ⟨fun i m σ H => m = n - i ∧ i ≤ n ∧ Pv i σ H, ⟨n, by simp, Nat.zero_le _, h0⟩, ?_⟩
  rintro i m σ H ⟨rfl, hi, p⟩
  by_cases hlt : i < n
  · refine .inr ⟨hlt, Pv (i + 1), fun σ' H' p' => ⟨n - (i + 1), by omega, rfl, hlt, p'⟩, fun x H' y => ?_⟩
    obtain ⟨e, y⟩ := y
    subst e y
    exact hs i σ _ hlt p
  · have e : i = n := by omega
    subst e
    exact .inl ⟨Nat.le_refl _, hd σ H p⟩
end L2
namespace L2
open PySem PySem.Spec PyProof.Rows
noncomputable abbrev R2 := V → V → Hp → VK → Prop
noncomputable def OpR (X : Cx) (f : Value → Value → Sem Value) (r : R2) : Prop :=
  ∀ (pins : List (Addr × Obj)) (s : Shared) (σ : St) (H : Hp) (x y : V) (v u : Value) (Q : VK), Inv X pins σ H s → RelV x v → RelV y u → r x y H Q →
    wpAny (model X.prog X.w) X.A (f v u) (EP X pins σ Q) X.xe s
noncomputable def UnR (X : Cx) (f : Value → Sem Value) (r : V → Hp → VK → Prop) : Prop :=
  ∀ (pins : List (Addr × Obj)) (s : Shared) (σ : St) (H : Hp) (x : V) (v : Value) (Q : VK), Inv X pins σ H s → RelV x v → r x H Q →
    wpAny (model X.prog X.w) X.A (f v) (EP X pins σ Q) X.xe s
noncomputable def CallR (X : Cx) (f : Value) (r : List V → Hp → VK → Prop) : Prop :=
  ∀ (pins : List (Addr × Obj)) (s : Shared) (σ : St) (H : Hp) (xs : List V) (us : List Value) (Q : VK), Inv X pins σ H s → Vals xs us → r xs H Q →
    wpAny (model X.prog X.w) X.A (call f us) (EP X pins σ Q) X.xe s
noncomputable def TruR (X : Cx) (r : V → Hp → (Bool → Hp → Prop) → Prop) : Prop :=
  ∀ (pins : List (Addr × Obj)) (s : Shared) (σ : St) (H : Hp) (x : V) (v : Value) (Q : Bool → Hp → Prop), Inv X pins σ H s → RelV x v → r x H Q →
    wpAny (model X.prog X.w) X.A (truthy v) (TP X pins σ Q) X.xe s
noncomputable def tOp (r : R2) (ta tb : TE) : TE := fun σ H Q => ta σ H fun x H1 => tb σ H1 fun y H2 => r x y H2 Q
noncomputable def tUn (r : V → Hp → VK → Prop) (ta : TE) : TE := fun σ H Q => ta σ H fun x H1 => r x H1 Q
noncomputable def rI (C : Int → Int → Prop) (g : Int → Int → V) : R2 := fun x y H Q => ∃ i j, x = .int i ∧ y = .int j ∧ C i j ∧ Q (g i j) H
noncomputable def rI0 (g : Int → Int → V) : R2 := fun x y H Q => ∃ i j, x = .int i ∧ y = .int j ∧ Q (g i j) H
noncomputable def rU (g : Int → V) : V → Hp → VK → Prop := fun x H Q => ∃ i, x = .int i ∧ Q (g i) H
section
variable {X : Cx} {a b c : Expr} {ta tb tc : TE} {pos : Pos}
theorem binT (ha : PE X a ta) (hb : PE X b tb) {pins : List (Addr × Obj)} {s : Shared} {σ : St} {H : Hp} {R : V → V → Hp → Prop} (I : Inv X pins σ H s)
    (h : ta σ H fun x H1 => tb σ H1 fun y H2 => R x y H2) {Q : Value → Shared → Prop} {f : Value → Value → Sem Value}
    (hf : ∀ v u s2 x y H2, Inv X pins σ H2 s2 → RelV x v → RelV y u → R x y H2 → wpAny (model X.prog X.w) X.A (f v u) Q X.xe s2) :
    wpAny (model X.prog X.w) X.A (eval a X.env) (fun v s₁ => wpAny (model X.prog X.w) X.A (eval b X.env) (fun u s₂ => wpAny (model X.prog X.w) X.A (f v u) Q X.xe s₂) X.xe s₁) X.xe s := by
  refine thn (ha pins s σ H _ I h) fun v s1 zz => ?_
  obtain ⟨x, H1, I1, r1, q1⟩ := zz
  refine thn (hb pins s1 σ H1 _ I1 q1) fun u s2 zz => ?_
  obtain ⟨y, H2, I2, r2, q2⟩ := zz
  exact hf v u s2 x y H2 I2 r1 r2 q2
theorem pe_op {op : Operator} {r : R2} (ho : OpR X (binaryOp op) r) (ha : PE X a ta) (hb : PE X b tb) : PE X (.BinOp a op b pos) (tOp r ta tb) := by
  intro pins s σ H Q I h
  exact wpAny_BinOp (binT ha hb I h fun v u s2 x y H2 I2 rx ry q => ho pins s2 σ H2 x y v u Q I2 rx ry q)
theorem pe_un {op : UnaryOp} {r : V → Hp → VK → Prop} (ho : UnR X (unaryOp op) r) (ha : PE X a ta) : PE X (.UnaryOp op a pos) (tUn r ta) := by
  intro pins s σ H Q I h
  exact UnaryOp_ (thn (ha pins s σ H _ I h) fun v s1 zz => by obtain ⟨x, H1, I1, r1, q1⟩ := zz; exact ho pins s1 σ H1 x v Q I1 r1 q1)
theorem opI {f : Value → Value → Sem Value} {C : Int → Int → Prop} {g : Int → Int → Int}
    (rule : ∀ (i j : Int) (t u : Tok) (s : Shared) (Q : Value → Shared → Prop) (E : Value → Shared → Prop), C i j → Q (.int (g i j) s.toks) { s with toks := s.toks + 1 } → wpAny (model X.prog X.w) X.A (f (.int i t) (.int j u)) Q E s) :
    OpR X f (rI C fun i j => .int (g i j)) := by
  intro pins s σ H x y v u Q I rx ry h
  obtain ⟨i, j, rfl, rfl, hc, q⟩ := h
  obtain ⟨t, rfl⟩ := rx
  obtain ⟨t', rfl⟩ := ry
  exact rule i j t t' s _ _ hc ⟨.int (g i j), H, I.tok _, ⟨_, rfl⟩, q⟩
theorem opI0 {f : Value → Value → Sem Value} {g : Int → Int → Int}
    (rule : ∀ (i j : Int) (t u : Tok) (s : Shared) (Q : Value → Shared → Prop) (E : Value → Shared → Prop), Q (.int (g i j) s.toks) { s with toks := s.toks + 1 } → wpAny (model X.prog X.w) X.A (f (.int i t) (.int j u)) Q E s) :
    OpR X f (rI0 fun i j => .int (g i j)) := by
  intro pins s σ H x y v u Q I rx ry h
  obtain ⟨i, j, rfl, rfl, q⟩ := h
  obtain ⟨t, rfl⟩ := rx
  obtain ⟨t', rfl⟩ := ry
  exact rule i j t t' s _ _ ⟨.int (g i j), H, I.tok _, ⟨_, rfl⟩, q⟩
theorem opB0 {f : Value → Value → Sem Value} {g : Int → Int → Bool}
    (rule : ∀ (i j : Int) (t u : Tok) (s : Shared) (Q : Value → Shared → Prop) (E : Value → Shared → Prop), Q (.bool (g i j)) s → wpAny (model X.prog X.w) X.A (f (.int i t) (.int j u)) Q E s) :
    OpR X f (rI0 fun i j => .bl (g i j)) := by
  intro pins s σ H x y v u Q I rx ry h
  obtain ⟨i, j, rfl, rfl, q⟩ := h
  obtain ⟨t, rfl⟩ := rx
  obtain ⟨t', rfl⟩ := ry
  exact rule i j t t' s _ _ ⟨.bl (g i j), H, I, rfl, q⟩
noncomputable def CDiv (i j : Int) : Prop := 0 < j ∧ j < 1073741824
noncomputable def CDivN (i j : Int) : Prop := j ≠ 0 ∧ j.natAbs < 1073741824
noncomputable def CPow (i j : Int) : Prop := 0 ≤ j ∧ j ≤ 1000000 ∧ i.natAbs < 2 ^ 64
noncomputable def CMul (i j : Int) : Prop := (-(2 ^ 64) < i ∧ i < 2 ^ 64) ∨ (-(2 ^ 64) < j ∧ j < 2 ^ 64)
theorem CMul.ok {i j : Int} (h : CMul i j) : IntMulOk i j := by
  rcases h with ⟨h1, h2⟩ | ⟨h1, h2⟩
  · exact .of_left (intBits_le_64 h1 h2)
  · exact .of_right (intBits_le_64 h1 h2)
theorem op_add : OpR X (binaryOp .Add) (rI0 fun i j => .int (i + j)) := opI0 fun _ _ _ _ _ _ _ q => add_int q
theorem op_sub : OpR X (binaryOp .Sub) (rI0 fun i j => .int (i - j)) := opI0 fun _ _ _ _ _ _ _ q => sub_int q
theorem op_mul : OpR X (binaryOp .Mult) (rI CMul fun i j => .int (i * j)) := opI fun _ _ _ _ _ _ _ hc q => mul_int q hc.ok
theorem op_fdiv : OpR X (binaryOp .FloorDiv) (rI CDiv fun i j => .int (i / j)) := opI fun i j _ _ _ _ _ hc q => by
  have h1 : (0 : Int) < j := hc.1
  have h2 : j < 1073741824 := hc.2
  exact floordiv_int (by omega) (by rw [Int.fdiv_eq_ediv_of_nonneg i (by omega)]; exact q) (.inl (PyProof.noPylong_small (by omega)))
theorem op_mod : OpR X (binaryOp .Mod) (rI (fun _ j => 0 < j) fun i j => .int (i % j)) := opI fun i j _ _ _ _ _ hc q => by
  have h1 : (0 : Int) < j := hc
  exact mod_int' (by omega) (by rw [Int.fmod_eq_emod_of_nonneg i (by omega)]; exact q)
theorem op_pow : OpR X (binaryOp .Pow) (rI CPow fun i j => .int (i ^ j.toNat)) := opI fun _ _ _ _ _ _ _ hc q => pow_int_small hc.1 hc.2.1 hc.2.2 q
theorem unI {f : Value → Sem Value} {g : Int → Int}
    (rule : ∀ (i : Int) (t : Tok) (s : Shared) (Q : Value → Shared → Prop) (E : Value → Shared → Prop), Q (.int (g i) s.toks) { s with toks := s.toks + 1 } → wpAny (model X.prog X.w) X.A (f (.int i t)) Q E s) :
    UnR X f (rU fun i => .int (g i)) := by
  intro pins s σ H x v Q I rx h
  obtain ⟨i, rfl, q⟩ := h
  obtain ⟨t, rfl⟩ := rx
  exact rule i t s _ _ ⟨.int (g i), H, I.tok _, ⟨_, rfl⟩, q⟩
theorem un_neg : UnR X (unaryOp .USub) (rU fun i => .int (-i)) := unI fun _ _ _ _ _ q => neg_int q
end
noncomputable def scal : V → V → Bool
  | .non, .non => true | .non, .int _ => true | .int _, .non => true | .non, .bl _ => true | .bl _, .non => true | .non, .str _ => true | .str _, .non => true
  | .int _, .int _ => true | .bl _, .bl _ => true | .str _, .str _ => true | .byt _, .byt _ => true
  | .int _, .str _ => true | .str _, .int _ => true | .bl _, .str _ => true | .str _, .bl _ => true
  | _, _ => false
noncomputable def rEq : R2 := fun x y H Q => scal x y = true ∧ Q (.bl (decide (x = y))) H
noncomputable def rNe : R2 := fun x y H Q => scal x y = true ∧ Q (.bl (!decide (x = y))) H
theorem dec_int {i j : Int} : decide (V.int i = V.int j) = (i == j) := by
  rw [Bool.eq_iff_iff]
  simp
theorem dec_bl {i j : Bool} : decide (V.bl i = V.bl j) = (i == j) := by
  rw [Bool.eq_iff_iff]
  simp
theorem dec_str {i j : Str} : decide (V.str i = V.str j) = (i == j) := by
  rw [Bool.eq_iff_iff]
  simp
theorem dec_byt {i j : Array UInt8} : decide (V.byt i = V.byt j) = (i.toList == j.toList) := by
  rw [Bool.eq_iff_iff]
  cases i
  cases j
  simp
section
variable {X : Cx} {a b c : Expr} {ta tb tc : TE} {pos : Pos}
theorem fin_bl {pins : List (Addr × Obj)} {σ : St} {H : Hp} {s : Shared} {Q : VK} {k k' : Bool} (I : Inv X pins σ H s) (q : Q (.bl k) H) (e : k = k') : EP X pins σ Q (.bool k') s := by
  subst e
  exact ⟨.bl k, H, I, rfl, q⟩
theorem op_eq : OpR X (compareOp .Eq) rEq := by
  intro pins s σ H x y v u Q I rx ry h
  obtain ⟨hs, q⟩ := h
  cases x with
  | non =>
    cases rx
    cases y with
    | non => cases ry; exact PySem.EqNone.eq_none_none (fin_bl I q (by simp))
    | bl j => cases ry; exact PySem.EqNone.eq_none_bool (fin_bl I q (by simp))
    | int j => obtain ⟨t', rfl⟩ := ry; exact PySem.EqNone.eq_none_int (fin_bl I q (by simp))
    | str j => obtain ⟨t', rfl⟩ := ry; exact PySem.EqNone.eq_none_str (fin_bl I q (by simp))
    | _ => exact absurd (show false = true from hs) Bool.false_ne_true
  | bl i =>
    cases rx
    cases y with
    | non => cases ry; exact PySem.EqNone.eq_bool_none (fin_bl I q (by simp))
    | bl j => cases ry; exact eq_bool (fin_bl I q dec_bl)
    | str j => obtain ⟨t', rfl⟩ := ry; exact PySem.EqMixed.eq_bool_str (fin_bl I q (by simp))
    | _ => exact absurd (show false = true from hs) Bool.false_ne_true
  | int i =>
    obtain ⟨t, rfl⟩ := rx
    cases y with
    | non => cases ry; exact PySem.EqNone.eq_int_none (fin_bl I q (by simp))
    | int j => obtain ⟨t', rfl⟩ := ry; exact eq_int (fin_bl I q dec_int)
    | str j => obtain ⟨t', rfl⟩ := ry; exact PySem.EqMixed.eq_int_str (fin_bl I q (by simp))
    | _ => exact absurd (show false = true from hs) Bool.false_ne_true
  | str i =>
    obtain ⟨t, rfl⟩ := rx
    cases y with
    | non => cases ry; exact PySem.EqNone.eq_str_none (fin_bl I q (by simp))
    | bl j => cases ry; exact PySem.EqMixed.eq_str_bool (fin_bl I q (by simp))
    | int j => obtain ⟨t', rfl⟩ := ry; exact PySem.EqMixed.eq_str_int (fin_bl I q (by simp))
    | str j => obtain ⟨t', rfl⟩ := ry; exact eq_str (fin_bl I q dec_str)
    | _ => exact absurd (show false = true from hs) Bool.false_ne_true
  | byt i =>
    obtain ⟨t, rfl⟩ := rx
    cases y with
    | byt j => obtain ⟨t', rfl⟩ := ry; exact PySem.W.eq_bytes (fin_bl I q dec_byt)
    | _ => exact absurd (show false = true from hs) Bool.false_ne_true
  | _ => cases y <;> exact absurd (show false = true from hs) Bool.false_ne_true
theorem op_ne : OpR X (compareOp .NotEq) rNe := by
  intro pins s σ H x y v u Q I rx ry h
  obtain ⟨hs, q⟩ := h
  cases x with
  | non =>
    cases rx
    cases y with
    | non => cases ry; exact PySem.EqNone.ne_none_none (fin_bl I q (by simp))
    | bl j => cases ry; exact PySem.EqNone.ne_none_bool (fin_bl I q (by simp))
    | int j => obtain ⟨t', rfl⟩ := ry; exact PySem.EqNone.ne_none_int (fin_bl I q (by simp))
    | str j => obtain ⟨t', rfl⟩ := ry; exact PySem.EqNone.ne_none_str (fin_bl I q (by simp))
    | _ => exact absurd (show false = true from hs) Bool.false_ne_true
  | bl i =>
    cases rx
    cases y with
    | non => cases ry; exact PySem.EqNone.ne_bool_none (fin_bl I q (by simp))
    | bl j => cases ry; exact ne_bool (fin_bl I q (congrArg not dec_bl))
    | str j => obtain ⟨t', rfl⟩ := ry; exact PySem.EqMixed.ne_bool_str (fin_bl I q (by simp))
    | _ => exact absurd (show false = true from hs) Bool.false_ne_true
  | int i =>
    obtain ⟨t, rfl⟩ := rx
    cases y with
    | non => cases ry; exact PySem.EqNone.ne_int_none (fin_bl I q (by simp))
    | int j => obtain ⟨t', rfl⟩ := ry; exact ne_int (fin_bl I q (congrArg not dec_int))
    | str j => obtain ⟨t', rfl⟩ := ry; exact PySem.EqMixed.ne_int_str (fin_bl I q (by simp))
    | _ => exact absurd (show false = true from hs) Bool.false_ne_true
  | str i =>
    obtain ⟨t, rfl⟩ := rx
    cases y with
    | non => cases ry; exact PySem.EqNone.ne_str_none (fin_bl I q (by simp))
    | bl j => cases ry; exact PySem.EqMixed.ne_str_bool (fin_bl I q (by simp))
    | int j => obtain ⟨t', rfl⟩ := ry; exact PySem.EqMixed.ne_str_int (fin_bl I q (by simp))
    | str j => obtain ⟨t', rfl⟩ := ry; exact ne_str (fin_bl I q (congrArg not dec_str))
    | _ => exact absurd (show false = true from hs) Bool.false_ne_true
  | byt i =>
    obtain ⟨t, rfl⟩ := rx
    cases y with
    | byt j => obtain ⟨t', rfl⟩ := ry; exact PySem.W.ne_bytes (fin_bl I q (congrArg not dec_byt))
    | _ => exact absurd (show false = true from hs) Bool.false_ne_true
  | _ => cases y <;> exact absurd (show false = true from hs) Bool.false_ne_true
theorem op_lt : OpR X (compareOp .Lt) (rI0 fun i j => .bl (decide (i < j))) := opB0 fun _ _ _ _ _ _ _ q => lt_int q
theorem op_le : OpR X (compareOp .LtE) (rI0 fun i j => .bl (decide (i ≤ j))) := opB0 fun _ _ _ _ _ _ _ q => le_int q
theorem op_gt : OpR X (compareOp .Gt) (rI0 fun i j => .bl (decide (j < i))) := opB0 fun _ _ _ _ _ _ _ q => gt_int q
theorem op_ge : OpR X (compareOp .GtE) (rI0 fun i j => .bl (decide (j ≤ i))) := opB0 fun _ _ _ _ _ _ _ q => ge_int q
theorem op_lt_str : OpR X (compareOp .Lt) (fun x y H Q => ∃ i j, x = .str i ∧ y = .str j ∧ Q (.bl (decide (i.cps.toList < j.cps.toList))) H) := by
  intro pins s σ H x y v u Q I rx ry h
  obtain ⟨i, j, rfl, rfl, q⟩ := h
  obtain ⟨t, rfl⟩ := rx
  obtain ⟨t', rfl⟩ := ry
  exact lt_str (fin_bl I q rfl)
theorem op_in_str : OpR X (compareOp .In) (fun x y H Q => ∃ i j, x = .str i ∧ y = .str j ∧ Q (.bl (!(Builtin.Str.occurrences j i 0 j.length 1).isEmpty)) H) := by
  intro pins s σ H x y v u Q I rx ry h
  obtain ⟨i, j, rfl, rfl, q⟩ := h
  obtain ⟨t, rfl⟩ := rx
  obtain ⟨t', rfl⟩ := ry
  exact in_str (fin_bl I q rfl)
theorem op_isN : OpR X (compareOp .Is) (fun x y H Q => y = .non ∧ Q (.bl (decide (x = .non))) H) := by
  intro pins s σ H x y v u Q I rx ry h
  obtain ⟨rfl, q⟩ := h
  cases ry
  refine is_none_gen (fin_bl I q ?_)
  cases x <;> first
    | (cases rx; rfl)
    | (obtain ⟨t, rfl⟩ := rx; rfl)
noncomputable def isObj : HO → Bool
  | .lst _ => true
  | .ins _ _ _ => true
  | _ => false
theorem nomark (b : Expr) {op : CmpOp} (h : op ≠ .In := by decide) (h2 : op ≠ .NotIn := by decide) : behindInMarks op b = false := by
  have e1 : (op == CmpOp.In) = false := by cases op <;> first | rfl | exact absurd rfl h
  have e2 : (op == CmpOp.NotIn) = false := by cases op <;> first | rfl | exact absurd rfl h2
  cases b <;> simp [behindInMarks, e1, e2]
theorem pe_cmpR {op : CmpOp} {r : R2} (ho : OpR X (compareOp op) r) (ha : PE X a ta) (hb : PE X b tb) (hm : behindInMarks op b = false) : PE X (.Compare a [op] [b] pos) (tOp r ta tb) := by
  intro pins s σ H Q I h
  exact wpAny_Compare1 (binT ha hb I h fun v u s2 x y H2 I2 rx ry q => ho pins s2 σ H2 x y v u Q I2 rx ry q) hm
noncomputable def tTest (t : TE) : TT := fun σ H Q => t σ H fun x H' => ∃ k, x = .bl k ∧ Q k H'
theorem pt_cmpR {op : CmpOp} {r : R2} (ho : OpR X (compareOp op) r) (ha : PE X a ta) (hb : PE X b tb) (hm : behindInMarks op b = false) : PT X (.Compare a [op] [b] pos) (tTest (tOp r ta tb)) := by
  intro pins s σ H Q I h
  refine wpAny_isTrue_Compare1 (thn (ha pins s σ H _ I h) fun v s1 ⟨x, H1, I1, r1, q1⟩ => thn (hb pins s1 σ H1 _ I1 q1) fun u s2 ⟨y, H2, I2, r2, q2⟩ =>
    thn (ho pins s2 σ H2 x y v u _ I2 r1 r2 q2) fun c s3 ⟨z, H3, I3, r3, k, e, q3⟩ => ?_) hm
  subst e
  cases r3
  exact wpAny_truthy_bool ⟨H3, I3, q3⟩
noncomputable def tChain (r r' : R2) (ta tb tc : TE) : TE := fun σ H Q => ta σ H fun x H1 => tb σ H1 fun y H2 => r x y H2 fun z H3 => ∃ k, z = .bl k ∧
  (if k = true then tc σ H3 fun w' H4 => r' y w' H4 Q else Q (.bl false) H3)
theorem pe_chain {op op' : CmpOp} {r r' : R2} (ho : OpR X (compareOp op) r) (ho' : OpR X (compareOp op') r') (ha : PE X a ta) (hb : PE X b tb) (hc : PE X c tc)
    (hm : lastMarks [op, op'] [b, c] = false := by with_unfolding_all rfl) : PE X (.Compare a [op, op'] [b, c] pos) (tChain r r' ta tb tc) := by
  intro pins s σ H Q I h
  refine Compare_chain (thn (ha pins s σ H _ I h) fun v s1 ⟨x, H1, I1, r1, q1⟩ => chain_link (thn (hb pins s1 σ H1 _ I1 q1) fun u s2 ⟨y, H2, I2, r2, q2⟩ =>
    thn (ho pins s2 σ H2 x y v u _ I2 r1 r2 q2) fun d s3 ⟨z, H3, I3, r3, k, e, q3⟩ => ?_)) hm
  subst e
  cases r3
  refine wpAny_truthy_bool ?_
  cases k with
  | false => exact ite_ff ⟨.bl false, H3, I3, rfl, q3⟩
  | true => exact ite_tt (chain_last (thn (hc pins s3 σ H3 _ I3 q3) fun w' s4 ⟨z', H4, I4, r4, q4⟩ => ho' pins s4 σ H4 y z' u w' Q I4 r2 r4 q4))
theorem pt_chain {op op' : CmpOp} {r r' : R2} (ho : OpR X (compareOp op) r) (ho' : OpR X (compareOp op') r') (ha : PE X a ta) (hb : PE X b tb) (hc : PE X c tc)
    (hm : lastMarks [op, op'] [b, c] = false := by with_unfolding_all rfl) : PT X (.Compare a [op, op'] [b, c] pos) (tTest (tChain r r' ta tb tc)) := by
  intro pins s σ H Q I h
  refine isTrue_chain (thn (ha pins s σ H _ I h) fun v s1 ⟨x, H1, I1, r1, q1⟩ => test_link (thn (hb pins s1 σ H1 _ I1 q1) fun u s2 ⟨y, H2, I2, r2, q2⟩ =>
    thn (ho pins s2 σ H2 x y v u _ I2 r1 r2 q2) fun d s3 ⟨z, H3, I3, r3, k, e, q3⟩ => ?_)) hm
  subst e
  cases r3
  refine wpAny_truthy_bool ?_
  cases k with
  | false =>
    obtain ⟨k', e', q'⟩ := q3
    cases e'
    exact ite_ff ⟨H3, I3, q'⟩
  | true =>
    refine ite_tt (test_last (thn (hc pins s3 σ H3 _ I3 q3) fun w' s4 ⟨z', H4, I4, r4, q4⟩ => thn (ho' pins s4 σ H4 y z' u w' _ I4 r2 r4 q4) fun d' s5 zz => ?_))
    obtain ⟨z2, H5, I5, r5, k2, e2, q5⟩ := zz
    subst e2
    cases r5
    exact wpAny_truthy_bool ⟨H5, I5, q5⟩
noncomputable def TruV (K : PySem.W.Frag) (x : V) (H : Hp) (k : Bool) : Prop :=
  match x with
  | .non => k = false
  | .bl b => k = b
  | .int i => k = (i != 0)
  | .str y => y.length ≤ sizeLine ∧ k = ((y.length : Int) != 0)
  | .byt y => y.size ≤ sizeLine ∧ k = ((y.size : Int) != 0)
  | .ref p => (∃ xs, SqL K H p xs ∧ k = !xs.isEmpty) ∨ (∃ xs, SqT K H p xs ∧ k = !xs.isEmpty) ∨ ∃ kvs, H p = some (.dK kvs) ∧ k = !kvs.isEmpty
  | _ => False
theorem line63 : (sizeLine : Nat) < 2 ^ 63 := by rw [sizeLine_eq]; decide
theorem op_add_str : OpR X (binaryOp .Add) (fun x y H Q => ∃ i j, x = .str i ∧ y = .str j ∧ i.length + j.length ≤ sizeLine ∧ Q (.str (i ++ j)) H) := by
  intro pins s σ H x y v u Q I rx ry h
  obtain ⟨i, j, rfl, rfl, hz, q⟩ := h
  obtain ⟨t, rfl⟩ := rx
  obtain ⟨t', rfl⟩ := ry
  exact add_str (fun t' tk => ⟨.str (i ++ j), H, I.tok _, ⟨_, rfl⟩, q⟩) hz
noncomputable def PlainIxT (b : Expr) : Prop := ∀ o i, subscripted b false o i = operate [o, i] (getItem o i)
theorem vals1 {x : V} {us : List Value} (r : Vals [x] us) : ∃ u, us = [u] ∧ RelV x u := by
  cases r with
  | cons r1 r2 => cases r2; exact ⟨_, rfl, r1⟩
theorem vals2 {x y : V} {us : List Value} (r : Vals [x, y] us) : ∃ u w', us = [u, w'] ∧ RelV x u ∧ RelV y w' := by
  cases r with
  | cons r1 r2 =>
    cases r2 with
    | cons r3 r4 => cases r4; exact ⟨_, _, rfl, r1, r3⟩
theorem call_min2 (hc : X.calm = true) : CallR X (.builtin "min") (fun xs H Q => ∃ i j, xs = [.int i, .int j] ∧ Q (.int (if j < i then j else i)) H) := by
  intro pins s σ H xs us Q I r h
  obtain ⟨i, j, rfl, q⟩ := h
  obtain ⟨u, w', rfl, ⟨t, rfl⟩, ⟨t', rfl⟩⟩ := vals2 r
  refine min_two_ints (I.ok.hd hc) fun h' tk k => ⟨_, H, I.kept k, ?_, q⟩
  by_cases hj : j < i
  · rw [if_pos hj, if_pos hj]; exact ⟨_, rfl⟩
  · rw [if_neg hj, if_neg hj]; exact ⟨_, rfl⟩
noncomputable def LenV (K : PySem.W.Frag) (x : V) (H : Hp) (n : Nat) : Prop :=
  match x with
  | .str y => y.length ≤ sizeLine ∧ n = y.length
  | .byt y => y.size ≤ sizeLine ∧ n = y.size
  | .ref p => (∃ xs, SqL K H p xs ∧ n = xs.length) ∨ ∃ xs, SqT K H p xs ∧ n = xs.length
  | _ => False
end
end L2
namespace L2
open PySem PySem.Spec PyProof.Rows
structure ObjM (h : Heap) (x dx C : Addr) (mA : Str → Option Value) : Prop where
  obj : h.get? x = some (PySem.W.instObj C dx)
  ns : h.Ns1 dx mA
  ne : dx ≠ x
theorem lookIn_ns {h : Heap} {dx : Addr} {mA : Str → Option Value} (n : h.Ns1 dx mA) : ∃ od, h.get? dx = some od ∧ ∀ name, PySem.W.lookIn name od = some (mA name) := by
  obtain ⟨o, es, ep, ho, hd, hk, _, hm⟩ := n
  refine ⟨o, ho, fun name => ?_⟩
  have e := hm name
  unfold nsFind findBy at e
  rw [← Array.find?_toList] at e
  unfold PySem.W.lookIn
  rw [hd]
  dsimp only
  split
  · rename_i y q
    rw [q] at e
    exact congrArg some e
  · rename_i q
    rw [q] at e
    have a : es.toList.any (·.refKey) = false := by
      rw [List.any_eq_false]
      intro y hy
      obtain ⟨z, t, hkey⟩ := hk y (Array.mem_toList_iff.mp hy)
      simp [DictEntry.refKey, hkey]
    have a' : ¬ es.toList.any (·.refKey) = true := by rw [a]; exact Bool.false_ne_true
    rw [if_neg a']
    exact congrArg some e
theorem ObjM.look {h : Heap} {x dx C : Addr} {mA : Str → Option Value} (I : ObjM h x dx C mA) : ∃ od, PySem.W.InstAt h x (PySem.W.instObj C dx) C (some od) ∧ ∀ name, PySem.W.lookIn name od = some (mA name) :=
  let ⟨od, ho, hl⟩ := lookIn_ns I.ns
  ⟨od, ⟨I.obj, rfl, rfl, ho⟩, hl⟩
section
variable {prog : Program} {w : World} {A : Around} {E : Value → Shared → Prop} {s : Shared} {K : PySem.W.Frag} {x dx C f : Addr} {mA : Str → Option Value} {name : Str} {v : Value}
end
noncomputable def putF (f : Str) (v : V) : List (Str × V) → List (Str × V)
  | [] => [(f, v)]
  | (g, x) :: r => if g = f then (g, v) :: r else (g, x) :: putF f v r
theorem RelO.some_of {v : V} {o : Option Value} (r : RelO (some v) o) : ∃ u, o = some u ∧ RelV v u := by
  cases o with
  | none => exact (show False from r).elim
  | some u => exact ⟨u, rfl, r⟩
theorem handed_of {v : V} {u : Value} (r : RelV v u) : PySem.W.handedIn u = true := by
  cases v with
  | non => cases (show u = Value.none from r); rfl
  | bl b => cases (show u = Value.bool b from r); rfl
  | int i => obtain ⟨t, e⟩ := (show ∃ t, u = Value.int i t from r); cases e; rfl
  | str x => obtain ⟨t, e⟩ := (show ∃ t, u = Value.str x t from r); cases e; rfl
  | byt b => obtain ⟨t, e⟩ := (show ∃ t, u = Value.bytes b t from r); cases e; rfl
  | flt b => obtain ⟨t, e⟩ := (show ∃ t, u = Value.float b t from r); cases e; rfl
  | ref a => cases (show u = Value.ref a from r); rfl
  | ty n => cases (show u = Value.type n from r); rfl
section
variable {P : Program} {w : World} {H H' : Hp} {h h' : Heap} {a C dx : Addr} {fs fs' : List (Str × V)}
theorem ins_get (hok : HOk P w H h) (e : H a = some (.ins C dx fs)) : ∃ mA, ObjM h a dx C mA ∧ (∀ f, RelO (fs.lookup f) (mA f)) ∧ PySem.Within mA (fs.map (·.1)) ∧ fs.length ≤ 1000 ∧ H dx = some (.own a) := by
  obtain ⟨d, z, ne, ob, mA, n, r, q⟩ := (show ObjOk P w H h a (.ins C dx fs) from hok a _ e)
  exact ⟨mA, ⟨ob, n, ne⟩, r, q, z, d⟩
end
structure Cls (K : PySem.W.Frag) (C : Addr) : Prop where
  pg : PySem.W.plainGet K C Str.empty = true
  hd : PySem.W.hasDictIn K C = true
  po : PySem.W.plainOver K C = true
  sa : PySem.W.findIn K (.ref C) "__setattr__" = some (some (.builtin "object.__setattr__"))
theorem Cls.get {K : PySem.W.Frag} {C : Addr} (c : Cls K C) (f : Str) : PySem.W.plainGet K C f = true := c.pg
noncomputable def NoAttr (K : PySem.W.Frag) (C : Addr) (f : Str) : Prop := PySem.W.findIn K (.ref C) f = some none
structure Con (K : PySem.W.Frag) (C : Addr) (f : Str) (v : V) (u : Value) : Prop where
  at_ : PySem.W.findIn K (.ref C) f = some (some u)
  rel : RelV v u
  get : PySem.W.specialIn K u "__get__" = some none
  cp : PySem.W.copiedNames.contains f = false
structure Meth (K : PySem.W.Frag) (C : Addr) (m : Str) (f : Addr) : Prop where
  at_ : PySem.W.findIn K (.ref C) m = some (some (.ref f))
  fn : PySem.W.isFn K (.ref f) = true
  kp : PySem.W.keepIn K (.ref f) = true
section
variable {X : Cx} {pins : List (Addr × Obj)} {σ : St} {H : Hp} {s : Shared} {a C dx : Addr} {fs : List (Str × V)} {f : Str} {v : V} {A : Around} {E : Value → Shared → Prop}
theorem attr_of {prog : Program} {w : World} {env : Env} {e : Expr} {f : Str} {pos : Pos} {s : Shared} {Q : Value → Shared → Prop} (hb : attributeBase e f env (eval e env) = eval e env)
    (h : wpAny (model prog w) A (eval e env) (fun o s₁ => wpAny (model prog w) A (getAttr o f true) Q E s₁) E s) : wpAny (model prog w) A (eval (.Attribute e f pos) env) Q E s :=
  Attribute_any_ h (by rw [arm_eval_Attribute, hb])
end
noncomputable def tFld (K : PySem.W.Frag) (ta : TE) (f : Str) : TE := fun σ H Q => ta σ H fun x H1 => ∃ a C dx fs v, x = .ref a ∧ H1 a = some (.ins C dx fs) ∧ Cls K C ∧ NoAttr K C f ∧ fs.lookup f = some v ∧ Q v H1
noncomputable def tCon (K : PySem.W.Frag) (ta : TE) (f : Str) : TE := fun σ H Q => ta σ H fun x H1 => ∃ a C dx fs v u, x = .ref a ∧ H1 a = some (.ins C dx fs) ∧ Cls K C ∧ Con K C f v u ∧ fs.lookup f = none ∧ Q v H1
noncomputable def sFld (K : PySem.W.Frag) (ta tv : TE) (f : Str) : TS := fun D σ H => tv σ H fun y H1 => ta σ H1 fun x H2 => ∃ a C dx fs, x = .ref a ∧ H2 a = some (.ins C dx fs) ∧ Cls K C ∧ NoAttr K C f ∧ fs.length < 1000 ∧
  D.nx σ (upd H2 a (.ins C dx (putF f y fs)))
noncomputable def InOp (X : Cx) (op : Operator) (rd : V → V → Hp → VK → Prop) : Prop :=
  ∀ (pins : List (Addr × Obj)) (s : Shared) (σ : St) (H : Hp) (x y : V) (u v : Value) (Q : VK), Inv X pins σ H s → RelV x u → RelV y v → rd x y H Q → wpAny (model X.prog X.w) X.A (inplaceOp op u v) (EP X pins σ Q) X.xe s
noncomputable def sFldAug (K : PySem.W.Frag) (ta tv : TE) (rd : V → V → Hp → VK → Prop) (f : Str) : TS := fun D σ H => ta σ H fun x H1 => ∃ a C dx fs v, x = .ref a ∧ H1 a = some (.ins C dx fs) ∧ Cls K C ∧ NoAttr K C f ∧ fs.lookup f = some v ∧
  tv σ H1 fun y H2 => rd v y H2 fun z H3 => ∃ dx' fs', H3 a = some (.ins C dx' fs') ∧ fs'.length < 1000 ∧ D.nx σ (upd H3 a (.ins C dx' (putF f z fs')))
section
variable {X : Cx} {o e value : Expr} {f : Str} {pos pos' tpos : Pos} {ta tv : TE}
noncomputable def rAdd : V → V → Hp → VK → Prop := fun x y H Q => ∃ i j, x = .int i ∧ y = .int j ∧ Q (.int (i + j)) H
noncomputable def rSub : V → V → Hp → VK → Prop := fun x y H Q => ∃ i j, x = .int i ∧ y = .int j ∧ Q (.int (i - j)) H
end
section
variable {X : Cx} {pins : List (Addr × Obj)} {σ : St} {H : Hp} {s : Shared} {A : Around} {E : Value → Shared → Prop} {Q : Value → Shared → Prop} {c : Value} {b : Bool}
inductive TyOf (K : PySem.W.Frag) (H : Hp) : V → Value → Prop where
  | non : TyOf K H .non (.type "NoneType")
  | bl (x : Bool) : TyOf K H (.bl x) (.type "bool")
  | int (i : Int) : TyOf K H (.int i) (.type "int")
  | str (x : Str) : TyOf K H (.str x) (.type "str")
  | flt (x : UInt64) : TyOf K H (.flt x) (.type "float")
  | lst {a : Addr} {xs : List V} (e : H a = some (.lst xs)) : TyOf K H (.ref a) (.type "list")
  | frz {a : Addr} {o : Obj} {xs : List V} (e : H a = some (.frz o (.lst xs))) : TyOf K H (.ref a) (.type "list")
  | tup {a : Addr} {xs : List V} (e : H a = some (.tup xs)) : TyOf K H (.ref a) (.type "tuple")
  | dK {a : Addr} {kvs : List (Key × V)} (e : H a = some (.dK kvs)) : TyOf K H (.ref a) (.type "dict")
  | dT {a : Addr} {kvs : List (List Key × V)} (e : H a = some (.dT kvs)) : TyOf K H (.ref a) (.type "dict")
  | ins {a C dx : Addr} {fs : List (Str × V)} (e : H a = some (.ins C dx fs)) (cl : Cls K C) (ha : PySem.W.findIn K (.ref C) "__class__" = some (some (.builtin "object.__class__")))
      (hn : PySem.W.specialIn K (.builtin "object.__class__") "__get__" = some (some (.builtin "getset_descriptor.__get__"))) (htk : PySem.W.takesIn K (.builtin "object.__class__") = some true)
      (hm : PySem.W.mroIn K C (.type "object") = some true) : TyOf K H (.ref a) (.ref C)
theorem isinst_ok {x : V} {u t : Value} (I : Inv X pins σ H s) (rx : RelV x u) (ty : TyOf X.K H x t) (e : PySem.W.kitOne X.K t c = some b) (h : ∀ tk, Q (.bool b) { s with toks := tk }) :
    wpAny (model X.prog X.w) A (call (.builtin "isinstance") [u, c]) Q E s := by
  cases ty with
  | non => cases (show u = Value.none from rx); exact PySem.W.kia_one PySem.W.kitx_none I.kIn True.intro e (fun z => nomatch z) h
  | bl y => cases (show u = Value.bool y from rx); exact PySem.W.kia_one PySem.W.kitx_bool I.kIn True.intro e (fun z => nomatch z) h
  | int i => obtain ⟨t, q⟩ := (show ∃ t, u = Value.int i t from rx); cases q; exact PySem.W.kia_one PySem.W.kitx_int I.kIn True.intro e (fun z => nomatch z) h
  | str y => obtain ⟨t, q⟩ := (show ∃ t, u = Value.str y t from rx); cases q; exact PySem.W.kia_one PySem.W.kitx_str I.kIn True.intro e (fun z => nomatch z) h
  | flt y => obtain ⟨t, q⟩ := (show ∃ t, u = Value.float y t from rx); cases q; exact PySem.W.kia_one PySem.W.kitx_float I.kIn True.intro e (fun z => nomatch z) h
  | @lst a xs ea =>
    cases (show u = Value.ref a from rx)
    obtain ⟨_, _, n, _, h1⟩ := (show ObjOk X.prog X.w H s.heap a (.lst xs) from I.hok a _ ea)
    exact PySem.W.kia_one PySem.W.kitx_list I.kIn ⟨_, h1, rfl⟩ e (fun z => nomatch z) h
  | @frz a ob xs ea =>
    cases (show u = Value.ref a from rx)
    obtain ⟨_, _, _, n, _, h1⟩ := (show ObjOk X.prog X.w H s.heap a (.frz ob (.lst xs)) from I.hok a _ ea)
    exact PySem.W.kia_one PySem.W.kitx_list I.kIn ⟨_, h1, rfl⟩ e (fun z => nomatch z) h
  | @tup a xs ea =>
    cases (show u = Value.ref a from rx)
    obtain ⟨_, _, _, p⟩ := (show ObjOk X.prog X.w H s.heap a (.tup xs) from I.hok a _ ea)
    obtain ⟨o, h1, h2, _⟩ := p
    exact PySem.W.kia_one PySem.W.kitx_tuple I.kIn ⟨o, h1, h2⟩ e (fun z => nomatch z) h
  | @dK a kvs ea =>
    cases (show u = Value.ref a from rx)
    obtain ⟨_, _, vs, _, p⟩ := (show ObjOk X.prog X.w H s.heap a (.dK kvs) from I.hok a _ ea)
    obtain ⟨o, es, ep, h1, h2, _⟩ := p
    exact PySem.W.kia_one PySem.W.kitx_dict I.kIn ⟨o, h1, h2.1⟩ e (fun z => nomatch z) h
  | @dT a kvs ea =>
    cases (show u = Value.ref a from rx)
    obtain ⟨_, _, xs, _, o, es, ep, h1, h2, _⟩ := (show ObjOk X.prog X.w H s.heap a (.dT kvs) from I.hok a _ ea)
    exact PySem.W.kia_one PySem.W.kitx_dict I.kIn ⟨o, h1, h2.1⟩ e (fun z => nomatch z) h
  | @ins a C dx fs ea cl ha hn htk hm =>
    cases (show u = Value.ref a from rx)
    obtain ⟨mA, O, _⟩ := ins_get I.hok ea
    obtain ⟨od, J, _⟩ := O.look
    exact PySem.W.kia_one (PySem.W.kitx_own (cl.get _) cl.hd ha hn htk hm) I.kIn J e (fun z => nomatch z) h
end
end L2
namespace L2
open PySem PySem.Spec PyProof.Rows
structure Room (k : Nat) (A : Around) : Prop where
  hd : A.handled = none
  dp : A.depth + 3 * k + 5 < recursionLimit
  un : A.units + 16 * k + 200 < cLine
  gd : A.guards = some []
theorem Room.mono {j k : Nat} {A : Around} (r : Room k A) (h : j ≤ k) : Room j A := ⟨r.hd, by have := r.dp; omega, by have := r.un; omega, r.gd⟩
theorem Room.deeper {k : Nat} {A : Around} (r : Room (k + 1) A) (env : Env) : Room k (A.deeper env) :=
  ⟨r.hd, by have := r.dp; show A.depth + 1 + 3 * k + 5 < _; omega, by have := r.un; show A.units + 3 + 16 * k + 200 < _; omega, r.gd⟩
theorem make_depth {A : Around} {C : Addr} {us : List Value} {kw : List (Str × Value)} : (A.under (.builtin "type.__call__" ⟨.ref C :: us, kw⟩)).depth = A.depth + 1 := by
  first | rfl | simp [Around.under, Code.weight, Code.isCreation, Code.isGuard, Code.isCaller, Code.frames, Code.isFrame, guardIds]
theorem make_units {A : Around} {C : Addr} {us : List Value} {kw : List (Str × Value)} : (A.under (.builtin "type.__call__" ⟨.ref C :: us, kw⟩)).units = A.units + 1 := by
  first | rfl | simp [Around.under, Code.cUnits, Code.frames, Code.isFrame]
theorem Room.make {k : Nat} {A : Around} (r : Room (k + 1) A) (C : Addr) (us : List Value) (kw : List (Str × Value)) : Room k (A.under (.builtin "type.__call__" ⟨.ref C :: us, kw⟩)) :=
  ⟨r.hd, by have := r.dp; rw [make_depth]; omega, by have := r.un; rw [make_units]; omega, by first | exact r.gd | (have := r.gd; simp [Around.under, Code.isGuard, guardIds, pushGuards, this])⟩
theorem Room.depth {k : Nat} {A : Around} (r : Room k A) : A.depth < recursionLimit := by have := r.dp; omega
theorem Room.units {k : Nat} {A : Around} (r : Room k A) : A.units + 64 < cLine := by have := r.un; omega
noncomputable def tNil : TA := fun _ H Q => Q [] H
noncomputable def tCons (ta : TE) (tr : TA) : TA := fun σ H Q => ta σ H fun x H1 => tr σ H1 fun xs H2 => Q (x :: xs) H2
section
variable {X : Cx} {e : Expr} {es : List Expr} {te : TE} {t : TA} {pos : Pos}
theorem pa_nil : PA X [] tNil := fun _ _ _ _ H Q I h => Calls.spliced_nil ⟨[], H, I, .nil, h⟩
theorem pa_cons (ha : PE X e te) (hr : PA X es t) (hs : starEach (e :: es) X.env = (false, eval e X.env) :: starEach es X.env := by rfl) : PA X (e :: es) (tCons te t) := by
  intro pos pins s σ H Q I h
  rw [hs]
  show wpAny _ _ (spliced ((false, eval e X.env) :: backTo pos (starEach es X.env))) _ _ s
  refine Calls.spliced_cons (thn (ha pins s σ H _ I h) fun u s1 zz => ?_)
  obtain ⟨x, H1, I1, r1, q1⟩ := zz
  exact thn (hr pos pins s1 σ H1 _ I1 q1) fun us s2 zz => by obtain ⟨xs, H2, I2, r2, q2⟩ := zz; exact ⟨x :: xs, H2, I2, .cons r1 r2, q2⟩
noncomputable def tTup (t : TA) : TE := fun σ H Q => t σ H fun xs H1 => xs.length ≤ sizeLine ∧ ∀ p, H1 p = none → Q (.ref p) (upd H1 p (.tup xs))
noncomputable def tLst (t : TA) : TE := fun σ H Q => t σ H fun xs H1 => xs.length ≤ sizeLine ∧ ∀ p, H1 p = none → Q (.ref p) (upd H1 p (.lst xs))
theorem pe_tup {x1} (h : PA X es t) : PE X (.Tuple es x1 pos) (tTup t) := by
  intro pins s σ H Q I hq
  refine wpAny_Tuple_spliced (thn (h pos pins s σ H _ I hq) fun us s1 ⟨xs, H1, I1, r, z, q⟩ => ⟨by rw [← r.length]; exact z, ?_⟩)
  have hf : H1 s1.heap.objs.size = none := I1.hok.fresh (Nat.le_refl _)
  refine ⟨.ref s1.heap.objs.size, upd H1 s1.heap.objs.size (.tup xs), I1.laid (t' := s1.toks) (fun b u e => Heap.get?_push_of_some _ e) (Nat.le_refl _) ?_, rfl, q _ hf⟩
  exact ⟨z, us, r, ⟨_, Heap.get?_push_size _ rfl, rfl, _, rfl⟩⟩
theorem pe_lst (h : PA X es t) : PE X (.List es pos) (tLst t) := by
  intro pins s σ H Q I hq
  refine wpAny_List_spliced (thn (h pos pins s σ H _ I hq) fun us s1 ⟨xs, H1, I1, r, z, q⟩ => ⟨by rw [← r.length]; exact z, ?_⟩)
  have hf : H1 s1.heap.objs.size = none := I1.hok.fresh (Nat.le_refl _)
  refine ⟨.ref s1.heap.objs.size, upd H1 s1.heap.objs.size (.lst xs), I1.laid (t' := s1.toks) (fun b u e => Heap.get?_push_of_some _ e) (Nat.le_refl _) ?_, rfl, q _ hf⟩
  exact ⟨z, us, 0, r, Heap.get?_push_size _ rfl⟩
end
noncomputable abbrev Sp := List V → Hp → VK → XK → Prop
noncomputable abbrev CXT := List Env → Hp → Shared → XK → Value → Shared → Prop
structure Env0 (P : Program) (w : World) (K : PySem.W.Frag) (mg : Str → Option Value) (base : Heap) (A : Around) (outer : List Env) (s : Shared) (H : Hp) : Prop where
  frames : A.frames = some outer
  mod : Mod K mg base
  bs : ∀ b o, base.get? b = some o → s.heap.get? b = some o ∧ H b = none
  bsz : base.objs.size ≤ s.heap.objs.size
  funs : s.heap.FunFrames base outer
  frf : ∀ b ∈ frs outer, H b = none
  hok : HOk P w H s.heap
  bare : AllBare s.gens
noncomputable def CE (outer : List Env) (P : Program) (w : World) (H : Hp) (s : Shared) (Q : VK) (u : Value) (s' : Shared) : Prop :=
  ∃ v H', s'.os = s.os ∧ AllBare s'.gens ∧ Un (frs outer) [] H H' s.heap s'.heap ∧ HOk P w H' s'.heap ∧ RelV v u ∧ Q v H'
noncomputable def CR (CX : CXT) (outer : List Env) (P : Program) (w : World) (H : Hp) (s : Shared) (Q : VK) (E : XK) (r : Result) (s' : Shared) : Prop :=
  match r with
  | .ok (.ret u) => CE outer P w H s Q u s'
  | .ok _ => False
  | .error e => CX outer H s E e s'
structure FnOk (P : Program) (w : World) (K : PySem.W.Frag) (mg : Str → Option Value) (base : Heap) (CX : CXT) (k : Nat) (f : Addr) (fd : FuncData) (ps : List Str) (sp : Sp) : Prop where
  len : ∀ vs H Q E, sp vs H Q E → vs.length = ps.length
  run : ∀ (A : Around) (outer : List Env) (s : Shared) (H : Hp) (args : Args) (us : List Value) (vs : List V) (Q : VK) (E : XK), Room k A → Env0 P w K mg base A outer s H → BindsTo s fd args (ps.zip us) → Vals vs us → sp vs H Q E →
    codeAny (model P w) A (.call (.ref f) args) (CR CX outer P w H s Q E) s
theorem Env0.make {P : Program} {w : World} {K : PySem.W.Frag} {mg : Str → Option Value} {base : Heap} {A : Around} {outer : List Env} {s : Shared} {H : Hp} (e : Env0 P w K mg base A outer s H) (C : Addr) (us : List Value) (kw : List (Str × Value)) :
    Env0 P w K mg base (A.under (.builtin "type.__call__" ⟨.ref C :: us, kw⟩)) outer s H := ⟨by first | exact e.frames | (simpa [Around.under, Code.envs, Code.isFrame, pushEnvs] using e.frames), e.mod, e.bs, e.bsz, e.funs, e.frf, e.hok, e.bare⟩
section
variable {X : Cx} {pins : List (Addr × Obj)} {σ : St} {H : Hp} {s s' : Shared}
theorem Inv.env0 (I : Inv X pins σ H s) : Env0 X.prog X.w X.K X.mg X.base X.A X.stack s H :=
  ⟨I.ok.frames, I.ok.mod, I.bs, Nat.le_trans I.ok.bsz I.sz, I.stack, I.stkFree, I.hok, I.bare⟩
theorem Inv.after {Q : VK} {u : Value} (I : Inv X pins σ H s) (h : CE X.stack X.prog X.w H s Q u s') : EP X pins σ Q u s' := by
  obtain ⟨v, H', os, bare, un, hok, r, q⟩ := h
  obtain ⟨hh, g, d, t, os'⟩ := s'
  obtain rfl : os' = s.os := os
  exact ⟨v, H', I.call (h' := hh) (g' := g) (d' := d) (t' := t) (ch := []) un hok bare (fun b z => absurd z (by simp)), r, q⟩
end
noncomputable def tCall (sp : Sp) (dvs : List V) (E : XK) (t : TA) : TE := fun σ H Q => t σ H fun vs H1 => sp (vs ++ dvs) H1 Q E
noncomputable def tMeth (C : Addr) (m : Str) (sp : Sp) (dvs : List V) (E : XK) (ta : TE) (t : TA) : TE := fun σ H Q => ta σ H fun x H1 => ∃ a dx fs, x = .ref a ∧ H1 a = some (.ins C dx fs) ∧ fs.lookup m = none ∧
  t σ H1 fun vs H2 => sp (x :: (vs ++ dvs)) H2 Q E
noncomputable def tMake (C : Addr) (sp : Sp) (dvs : List V) (E : XK) (t : TA) : TE := fun σ H Q => t σ H fun vs H1 => ∀ x dx, H1 x = none → H1 dx = none → dx ≠ x →
  sp (.ref x :: (vs ++ dvs)) (upd (upd H1 dx (.own x)) x (.ins C dx [])) (fun v H2 => v = .non ∧ Q (.ref x) H2) E
noncomputable def Binds (K : PySem.W.Frag) (fd : FuncData) (ps : List Str) (ds : List Value) : Prop :=
  ∀ (s : Shared) (us : List Value), K.In s.heap → (us ++ ds).length = ps.length → BindsTo s fd ⟨us, []⟩ (ps.zip (us ++ ds))
theorem Binds.all {K : PySem.W.Frag} {fd : FuncData} {ps : List Str} (h : ∀ us : List Value, us.length = ps.length → bindArgs fd ⟨us, []⟩ = pure (ps.zip us)) : Binds K fd ps [] := fun s us _ hl => by
  rw [List.append_nil] at hl ⊢
  exact .of_eq (h us hl)
noncomputable def Passes (CX : CXT) (X : Cx) (E : XK) : Prop := ∀ (pins : List (Addr × Obj)) (σ : St) (H : Hp) (s : Shared) (e : Value) (s' : Shared), Inv X pins σ H s → CX X.stack H s E e s' → X.xe e s'
section
variable {X : Cx} {CX : CXT} {k : Nat} {f C : Addr} {fd : FuncData} {ps : List Str} {sp : Sp} {dvs : List V} {ds : List Value} {E : XK} {x m : Str} {p pos apos : Pos} {e o : Expr} {es : List Expr} {ta : TE} {t : TA}
theorem run_fn {pins : List (Addr × Obj)} {σ : St} {H : Hp} {s : Shared} {Q : VK} {us : List Value} {vs : List V} (F : FnOk X.prog X.w X.K X.mg X.base CX k f fd ps sp) (hr : Room k X.A) (hb : Binds X.K fd ps ds) (hd : Vals dvs ds) (hx : Passes CX X E)
    (I : Inv X pins σ H s) (r : Vals vs us) (h : sp (vs ++ dvs) H Q E) : wpAny (model X.prog X.w) X.A (call (.ref f) us) (EP X pins σ Q) X.xe s := by
  have r2 : Vals (vs ++ dvs) (us ++ ds) := r.append hd
  have hl : (us ++ ds).length = ps.length := by rw [← r2.length]; exact F.len _ _ _ _ h
  refine wpAny_call (codeAny_mono (F.run X.A X.stack s H ⟨us, []⟩ (us ++ ds) (vs ++ dvs) Q E hr I.env0 (hb s us I.kIn hl) r2 h) fun r s' hq => ?_)
  cases r with
  | error e => exact hx pins σ H s e s' I hq
  | ok fl =>
    cases fl with
    | ret u => exact I.after hq
    | next => exact False.elim hq
    | brk => exact False.elim hq
    | cont => exact False.elim hq
theorem pe_call (F : FnOk X.prog X.w X.K X.mg X.base CX k f fd ps sp) (hr : Room k X.A) (hg : Gl X x) (hm : X.mg x = some (.ref f)) (hk : PySem.W.keepIn X.K (.ref f) = true) (hb : Binds X.K fd ps ds) (hd : Vals dvs ds) (hx : Passes CX X E)
    (ha : PA X (e :: es) t) (hdb : (x == ("__debug__" : Str)) = false := by decide) (he : starEach (e :: es) X.env = (false, eval e X.env) :: starEach es X.env := by rfl) (hpl : (backTo pos (starEach es X.env)).any (·.1) = false := by rfl) :
    PE X (.Call (.Name x p) (e :: es) [] pos) (tCall sp dvs E t) := by
  intro pins s σ H Q I h
  refine wpAny_Call_Name_kw (ld_glob I hg hm ?_ hdb)
  refine PySem.W.callWith_K (h₀ := X.base) I.ok.mod.kin hk (thn (ha pos pins s σ H _ I h) fun us s1 ⟨vs, H1, I1, r, q⟩ => ⟨I1.kIn, ?_⟩) he hpl
  exact run_fn F hr hb hd hx I1 r q
structure Mk (K : PySem.W.Frag) (C f : Addr) : Prop where
  makes : PySem.W.makesIn K C = true
  init : PySem.W.findIn K (.ref C) "__init__" = some (some (.ref f))
  fn : PySem.W.isFn K (.ref f) = true
  kp : PySem.W.keepIn K (.ref C) = true
end
noncomputable def PK (X : Cx) (kws : List Keyword) (t : TA) : Prop :=
  ∀ (pos : Pos) (pins : List (Addr × Obj)) (s : Shared) (σ : St) (H : Hp) (Q : List V → Hp → Prop), Inv X pins σ H s → t σ H Q → wpAny (model X.prog X.w) X.A (evalAll ((backToKw pos (keywordEach kws X.env)).map (·.2))) (AP X pins σ Q) X.xe s
section
variable {X : Cx} {CX : CXT} {k : Nat} {f C : Addr} {fd : FuncData} {ps ks : List Str} {sp : Sp} {E : XK} {x m : Str} {p pos apos kpos : Pos} {e o : Expr} {es : List Expr} {kws : List Keyword} {te ta : TE} {t tk : TA} {nm : Option Str}
structure KBinds (K : PySem.W.Frag) (fd : FuncData) (ps ks : List Str) (g : List Value → List Value → List Value) (gV : List V → List V → List V) : Prop where
  to : ∀ (s : Shared) (us ws : List Value), K.In s.heap → (g us ws).length = ps.length → BindsTo s fd ⟨us, ks.zip ws⟩ (ps.zip (g us ws))
  rel : ∀ {vs : List V} {us : List Value} {zs : List V} {ws : List Value}, Vals vs us → Vals zs ws → Vals (gV vs zs) (g us ws)
noncomputable def tCallK (sp : Sp) (gV : List V → List V → List V) (E : XK) (t tk : TA) : TE := fun σ H Q => t σ H fun vs H1 => tk σ H1 fun zs H2 => sp (gV vs zs) H2 Q E
variable {g : List Value → List Value → List Value} {gV : List V → List V → List V}
end
structure FnScope (N P : List Str) (sc : Scope) : Prop where
  kind : sc.kind = .function
  co : sc.isCoroutine = false
  gen : sc.isGenerator = false
  nd : N.Nodup
  pre : N.take P.length = P
  par : ∀ x ∈ P, sc.names.lookup x = some .local ∨ sc.names.lookup x = some .cell
  nofree : ∀ y ∈ sc.names, y.2 ≠ .free
theorem bindL_out {kindOf : Str → Option NameKind} {x : Str} : ∀ {binds : List (Str × Value)} {m : Str → Option Value}, (∀ v, (x, v) ∉ binds) → bindL kindOf binds m x = m x
  | [], _, _ => rfl
  | (n, v) :: r, m, h => by
    unfold bindL
    rw [bindL_out fun w hw => h w (List.mem_cons_of_mem _ hw)]
    split
    · have : x ≠ n := by rintro rfl; exact h v List.mem_cons_self
      simp [this]
    · rfl
theorem bindC_out {kindOf : Str → Option NameKind} {x : Str} : ∀ {binds : List (Str × Value)} {m : Str → Option Value}, (∀ v, (x, v) ∉ binds) → bindC kindOf binds m x = m x
  | [], _, _ => rfl
  | (n, v) :: r, m, h => by
    unfold bindC
    rw [bindC_out fun w hw => h w (List.mem_cons_of_mem _ hw)]
    split
    · rfl
    · have : x ≠ n := by rintro rfl; exact h v List.mem_cons_self
      simp [this]
theorem bindL_get {kindOf : Str → Option NameKind} {x : Str} {v : Value} : ∀ {P : List Str} {vs : List Value} {i : Nat} {m : Str → Option Value}, P.Nodup → P[i]? = some x → vs[i]? = some v → kindOf x = some .local →
    bindL kindOf (P.zip vs) m x = some v
  | [], _, _, _, _, h, _, _ => by simp at h
  | _ :: _, [], _, _, _, _, h, _ => by simp at h
  | p :: P, w :: vs, 0, m, nd, h1, h2, hk => by
    simp at h1 h2; subst h1; subst h2
    show bindL kindOf ((p, w) :: P.zip vs) m p = _
    unfold bindL
    rw [bindL_out fun v hv => (List.nodup_cons.mp nd).1 (List.of_mem_zip hv).1, if_pos hk]
    simp
  | p :: P, w :: vs, i + 1, m, nd, h1, h2, hk => by
    show bindL kindOf ((p, w) :: P.zip vs) m x = _
    unfold bindL
    exact bindL_get (i := i) (List.nodup_cons.mp nd).2 (by simpa using h1) (by simpa using h2) hk
theorem bindC_get {kindOf : Str → Option NameKind} {x : Str} {v : Value} : ∀ {P : List Str} {vs : List Value} {i : Nat} {m : Str → Option Value}, P.Nodup → P[i]? = some x → vs[i]? = some v → kindOf x ≠ some .local →
    bindC kindOf (P.zip vs) m x = some v
  | [], _, _, _, _, h, _, _ => by simp at h
  | _ :: _, [], _, _, _, _, h, _ => by simp at h
  | p :: P, w :: vs, 0, m, nd, h1, h2, hk => by
    simp at h1 h2; subst h1; subst h2
    show bindC kindOf ((p, w) :: P.zip vs) m p = _
    unfold bindC
    rw [bindC_out fun v hv => (List.nodup_cons.mp nd).1 (List.of_mem_zip hv).1, if_neg hk]
    simp
  | p :: P, w :: vs, i + 1, m, nd, h1, h2, hk => by
    show bindC kindOf ((p, w) :: P.zip vs) m x = _
    unfold bindC
    exact bindC_get (i := i) (List.nodup_cons.mp nd).2 (by simpa using h1) (by simpa using h2) hk
noncomputable def start (N : List Str) (vs : List V) : St := vs.map some ++ List.replicate (N.length - vs.length) none
noncomputable def cxOf (CX : CXT) (P : Program) (w : World) (K : PySem.W.Frag) (mg : Str → Option Value) (base : Heap) (N : List Str) (qual : Str) (scope : Scope) (f : Addr) (cd : Value) (A : Around) (outer : List Env) (s : Shared) (H : Hp) (E : XK) : Cx where
  prog := P
  w := w
  K := K
  mg := mg
  base := base
  A := A.deeper (envOfC qual scope s.heap.objs.size f cd)
  N := N
  s₀ := s
  H₀ := H
  env := envOfC qual scope s.heap.objs.size f cd
  outer := outer
  stack := envOfC qual scope s.heap.objs.size f cd :: outer
  ex := []
  calm := true
  fn := fun _ => true
  pn := []
  xe := fun e s' => wpAny (model P w) (A.deeper (envOfC qual scope s.heap.objs.size f cd)) (leaving (envOfC qual scope s.heap.objs.size f cd) e) (fun _ s'' => CX outer H s E e s'') (fun e' s'' => CX outer H s E e' s'') s'
theorem cell_has {sc : Scope} {n : Nat} {x : Str} (h : sc.names.lookup x = some .cell) : ∃ c, (cellsFrom n sc.names []).lookup x = some c := by
  have q := PySem.W.cellsFrom_some sc.names n [] (.inl h)
  exact Option.isSome_iff_exists.mp q
theorem inv_start {CX : CXT} {P : Program} {w : World} {K : PySem.W.Frag} {mg : Str → Option Value} {base : Heap} {N ps : List Str} {qual : Str} {scope : Scope} {f : Addr} {cd : Value} {A : Around} {outer : List Env} {s s1 : Shared} {H : Hp} {E : XK} {us : List Value} {vs : List V}
    (S : FnScope N ps scope) (hd : A.handled = none) (e0 : Env0 P w K mg base A outer s H) (hl : vs.length = ps.length) (r : Vals vs us)
    (x : InCallC s s.heap.objs.size (bindL (envOfC qual scope s.heap.objs.size f cd).kindOf (ps.zip us) fun _ => none) (cellsFrom (s.heap.objs.size + 1) scope.names []) (bindC (envOfC qual scope s.heap.objs.size f cd).kindOf (ps.zip us) fun _ => none) s1) :
    Inv (cxOf CX P w K mg base N qual scope f cd A outer s H E) [] (start N vs) H s1 := by
  have hpl : ps.length ≤ N.length := by have := congrArg List.length S.pre; rw [List.length_take] at this; omega
  obtain ⟨h1, tk, rfl, hk⟩ := x.done
  have noA : ∀ b : Addr, b ∉ (cxOf CX P w K mg base N qual scope f cd A outer s H E).ex := fun b z => absurd (show b ∈ ([] : List Addr) from z) (by simp)
  refine ⟨⟨e0.mod, S.kind, rfl, rfl, Nat.le_refl _, fun y z c h1 h2 => ?_, fun y hy => ?_, fun y c _ h => ?_, fun _ => hd, Around.frames_deeper e0.frames, .inr ⟨rfl, rfl⟩, fun b z => absurd z (noA b), e0.bs, e0.bsz, fun b _ _ => noA b, fun b z => absurd z (noA b), e0.funs, e0.frf⟩,
    rfl, e0.bare, Un.kept hk, ⟨_, x.toInCall.ns, fun i y v h1 h2 h3 => ?_⟩, fun y c h => ⟨_, x.cell y c h⟩, e0.hok.fresh (Nat.le_refl _), fun y c h => ?_, fun p hp => absurd (show p ∈ ([] : List (Addr × Obj)) from hp) (by simp), e0.hok.kept hk, ?_⟩
  · exact name_of_addr x.apart (PySem.mem_of_lookup h1) (PySem.mem_of_lookup h2)
  · have hy : scope.names.lookup y = some .cell ∨ scope.names.lookup y = some .free := hy
    rcases hy with hy | hy
    · exact cell_has hy
    · exact absurd rfl (S.nofree _ (PySem.mem_of_lookup hy))
  · exact Nat.le_of_lt (x.above y c (PySem.mem_of_lookup h))
  · have hi : i < vs.length := by
      unfold start at h2
      by_cases hi : i < vs.length
      · exact hi
      · rw [List.getElem?_append_right (by simpa using hi)] at h2
        rw [List.getElem?_replicate] at h2
        split at h2 <;> cases h2
    have ha : vs[i]? = some v := by
      unfold start at h2
      rw [List.getElem?_append_left (by simpa using hi), List.getElem?_map] at h2
      cases e : vs[i]? with
      | none => rw [e] at h2; cases h2
      | some a => rw [e] at h2; cases h2; rfl
    obtain ⟨u, hu, rv⟩ := r.get ha
    have hp : ps[i]? = some y := by
      rw [← S.pre, List.getElem?_take_of_lt (by omega)]; exact h1
    have ndP : ps.Nodup := by rw [← S.pre]; exact S.nd.sublist (List.take_sublist _ _)
    refine ⟨u, rv, ?_⟩
    rcases S.par y (List.mem_of_getElem? hp) with k | k
    · exact .inl ⟨k, bindL_get ndP hp hu k⟩
    · obtain ⟨c, e⟩ := cell_has (n := s.heap.objs.size + 1) k
      refine .inr ⟨.inl k, c, e, ?_⟩
      have q := x.cell y c e
      rw [bindC_get ndP hp hu (by show scope.names.lookup y ≠ _; rw [k]; decide)] at q
      exact q
  · exact e0.hok.fresh (Nat.le_of_lt (x.above y c (PySem.mem_of_lookup h)))
  · unfold start
    show _ = N.length
    rw [List.length_append, List.length_map, List.length_replicate]
    omega
theorem fn_of {CX : CXT} {P : Program} {w : World} {K : PySem.W.Frag} {mg : Str → Option Value} {base : Heap} {k : Nat} {f : Addr} {name qual : Str} {params : Arguments} {body : List Stmt} {scope : Scope} {dV kV doc pm cdv ct oc : Value} {an od : Option Addr}
    {osl : Array (Option Value)} {N ps : List Str} {sp : Sp} (lk : K.lookup f = some ⟨oc, od, .func (PySem.W.fnOf name qual params body scope dV kV doc pm an cdv ct), osl⟩) (hcd : PySem.W.codeIn K cdv qual = true) (S : FnScope N ps scope)
    (len : ∀ vs H Q E, sp vs H Q E → vs.length = ps.length)
    (hbody : ∀ (A : Around) (outer : List Env) (s : Shared) (H : Hp) (vs : List V) (Q : VK) (E : XK), Room k (A.deeper (envOfC qual scope s.heap.objs.size f cdv)) → sp vs H Q E →
      ∃ t, PSs (cxOf CX P w K mg base N qual scope f cdv A outer s H E) body t ∧ t { nx := fun _ H' => Q .non H', rt := Q } (start N vs) H) :
    FnOk P w K mg base CX (k + 1) f (PySem.W.fnOf name qual params body scope dV kV doc pm an cdv ct) ps sp := by
  refine ⟨len, fun A outer s H args us vs Q E hr e0 hb r hsp => ?_⟩
  have hl := len _ _ _ _ hsp
  have KX : K.In s.heap := e0.mod.kin.keeps fun b o e => (e0.bs b o e).1
  have lim : s.heap.NoLimit := e0.mod.nolimit.keeps fun b o e => (e0.bs b o e).1
  have hkind : ∀ y ∈ ps.zip us, scope.names.lookup y.1 = some .local ∨ (scope.names.lookup y.1 = some .cell ∧ ((cellsFrom (s.heap.objs.size + 1) scope.names []).lookup y.1).isSome = true) := fun ⟨n, v⟩ hy => by
    rcases S.par n (List.of_mem_zip hy).1 with q | q
    · exact .inl q
    · exact .inr ⟨q, PySem.W.cellsFrom_some _ _ _ (.inl q)⟩
  refine codeAny_call_function hr.depth (KX _ _ lk) rfl S.co S.gen rfl (PySem.W.codeRec_of KX hcd) (hb _ _ _ _ ?_)
  refine wpAny_newFunctionEnv_cells S.kind hkind fun env he s1 x => ?_
  subst he
  refine ⟨lim.keeps x.toInCall.keep, codeAny_func ?_⟩
  obtain ⟨t, ht, hq⟩ := hbody A outer s H vs Q E (hr.deeper _) hsp
  have I : Inv (cxOf CX P w K mg base N qual scope f cdv A outer s H E) [] (start N vs) H s1 := inv_start S hr.hd e0 hl r x
  refine wpAny_mono (ht [] s1 (start N vs) H _ I hq) (fun fl s' hs => ?_) fun e s' hs => hs
  have fin : ∀ {σ' : St} {H' : Hp} {v : V} {u : Value}, Inv (cxOf CX P w K mg base N qual scope f cdv A outer s H E) [] σ' H' s' → RelV v u → Q v H' → CE outer P w H s Q u s' :=
    fun {σ' H' v u} J rv q => ⟨v, H', J.os, J.bare, J.base, J.hok, rv, q⟩
  cases fl with
  | ret u =>
    obtain ⟨v, σ', H', J, rv, q⟩ := hs
    exact fin J rv q
  | next =>
    obtain ⟨σ', H', J, q⟩ := hs
    exact fin (v := V.non) (u := Value.none) J rfl q
  | brk =>
    obtain ⟨_, _, _, q⟩ := hs
    exact False.elim q
  | cont =>
    obtain ⟨_, _, _, q⟩ := hs
    exact False.elim q
end L2
namespace L2
open PySem PySem.Spec PyProof.Rows
section
variable {X : Cx} {x : Str} {p pos : Pos} {e : Expr} {es : List Expr} {t : TA} {id T : String} {r : List V → Hp → VK → Prop}
noncomputable def tCB (r : List V → Hp → VK → Prop) (t : TA) : TE := fun σ H Q => t σ H fun vs H1 => r vs H1 Q
theorem pe_callB (hc : CallR X (.builtin id) r) (hg : Gl X x) (hm : X.mg x = none) (hv : bootBuiltins x = some (.builtin id)) (ha : PA X (e :: es) t) (hn : x ≠ "__name__" := by decide) (hdb : (x == ("__debug__" : Str)) = false := by decide)
    (he : starEach (e :: es) X.env = (false, eval e X.env) :: starEach es X.env := by rfl) (hpl : (backTo pos (starEach es X.env)).any (·.1) = false := by rfl) : PE X (.Call (.Name x p) (e :: es) [] pos) (tCB r t) := by
  intro pins s σ H Q I h
  refine wpAny_Call_Name_kw (ld_blt I hg hm hv ?_ hn hdb)
  exact PyProof.Rows.callWith_builtin1 (thn (ha pos pins s σ H _ I h) fun us s1 zz => by obtain ⟨vs, H1, I1, r1, q1⟩ := zz; exact hc pins s1 σ H1 vs us Q I1 r1 q1) he hpl
theorem pe_callTy (hc : CallR X (.type T) r) (hg : Gl X x) (hm : X.mg x = none) (hv : bootBuiltins x = some (.type T)) (ha : PA X (e :: es) t) (hn : x ≠ "__name__" := by decide) (hdb : (x == ("__debug__" : Str)) = false := by decide)
    (he : starEach (e :: es) X.env = (false, eval e X.env) :: starEach es X.env := by rfl) (hpl : (backTo pos (starEach es X.env)).any (·.1) = false := by rfl) : PE X (.Call (.Name x p) (e :: es) [] pos) (tCB r t) := by
  intro pins s σ H Q I h
  refine wpAny_Call_Name_kw (ld_blt I hg hm hv ?_ hn hdb)
  exact PyProof.Rows.callWith_type1 (thn (ha pos pins s σ H _ I h) fun us s1 zz => by obtain ⟨vs, H1, I1, r1, q1⟩ := zz; exact hc pins s1 σ H1 vs us Q I1 r1 q1) he hpl
end
end L2
namespace HT
open PySem PyProof.Rows
noncomputable def lexLt : List Int → List Int → Bool
  | [], [] => false
  | [], _ :: _ => true
  | _ :: _, [] => false
  | x :: xs, y :: ys => if x = y then lexLt xs ys else decide (x < y)
section
open PySem.SeqAt
open PySem.AutoSeq1 (wpAny_loadPart')
open PySem.MeetsSeq PySem.MeetsSeq2 PySem.MeetsSeq3
end
section
variable {prog : Program} {w : World} {A : Around} {E : Value → Shared → Prop} {s : Shared}
noncomputable def sIx (n d : Nat) : Option Int → Nat
  | none => d
  | some v => if v < 0 then (v + (n : Int)).toNat else min v.toNat n
theorem sIx_none (n d : Nat) : sIx n d none = d := rfl
theorem sIx_nat (n d k : Nat) : sIx n d (some (k : Int)) = min k n := by
  show (if (k : Int) < 0 then ((k : Int) + (n : Int)).toNat else min (k : Int).toNat n) = min k n
  rw [if_neg (by omega), Int.toNat_natCast]
end
end HT
namespace L2
open PySem PySem.Spec PyProof.Rows
noncomputable abbrev TO := St → Hp → (Option Int → Hp → Prop) → Prop
noncomputable def PO (X : Cx) (e : Option Expr) (t : TO) : Prop :=
  ∀ (pins : List (Addr × Obj)) (s : Shared) (σ : St) (H : Hp) (Q : Option Int → Hp → Prop), Inv X pins σ H s → t σ H Q →
    wpAny (model X.prog X.w) X.A (evalPart e X.env) (fun u s' => ∃ o H', Inv X pins σ H' s' ∧ IsPart u o ∧ Q o H') X.xe s
noncomputable def tNoPart : TO := fun _ H Q => Q none H
noncomputable def tPart (t : TE) : TO := fun σ H Q => t σ H fun x H1 => ∃ i, x = .int i ∧ Q (some i) H1
section
variable {X : Cx} {e : Expr} {te : TE} {lo hi : Option Expr} {tl th : TO} {pos p2 : Pos}
theorem po_none : PO X none tNoPart := by
  intro pins s σ H Q I h
  rw [evalPart_none]
  exact wpAny_pure ⟨none, H, I, .none, h⟩
theorem po_some (h : PE X e te) : PO X (some e) (tPart te) := by
  intro pins s σ H Q I hw
  rw [evalPart_some]
  refine thn (h pins s σ H _ I hw) fun u s1 zz => ?_
  obtain ⟨x, H1, I1, r1, q1⟩ := zz
  obtain ⟨i, rfl, q⟩ := q1
  obtain ⟨t, rfl⟩ := r1
  exact ⟨some i, H1, I1, .int i t, q⟩
noncomputable def SlR (X : Cx) (r : V → Option Int → Option Int → Hp → VK → Prop) : Prop :=
  ∀ (pins : List (Addr × Obj)) (s : Shared) (σ : St) (H : Hp) (x : V) (v vl vu : Value) (lo hi : Option Int) (sl : Addr) (Q : VK), Inv X pins σ H s → RelV x v → s.heap.IsSliceOf sl vl vu .none → IsPart vl lo → IsPart vu hi → r x lo hi H Q →
    ∃ T id, typeLookup (.type T) "__getitem__" = pure (some (.builtin id)) ∧ s.TypeIs v T ∧ wpAny (model X.prog X.w) X.A (getItem v (.ref sl)) (EP X pins σ Q) X.xe s
noncomputable def tSl (r : V → Option Int → Option Int → Hp → VK → Prop) (te : TE) (tl th : TO) : TE := fun σ H Q => te σ H fun x H1 => tl σ H1 fun l H2 => th σ H2 fun u H3 => r x l u H3 Q
theorem pe_slice {r : V → Option Int → Option Int → Hp → VK → Prop} (hr : SlR X r) (he : PE X e te) (hl : PO X lo tl) (hu : PO X hi th) : PE X (.Subscript e (.Slice lo hi none p2) pos) (tSl r te tl th) := by
  intro pins s σ H Q I h
  refine Subscript_ (thn (he pins s σ H _ I h) fun v s1 zz => ?_)
  obtain ⟨x, H1, I1, r1, q1⟩ := zz
  refine wpAny_Slice (thn (hl pins s1 σ H1 _ I1 q1) fun vl s2 ⟨l, H2, I2, pl, q2⟩ => thn (hu pins s2 σ H2 _ I2 q2) fun vu s3 zz => ?_)
  obtain ⟨u, H3, I3, pu, q3⟩ := zz
  rw [evalPart_none]
  refine wpAny_pure ?_
  have I4 : Inv X pins σ H3 { s3 with heap := s3.heap.push { cls := .type "slice", data := .fields #[vl, vu, .none] } } := I3.kept (t' := s3.toks) fun b ob q => Heap.get?_push_of_some _ q
  obtain ⟨T, id, hT, ht, hg⟩ := hr pins { s3 with heap := s3.heap.push { cls := .type "slice", data := .fields #[vl, vu, .none] } } σ H3 x v vl vu l u s3.heap.objs.size Q I4 r1 (Heap.IsSliceOf.new ..) pl pu q3
  show wpAny (model X.prog X.w) X.A (subscriptTail e (.Slice lo hi none p2) v (.ref s3.heap.objs.size)) (EP X pins σ Q) X.xe { s3 with heap := s3.heap.push { cls := .type "slice", data := .fields #[vl, vu, .none] } }
  exact tail_any (ops := [.ref s3.heap.objs.size, v]) ht hT hg (by with_unfolding_all rfl)
noncomputable def cutV (xs : List V) (lo hi : Option Int) : List V := (xs.drop (HT.sIx xs.length 0 lo)).take (HT.sIx xs.length xs.length hi - HT.sIx xs.length 0 lo)
theorem cutV_length (xs : List V) (lo hi : Option Int) : (cutV xs lo hi).length ≤ xs.length := by
  unfold cutV
  rw [List.length_take, List.length_drop]
  omega
noncomputable def rSlT (K : PySem.W.Frag) : V → Option Int → Option Int → Hp → VK → Prop := fun x lo hi H Q => ∃ a xs, x = .ref a ∧ SqT K H a xs ∧
  ¬ (HT.sIx xs.length 0 lo = 0 ∧ HT.sIx xs.length xs.length hi = xs.length) ∧ ∀ p, H p = none → Q (.ref p) (upd H p (.tup (cutV xs lo hi)))
noncomputable def rLtT (K : PySem.W.Frag) : R2 := fun x y H Q => ∃ a b ns ms, x = .ref a ∧ y = .ref b ∧ SqT K H a (ns.map V.int) ∧ SqT K H b (ms.map V.int) ∧ Q (.bl (HT.lexLt ns ms)) H
noncomputable def rCatT (K : PySem.W.Frag) : R2 := fun x y H Q => ∃ a b xs ys, x = .ref a ∧ y = .ref b ∧ SqT K H a xs ∧ SqT K H b ys ∧ xs ≠ [] ∧ xs.length + ys.length ≤ sizeLine ∧
  (ys = [] → Q (.ref a) H) ∧ (ys ≠ [] → ∀ p, H p = none → Q (.ref p) (upd H p (.tup (xs ++ ys))))
end
end L2
namespace L2
open PySem PySem.Spec PyProof.Rows
noncomputable def ixN (n : Nat) (i : Int) : Option Nat := if 0 ≤ i then (if i < n then some i.toNat else none) else if -(n : Int) ≤ i then some (i + n).toNat else none
noncomputable def atI {α : Type} (xs : List α) (i : Int) : Option α := (ixN xs.length i).bind fun j => xs[j]?
theorem ixN_seq {n : Nat} {i : Int} {j : Nat} (h : ixN n i = some j) : seqIndex? i n = some j ∧ j < n ∧ -(n : Int) ≤ i ∧ i < n := by
  unfold ixN at h
  by_cases h0 : 0 ≤ i
  · rw [if_pos h0] at h
    by_cases h1 : i < n
    · rw [if_pos h1] at h
      have e : i.toNat = j := Option.some.inj h
      exact ⟨by rw [seqIndex_of h0 h1, e], by omega, by omega, h1⟩
    · rw [if_neg h1] at h; cases h
  · rw [if_neg h0] at h
    by_cases h1 : -(n : Int) ≤ i
    · rw [if_pos h1] at h
      have e : (i + n).toNat = j := Option.some.inj h
      exact ⟨by rw [seqIndex_neg (by omega) h1, e], by omega, h1, by omega⟩
    · rw [if_neg h1] at h; cases h
theorem atI_get {α : Type} {xs : List α} {i : Int} {v : α} (h : atI xs i = some v) : ∃ j, seqIndex? i xs.length = some j ∧ xs[j]? = some v ∧ j < xs.length ∧ -(xs.length : Int) ≤ i ∧ i < xs.length := by
  unfold atI at h
  cases e : ixN xs.length i with
  | none => rw [e] at h; cases h
  | some j =>
    rw [e] at h
    obtain ⟨h1, h2, h3, h4⟩ := ixN_seq e
    exact ⟨j, h1, h, h2, h3, h4⟩
theorem atI_nat {α : Type} {xs : List α} {j : Nat} {v : α} (h : xs[j]? = some v) : atI xs (j : Int) = some v := by
  have hj : j < xs.length := (List.getElem?_eq_some_iff.mp h).1
  have e : ixN xs.length (j : Int) = some j := by
    unfold ixN
    rw [if_pos (by omega), if_pos (by omega)]; simp
  unfold atI; rw [e]; exact h
noncomputable def PlainIx (b : Expr) : Prop := ∀ o i, subscripted b false o i = operate [o, i] (getItem o i)
noncomputable def IxR (X : Cx) (r : R2) : Prop :=
  ∀ (value slice : Expr) (pins : List (Addr × Obj)) (s : Shared) (σ : St) (H : Hp) (x y : V) (v u : Value) (Q : VK), Inv X pins σ H s → RelV x v → RelV y u → r x y H Q →
    subscripted slice false v u = operate [v, u] (getItem v u) → wpAny (model X.prog X.w) X.A (subscriptTail value slice v u) (EP X pins σ Q) X.xe s
noncomputable def MtR (X : Cx) (id : String) (r : V → List V → Hp → VK → Prop) : Prop :=
  ∀ (pins : List (Addr × Obj)) (s : Shared) (σ : St) (H : Hp) (x : V) (xs : List V) (v : Value) (us : List Value) (Q : VK), Inv X pins σ H s → RelV x v → Vals xs us → r x xs H Q →
    wpAny (model X.prog X.w) X.A (call (.builtin id) (v :: us)) (EP X pins σ Q) X.xe s
section
variable {X : Cx} {a b : Expr} {ta tb : TE} {pos : Pos}
theorem pe_ix {r : R2} (hr : IxR X r) (ha : PE X a ta) (hb : PE X b tb) (hs : PlainIx b) : PE X (.Subscript a b pos) (tOp r ta tb) := by
  intro pins s σ H Q I h
  exact Subscript_ (binT ha hb I h fun v u s2 x y H2 I2 rx ry q => hr a b pins s2 σ H2 x y v u Q I2 rx ry q (hs _ _))
noncomputable def rIxL (K : PySem.W.Frag) : R2 := fun x y H Q => ∃ p xs i v, x = .ref p ∧ y = .int i ∧ SqL K H p xs ∧ atI xs i = some v ∧ Q v H
noncomputable def rIxT (K : PySem.W.Frag) : R2 := fun x y H Q => ∃ p xs i v, x = .ref p ∧ y = .int i ∧ SqT K H p xs ∧ atI xs i = some v ∧ Q v H
noncomputable def rIxS : R2 := fun x y H Q => ∃ z i c, x = .str z ∧ y = .int i ∧ z.length ≤ sizeLine ∧ atI z.cps.toList i = some c ∧ Q (.str ⟨#[c]⟩) H
theorem ix_list : IxR X (rIxL X.K) := by
  intro value slice pins s σ H x y v u Q I rx ry h hs
  obtain ⟨p, xs, i, z, rfl, rfl, hq, he, q⟩ := h
  cases rx
  obtain ⟨t, rfl⟩ := ry
  obtain ⟨its, r, pl, hz⟩ := I.list hq
  obtain ⟨j, h1, h2, h3, h4, h5⟩ := atI_get he
  obtain ⟨w, ew, rw'⟩ := r.get h2
  have hl := r.length
  have hn := line63
  have fin : EP X pins σ Q w s := ⟨z, H, I, rw', q⟩
  by_cases h0 : 0 ≤ i
  · have hj : i.toNat = j := by
      rw [seqIndex_of h0 h5] at h1
      exact Option.some.inj h1
    exact item_listR pl.isList h0 (by omega) (by rw [hj]; simpa using ew) fin hs
  · have hj : (i + (its.toArray.size : Int)).toNat = j := by
      rw [seqIndex_neg (by omega) h4] at h1
      rw [List.size_toArray, ← hl]
      exact Option.some.inj h1
    exact subscriptTail_builtinR (x := w) pl.isList.typeIs slot_list_getitem.lookup
      (wpAny_getItem_list_neg (Q := fun r s' => r = w ∧ EP X pins σ Q r s') pl.isList (by omega) (by rw [List.size_toArray] <;> omega) (by omega) (by rw [hj]; simpa using ew) ⟨rfl, fin⟩) hs
theorem ix_tup : IxR X (rIxT X.K) := by
  intro value slice pins s σ H x y v u Q I rx ry h hs
  obtain ⟨p, xs, i, z, rfl, rfl, hq, he, q⟩ := h
  cases rx
  obtain ⟨t, rfl⟩ := ry
  obtain ⟨its, r, pl, hz⟩ := I.tuple hq
  obtain ⟨j, h1, h2, h3, h4, h5⟩ := atI_get he
  obtain ⟨w, ew, rw'⟩ := r.get h2
  have hl := r.length
  have hn := line63
  have fin : EP X pins σ Q w s := ⟨z, H, I, rw', q⟩
  exact subscriptTail_builtinR (x := w) pl.typeIs slot_tuple_getitem.lookup
    (getItem_tuple (j := j) (Q := fun r s' => r = w ∧ EP X pins σ Q r s') pl (by omega) (by omega) (by rw [List.size_toArray, ← hl]; exact h1) (by simpa using ew) ⟨rfl, fin⟩) hs
theorem ix_str : IxR X rIxS := by
  intro value slice pins s σ H x y v u Q I rx ry h hs
  obtain ⟨z, i, c, rfl, rfl, hz, he, q⟩ := h
  obtain ⟨t, rfl⟩ := rx
  obtain ⟨t', rfl⟩ := ry
  obtain ⟨j, h1, h2, h3, h4, h5⟩ := atI_get he
  have hl : z.cps.toList.length = z.length := by simp [Str.length]
  rw [hl] at h1 h4 h5
  have hn := line63
  exact tail_any (typeIs_str s z t) slot_str_getitem.lookup (getItem_str (c := c) (by
    have e1 : decide (i < -(2 ^ 63 : Int)) = false := decide_eq_false (by omega)
    have e2 : decide (i ≥ 2 ^ 63) = false := decide_eq_false (by omega)
    rw [e1, e2, Bool.or_false]) (by rw [h1]; simpa using h2) ⟨.str ⟨#[c]⟩, H, I.tok _, ⟨_, rfl⟩, q⟩) hs
noncomputable def rIx (K : PySem.W.Frag) : R2 := fun x y H Q => rIxL K x y H Q ∨ rIxT K x y H Q ∨ rIxS x y H Q
theorem mapSeq_set (its : List Value) (n j : Nat) (u : Value) : Obj.mapSeq (·.setIfInBounds j u) { cls := .type "list", data := .seq its.toArray n } = { cls := .type "list", data := .seq (its.set j u).toArray n } := by
  simp [Obj.mapSeq]
theorem Inv.lst {pins : List (Addr × Obj)} {σ : St} {H : Hp} {s : Shared} {p : Addr} {xs : List V} (I : Inv X pins σ H s) (h : H p = some (.lst xs)) :
    ∃ (its : List Value) (n : Nat), Vals xs its ∧ s.heap.get? p = some { cls := .type "list", data := .seq its.toArray n } ∧ xs.length ≤ sizeLine := by
  obtain ⟨z, its, n, r, e⟩ := I.hok p _ h
  exact ⟨its, n, r, e, z⟩
theorem Inv.lstUpd {pins : List (Addr × Obj)} {σ : St} {H : Hp} {s : Shared} {p : Addr} {xs ys : List V} {its its' : List Value} {n n' : Nat} {f : Obj → Obj} (I : Inv X pins σ H s) (h : H p = some (.lst xs))
    (ho : s.heap.get? p = some { cls := .type "list", data := .seq its.toArray n }) (hf : f { cls := .type "list", data := .seq its.toArray n } = { cls := .type "list", data := .seq its'.toArray n' }) (r : Vals ys its') (hz : ys.length ≤ sizeLine) (t : Nat) :
    Inv X pins σ (upd H p (.lst ys)) { s with heap := s.heap.update p f, toks := t } := by
  have e : (s.heap.update p f).get? p = some { cls := .type "list", data := .seq its'.toArray n' } := by
    rw [Heap.get?_update_self f ho (by rw [hf] <;> rfl), hf]
  refine I.write (x := p) (e := p) (by rw [h]; trivial) (.inl rfl) (fun b u hb q => (Heap.get?_update_other _ _ (Ne.symm hb)).trans q) ⟨_, e⟩ ?_
  exact ⟨hz, its', n', r, e⟩
noncomputable def rSetL : V → V → V → Hp → (Hp → Prop) → Prop := fun o i v H Q => ∃ p xs k j, o = .ref p ∧ i = .int k ∧ H p = some (.lst xs) ∧ ixN xs.length k = some j ∧ Q (upd H p (.lst (xs.set j v)))
theorem set_list : PSet X rSetL := by
  intro pins s σ H o i v ov iv u Q I ro ri rv h
  obtain ⟨p, xs, k, j, rfl, rfl, hp, hj, q⟩ := h
  cases ro
  obtain ⟨t, rfl⟩ := ri
  obtain ⟨its, n, r, ho, hz⟩ := I.lst hp
  obtain ⟨h1, h2, h3, h4⟩ := ixN_seq hj
  have hl := r.length
  have hn := line63
  have I' : Inv X pins σ (upd H p (.lst (xs.set j v))) { s with heap := s.heap.update p (Obj.mapSeq (·.setIfInBounds j u)) } :=
    I.lstUpd hp ho (mapSeq_set its n j u) (r.set rv j) (by rw [List.length_set]; exact hz) s.toks
  by_cases h0 : 0 ≤ k
  · have hk : k.toNat = j := by
      rw [seqIndex_of h0 h4] at h1
      exact Option.some.inj h1
    exact PySem.W.ki_setAt ho h0 (by omega) (by rw [List.size_toArray, ← hl]; exact h4) (by rw [hk]; exact ⟨_, I', q⟩)
  · have hk : (k + (its.toArray.size : Int)).toNat = j := by
      rw [seqIndex_neg (by omega) h3] at h1
      rw [List.size_toArray, ← hl]
      exact Option.some.inj h1
    exact PySem.W.ki_setBack ho (by omega) (by rw [List.size_toArray, ← hl]; exact h3) (by omega) (by rw [hk]; exact ⟨_, I', q⟩)
theorem slice_bounds (lo hi : Option Int) (n : Nat) : (sliceBounds lo hi none n).1 = ((HT.sIx n 0 lo : Nat) : Int) ∧ (sliceBounds lo hi none n).2.1 = ((HT.sIx n n hi : Nat) : Int) ∧ (sliceBounds lo hi none n).2.2 = 1 := by
  refine ⟨?_, ?_, rfl⟩
  · cases lo with
    | none => simp [sliceBounds, HT.sIx]
    | some i =>
      simp only [sliceBounds, HT.sIx, Option.getD_none, show (1 : Int) > 0 by decide, if_true]
      by_cases h : i < 0
      · simp only [h, if_true] <;> omega
      · simp only [h, if_false] <;> omega
  · cases hi with
    | none => simp [sliceBounds, HT.sIx]
    | some i =>
      simp only [sliceBounds, HT.sIx, Option.getD_none, show (1 : Int) > 0 by decide, if_true]
      by_cases h : i < 0
      · simp only [h, if_true] <;> omega
      · simp only [h, if_false] <;> omega
theorem slicePick_cut (its : List Value) (lo hi : Option Int) : slicePick its.toArray lo hi none = ((its.drop (HT.sIx its.length 0 lo)).take (HT.sIx its.length its.length hi - HT.sIx its.length 0 lo)).toArray := by
  obtain ⟨h1, h2, h3⟩ := slice_bounds lo hi its.toArray.size
  unfold slicePick
  rw [h1, h2, h3]
  simp only [sliceRange_one, pick_run, List.size_toArray] <;> rfl
noncomputable def rSlL (K : PySem.W.Frag) : V → Option Int → Option Int → Hp → VK → Prop := fun x lo hi H Q => ∃ a xs, x = .ref a ∧ SqL K H a xs ∧ ∀ p, H p = none → Q (.ref p) (upd H p (.lst (cutV xs lo hi)))
theorem sl_list : SlR X (rSlL X.K) := by
  intro pins s σ H x v vl vu lo hi sl Q I rx hs pl pu h
  obtain ⟨a, xs, rfl, hx, q⟩ := h
  cases rx
  obtain ⟨its, r, ht, hz⟩ := I.list hx
  have hlen := r.length
  refine ⟨"list", _, slot_list_getitem.lookup, ht.isList.typeIs, ?_⟩
  refine wpAny_getItem_list_slice ht.isList hs pl pu .none (by simp) ?_ (by rw [List.size_toArray] <;> omega)
  rw [slicePick_cut, ← hlen]
  refine ⟨.ref s.heap.objs.size, _, I.laid (t' := s.toks) (o := .lst (cutV xs lo hi)) (fun b ob q => Heap.get?_push_of_some _ q) (Nat.le_refl _) ?_, rfl, q _ (I.hok.fresh (Nat.le_refl _))⟩
  exact ⟨Nat.le_trans (cutV_length xs lo hi) hz, _, 0, (r.drop (HT.sIx xs.length 0 lo)).take (HT.sIx xs.length xs.length hi - HT.sIx xs.length 0 lo), Heap.get?_push_size _ rfl⟩
noncomputable def flatV : V → Bool
  | .non => true
  | .bl _ => true
  | .int _ => true
  | .str _ => true
  | _ => false
noncomputable def eqV : V → V → Bool
  | .non, .non => true
  | .bl a, .bl b => a == b
  | .bl a, .int b => (if a then 1 else 0) == b
  | .int a, .bl b => a == (if b then 1 else 0)
  | .int a, .int b => a == b
  | .str a, .str b => a == b
  | _, _ => false
theorem eqAt_V {A : Around} {s : Shared} {y x : V} {u v : Value} (ry : RelV y u) (rx : RelV x v) (fy : flatV y = true) (fx : flatV x = true) : SeqAt.EqAt A s u v (eqV y x) := by
  cases y with
  | non =>
    cases ry
    cases x with
    | non => cases rx; exact SeqAt.EqAt.same _
    | bl b => cases rx; exact SeqAt.EqAt.none_bool b
    | int b => obtain ⟨t, rfl⟩ := rx; exact SeqAt.EqAt.none_int b t
    | str b => obtain ⟨t, rfl⟩ := rx; exact SeqAt.EqAt.none_str b t
    | _ => exact absurd (show false = true from fx) Bool.false_ne_true
  | bl a =>
    cases ry
    cases x with
    | non => cases rx; exact SeqAt.EqAt.bool_none a
    | bl b => cases rx; exact SeqAt.EqAt.bool_bool a b
    | int b => obtain ⟨t, rfl⟩ := rx; exact SeqAt.EqAt.bool_int a b t
    | str b => obtain ⟨t, rfl⟩ := rx; exact SeqAt.EqAt.bool_str a b t
    | _ => exact absurd (show false = true from fx) Bool.false_ne_true
  | int a =>
    obtain ⟨t', rfl⟩ := ry
    cases x with
    | non => cases rx; exact SeqAt.EqAt.int_none a t'
    | bl b => cases rx; exact SeqAt.EqAt.int_bool a t' b
    | int b => obtain ⟨t, rfl⟩ := rx; exact SeqAt.EqAt.int_int a t' b t
    | str b => obtain ⟨t, rfl⟩ := rx; exact SeqAt.EqAt.int_str a t' b t
    | _ => exact absurd (show false = true from fx) Bool.false_ne_true
  | str a =>
    obtain ⟨t', rfl⟩ := ry
    cases x with
    | non => cases rx; exact SeqAt.EqAt.str_none a t'
    | bl b => cases rx; exact SeqAt.EqAt.str_bool a t' b
    | int b => obtain ⟨t, rfl⟩ := rx; exact SeqAt.EqAt.str_int a t' b t
    | str b => obtain ⟨t, rfl⟩ := rx; exact SeqAt.EqAt.str_str a t' b t
    | _ => exact absurd (show false = true from fx) Bool.false_ne_true
  | _ => exact absurd (show false = true from fy) Bool.false_ne_true
noncomputable def eqU (x : V) (u : Value) : Bool := match u with
  | .none => eqV .non x
  | .bool b => eqV (.bl b) x
  | .int i _ => eqV (.int i) x
  | .str z _ => eqV (.str z) x
  | _ => false
theorem eqU_of {x y : V} {u : Value} (r : RelV y u) (f : flatV y = true) : eqU x u = eqV y x := by
  cases y with
  | non => cases r; rfl
  | bl b => cases r; rfl
  | int i => obtain ⟨t, rfl⟩ := r; rfl
  | str z => obtain ⟨t, rfl⟩ := r; rfl
  | _ => exact absurd (show false = true from f) Bool.false_ne_true
theorem any_eqU {x : V} : ∀ {xs : List V} {us : List Value}, Vals xs us → xs.all flatV = true → us.any (eqU x) = xs.any fun y => eqV y x
  | _, _, .nil, _ => rfl
  | y :: xs, u :: us, .cons r t, f => by
    rw [List.all_cons, Bool.and_eq_true] at f
    rw [List.any_cons, List.any_cons, eqU_of r f.1, any_eqU t f.2]
theorem mem_eqAt {A : Around} {s : Shared} {x : V} {v : Value} (rx : RelV x v) (fx : flatV x = true) : ∀ {xs : List V} {us : List Value}, Vals xs us → xs.all flatV = true → ∀ u ∈ us, SeqAt.EqAt A s u v (eqU x u)
  | _, _, .nil, _ => fun u hu => by cases hu
  | y :: xs, u :: us, .cons r t, f => fun u' hu => by
    rw [List.all_cons, Bool.and_eq_true] at f
    rcases List.mem_cons.mp hu with rfl | hu
    · rw [eqU_of r f.1]; exact eqAt_V r rx f.1 fx
    · exact mem_eqAt rx fx t f.2 u' hu
noncomputable def inV (x : V) (xs : List V) : Bool := xs.any fun y => eqV y x
noncomputable def rIn (K : PySem.W.Frag) (neg : Bool) : R2 := fun x y H Q => ∃ p xs, y = .ref p ∧ (SqL K H p xs ∨ SqT K H p xs) ∧ flatV x = true ∧ xs.all flatV = true ∧ Q (.bl (if neg then !inV x xs else inV x xs)) H
theorem op_in_seq : OpR X (compareOp .In) (rIn X.K false) := by
  intro pins s σ H x y v u Q I rx ry h
  obtain ⟨p, xs, rfl, hq, fx, fs, q⟩ := h
  cases ry
  rcases hq with hq | hq
  · obtain ⟨its, r, pl, hz⟩ := I.list hq
    refine SeqAt.in_listAt (eqU x) pl.isList (fun w hw => mem_eqAt rx fx r fs w (by simpa using hw)) ⟨.bl _, H, I, rfl, ?_⟩
    rw [show its.toArray.any (eqU x) = its.any (eqU x) by simp, any_eqU r fs]
    exact q
  · obtain ⟨its, r, pl, hz⟩ := I.tuple hq
    refine SeqAt.in_tupleAt (eqU x) pl (fun w hw => mem_eqAt rx fx r fs w (by simpa using hw)) ⟨.bl _, H, I, rfl, ?_⟩
    rw [show its.toArray.any (eqU x) = its.any (eqU x) by simp, any_eqU r fs]
    exact q
theorem op_notIn_seq : OpR X (compareOp .NotIn) (rIn X.K true) := by
  intro pins s σ H x y v u Q I rx ry h
  obtain ⟨p, xs, rfl, hq, fx, fs, q⟩ := h
  cases ry
  rcases hq with hq | hq
  · obtain ⟨its, r, pl, hz⟩ := I.list hq
    refine SeqAt.notIn_listAt (eqU x) pl.isList (fun w hw => mem_eqAt rx fx r fs w (by simpa using hw)) ⟨.bl _, H, I, rfl, ?_⟩
    rw [show its.toArray.any (eqU x) = its.any (eqU x) by simp, any_eqU r fs]
    exact q
  · obtain ⟨its, r, pl, hz⟩ := I.tuple hq
    refine SeqAt.notIn_tupleAt (eqU x) pl (fun w hw => mem_eqAt rx fx r fs w (by simpa using hw)) ⟨.bl _, H, I, rfl, ?_⟩
    rw [show its.toArray.any (eqU x) = its.any (eqU x) by simp, any_eqU r fs]
    exact q
theorem call_len_seq : CallR X (.builtin "len") (fun xs H Q => ∃ p ys, xs = [.ref p] ∧ (SqL X.K H p ys ∨ SqT X.K H p ys) ∧ Q (.int ys.length) H) := by
  intro pins s σ H xs us Q I r h
  obtain ⟨p, ys, rfl, hq, q⟩ := h
  obtain ⟨u, rfl, rx⟩ := vals1 r
  cases rx
  have hn := line63
  rcases hq with hq | hq
  · obtain ⟨its, r', pl, hz⟩ := I.list hq
    have hlen := r'.length
    exact Calls.call_len_list pl.isList (by simp only [List.size_toArray] <;> omega) ⟨.int ys.length, H, I.tok _, ⟨s.toks + 1, by rw [List.size_toArray, hlen]⟩, q⟩
  · obtain ⟨its, r', pl, hz⟩ := I.tuple hq
    have hlen := r'.length
    exact len_tuple pl (by simp only [List.size_toArray] <;> omega) ⟨.int ys.length, H, I.tok _, ⟨s.toks + 1, by rw [List.size_toArray, hlen]⟩, q⟩
theorem call_len_str : CallR X (.builtin "len") (fun xs H Q => ∃ z, xs = [.str z] ∧ z.length ≤ sizeLine ∧ Q (.int z.length) H) := by
  intro pins s σ H xs us Q I r h
  obtain ⟨z, rfl, hz, q⟩ := h
  obtain ⟨u, rfl, t, rfl⟩ := vals1 r
  have hn := line63
  exact len_str (by omega) ⟨.int z.length, H, I.tok _, ⟨_, rfl⟩, q⟩
theorem call_list_of : CallR X (.type "list") (fun xs H Q => ∃ p ys, xs = [.ref p] ∧ (SqL X.K H p ys ∨ SqT X.K H p ys) ∧ ∀ l, H l = none → Q (.ref l) (upd H l (.lst ys))) := by
  intro pins s σ H xs us Q I r h
  obtain ⟨p, ys, rfl, hq, q⟩ := h
  obtain ⟨u, rfl, rx⟩ := vals1 r
  cases rx
  have fin : ∀ (its : List Value), Vals ys its → ys.length ≤ sizeLine → ∀ (h' : Heap) (c' : Nat), (∀ b o', s.heap.get? b = some o' → h'.get? b = some o') →
      h'.get? s.heap.objs.size = some { cls := .type "list", dict := none, data := .seq its.toArray c', slots := #[] } → EP X pins σ Q (.ref s.heap.objs.size) { s with heap := h' } := fun its r' hz h' c' kp e =>
    ⟨.ref s.heap.objs.size, _, I.laid (t' := s.toks) kp (Nat.le_refl _) (show ObjOk X.prog X.w _ h' _ (.lst ys) from ⟨hz, its, c', r', e⟩), rfl, q _ (I.hok.fresh (Nat.le_refl _))⟩
  rcases hq with hq | hq
  · obtain ⟨its, r', pl, hz⟩ := I.list hq
    have hlen := r'.length
    obtain ⟨o, ho, hc, n, hd⟩ := pl.isList
    exact call_list_seq p (.inl rfl) ho hc hd (fun h' c' kp e => fin its r' hz h' c' kp e) (by simp only [List.size_toArray] <;> omega)
  · obtain ⟨its, r', pl, hz⟩ := I.tuple hq
    have hlen := r'.length
    obtain ⟨o, ho, hc, n, hd⟩ := pl
    exact call_list_seq p (.inr rfl) ho hc hd (fun h' c' kp e => fin its r' hz h' c' kp e) (by simp only [List.size_toArray] <;> omega)
noncomputable def tyV (K : PySem.W.Frag) (T : String) (x : V) (H : Hp) : Prop := match x with
  | .str _ => T = "str"
  | .int _ => T = "int"
  | .ref p => (T = "list" ∧ ∃ xs, SqL K H p xs) ∨ (T = "tuple" ∧ ∃ o, K.lookup p = some o ∧ o.cls = .type "tuple" ∧ o.dict = none) ∨
      (T = "dict" ∧ ((∃ kvs, H p = some (.dK kvs)) ∨ ∃ kvs, H p = some (.dT kvs))) ∨ (T = "set" ∧ ∃ S n, H p = some (.set S n))
  | _ => False
theorem tyV_is {pins : List (Addr × Obj)} {σ : St} {H : Hp} {s : Shared} {T : String} {x : V} {v : Value} (I : Inv X pins σ H s) (r : RelV x v) (ty : tyV X.K T x H) :
    s.TypeIs v T ∧ ∀ a, v = .ref a → ∃ ob, s.heap.get? a = some ob ∧ ob.dict = none := by
  cases x with
  | str z =>
    obtain ⟨t, rfl⟩ := r
    cases (show T = "str" from ty)
    exact ⟨typeIs_str s z t, fun _ e => nomatch e⟩
  | int i =>
    obtain ⟨t, rfl⟩ := r
    cases (show T = "int" from ty)
    exact ⟨typeIs_int s i t, fun _ e => nomatch e⟩
  | ref p =>
    cases r
    rcases ty with ⟨rfl, xs, hq⟩ | ⟨rfl, o, hk, hc, hd⟩ | ⟨rfl, hk⟩ | ⟨rfl, S, n, hk⟩
    · obtain ⟨its, _, pl, _⟩ := I.list hq
      refine ⟨pl.isList.typeIs, fun a e => ?_⟩
      cases e
      obtain ⟨o, n, e, c, hd, _⟩ := pl
      exact ⟨o, e, hd⟩
    · refine ⟨⟨o, I.kIn p o hk, hc⟩, fun a e => ?_⟩
      cases e
      exact ⟨o, I.kIn _ o hk, hd⟩
    · have z : ∃ o, s.heap.get? p = some o ∧ o.ExactDict := by
        rcases hk with ⟨kvs, hk⟩ | ⟨kvs, hk⟩
        · obtain ⟨_, _, _, _, o, _, _, e, ex, _⟩ := I.hok p _ hk
          exact ⟨o, e, ex⟩
        · obtain ⟨_, _, _, _, o, _, _, e, ex, _⟩ := I.hok p _ hk
          exact ⟨o, e, ex⟩
      obtain ⟨o, e, ex⟩ := z
      refine ⟨⟨o, e, ex.1⟩, fun a e2 => ?_⟩
      cases e2
      exact ⟨o, e, ex.2.1⟩
    · obtain ⟨o, _, _, _, e, ex, _⟩ := I.hok p _ hk
      refine ⟨⟨o, e, ex.1⟩, fun a e2 => ?_⟩
      cases e2
      exact ⟨o, e, ex.2.1⟩
  | _ => exact False.elim ty
noncomputable def tBM0 (K : PySem.W.Frag) (T : String) (r : V → List V → Hp → VK → Prop) (to : TE) : TE := fun σ H Q => to σ H fun x H1 => tyV K T x H1 ∧ r x [] H1 Q
noncomputable def tBM (K : PySem.W.Frag) (T : String) (r : V → List V → Hp → VK → Prop) (to : TE) (t : TA) : TE := fun σ H Q => to σ H fun x H1 => tyV K T x H1 ∧ t σ H1 fun xs H2 => r x xs H2 Q
variable {o e : Expr} {es : List Expr} {to : TE} {t : TA} {name : Str} {apos cpos : Pos} {T id : String} {r : V → List V → Hp → VK → Prop}
theorem pe_bm (pa : PlainAttrs T) (slot : Slot T name id) (hty : typeOf (.builtin id) = pure (.type "method_descriptor")) (hm : MtR X id r) (ho : PE X o to) (ha : PA X (e :: es) t)
    (hbase : attributeBase o name X.env (eval o X.env) = eval o X.env := by rfl)
    (hfew : ((backTo cpos (starEach (e :: es) X.env)).all (fun x => !x.1) && (backToKw cpos (keywordEach [] X.env)).all (fun x => x.1.isSome)
      && decide ((e :: es).length + ([] : List Keyword).length + (if ([] : List Keyword).isEmpty then 0 else 1) < 30)) = true := by rfl)
    (hline : (apos.endLine == cpos.line) = true := by rfl) (hs : starEach (e :: es) X.env = (false, eval e X.env) :: starEach es X.env := by rfl) (hplain : (backTo cpos (starEach es X.env)).any (·.1) = false := by rfl) :
    PE X (.Call (.Attribute o name apos) (e :: es) [] cpos) (tBM X.K T r to t) := by
  intro pins s σ H Q I h
  refine wpAny_Call_method_late hbase hfew hline rfl (thn (ho pins s σ H _ I h) fun v s1 zz => ?_)
  obtain ⟨x, H1, I1, r1, ty, q1⟩ := zz
  obtain ⟨h1, h2⟩ := tyV_is I1 r1 ty
  refine ⟨T, id, pa, slot, hty, h1, h2, ?_⟩
  have hA := ha cpos pins s1 σ H1 _ I1 q1
  rw [hs] at hA ⊢
  refine Calls.callWith_builtin (by show (false || (backTo cpos (starEach es X.env)).any (·.1)) = false; rw [hplain] <;> rfl) (Calls.evalArgs_plain ?_)
  exact thn hA fun us s2 zz => by obtain ⟨vs, H2, I2, r2, q2⟩ := zz; exact hm pins s2 σ H2 x vs v us Q I2 r1 r2 q2
/- xs.append(e), list.index on a module's tuple .. are MtR facts of 06m -/
end
end L2
namespace L2
open PySem PySem.Spec PyProof.Rows
noncomputable def MtM (X : Cx) (id : String) (r : V → List V → Hp → VK → Prop) : Prop :=
  ∀ (pins : List (Addr × Obj)) (s : Shared) (σ : St) (H : Hp) (x : V) (xs : List V) (v : Value) (us : List Value) (Q : VK), Inv X pins σ H s → RelV x v → Vals xs us → r x xs H Q →
    wpAny (model X.prog X.w) X.A (call (.builtin id) (v :: us)) (EP X pins σ Q) X.xe s
theorem Vals.one {x : V} {us : List Value} (h : Vals [x] us) : ∃ u, us = [u] ∧ RelV x u := by
  cases h with
  | cons r t =>
    cases t
    exact ⟨_, rfl, r⟩
theorem Vals.two {x y : V} {us : List Value} (h : Vals [x, y] us) : ∃ u v, us = [u, v] ∧ RelV x u ∧ RelV y v := by
  cases h with
  | cons r t =>
    cases t with
    | cons q z => cases z; exact ⟨_, _, rfl, r, q⟩
theorem Vals.reverse {xs : List V} {us : List Value} (h : Vals xs us) : Vals xs.reverse us.reverse := by
  induction h with
  | nil => exact .nil
  | cons r t ih => rw [List.reverse_cons, List.reverse_cons]; exact Vals.append ih (.cons r .nil)
theorem Vals.rep {xs : List V} {us : List Value} (h : Vals xs us) : ∀ k : Nat, Vals (List.replicate k xs).flatten (List.replicate k us).flatten
  | 0 => .nil
  | k + 1 => by
    rw [List.replicate_succ, List.replicate_succ, List.flatten_cons, List.flatten_cons]
    exact Vals.append h (Vals.rep h k)
theorem foldl_rep (its : List Value) : ∀ (k : Nat) (acc : List Value),
    List.foldl (fun x1 x2 => x1 ++ x2) acc.toArray (List.replicate k its.toArray) = (acc ++ (List.replicate k its).flatten).toArray
  | 0, acc => by simp
  | k + 1, acc => by
    have e : acc.toArray ++ its.toArray = (acc ++ its).toArray := by simp
    have e2 : (acc ++ its) ++ (List.replicate k its).flatten = acc ++ (List.replicate (k + 1) its).flatten := by
      rw [List.replicate_succ, List.flatten_cons, List.append_assoc]
    rw [← e2, ← foldl_rep its k (acc ++ its), ← e, List.replicate_succ, List.foldl_cons]
section
variable {X : Cx} {pins : List (Addr × Obj)} {σ : St} {H : Hp} {s : Shared} {l b : Addr} {xs ys zs : List V}
theorem Inv.lset {its its' : List Value} {n : Nat} {f : Array Value → Array Value} {t' : Nat} (I : Inv X pins σ H s) (hH : H l = some (.lst xs))
    (e : s.heap.get? l = some { cls := .type "list", data := .seq its.toArray n }) (hf : f its.toArray = its'.toArray) (hv : Vals ys its') (hz : ys.length ≤ sizeLine) :
    Inv X pins σ (upd H l (.lst ys)) { s with heap := s.heap.update l (Obj.mapSeq f), toks := t' } := by
  have q := PySem.IsL.update e f
  rw [hf] at q
  refine I.write (x := l) (e := l) (by rw [hH]; exact trivial) (.inl rfl) (fun b' u hb hu => (Heap.get?_update_other s.heap (Obj.mapSeq f) (Ne.symm hb)).trans hu) ⟨_, q⟩ ?_
  exact ⟨hz, its', _, hv, q⟩
theorem Inv.lnew {its : List Value} {t' : Nat} (I : Inv X pins σ H s) (hv : Vals ys its) (hz : ys.length ≤ sizeLine) :
    Inv X pins σ (upd H s.heap.objs.size (.lst ys)) { s with heap := s.heap.push { cls := .type "list", data := .seq its.toArray }, toks := t' } :=
  I.laid (fun _ _ q => Heap.get?_push_of_some _ q) (Nat.le_refl _) ⟨hz, its, 0, hv, Heap.get?_push_size _ rfl⟩
theorem Inv.fresh (I : Inv X pins σ H s) : H s.heap.objs.size = none := I.hok.fresh (Nat.le_refl _)
theorem Inv.lstM (I : Inv X pins σ H s) (hH : H l = some (.lst xs)) : xs.length ≤ sizeLine ∧ ∃ (its : List Value) (n : Nat), Vals xs its ∧ xs.length = its.length ∧ s.heap.get? l = some { cls := .type "list", data := .seq its.toArray n } := by
  obtain ⟨z, its, n, r, e⟩ := I.hok l _ hH
  exact ⟨z, its, n, r, r.length, e⟩
theorem notLongL {n : Nat} (h : n ≤ sizeLine) : Builtin.List.listTooLong n = false := by
  unfold Builtin.List.listTooLong
  exact decide_eq_false (by omega)
end
section
variable {X : Cx}
noncomputable def rAppend : V → List V → Hp → VK → Prop := fun x vs H Q => ∃ l xs y, x = .ref l ∧ vs = [y] ∧ H l = some (.lst xs) ∧ xs.length < sizeLine ∧ Q .non (upd H l (.lst (xs ++ [y])))
theorem mt_append : MtM X "list.append" rAppend := by
  intro pins s σ H x vs v us Q I rx rv h
  obtain ⟨l, xs, y, rfl, rfl, hH, hz, q⟩ := h
  cases rx
  obtain ⟨u, rfl, ru⟩ := rv.one
  obtain ⟨z, its, n, r, hl, e⟩ := I.lstM hH
  refine call_meets F.slot_list_append ⟨_, e, rfl⟩ F.entry_list_append (F.args_list_append_2 _ _) (PySem.list_append l its.toArray n u (by rw [List.size_toArray]; omega)) ⟨e, ?_⟩
  refine ⟨.non, _, I.lset (its' := its ++ [u]) hH e (by simp) (r.append (.cons ru .nil)) ?_, rfl, q⟩
  rw [List.length_append, List.length_singleton]
  omega
noncomputable def rExtend : V → List V → Hp → VK → Prop := fun x vs H Q => ∃ l b xs zs, x = .ref l ∧ vs = [.ref b] ∧ H l = some (.lst xs) ∧ H b = some (.lst zs) ∧ xs.length + zs.length ≤ sizeLine ∧ Q .non (upd H l (.lst (xs ++ zs)))
noncomputable def rPop : V → List V → Hp → VK → Prop := fun x vs H Q => ∃ l xs y, x = .ref l ∧ vs = [] ∧ H l = some (.lst xs) ∧ xs[xs.length - 1]? = some y ∧ Q y (upd H l (.lst xs.dropLast))
noncomputable def rPopAt : V → List V → Hp → VK → Prop := fun x vs H Q => ∃ l xs i k y, x = .ref l ∧ vs = [.int i] ∧ H l = some (.lst xs) ∧ -(2 ^ 63) ≤ i ∧ i < 2 ^ 63 ∧ seqIndex? i xs.length = some k ∧ xs[k]? = some y ∧ Q y (upd H l (.lst (xs.eraseIdx k)))
noncomputable def rReverse : V → List V → Hp → VK → Prop := fun x vs H Q => ∃ l xs, x = .ref l ∧ vs = [] ∧ H l = some (.lst xs) ∧ Q .non (upd H l (.lst xs.reverse))
noncomputable def rClear : V → List V → Hp → VK → Prop := fun x vs H Q => ∃ l xs, x = .ref l ∧ vs = [] ∧ H l = some (.lst xs) ∧ Q .non (upd H l (.lst []))
noncomputable def rCat : R2 := fun x y H Q => ∃ l b xs zs, x = .ref l ∧ y = .ref b ∧ H l = some (.lst xs) ∧ H b = some (.lst zs) ∧ xs.length + zs.length ≤ sizeLine ∧ ∀ p, H p = none → Q (.ref p) (upd H p (.lst (xs ++ zs)))
theorem op_cat : OpR X (binaryOp .Add) rCat := by
  intro pins s σ H x y v u Q I rx ry h
  obtain ⟨l, b, xs, zs, rfl, rfl, hH, hB, hz, q⟩ := h
  cases rx
  cases ry
  obtain ⟨z, its, n, r, hl, e⟩ := I.lstM hH
  obtain ⟨z2, its2, n2, r2, hl2, e2⟩ := I.lstM hB
  refine PySem.P.add_list e e2 ?_ (by rw [List.size_toArray, List.size_toArray]; omega)
  have ea : its.toArray ++ its2.toArray = (its ++ its2).toArray := by simp
  rw [ea]
  exact ⟨.ref _, _, I.lnew (t' := s.toks) (r.append r2) (by rw [List.length_append]; omega), rfl, q _ I.fresh⟩
noncomputable def rRep : R2 := fun x y H Q => ∃ l k xs, x = .ref l ∧ y = .int k ∧ H l = some (.lst xs) ∧ -(2 ^ 63) ≤ k ∧ k < 2 ^ 63 ∧ xs.length * k.toNat ≤ sizeLine ∧
  ∀ p, H p = none → Q (.ref p) (upd H p (.lst (List.replicate k.toNat xs).flatten))
theorem len_rep {α : Type} (xs : List α) (k : Nat) : (List.replicate k xs).flatten.length = k * xs.length := by
  induction k with
  | zero => simp
  | succ k ih => rw [List.replicate_succ, List.flatten_cons, List.length_append, ih, Nat.succ_mul, Nat.add_comm]
theorem op_rep : OpR X (binaryOp .Mult) rRep := by
  intro pins s σ H x y v u Q I rx ry h
  obtain ⟨l, k, xs, rfl, rfl, hH, h1, h2, hz, q⟩ := h
  cases rx
  obtain ⟨t, rfl⟩ := ry
  obtain ⟨z, its, n, r, hl, e⟩ := I.lstM hH
  have hlen : its.toArray.size * k.toNat ≤ sizeLine := by rw [List.size_toArray, ← hl]; exact hz
  have hcap : ¬ its.toArray.size * k.toNat > (2 ^ 63 - 1) / 8 := by
    have : (sizeLine : Nat) ≤ (2 ^ 63 - 1) / 8 := by decide
    omega
  have hfit : ¬ (!Builtin.List.listFitsIndex k) = true := by
    rw [fitsIndex_both h1 h2]
    exact Bool.false_ne_true
  have hlong : ¬ Builtin.List.listTooLong (its.toArray.size * k.toNat) = true := by
    rw [notLongL hlen]
    exact Bool.false_ne_true
  have hnew : List.foldl (fun x1 x2 => x1 ++ x2) #[] (List.replicate (if its.toArray.isEmpty = true then 0 else k.toNat) its.toArray) = (List.replicate k.toNat its).flatten.toArray := by
    have f0 : ∀ m : Nat, List.foldl (fun x1 x2 => x1 ++ x2) #[] (List.replicate m its.toArray) = (List.replicate m its).flatten.toArray := fun m => by
      have := foldl_rep its m []
      rw [List.nil_append] at this
      exact this
    rw [f0]
    cases its with
    | nil => simp
    | cons a r' => rw [if_neg (by simp)]
  refine wpAny_binaryOp_repeat_ref (T := "list") (U := "int") (by decide) ⟨_, e, rfl⟩ (fun s' => typeIs_int s' k t) noFill_list_mul F.fills_int_mul F.slot_int_rmul repeat_list F.slot_int_index.lookup
    (call_meets F.slot_int_rmul (typeIs_int s k t) F.entry_int_rmul (F.args_int_rmul_2 _ _) (int___rmul___int_list k t l its.toArray n)
      ⟨e, rfl, ⟨_, e, rfl⟩, call_meets F.slot_list_mul ⟨_, e, rfl⟩ F.entry_list_mul (F.args_list_mul_2 _ _) (AutoListH.list___mul___list_int_3 l its.toArray n k t hfit hcap hlong) ⟨e, ?_⟩⟩)
  rw [hnew]
  exact ⟨.ref _, _, I.lnew (t' := s.toks) (r.rep k.toNat) (by rw [len_rep, Nat.mul_comm]; exact hz), rfl, q _ I.fresh⟩
end
section
variable {prog : Program} {w : World} {A : Around} {E : Value → Shared → Prop} {s : Shared}
end
section
variable {X : Cx}
end
end L2
namespace L2
open PySem PySem.Spec PyProof.Rows
section
variable {κ : Type} [DecidableEq κ]
noncomputable def valV (kvs : List (κ × V)) (k : κ) : Option V := (kvs.find? fun kv => decide (kv.1 = k)).map (·.2)
noncomputable def putK (kvs : List (κ × V)) (k : κ) (v : V) : List (κ × V) :=
  if (kvs.any fun kv => decide (kv.1 = k)) = true then kvs.map (fun kv => if kv.1 = k then (kv.1, v) else kv) else kvs ++ [(k, v)]
noncomputable def dropK (kvs : List (κ × V)) (k : κ) : List (κ × V) := kvs.filter fun kv => decide (kv.1 ≠ k)
theorem valV_pos {p : κ × V} {r : List (κ × V)} {k : κ} (e : p.1 = k) : valV (p :: r) k = some p.2 := by simp [valV, List.find?_cons, e]
theorem valV_neg {p : κ × V} {r : List (κ × V)} {k : κ} (e : ¬ p.1 = k) : valV (p :: r) k = valV r k := by simp [valV, List.find?_cons, e]
theorem valV_any (k : κ) : ∀ kvs : List (κ × V), (kvs.any fun kv => decide (kv.1 = k)) = (valV kvs k).isSome
  | [] => rfl
  | p :: r => by
    rw [List.any_cons]
    by_cases e : p.1 = k
    · simp only [valV_pos e, decide_eq_true e, Bool.true_or, Option.isSome_some]
    · rw [valV_neg e, decide_eq_false e, Bool.false_or]; exact valV_any k r
theorem valV_map (k j : κ) (y : V) : ∀ kvs : List (κ × V), valV (kvs.map fun kv => if kv.1 = k then (kv.1, y) else kv) j = (valV kvs j).map fun x => if j = k then y else x
  | [] => rfl
  | p :: r => by
    have ih := valV_map k j y r
    rw [List.map_cons]
    by_cases h : p.1 = k
    · rw [if_pos h]
      by_cases e : p.1 = j
      · rw [valV_pos (p := (p.1, y)) e, valV_pos e, Option.map_some, if_pos (e.symm.trans h)]
      · rw [valV_neg (p := (p.1, y)) e, valV_neg e, ih]
    · rw [if_neg h]
      by_cases e : p.1 = j
      · rw [valV_pos (p := p) e, valV_pos e, Option.map_some, if_neg (fun z => h (e.trans z))]
      · rw [valV_neg (p := p) e, valV_neg e, ih]
theorem valV_snoc (k j : κ) (y : V) : ∀ kvs : List (κ × V), valV kvs k = none → valV (kvs ++ [(k, y)]) j = if j = k then some y else valV kvs j
  | [], _ => by
    by_cases e : k = j
    · rw [if_pos e.symm]; exact valV_pos (p := (k, y)) e
    · rw [if_neg (fun z => e z.symm)]; exact valV_neg (p := (k, y)) e
  | p :: r, hn => by
    rw [List.cons_append]
    have hk : ¬ p.1 = k := fun z => by rw [valV_pos z] at hn; cases hn
    rw [valV_neg hk] at hn
    have ih := valV_snoc k j y r hn
    by_cases e : p.1 = j
    · rw [valV_pos e, valV_pos e, if_neg (fun z => hk (e.trans z))]
    · rw [valV_neg e, valV_neg e, ih]
theorem valV_put (kvs : List (κ × V)) (k j : κ) (y : V) : valV (putK kvs k y) j = if j = k then some y else valV kvs j := by
  unfold putK
  by_cases a : (kvs.any fun kv => decide (kv.1 = k)) = true
  · rw [if_pos a, valV_map]
    rw [valV_any] at a
    by_cases e : j = k
    · obtain ⟨x, hx⟩ := Option.isSome_iff_exists.mp a
      rw [if_pos e, e, hx, Option.map_some, if_pos rfl]
    · rw [if_neg e]
      cases valV kvs j with
      | none => rfl
      | some x => rw [Option.map_some, if_neg e]
  · rw [if_neg a]
    refine valV_snoc k j y kvs ?_
    rw [valV_any] at a
    cases q : valV kvs k with
    | none => rfl
    | some x => rw [q] at a; exact (a rfl).elim
theorem length_putK (kvs : List (κ × V)) (k : κ) (v : V) : (putK kvs k v).length ≤ kvs.length + 1 := by
  unfold putK
  split
  · rw [List.length_map]; omega
  · rw [List.length_append, List.length_cons, List.length_nil]; omega
theorem putK_new {kvs : List (κ × V)} {k : κ} (v : V) (h : valV kvs k = none) : putK kvs k v = kvs ++ [(k, v)] := by
  unfold putK
  rw [valV_any, h]
  exact if_neg (by decide)
theorem RelO.isSome_eq {o : Option V} {u : Option Value} (r : RelO o u) : o.isSome = u.isSome := by
  cases o with
  | none => cases u with
    | none => rfl
    | some _ => exact (show False from r).elim
  | some _ => cases u with
    | none => exact (show False from r).elim
    | some _ => rfl
theorem RelO.getD {o : Option V} {u : Option Value} {d : V} {d' : Value} (r : RelO o u) (rd : RelV d d') : RelV (o.getD d) (u.getD d') := by
  cases o with
  | none => cases u with
    | none => exact rd
    | some _ => exact (show False from r).elim
  | some _ => cases u with
    | none => exact (show False from r).elim
    | some _ => exact r
theorem KV.val {kvs : List (κ × V)} {vs : List (κ × Value)} (r : KV kvs vs) (k : κ) : RelO (valV kvs k) (valueAt vs k) := by
  unfold KV at r
  induction r with
  | nil => exact True.intro
  | @cons p q ps qs h t ih =>
    obtain ⟨h1, h2⟩ := h
    by_cases e : p.1 = k
    · have e' : q.1 = k := h1.symm.trans e
      have b : valueAt (q :: qs) k = some q.2 := by simp [valueAt, List.find?_cons, e']
      rw [valV_pos e, b]; exact h2
    · have e' : ¬ q.1 = k := fun z => e (h1.trans z)
      have b : valueAt (q :: qs) k = valueAt qs k := by simp [valueAt, List.find?_cons, e']
      rw [valV_neg e, b]; exact ih
theorem KV.any {kvs : List (κ × V)} {vs : List (κ × Value)} (r : KV kvs vs) (k : κ) : (kvs.any fun kv => decide (kv.1 = k)) = vs.any fun kv => decide (kv.1 = k) := by
  unfold KV at r
  induction r with
  | nil => rfl
  | cons h t ih => rw [List.any_cons, List.any_cons, ih, h.1]
theorem KV.repl {kvs : List (κ × V)} {vs : List (κ × Value)} (r : KV kvs vs) (k : κ) {y : V} {u : Value} (ry : RelV y u) :
    KV (kvs.map fun kv => if kv.1 = k then (kv.1, y) else kv) (vs.map fun kv => if kv.1 = k then (kv.1, u) else kv) := by
  unfold KV at r ⊢
  induction r with
  | nil => exact .nil
  | @cons p q ps qs h t ih =>
    rw [List.map_cons, List.map_cons]
    refine .cons ?_ ih
    obtain ⟨h1, h2⟩ := h
    by_cases e : p.1 = k
    · rw [if_pos e, if_pos (h1.symm.trans e)]; exact ⟨h1, ry⟩
    · rw [if_neg e, if_neg (fun z => e (h1.trans z))]; exact ⟨h1, h2⟩
theorem KV.put {kvs : List (κ × V)} {vs : List (κ × Value)} (r : KV kvs vs) (k : κ) {y : V} {u : Value} (ry : RelV y u) : KV (putK kvs k y) (stored vs k u) := by
  unfold putK stored
  rw [r.any k]
  by_cases e : (vs.any fun kv => decide (kv.1 = k)) = true
  · rw [if_pos e, if_pos e]; exact r.repl k ry
  · rw [if_neg e, if_neg e]; exact Paired.snoc r ⟨rfl, ry⟩
theorem KV.keys {kvs : List (κ × V)} {vs : List (κ × Value)} (r : KV kvs vs) : kvs.map (·.1) = vs.map (·.1) := by
  unfold KV at r
  induction r with
  | nil => rfl
  | cons h t ih => rw [List.map_cons, List.map_cons, ih, h.1]
theorem KV.length {kvs : List (κ × V)} {vs : List (κ × Value)} (r : KV kvs vs) : kvs.length = vs.length := Paired.length r
end
theorem kV_is {P : Program} {w : World} {k : Key} {u : Value} (r : RelV (kV k) u) : (mixKind P w).is k u = true := by
  cases k with
  | inl i => obtain ⟨t, e⟩ := (show ∃ t, u = Value.int i t from r); subst e; exact mixKind_int P w i t
  | inr x => obtain ⟨t, e⟩ := (show ∃ t, u = Value.str x t from r); subst e; exact mixKind_str P w x t
theorem items_are {P : Program} {w : World} : ∀ {ks : List Key} {us : List Value}, Vals (ks.map kV) us → ItemsAre (mixKind P w) ks us
  | [], _, r => by rw [List.map_nil] at r; cases r; exact .nil
  | k :: ks, _, r => by
    rw [List.map_cons] at r
    cases r with
    | cons h t => exact .cons (kV_is h) (items_are t)
noncomputable abbrev KT (H : Hp) : List (List Key × V) → List (List Key × Addr × Value) → Prop := Paired fun p q => p.1 = q.1 ∧ H q.2.1 = some (.tup (p.1.map kV)) ∧ RelV p.2 q.2.2
theorem KT.val {H : Hp} {kvs : List (List Key × V)} {xs : List (List Key × Addr × Value)} (r : KT H kvs xs) (k : List Key) : RelO (valV kvs k) ((atKey xs k).map (·.2)) := by
  induction r with
  | nil => exact True.intro
  | @cons p q ps qs h t ih =>
    obtain ⟨h1, _, h2⟩ := h
    by_cases e : p.1 = k
    · have e' : q.1 = k := h1.symm.trans e
      have b : atKey (q :: qs) k = some q.2 := by simp [atKey, List.find?_cons, e']
      rw [valV_pos e, b]; exact h2
    · have e' : ¬ q.1 = k := fun z => e (h1.trans z)
      have b : atKey (q :: qs) k = atKey qs k := by simp [atKey, List.find?_cons, e']
      rw [valV_neg e, b]; exact ih
theorem KT.repl {H : Hp} {kvs : List (List Key × V)} {xs : List (List Key × Addr × Value)} (r : KT H kvs xs) (k : List Key) {y : V} {u : Value} (ry : RelV y u) :
    KT H (kvs.map fun kv => if kv.1 = k then (kv.1, y) else kv) (xs.map (putAt k u)) := by
  induction r with
  | nil => exact .nil
  | @cons p q ps qs h t ih =>
    rw [List.map_cons, List.map_cons]
    refine .cons ?_ ih
    obtain ⟨h1, h2, h3⟩ := h
    unfold putAt
    by_cases e : p.1 = k
    · rw [if_pos e, if_pos (h1.symm.trans e)]; exact ⟨h1, h2, ry⟩
    · rw [if_neg e, if_neg (fun z => e (h1.trans z))]; exact ⟨h1, h2, h3⟩
theorem KT.put {H : Hp} {kvs : List (List Key × V)} {xs : List (List Key × Addr × Value)} (r : KT H kvs xs) (k : List Key) {b : Addr} {y : V} {u : Value} (hb : H b = some (.tup (k.map kV))) (ry : RelV y u) :
    KT H (putK kvs k y) (storedH xs k b u) := by
  have e : (kvs.any fun kv => decide (kv.1 = k)) = (atKey xs k).isSome := by
    rw [valV_any, (r.val k).isSome_eq, Option.isSome_map]
  unfold putK storedH
  rw [e]
  by_cases q : (atKey xs k).isSome = true
  · rw [if_pos q, if_pos q]; exact r.repl k ry
  · rw [if_neg q, if_neg q]; exact Paired.snoc r ⟨rfl, hb, ry⟩
theorem KT.keeps {H H' : Hp} {kvs : List (List Key × V)} {xs : List (List Key × Addr × Value)} (r : KT H kvs xs) (ht : ∀ b ys, H b = some (.tup ys) → H' b = some (.tup ys)) : KT H' kvs xs :=
  Paired.mapP r fun _ _ z => ⟨z.1, ht _ _ z.2.1, z.2.2⟩
section
variable {P : Program} {w : World} {H : Hp} {h : Heap} {a : Addr}
theorem rd_of {u : HO} (ok : HOk P w H h) (e : Rd H a u) : ObjOk P w H h a u := e.ok ok
theorem dk_rd {kvs : List (Key × V)} (ok : HOk P w H h) (e : Rd H a (.dK kvs)) : kvs.length ≤ sizeLine ∧ (a == sysModules) = false ∧ ∃ vs, KV kvs vs ∧ h.DictOf (mixKind P w) a vs :=
  show ObjOk P w H h a (.dK kvs) from rd_of ok e
theorem dk_of {kvs : List (Key × V)} (ok : HOk P w H h) (e : H a = some (.dK kvs)) : kvs.length ≤ sizeLine ∧ (a == sysModules) = false ∧ ∃ vs, KV kvs vs ∧ h.DictOf (mixKind P w) a vs := dk_rd ok (.inl e)
theorem key_of {ks : List Key} (ok : HOk P w H h) (e : H a = some (.tup (ks.map kV))) : (tupleKind (mixKind P w)).is h ks a := by
  obtain ⟨_, its, r, o, h1, h2, n, h3⟩ := (show ObjOk P w H h a (.tup (ks.map kV)) from ok a _ e)
  exact ⟨o, its.toArray, n, h1, h2, h3, by simpa using items_are r⟩
theorem dt_rd {kvs : List (List Key × V)} (ok : HOk P w H h) (e : Rd H a (.dT kvs)) : kvs.length ≤ sizeLine ∧ (a == sysModules) = false ∧
    ∃ xs, KT H kvs xs ∧ h.DictOfH (tupleKind (mixKind P w)) a xs := by
  obtain ⟨z, y, xs, r, o, es, ep, h1, h2, h3, h4, h5⟩ := (show ObjOk P w H h a (.dT kvs) from rd_of ok e)
  refine ⟨z, y, xs, r, o, es, ep, h1, h2, h3, h4, fun x hx => ?_, h5⟩
  have all : ∀ {l : List (List Key × V)} {m : List (List Key × Addr × Value)}, KT H l m → ∀ x ∈ m, (tupleKind (mixKind P w)).is h x.1 x.2.1 := by
    intro l m q
    induction q with
    | nil => intro x hx; exact nomatch hx
    | @cons p q ps qs hq t ih =>
      intro x hx
      rcases List.mem_cons.mp hx with e | hx
      · subst e
        exact key_of ok (by rw [← hq.1]; exact hq.2.1)
      · exact ih x hx
  exact all r x hx
theorem dt_of {kvs : List (List Key × V)} (ok : HOk P w H h) (e : H a = some (.dT kvs)) : kvs.length ≤ sizeLine ∧ (a == sysModules) = false ∧
    ∃ xs, KT H kvs xs ∧ h.DictOfH (tupleKind (mixKind P w)) a xs := dt_rd ok (.inl e)
end
noncomputable def DGet (H : Hp) (a : Addr) (y : V) (r : Option V) : Prop :=
  (∃ kvs k, Rd H a (.dK kvs) ∧ y = kV k ∧ r = valV kvs k) ∨ ∃ kvs k b, Rd H a (.dT kvs) ∧ y = .ref b ∧ H b = some (.tup (k.map kV)) ∧ r = valV kvs k
noncomputable def DPut (H : Hp) (a : Addr) (y v : V) (H' : Hp) : Prop :=
  (∃ kvs k, H a = some (.dK kvs) ∧ y = kV k ∧ kvs.length < sizeLine ∧ H' = upd H a (.dK (putK kvs k v))) ∨
  ∃ kvs k b, H a = some (.dT kvs) ∧ y = .ref b ∧ H b = some (.tup (k.map kV)) ∧ kvs.length < sizeLine ∧ H' = upd H a (.dT (putK kvs k v))
theorem DGet.k {H : Hp} {a : Addr} {kvs : List (Key × V)} {k : Key} (e : H a = some (.dK kvs)) : DGet H a (kV k) (valV kvs k) := .inl ⟨kvs, k, .inl e, rfl, rfl⟩
theorem DPut.k {H : Hp} {a : Addr} {kvs : List (Key × V)} {k : Key} {v : V} (e : H a = some (.dK kvs)) (hl : kvs.length < sizeLine) : DPut H a (kV k) v (upd H a (.dK (putK kvs k v))) := .inl ⟨kvs, k, e, rfl, hl, rfl⟩
section
variable {X : Cx} {pins : List (Addr × Obj)} {σ : St} {H : Hp} {s : Shared} {a : Addr} {y v : V} {u r : Value} {o : Option V} {A : Around} {E : Value → Shared → Prop}
theorem Inv.big (I : Inv X pins σ H s) : sysModules < s.heap.objs.size := by
  have h : mainGlobals < s.heap.objs.size := (I.mod.glob.keeps I.bk).lt
  exact Nat.lt_trans (by decide) h
theorem d_getItem {Q : Value → Shared → Prop} (hu : A.units + 1 < cLine) (I : Inv X pins σ H s) (g : DGet H a y (some v)) (ry : RelV y u) (h : ∀ w' s', Inv X pins σ H s' → RelV v w' → Q w' s') :
    wpAny (model X.prog X.w) A (getItem (.ref a) u) Q E s := by
  rcases g with ⟨kvs, k, e, ey, l⟩ | ⟨kvs, k, b, e, ey, eb, l⟩
  · subst ey
    obtain ⟨z, hd, vs, rel, dd⟩ := dk_rd I.hok e
    obtain ⟨w', hw, rw'⟩ := RelO.some_of (v := v) (o := valueAt vs k) (by rw [l]; exact rel.val k)
    exact wpAny_getItem_of (kV_is ry) dd.mapOf hw (h w' _ (I.tok _) rw')
  · subst ey
    cases (show u = Value.ref b from ry)
    obtain ⟨z, hd, xs, rel, dd⟩ := dt_rd I.hok e
    obtain ⟨w', hw, rw'⟩ := RelO.some_of (v := v) (o := (atKey xs k).map (·.2)) (by rw [l]; exact rel.val k)
    obtain ⟨p, hp, hp2⟩ := Option.map_eq_some_iff.mp hw
    refine wpAny_getItem_heap (tupleKind_room_in1 hu) (key_of I.hok eb) dd hp ?_
    rw [hp2]
    exact h w' _ (I.tok _) rw'
theorem d_write {h' : Heap} {t' : Nat} {ob : HO} (I : Inv X pins σ H s) (mu : Mut (H a)) (hs : Heap.SameBut a s.heap h') (he : ∃ q, h'.get? a = some q) (new : ObjOk X.prog X.w (upd H a ob) h' a ob) :
    Inv X pins σ (upd H a ob) { s with heap := h', toks := t' } :=
  I.write (x := a) (e := a) mu (.inl rfl) (fun b q hb z => (hs.2 b hb).trans z) he new
theorem dk_new {P : Program} {w : World} {H' : Hp} {h' : Heap} {kvs : List (Key × V)} {vs : List (Key × Value)} (z : kvs.length ≤ sizeLine) (hd : (a == sysModules) = false) (rel : KV kvs vs) (dd : h'.DictOf (mixKind P w) a vs) :
    ObjOk P w H' h' a (.dK kvs) := ⟨z, hd, vs, rel, dd⟩
theorem d_setItem {H' : Hp} {Q : Unit → Shared → Prop} (hu : A.units + 1 < cLine) (I : Inv X pins σ H s) (g : DPut H a y v H') (ry : RelV y u) (rv : RelV v r) (h : ∀ s', Inv X pins σ H' s' → Q () s') :
    wpAny (model X.prog X.w) A (setItem (.ref a) u r) Q E s := by
  rcases g with ⟨kvs, k, e, ey, l, eH⟩ | ⟨kvs, k, b, e, ey, eb, l, eH⟩
  · subst ey eH
    obtain ⟨z, hd, vs, rel, dd⟩ := dk_of I.hok e
    have hz : vs.length ≤ sizeLine := by rw [← rel.length]; exact z
    have hl : (putK kvs k v).length ≤ sizeLine := by have := length_putK kvs k v; omega
    refine wpAny_setItem_pairs (hsz := hz) (kV_is ry) dd fun h' dd' hs => h _ ?_
    have he : ∃ q, h'.get? a = some q := by obtain ⟨q, _, _, hq, _⟩ := dd'; exact ⟨q, hq⟩
    exact d_write I (by rw [e]; exact True.intro) hs he (dk_new hl hd (rel.put k rv) dd')
  · subst ey eH
    cases (show u = Value.ref b from ry)
    obtain ⟨z, hd, xs, rel, dd⟩ := dt_of I.hok e
    have hz : xs.length ≤ sizeLine := by rw [← Paired.length rel]; exact z
    have hl : (putK kvs k v).length ≤ sizeLine := by have := length_putK kvs k v; omega
    refine wpAny_setItem_heap (hsz := hz) (tupleKind_room_in1 hu) (key_of I.hok eb) dd fun h' dd' hs => h _ ?_
    obtain ⟨q, es, ep, hq, h2, h3, h4, _, h5⟩ := dd'
    refine d_write I (by rw [e]; exact True.intro) hs ⟨q, hq⟩ ⟨hl, hd, _, (rel.put k eb rv).keeps fun c ys ec => ?_, q, es, ep, hq, h2, h3, h4, h5⟩
    rw [upd_ne (ne_of ec e (fun z => nomatch z))]
    exact ec
end
section
variable {X : Cx} {pins : List (Addr × Obj)} {σ : St} {H : Hp} {s : Shared} {a : Addr} {kvs : List (Key × V)} {k : Key} {u : Value} {A : Around} {E : Value → Shared → Prop}
end
noncomputable def NoSl (i : Expr) : Prop := ∀ ov iv, subscripted i false ov iv = operate [ov, iv] (getItem ov iv)
theorem subD_of {prog : Program} {w : World} {A : Around} {E : Value → Shared → Prop} {s : Shared} {env : Env} {value slice : Expr} {pos : Pos} {T id : String} {Q : Value → Shared → Prop}
    (hl : typeLookup (.type T) "__getitem__" = pure (some (.builtin id))) (hs : NoSl slice)
    (h : wpAny (model prog w) A (eval value env) (fun o s₁ => wpAny (model prog w) A (eval slice env) (fun i s₂ => s₂.TypeIs o T ∧ wpAny (model prog w) A (getItem o i) Q E s₂) E s₁) E s) :
    wpAny (model prog w) A (eval (.Subscript value slice pos) env) Q E s := by
  refine Subscript_ (wpAny_mono h (fun o s₁ h₁ => wpAny_mono h₁ (fun i s₂ h₂ => ?_) fun _ _ x => x) fun _ _ x => x)
  obtain ⟨hT, h₂⟩ := h₂
  unfold subscriptTail
  refine wpAny_bind ?_
  rw [getitemInPython_of_ne hT.not_modules]
  refine wpAny_bind (wpAny_specialOf hT hl ?_)
  have fin : wpAny (model prog w) A (subscripted slice false o i) (fun r s₃ => wpAny (model prog w) A (letTemporaryGo value o r >>= fun _ => pure r) Q E s₃) E s₂ := by
    rw [hs o i]
    exact wpAny_operating (wpAny_mono h₂ (fun r s₃ h₃ => wpAny_bind (wpAny_letTemporaryGo (wpAny_pure h₃))) fun _ _ x => x)
  first
    | exact wpAny_pure (wpAny_bind fin)
    | exact wpAny_bind (wpAny_pure (wpAny_bind fin))
    | exact wpAny_bind fin
theorem dict_typeIs {X : Cx} {pins : List (Addr × Obj)} {σ : St} {H : Hp} {s : Shared} {a : Addr} {y : V} {o : Option V} (I : Inv X pins σ H s) (g : DGet H a y o) : s.TypeIs (.ref a) "dict" := by
  rcases g with ⟨kvs, k, e, _, _⟩ | ⟨kvs, k, b, e, _, _, _⟩
  · obtain ⟨_, _, vs, _, dd⟩ := dk_rd I.hok e
    exact dd.typeIs
  · obtain ⟨_, _, xs, _, dd⟩ := dt_rd I.hok e
    exact dd.typeIs
noncomputable def tDGet (td ty : TE) : TE := fun σ H Q => td σ H fun x H1 => ty σ H1 fun y H2 => ∃ a v, x = .ref a ∧ DGet H2 a y (some v) ∧ Q v H2
noncomputable def tDIn (ty td : TE) : TE := fun σ H Q => ty σ H fun y H1 => td σ H1 fun x H2 => ∃ a o, x = .ref a ∧ DGet H2 a y o ∧ Q (.bl o.isSome) H2
noncomputable def tDNotIn (ty td : TE) : TE := fun σ H Q => ty σ H fun y H1 => td σ H1 fun x H2 => ∃ a o, x = .ref a ∧ DGet H2 a y o ∧ Q (.bl (!o.isSome)) H2
noncomputable def sDPut (td ty tv : TE) : TS := fun D σ H => tv σ H fun v H1 => td σ H1 fun x H2 => ty σ H2 fun y H3 => ∃ a H4, x = .ref a ∧ DPut H3 a y v H4 ∧ D.nx σ H4
noncomputable def sDAug (td ty tv : TE) (rd : V → V → Hp → VK → Prop) : TS := fun D σ H => td σ H fun x H1 => ty σ H1 fun y H2 => ∃ a v, x = .ref a ∧ DGet H2 a y (some v) ∧
  tv σ H2 fun y2 H3 => rd v y2 H3 fun z H4 => ∃ H5, DPut H4 a y z H5 ∧ D.nx σ H5
noncomputable def sDDel (td ty : TE) : TS := fun D σ H => td σ H fun x H1 => ty σ H1 fun y H2 => ∃ a kvs k, x = .ref a ∧ H2 a = some (.dK kvs) ∧ y = kV k ∧ (valV kvs k).isSome = true ∧ D.nx σ (upd H2 a (.dK (dropK kvs k)))
section
variable {X : Cx} {o i e value : Expr} {pos pos' tpos : Pos} {td ty tv : TE}
theorem pe_dget (hu : X.A.units + 1 < cLine) (ho : PE X o td) (hi : PE X i ty) (hs : NoSl i) : PE X (.Subscript o i pos) (tDGet td ty) := by
  intro pins s σ H Q I h
  refine subD_of PySem.F.slot_dict_getitem.lookup hs (thn (ho pins s σ H _ I h) fun u s1 ⟨x, H1, I1, rx, q1⟩ => thn (hi pins s1 σ H1 _ I1 q1) fun iv s2 zz => ?_)
  obtain ⟨y, H2, I2, ry, a, v, ex, g, q2⟩ := zz
  subst ex
  obtain rfl : u = Value.ref a := rx
  exact ⟨dict_typeIs I2 g, d_getItem hu I2 g ry fun w' s3 I3 rw' => ⟨v, H2, I3, rw', q2⟩⟩
theorem ps_dput (hu : X.A.units + 1 < cLine) (ho : PE X o td) (hi : PE X i ty) (hv : PE X value tv) (hs : swapsWith value (some (.Subscript o i pos')) pos.line X.env = pure false) :
    PS X (.Assign [.Subscript o i pos'] value pos) (sDPut td ty tv) := by
  intro pins s σ H D I h
  refine wpAny_Assign_Subscript (thn (hv pins s σ H _ I h) fun r s1 ⟨v, H1, I1, rv, q1⟩ => thn (ho pins s1 σ H1 _ I1 q1) fun u s2 ⟨x, H2, I2, rx, q2⟩ => thn (hi pins s2 σ H2 _ I2 q2) fun iv s3 zz => ?_) hs
  obtain ⟨y, H3, I3, ry, a, H4, ex, g, q3⟩ := zz
  subst ex
  obtain rfl : u = Value.ref a := rx
  exact d_setItem hu I3 g ry rv fun s4 I4 => ⟨σ, H4, I4, q3⟩
end
theorem dk_empty {P : Program} {w : World} {H : Hp} (h : Heap) (hb : sysModules < h.objs.size) : ObjOk P w H (h.push { cls := .type "dict", data := .dict #[] }) h.objs.size (.dK []) :=
  ⟨Nat.zero_le _, beq_eq_false_iff_ne.mpr (Ne.symm (Nat.ne_of_lt hb)), [], .nil, Heap.DictOf.new h⟩
noncomputable def tDNewK : TE := fun _ H Q => ∀ p, H p = none → Q (.ref p) (upd H p (.dK []))
noncomputable def tDNewT : TE := fun _ H Q => ∀ p, H p = none → Q (.ref p) (upd H p (.dT []))
section
variable {X : Cx} {pos : Pos}
theorem pe_dnewK : PE X (.Dict [] [] pos) tDNewK := fun pins s σ H Q I h =>
  wpAny_Dict_empty ⟨.ref s.heap.objs.size, _, I.laid (a := s.heap.objs.size) (o := .dK []) (t' := s.toks) (fun _ _ q => Heap.get?_push_of_some _ q) (Nat.le_refl _) (dk_empty s.heap I.big), rfl, h _ (I.hok.fresh (Nat.le_refl _))⟩
end
noncomputable def tPairs : List (TE × TE) → St → Hp → (List (V × V) → Hp → Prop) → Prop
  | [], _, H, Q => Q [] H
  | (tk, tv) :: r, σ, H, Q => tk σ H fun x H1 => tv σ H1 fun y H2 => tPairs r σ H2 fun ps H3 => Q ((x, y) :: ps) H3
noncomputable abbrev VV : List (V × V) → List (Value × Value) → Prop := Paired fun p q => RelV p.1 q.1 ∧ RelV p.2 q.2
noncomputable def PPs (X : Cx) (pos : Pos) (keys : List (Option Expr)) (values : List Expr) (trs : List (TE × TE)) : Prop :=
  ∀ (pins : List (Addr × Obj)) (s : Shared) (σ : St) (H : Hp) (Q : List (V × V) → Hp → Prop), Inv X pins σ H s → tPairs trs σ H Q →
    wpAny (model X.prog X.w) X.A (evalPairs (pairTrees keys values X.env pos)) (fun vs s' => ∃ ps H', Inv X pins σ H' s' ∧ VV ps vs ∧ Q ps H') X.xe s
noncomputable def mergeK (kvs more : List (Key × V)) : List (Key × V) := more.foldl (fun acc kv => putK acc kv.1 kv.2) kvs
noncomputable def tDisp (trs : List (TE × TE)) : TE := fun σ H Q => ∀ p, H p = none → tPairs trs σ (upd H p (.dK [])) fun ps H2 => H2 p = some (.dK []) ∧ ∃ kvs : List (Key × V), ps = kvs.map (fun kv => (kV kv.1, kv.2)) ∧ kvs.length ≤ 15 ∧ Q (.ref p) (upd H2 p (.dK (mergeK [] kvs)))
structure M1 (X : Cx) (o : Expr) (m : Str) (apos : Pos) (e : Expr) (cpos : Pos) : Prop where
  base : attributeBase o m X.env (eval o X.env) = eval o X.env
  few : ((backTo cpos (starEach [e] X.env)).all (fun x => !x.1) && (backToKw cpos (keywordEach [] X.env)).all (fun x => x.1.isSome)
    && decide (([e] : List Expr).length + ([] : List Keyword).length + (if ([] : List Keyword).isEmpty then 0 else 1) < 30)) = true
  line : (apos.endLine == cpos.line) = true
  trees : backTo cpos (starEach [e] X.env) = [(false, eval e X.env)]
structure M2 (X : Cx) (o : Expr) (m : Str) (apos : Pos) (e f : Expr) (cpos : Pos) : Prop where
  base : attributeBase o m X.env (eval o X.env) = eval o X.env
  few : ((backTo cpos (starEach [e, f] X.env)).all (fun x => !x.1) && (backToKw cpos (keywordEach [] X.env)).all (fun x => x.1.isSome)
    && decide (([e, f] : List Expr).length + ([] : List Keyword).length + (if ([] : List Keyword).isEmpty then 0 else 1) < 30)) = true
  line : (apos.endLine == cpos.line) = true
  trees : backTo cpos (starEach [e, f] X.env) = [(false, eval e X.env), (false, eval f X.env)]
noncomputable def IsD (H : Hp) (a : Addr) : Prop := (∃ kvs, Rd H a (.dK kvs)) ∨ ∃ kvs, Rd H a (.dT kvs)
theorem isD_at {X : Cx} {pins : List (Addr × Obj)} {σ : St} {H : Hp} {s : Shared} {a : Addr} (I : Inv X pins σ H s) (d : IsD H a) :
    s.TypeIs (.ref a) "dict" ∧ (∀ b, Value.ref a = .ref b → ∃ ob, s.heap.get? b = some ob ∧ ob.dict = none) ∧ (a == sysModules) = false := by
  rcases d with ⟨kvs, e⟩ | ⟨kvs, e⟩
  · obtain ⟨_, hd, vs, _, dd⟩ := dk_rd I.hok e
    refine ⟨dd.typeIs, fun b q => ?_, hd⟩
    cases q
    obtain ⟨ob, _, _, h1, h2, _⟩ := dd
    exact ⟨ob, h1, h2.2.1⟩
  · obtain ⟨_, hd, xs, _, dd⟩ := dt_rd I.hok e
    refine ⟨dd.typeIs, fun b q => ?_, hd⟩
    cases q
    obtain ⟨ob, _, _, h1, h2, _⟩ := dd
    exact ⟨ob, h1, h2.2.1⟩
section
variable {X : Cx} {pins : List (Addr × Obj)} {σ : St} {H : Hp} {s : Shared} {a : Addr} {y d : V} {u r : Value} {o : Option V} {A : Around} {E : Value → Shared → Prop}
theorem d_get2 {Q : Value → Shared → Prop} (hu : A.units + 1 < cLine) (I : Inv X pins σ H s) (g : DGet H a y o) (ry : RelV y u) (rd : RelV d r) (h : ∀ w' s', Inv X pins σ H s' → RelV (o.getD d) w' → Q w' s') :
    wpAny (model X.prog X.w) A (call (.builtin "dict.get") [.ref a, u, r]) Q E s := by
  rcases g with ⟨kvs, k, e, ey, l⟩ | ⟨kvs, k, b, e, ey, eb, l⟩
  · subst ey
    obtain ⟨z, hd, vs, rel, dd⟩ := dk_rd I.hok e
    refine call_meetsIn PySem.F.slot_dict_get dd.typeIs PySem.F.entry_dict_get (PySem.F.args_dict_get_3 _ _ _) (meets_dict_get_default (mixKind X.prog X.w) a (kV_is ry) hd r) ⟨_, dd.mapOf, h _ _ (I.tok _) ?_⟩
    rw [l]
    exact (rel.val k).getD rd
  · subst ey
    cases (show u = Value.ref b from ry)
    obtain ⟨z, hd, xs, rel, dd⟩ := dt_rd I.hok e
    refine call_meetsIn PySem.F.slot_dict_get dd.typeIs PySem.F.entry_dict_get (PySem.F.args_dict_get_3 _ _ _) (meetsH_dict_get_default (tupleKind (mixKind X.prog X.w)) a b hd r) ⟨tupleKind_room_in1 hu, k, xs, key_of I.hok eb, dd, h _ _ (I.tok _) ?_⟩
    rw [l]
    exact (rel.val k).getD rd
end
noncomputable def tDGet1 (td ty : TE) : TE := fun σ H Q => td σ H fun x H1 => ∃ a, x = .ref a ∧ IsD H1 a ∧ ty σ H1 fun y H2 => ∃ o, DGet H2 a y o ∧ Q (o.getD .non) H2
noncomputable def tDGet2 (td ty tx : TE) : TE := fun σ H Q => td σ H fun x H1 => ∃ a, x = .ref a ∧ IsD H1 a ∧ ty σ H1 fun y H2 => tx σ H2 fun z H3 => ∃ o, DGet H3 a y o ∧ Q (o.getD z) H3
noncomputable def tDPop1 (td ty : TE) : TE := fun σ H Q => td σ H fun x H1 => ∃ a, x = .ref a ∧ IsD H1 a ∧ ty σ H1 fun y H2 => ∃ kvs k v, H2 a = some (.dK kvs) ∧ y = kV k ∧ valV kvs k = some v ∧ Q v (upd H2 a (.dK (dropK kvs k)))
noncomputable def tDPop2 (td ty tx : TE) : TE := fun σ H Q => td σ H fun x H1 => ∃ a, x = .ref a ∧ IsD H1 a ∧ ty σ H1 fun y H2 => tx σ H2 fun z H3 => ∃ kvs k, H3 a = some (.dK kvs) ∧ y = kV k ∧
  (∀ v, valV kvs k = some v → Q v (upd H3 a (.dK (dropK kvs k)))) ∧ (valV kvs k = none → Q z H3)
section
variable {X : Cx} {o e f : Expr} {apos cpos : Pos} {td ty tx : TE}
theorem pe_dget2 (hu : X.A.units + 1 < cLine) (ho : PE X o td) (he : PE X e ty) (hf : PE X f tx) (m : M2 X o "get" apos e f cpos) : PE X (.Call (.Attribute o "get" apos) [e, f] [] cpos) (tDGet2 td ty tx) := by
  intro pins s σ H Q I h
  refine wpAny_Call_method m.base m.few m.line PySem.F.plainAttrs_dict PySem.F.slot_dict_get PySem.F.type_dict_get (thn (ho pins s σ H _ I h) fun u s1 zz => ?_)
  obtain ⟨x, H1, I1, rx, a, ex, d, q1⟩ := zz
  subst ex
  obtain rfl : u = Value.ref a := rx
  obtain ⟨t1, t2, _⟩ := isD_at I1 d
  refine ⟨t1, t2, ?_⟩
  rw [m.trees]
  refine Calls.callWith_builtin rfl (Calls.evalArgs_plain (Calls.spliced_cons (thn (he pins s1 σ H1 _ I1 q1) fun iv s2 ⟨y, H2, I2, ry, q2⟩ =>
    Calls.spliced_cons (thn (hf pins s2 σ H2 _ I2 q2) fun fv s3 ⟨z, H3, I3, rz, ov, g, q3⟩ => Calls.spliced_nil ?_))))
  exact d_get2 hu I3 g ry rz fun w' s4 I4 rw' => ⟨_, H3, I4, rw', q3⟩
end
section
variable {X : Cx} {pins : List (Addr × Obj)} {σ : St} {H : Hp} {s : Shared} {a : Addr} {kvs : List (Key × V)} {A : Around} {E : Value → Shared → Prop}
end
section
variable {X : Cx} {pins : List (Addr × Obj)} {σ : St} {H : Hp} {s : Shared} {a : Addr} {y : V} {u : Value} {A : Around} {E : Value → Shared → Prop}
end
end L2
namespace Att
open PySem PySem.W PySem.Calls PyProof.Rows
theorem ints_of_wellAll {P : Params} {h : Heap} : ∀ (ns : List Int) (vs : List Value), WellAll P h vs (ns.map WData.int) → IntsAre vs ns := by
  intro ns
  induction ns with
  | nil =>
    intro vs w
    rw [List.map_nil] at w
    cases w
    exact .nil
  | cons n ns ih =>
    intro vs w
    rw [List.map_cons] at w
    cases w with
    | cons a b =>
      cases a
      exact .cons _ _ (ih _ b)
theorem script_of {l : OpenLaw} {n : Nat} (hn : l.most = some n) {P : Params} {h : Heap} {args : List WData} {vals : List Value}
    (hpre : l.row.toRowW.claim.pre args = true) (hwl : WellAll P h vals args) :
    ∃ a vs ns, vals = [Value.ref a] ∧ args = [WData.list (ns.map WData.int)] ∧ h.get? a = some { cls := .type "list", data := .seq vs.toArray } ∧ IntsAre vs ns ∧ ns.length ≤ n := by
  have hsh : WShape.hasAll [] args [.list .int] = true := (pre_splitW hpre).1
  have hc : l.pre.holds [] { args := args } = true := (pre_splitW hpre).2
  obtain ⟨d, r, rfl, h1, h2⟩ := hasAllW_cons hsh
  obtain rfl := hasAllW_nil h2
  obtain ⟨xs, rfl, h3⟩ := hasW_list h1
  obtain ⟨ns, rfl⟩ := items_int h3
  have hlen : ns.length ≤ n := by
    unfold OpenLaw.pre at hc
    have h4 : (WTm.not (.lt (.lit (.int (n : Int))) (.len (.arg 0)))).holds [] { args := [.list (ns.map .int)] } = true := by
      have h4 := (holds_andW hc).1
      rw [hn] at h4
      exact h4
    have h5 := condW_of h4 (w_not (w_lt w_lit (w_len_list (w_arg rfl))))
    rw [List.length_map] at h5
    refine Nat.le_of_not_lt fun q => ?_
    have q' : (n : Int) < ((ns.length : Nat) : Int) := by omega
    first
      | (rw [decide_eq_true q'] at h5; exact absurd h5 (by decide))
      | (simp at h5; omega)
  cases hwl with
  | cons w1 w2 =>
    cases w2
    cases w1 with
    | list ho hall => exact ⟨_, _, ns, rfl, rfl, ho, ints_of_wellAll ns _ hall, hlen⟩
theorem post_true (l : OpenLaw) (args : List WData) : l.row.toRowW.claim.post args (.bool true) args = true :=
  postW_of (r := l.row.toRowW) (X := (true == true))
    (show WShape.has [] (.bool true) .bool = true by first | rfl | decide | simp [WShape.has, WShape.arms, WShape.armsAll])
    (show (WTm.eq .res (.lit (.bool true))).value [] { args := args, res := some (.bool true), after := args } = some (.bool (true == true)) from w_eq_bool (w_res rfl) w_lit) rfl
theorem attach_call {l : OpenLaw} {n : Nat} {q : Program} {loose : List Str} {XP : (Str → Option Value) → Heap → Prop} {YP : World → Heap → Prop} {d : DefRec}
    (hn : l.most = some n) (hdf : d.params.defaults = [])
    (call : ∀ (w : World) (s₀ s₁ : Shared) (mg mb : Str → Option Value) (fa : Addr) (o : Obj) (pm cd doc : Value) (a : Addr) (vs : List Value) (ns : List Int),
      Ground q loose [] XP w s₀ mg mb s₁.heap → YP w s₁.heap →
      s₁.heap.get? fa = some o → o.data = .func (docDef d.name d.params d.body d.scope pm cd doc) → s₁.heap.CodeRec cd d.name → mg d.name = some (.ref fa) →
      s₁.heap.get? a = some { cls := .type "list", data := .seq vs.toArray } → IntsAre vs ns → ns.length ≤ n → s₁.gens = #[] →
      codeAny (model l.prog w) callerA (.call (.ref fa) ⟨[.ref a], []⟩) (fun r s' => r = .ok (.ret (.bool true)) ∧ OldK s₁.heap s'.heap ∧ s'.os = s₁.os ∧ AllBare s'.gens) s₁) :
    WalkO q loose XP YP l.row.toRowW d [] (fun f vs => PySem.call f vs) := by
  intro w s₀ s₁ mg mb G Y fa o pm cd doc dV kV ho hd hcd hD hmg hg args vals as hpre hlay hrd hwl hlo
  obtain rfl : dV = .none := Dflts.none hD hdf
  obtain rfl : kV = .none := Dflts.noKw hD
  obtain ⟨a, vs, ns, rfl, rfl, hobj, hints, hlen⟩ := script_of hn hpre hwl
  refine enter_call (codeAny_mono (call w s₀ s₁ mg mb fa o pm cd doc a vs ns G Y ho (fd_plain hd) hcd hmg hobj hints hlen hg) fun r s' hq => ?_)
  obtain ⟨rfl, h2, h3, h4⟩ := hq
  exact ⟨.inl ⟨.bool true, .bool true, [], rfl, fun _ => rfl, .bool true, post_true l _, fun _ => ⟨List.Pairwise.nil, fun _ hm => (nomatch hm)⟩⟩, h2, h3, h4⟩
section
variable {prog : Program} {w : World} {A : Around} {E : Value → Shared → Prop} {s : Shared} {K : Frag}
noncomputable def noObjs (h : Heap) : Heap := { h with objs := #[] }
noncomputable def ledger (h : Heap) (L d : Addr) : List (Addr × Obj) := (List.range h.objs.size).filterMap fun a => if a = L ∨ a = d then none else (h.get? a).map fun o => (a, o)
end
end Att
namespace L2
open PySem PySem.Spec PyProof.Rows
theorem vals_ints : ∀ {vs : List Value} {ns : List Int}, IntsAre vs ns → Vals (ns.map V.int) vs
  | _, _, .nil => .nil
  | _, _, .cons n t h => .cons ⟨t, rfl⟩ (vals_ints h)
noncomputable def Only (H : Hp) : Prop := ∀ b, H b = none ∨ ∃ o xs, H b = some (.frz o (.lst xs))
theorem law_call {P : Program} {w : World} {K : PySem.W.Frag} {mg mb : Str → Option Value} {CX : CXT} {k : Nat} {fa a : Addr} {fd : FuncData} {x : Str} {sp : Sp} {s₁ : Shared} {vs : List Value} {ns : List Int}
    (KX : K.In s₁.heap) (hns : s₁.heap.Ns mainGlobals mg) (hb : s₁.heap.Ns builtinsNs mb) (hbb : ∀ x : Str, x ≠ "__name__" → mb x = bootBuiltins x) (hlim : s₁.heap.NoLimit) (hg : s₁.gens = #[])
    (ha : s₁.heap.get? a = some { cls := .type "list", data := .seq vs.toArray }) (hi : IntsAre vs ns) (hl : ns.length ≤ sizeLine) (hr : Room k callerA)
    (F : ∀ base : Heap, K.In base → base.Ns mainGlobals mg → FnOk P w K mg base CX k fa fd [x] sp) (hbind : ∀ (s : Shared) (u : Value), BindsTo s fd ⟨[u], []⟩ [(x, u)])
    (hsp : ∀ H : Hp, Only H → SqL K H a (ns.map V.int) → sp [.ref a] H (fun v _ => v = .bl true) fun _ _ _ => False)
    (hCX : ∀ H e s', CX [] H s₁ (fun _ _ _ => False) e s' → False) :
    codeAny (model P w) callerA (.call (.ref fa) ⟨[.ref a], []⟩) (fun r s' => r = .ok (.ret (.bool true)) ∧ OldK s₁.heap s'.heap ∧ s'.os = s₁.os ∧ AllBare s'.gens) s₁ := by
  have rv := vals_ints hi
  have lenV := hi.length
  have core : ∀ H : Hp, Only H → SqL K H a (ns.map V.int) → HOk P w H s₁.heap → (∀ b, H b ≠ none → b = a) → (H a ≠ none → K.lookup a = none) →
      codeAny (model P w) callerA (.call (.ref fa) ⟨[.ref a], []⟩) (fun r s' => r = .ok (.ret (.bool true)) ∧ OldK s₁.heap s'.heap ∧ s'.os = s₁.os ∧ AllBare s'.gens) s₁ := by
    intro H hO hS hok hA hK
    have base_of : ∀ {b : Addr} {o : Obj}, s₁.heap.get? b = some o → H b = none → (hidT s₁.heap H).get? b = some o := fun e n => hidT_get e n
    have noA : ∀ {b : Addr} {o : Obj} {es : Array DictEntry} {ep : Nat}, s₁.heap.get? b = some o → o.data = .dict es ep → H b = none := fun {b o es ep} e d => by
      cases q : H b with
      | none => rfl
      | some u =>
        have e' : b = a := hA b (by rw [q]; simp)
        subst e'
        rw [ha] at e; cases e
        have d' : Data.seq vs.toArray _ = Data.dict es ep := d
        cases d'
    have nsK : ∀ {b : Addr} {m : Str → Option Value}, s₁.heap.Ns b m → (hidT s₁.heap H).Ns b m := fun {b m} ⟨o, es, ep, e, d, r⟩ => ⟨o, es, ep, base_of e (noA e d), d, r⟩
    have hKb : K.In (hidT s₁.heap H) := fun b o e => base_of (KX b o e) (by
      cases q : H b with
      | none => rfl
      | some u =>
        have e' : b = a := hA b (by rw [q]; simp)
        subst e'
        rw [hK (by rw [q]; simp)] at e; cases e)
    have hM : Mod K mg (hidT s₁.heap H) := ⟨hKb, nsK hns, ⟨mb, nsK hb, hbb⟩, by obtain ⟨mc, h1, h2⟩ := hlim; exact ⟨mc, nsK h1, h2⟩⟩
    have e0 : Env0 P w K mg (hidT s₁.heap H) callerA [] s₁ H := ⟨rfl, hM, fun b o e => of_hidT e, Nat.le_of_eq (hidT_size _ _), trivial, fun b hb => absurd (show b ∈ ([] : List Addr) from hb) (by simp), hok, .of_eq hg⟩
    refine codeAny_mono ((F _ hKb (nsK hns)).run callerA [] s₁ H ⟨[.ref a], []⟩ [.ref a] [.ref a] _ _ hr e0 (hbind s₁ (.ref a)) (.cons rfl .nil) (hsp H hO hS)) fun r s' h => ?_
    cases r with
    | error e => exact (hCX H e s' h).elim
    | ok fl =>
      cases fl with
      | next => exact False.elim h
      | brk => exact False.elim h
      | cont => exact False.elim h
      | ret u =>
        obtain ⟨v, H', os, bare, un, hok', r', q⟩ := h
        have q' : v = .bl true := q
        subst q'
        obtain rfl : u = Value.bool true := r'
        refine ⟨rfl, OldK.of_keep fun b o e => ?_, os, bare⟩
        cases q : H b with
        | none => exact un.keep b o e q (by intro z; exact absurd (show b ∈ ([] : List Addr) from z) (by simp)) (by simp)
        | some u =>
          rcases hO b with z | ⟨ob, xs, z⟩
          · rw [q] at z; cases z
          · have z2 := un.frzs b ob _ z
            obtain ⟨e1, _⟩ := hok b _ z
            obtain ⟨e2, _⟩ := hok' b _ z2
            rw [e] at e1; cases e1
            exact e2
  cases hk : K.lookup a with
  | some o =>
    have e := KX a o hk
    rw [ha] at e
    cases e
    refine core (fun _ => none) (fun _ => .inl rfl) (.inr ⟨_, vs.toArray, _, hk, rfl, rfl, rfl, by rw [List.size_toArray, lenV]; exact hl, by simpa using rv⟩) (fun b u z => by have z' : (none : Option HO) = some u := z; cases z') (fun b z => absurd rfl z) fun z => absurd rfl z
  | none =>
    refine core (fun b => if b = a then some (.frz { cls := .type "list", data := .seq vs.toArray } (.lst (ns.map V.int))) else none) (fun b => ?_) (.inl (.inr ⟨{ cls := .type "list", data := .seq vs.toArray }, if_pos rfl⟩)) (fun b u z => ?_) (fun b z => ?_) fun _ => hk
    · by_cases hb : b = a
      · exact .inr ⟨_, _, if_pos hb⟩
      · exact .inl (if_neg hb)
    · by_cases hb : b = a
      · have z' := (if_pos hb).symm.trans z
        cases z'
        subst hb
        exact ⟨ha, by rw [List.length_map]; exact hl, vs, _, rv, ha⟩
      · have z' := (if_neg hb).symm.trans z
        cases z'
    · by_cases hb : b = a
      · exact hb
      · exact absurd (if_neg hb) z
end L2
namespace L2
open PySem PySem.Spec PyProof.Rows
noncomputable abbrev KOf {K : PySem.W.Frag} {h : Heap} (_ : K.In h) : PySem.W.Frag := K
theorem walk_of {l : PySem.W.OpenLaw} {n k : Nat} {q : Program} {loose : List Str} {XP : (Str → Option Value) → Heap → Prop} {YP : World → Heap → Prop} {d : DefRec} {K : Params → PySem.W.Frag} {CX : World → CXT} {sp : World → Sp} {x : Str}
    (hn : l.most = some n) (hn2 : n ≤ sizeLine) (hdf : d.params.defaults = []) (hr : Room k callerA)
    (hY : ∀ (w : World) (h : Heap), YP w h → (K w.params).In h)
    (F : ∀ (w : World) (mg : Str → Option Value) (fa : Addr) (h : Heap), (K w.params).In h → h.Ns mainGlobals mg → mg d.name = some (.ref fa) →
      ∃ fd : FuncData, (∀ (s : Shared) (u : Value), BindsTo s fd ⟨[u], []⟩ [(x, u)]) ∧
        ∀ base : Heap, (K w.params).In base → base.Ns mainGlobals mg → FnOk l.prog w (K w.params) mg base (CX w) k fa fd [x] (sp w))
    (hsp : ∀ (w : World) (H : Hp) (a : Addr) (ns : List Int), ns.length ≤ n → Only H → SqL (K w.params) H a (ns.map V.int) → sp w [.ref a] H (fun v _ => v = .bl true) fun _ _ _ => False)
    (hCX : ∀ (w : World) (H : Hp) (s : Shared) (e : Value) (s' : Shared), CX w [] H s (fun _ _ _ => False) e s' → False) :
    PySem.W.WalkO q loose XP YP l.row.toRowW d [] (fun f vs => PySem.call f vs) := by
  refine Att.attach_call hn hdf fun w s₀ s₁ mg mb fa o pm cd doc a vs ns G Y ho hd hcd hmg hobj hints hlen hg => ?_
  have KX := hY w _ Y
  obtain ⟨fd, hb, hF⟩ := F w mg fa _ KX G.T.g hmg
  exact law_call KX G.T.g G.T.b G.T.builtins G.T.nolimit hg hobj hints (Nat.le_trans hlen hn2) hr hF hb (fun H hO hS => hsp w H a ns hlen hO hS) fun H e s' => hCX w H s₁ e s'
end L2
/- THE LAST THEOREM (shape; LID, My.* are yours):
   My.Adr: a structure of the addresses that your layer names (classes, functions); My.Txt K t: a structure (Prop) of the equations over K;
   My.txt_mk : {K} {implicit addresses ..} (e1 : nsIn K mainGlobals "law" = some (some (.ref f))) (e2 : K.lookup f = some ⟨oc, od, .func (fnOf "law" "law" params body scope dV kV doc pm an cdv ct), sl⟩) (e3 : codeIn K cdv "law" = true) .. : ∃ t, My.Txt K t
set_option maxRecDepth 100000 in
set_option maxHeartbeats 0 in
theorem PySem.Challenge.cw_LID_holds : PySem.Challenge.rw_LID.Holds := by
  w_on; o_law; k_head; (case hw => w_witness2)
  k_fill
  refine L2.walk_of (l := PySem.Challenge.rw_LID) (n := 63) (k := 40) (x := "script") (CX := fun w => ..) (sp := fun _ => My.sp_law) rfl (by decide) rfl ⟨rfl, by decide, by decide⟩ (fun w h Y => PySem.W.kIn_of Y) ?F ?S ?C
  case F =>
    intro w mg fa h KX G hmg
    have T : ∃ t, My.Txt (L2.KOf KX) t := by
      dsimp only [L2.KOf]                          -- K must stand as «<heap const> w.params» for k_is
      refine' My.txt_mk ?e1 ?e2 ?e3 ..
      (case e1 => PySem.W.k_is)                    -- in the order: a name -> its address -> its object -> its parts
      (case e2 => PySem.W.k_is)
      ..
    obtain ⟨t, T⟩ := T
    have e0 := hmg.symm.trans (PySem.W.mg_of KX G T.law)
    cases e0                                       -- fa is the law's own address
    exact ⟨_, fun s u => .of_eq rfl, fun base kb nb => My.law_fn T kb nb⟩     -- if «.of_eq rfl» comes too early: refine' ⟨_, ?b, fun base kb nb => My.law_fn T kb nb⟩; exact fun s u => .of_eq rfl
  case S => exact fun w H a ns hl hO hS => ..
  case C => exact ..
(the tactic k_is has no namespace: write k_is) -/
namespace L2
open PySem PySem.Spec PyProof.Rows
noncomputable def inClass (s : Stmt) (j : Nat) : Stmt := match s with
  | .ClassDef _ _ _ body _ _ _ _ _ _ _ => body.getD j (.Pass ⟨0, 0, 0, 0⟩)
  | _ => .Pass ⟨0, 0, 0, 0⟩
noncomputable def defArgs (s : Stmt) : Arguments := match s with
  | .FunctionDef _ a _ _ _ _ _ _ _ _ => a
  | _ => { posonlyargs := [], args := [], vararg := none, kwonlyargs := [], kw_defaults := [], kwarg := none, defaults := [] }
noncomputable def defBody (s : Stmt) : List Stmt := match s with
  | .FunctionDef _ _ b _ _ _ _ _ _ _ => b
  | _ => []
noncomputable def defScope (s : Stmt) : Scope := match s with
  | .FunctionDef _ _ _ _ _ _ sc _ _ _ => sc
  | _ => { kind := .function, names := [], isGenerator := false, isCoroutine := false }
noncomputable abbrev CX0 : CXT := fun _ _ _ _ _ _ => False
noncomputable abbrev E0 : XK := fun _ _ _ => False
theorem pass0 {X : Cx} : Passes CX0 X E0 := fun _ _ _ _ _ _ _ h => h.elim
structure Fun (K : PySem.W.Frag) (x qual : Str) (st : Stmt) (f : Addr) (fd : FuncData) : Prop where
  ex : ∃ (oc : Value) (od : Option Addr) (kV doc pm : Value) (an : Option Addr) (cdv ct : Value) (osl : Array (Option Value)),
    fd = PySem.W.fnOf x qual (defArgs st) (defBody st) (defScope st) .none kV doc pm an cdv ct ∧ K.lookup f = some ⟨oc, od, .func fd, osl⟩ ∧ PySem.W.codeIn K cdv qual = true
  kp : PySem.W.keepIn K (.ref f) = true
section
variable {P : Program} {w : World} {K : PySem.W.Frag} {mg : Str → Option Value} {base : Heap}
theorem Fun.ok {x qual : Str} {st : Stmt} {f : Addr} {fd : FuncData} {N ps : List Str} {k : Nat} {sp : Sp} (F : Fun K x qual st f fd) (S : FnScope N ps (defScope st)) (len : ∀ vs H Q E, sp vs H Q E → vs.length = ps.length)
    (hbody : ∀ (cdv : Value) (A : Around) (outer : List Env) (s : Shared) (H : Hp) (vs : List V) (Q : VK) (E : XK), Room k (A.deeper (envOfC qual (defScope st) s.heap.objs.size f cdv)) → sp vs H Q E →
      ∃ t, PSs (cxOf CX0 P w K mg base N qual (defScope st) f cdv A outer s H E).nox (defBody st) t ∧ t { nx := fun _ H' => Q .non H', rt := Q } (start N vs) H) : FnOk P w K mg base CX0 (k + 1) f fd ps sp := by
  obtain ⟨oc, od, kV, doc, pm, an, cdv, ct, osl, rfl, lk, hcd⟩ := F.ex
  refine fn_of lk hcd S len fun A outer s H vs Q E hr hsp => ?_
  obtain ⟨t, h, q⟩ := hbody cdv A outer s H vs Q E hr hsp
  exact ⟨t, h.nox, q⟩
theorem Fun.binds {x qual : Str} {st : Stmt} {f : Addr} {fd : FuncData} {ps : List Str} (F : Fun K x qual st f fd)
    (h : ∀ (kV doc pm : Value) (an : Option Addr) (cdv ct : Value) (us : List Value), us.length = ps.length → bindArgs (PySem.W.fnOf x qual (defArgs st) (defBody st) (defScope st) .none kV doc pm an cdv ct) ⟨us, []⟩ = pure (ps.zip us)) : Binds K fd ps [] := by
  obtain ⟨oc, od, kV, doc, pm, an, cdv, ct, osl, rfl, lk, hcd⟩ := F.ex
  exact .all (h kV doc pm an cdv ct)
theorem fun_mk {x qual : Str} {st : Stmt} {f : Addr} {oc : Value} {od an : Option Addr} {osl : Array (Option Value)} {kV doc pm cdv ct : Value} (l : K.lookup f = some ⟨oc, od, .func (PySem.W.fnOf x qual (defArgs st) (defBody st) (defScope st) .none kV doc pm an cdv ct), osl⟩)
    (c : PySem.W.codeIn K cdv qual = true) (k : PySem.W.keepIn K (.ref f) = true) : Fun K x qual st f (PySem.W.fnOf x qual (defArgs st) (defBody st) (defScope st) .none kV doc pm an cdv ct) := ⟨⟨oc, od, kV, doc, pm, an, cdv, ct, osl, rfl, l, c⟩, k⟩
end
theorem hu_of {A : Around} {k : Nat} (hr : Room k A) : A.units + 1 < cLine := Nat.lt_of_le_of_lt (Nat.add_le_add_left (by decide : 1 ≤ 64) _) hr.units
section
variable {X : Cx}
theorem pv (i : Nat) {x : Str} {pos : Pos} (hN : X.N[i]? = some x := by rfl) (hv : Vis X.env.scope x := by first | exact Or.inl rfl | exact Or.inr (Or.inl rfl) | exact Or.inr (Or.inr rfl)) (hd : (x == ("__debug__" : Str)) = false := by decide)
    (hcd : (x == ("__classdict__" : Str)) = false := by decide) : PE X (.Name x pos) (tVar i) := pe_var hN hv hd hcd
end
theorem iteF {A B : Prop} (h : B) : if false = true then A else B := by
  rw [if_neg Bool.false_ne_true]
  exact h
theorem iteT {A B : Prop} (h : A) : if true = true then A else B := by
  rw [if_pos rfl]
  exact h
theorem iteNS {c A B : Prop} [Decidable c] (hc : c) (h : B) : if (!decide c) = true then A else B := by
  rw [decide_eq_true hc]
  exact iteF h
noncomputable def Same (H H' : Hp) : Prop := ∀ b o, H b = some o → H' b = some o
theorem Same.refl (H : Hp) : Same H H := fun _ _ h => h
theorem Same.trans {H H1 H2 : Hp} (a : Same H H1) (b : Same H1 H2) : Same H H2 := fun c o h => b c o (a c o h)
theorem Same.free {H H' : Hp} (e : Same H H') {l : Addr} (h : H' l = Option.none) : H l = Option.none := by
  cases q : H l with
  | none => rfl
  | some o =>
    rw [e l o q] at h
    cases h
theorem Same.seq {K : PySem.W.Frag} {H H' : Hp} {a : Addr} {xs : List V} (e : Same H H') (h : SqL K H a xs) : SqL K H' a xs := by
  rcases h with (h | ⟨o, h⟩) | h
  · exact .inl (.inl (e _ _ h))
  · exact .inl (.inr ⟨o, e _ _ h⟩)
  · exact .inr h
end L2
namespace L2
open PySem PySem.Spec PyProof.Rows
section
variable {X : Cx}
end
end L2
namespace L2
open PySem PySem.Spec PyProof.Rows
section
variable {κ : Type} [DecidableEq κ]
theorem valV_not {kvs : List (κ × V)} {k : κ} (h : valV kvs k = none) : ¬ k ∈ kvs.map (·.1) := by
  intro m
  obtain ⟨p, hp, e⟩ := List.mem_map.mp m
  have q : (kvs.any fun kv => decide (kv.1 = k)) = true := List.any_eq_true.mpr ⟨p, hp, decide_eq_true e⟩
  rw [valV_any, h] at q
  exact absurd q (by simp)
theorem valV_in {kvs : List (κ × V)} {k : κ} {v : V} (h : valV kvs k = some v) : k ∈ kvs.map (·.1) := by
  have q : (kvs.any fun kv => decide (kv.1 = k)) = true := by
    rw [valV_any, h]
    all_goals rfl
  obtain ⟨p, hp, e⟩ := List.any_eq_true.mp q
  exact List.mem_map.mpr ⟨p, hp, of_decide_eq_true e⟩
theorem nd_snoc : ∀ {l : List κ} {k : κ}, l.Nodup → ¬ k ∈ l → (l ++ [k]).Nodup
  | [], k, _, _ => by simp
  | a :: r, k, h, hk => by
    obtain ⟨h1, h2⟩ := List.nodup_cons.mp h
    show (a :: (r ++ [k])).Nodup
    refine List.nodup_cons.mpr ⟨fun m => ?_, nd_snoc h2 fun m => hk (List.mem_cons.mpr (Or.inr m))⟩
    rcases List.mem_append.mp m with q | q
    · exact h1 q
    · exact hk (List.mem_cons.mpr (Or.inl (List.mem_singleton.mp q).symm))
theorem nd_putK {kvs : List (κ × V)} {k : κ} (v : V) (hn : (kvs.map (·.1)).Nodup) (h : valV kvs k = none) : ((putK kvs k v).map (·.1)).Nodup := by
  rw [putK_new v h, List.map_append]
  exact nd_snoc hn (valV_not h)
end
end L2

set_option Elab.async false
set_option linter.all false
set_option maxRecDepth 100000
namespace L2
open PySem PySem.Spec PyProof.Rows
noncomputable def closL (env : Env) : List (Str × NameKind) → List (Str × Addr) → List (Str × Addr)
  | [], cs => cs
  | (n, k) :: r, cs => if k == .free then closL env r ((n, (env.cells.lookup n).getD 0) :: cs) else closL env r cs
theorem closL_eq {env : Env} : ∀ (names : List (Str × NameKind)) (cs : List (Str × Addr)), (∀ x ∈ names, x.2 = .free → ∃ c, env.cells.lookup x.1 = some c) →
    (forIn names cs fun (x : Str × NameKind) r => (if (x.2 == .free) = true then do let c ← cellOf env x.1; pure (ForInStep.yield ((x.1, c) :: r)) else pure (ForInStep.yield r) : Sem (ForInStep (List (Str × Addr))))) = pure (closL env names cs)
  | [], cs, _ => rfl
  | (n, k) :: r, cs, h => by
    rw [List.forIn_cons]
    cases hk : (k == NameKind.free) with
    | true =>
      have hk' : k = .free := by simpa using hk
      obtain ⟨c, hc⟩ := h (n, k) List.mem_cons_self hk'
      have e1 : cellOf env n = pure c := by unfold cellOf; rw [hc]
      simp only [hk, if_true, e1, pure_bind]
      rw [closL_eq r _ fun x hx => h x (List.mem_cons_of_mem _ hx)]
      show _ = pure (if (k == NameKind.free) = true then _ else _)
      rw [hk, if_pos rfl, hc]
      rfl
    | false =>
      simp only [hk, Bool.false_eq_true, if_false, pure_bind]
      rw [closL_eq r _ fun x hx => h x (List.mem_cons_of_mem _ hx)]
      show _ = pure (if (k == NameKind.free) = true then _ else _)
      rw [hk, if_neg Bool.false_ne_true]
theorem clos_for {scope : Scope} {env : Env} (h : ∀ x ∈ scope.names, x.2 = .free → ∃ c, env.cells.lookup x.1 = some c) : closureFor scope env = pure (closL env scope.names []) := by
  have e := closL_eq scope.names [] h
  have q : closureFor scope env = (forIn scope.names [] fun (x : Str × NameKind) r => (if (x.2 == .free) = true then do let c ← cellOf env x.1; pure (ForInStep.yield ((x.1, c) :: r)) else pure (ForInStep.yield r) : Sem (ForInStep (List (Str × Addr))))) >>= fun cs => pure cs := rfl
  rw [q, e]
  rfl
theorem closL_of {env : Env} {x : Str} {c : Addr} : ∀ (names : List (Str × NameKind)) (cs : List (Str × Addr)), (∀ x ∈ names, x.2 = .free → ∃ c, env.cells.lookup x.1 = some c) →
    (closL env names cs).lookup x = some c → cs.lookup x = some c ∨ env.cells.lookup x = some c
  | [], cs, _, h => .inl h
  | (n, k) :: r, cs, hf, h => by
    unfold closL at h
    split at h
    · rename_i hk
      rcases closL_of r _ (fun x hx => hf x (List.mem_cons_of_mem _ hx)) h with q | q
      · rw [List.lookup_cons] at q
        split at q
        · rename_i e
          have e' : x = n := by simpa using e
          subst e'
          obtain ⟨c', hc⟩ := hf (x, k) List.mem_cons_self (by simpa using hk)
          have hc' : env.cells.lookup x = some c' := hc
          rw [hc'] at q ⊢
          exact .inr q
        · exact .inl q
      · exact .inr q
    · exact closL_of r _ (fun x hx => hf x (List.mem_cons_of_mem _ hx)) h
theorem closL_some {env : Env} {x : Str} : ∀ (names : List (Str × NameKind)) (cs : List (Str × Addr)), ((cs.lookup x).isSome = true ∨ (x, NameKind.free) ∈ names) → ((closL env names cs).lookup x).isSome = true
  | [], cs, h => by
    rcases h with h | h
    · exact h
    · cases h
  | (n, k) :: r, cs, h => by
    unfold closL
    split
    · refine closL_some r _ ?_
      rw [List.lookup_cons]
      rcases h with h | h
      · left
        split
        · rfl
        · exact h
      · rcases List.mem_cons.mp h with e | h
        · left
          cases e
          simp
        · exact .inr h
    · rename_i hk
      refine closL_some r _ ?_
      rcases h with h | h
      · exact .inl h
      · rcases List.mem_cons.mp h with e | h
        · cases e
          exact absurd rfl hk
        · exact .inr h
theorem lookup_relabel {env : Env} {x : Str} {k' : NameKind} : ∀ {names : List (Str × NameKind)},
    (names.map fun (n, k) => if (k == NameKind.free && env.scope.kind == .function && env.kindOf n == some .cell) then (n, NameKind.cell) else (n, k)).lookup x = some k' → ∃ k, names.lookup x = some k ∧ (k' = k ∨ k = .free)
  | [], h => by simp at h
  | (n, k) :: r, h => by
    have ih := @lookup_relabel env x k' r
    have h' : List.lookup x ((if (k == NameKind.free && env.scope.kind == .function && env.kindOf n == some .cell) = true then (n, NameKind.cell) else (n, k)) :: _) = _ := h
    rw [List.lookup_cons]
    by_cases hc : (k == NameKind.free && env.scope.kind == .function && env.kindOf n == some .cell) = true
    · rw [if_pos hc, List.lookup_cons] at h'
      cases hx : x == n with
      | true =>
        have hk : k = .free := by
          simp only [Bool.and_eq_true, beq_iff_eq] at hc
          exact hc.1.1
        exact ⟨k, rfl, .inr hk⟩
      | false =>
        rw [hx] at h'
        exact ih h'
    · rw [if_neg hc, List.lookup_cons] at h'
      cases hx : x == n with
      | true =>
        rw [hx] at h'
        exact ⟨k, rfl, .inl (Option.some.inj h').symm⟩
      | false =>
        rw [hx] at h'
        exact ih h'
end L2

set_option Elab.async false
set_option linter.all false
set_option maxRecDepth 100000
namespace L2
open PySem PySem.Spec PyProof.Rows
theorem cells_look : ∀ (names : List (Str × NameKind)) (h : Heap) (acc : List (Str × Addr)) (x : Str) (c : Addr), (cellsFrom h.objs.size names acc).lookup x = some c →
    (h.objs.size ≤ c ∧ (x, NameKind.cell) ∈ names ∧ (pushCells h names).IsCell c none) ∨ acc.lookup x = some c
  | [], _, _, _, _, e => .inr e
  | (name, kind) :: r, h, acc, x, c, e => by
    unfold cellsFrom at e
    unfold pushCells
    by_cases hk : (kind == NameKind.cell) = true
    · rw [if_pos hk] at e ⊢
      have hk' : kind = .cell := by simpa using hk
      have sz : (h.push { cls := .type "cell", data := .cell none }).objs.size = h.objs.size + 1 := Heap.size_push ..
      rw [← sz] at e
      rcases cells_look r _ _ x c e with ⟨a1, a2, a3⟩ | a
      · exact .inl ⟨by omega, List.mem_cons_of_mem _ a2, a3⟩
      · rw [List.lookup_cons] at a
        cases hx : x == name with
        | true =>
          rw [hx] at a
          cases a
          have : x = name := by simpa using hx
          subst this
          refine .inl ⟨Nat.le_refl _, by rw [hk']; exact List.mem_cons_self, ?_⟩
          exact ⟨_, pushCells_keeps r _ _ _ (Heap.get?_push_size _ rfl), rfl⟩
        | false => rw [hx] at a; exact .inr a
    · rw [if_neg hk] at e ⊢
      rcases cells_look r h acc x c e with ⟨a1, a2, a3⟩ | a
      · exact .inl ⟨a1, List.mem_cons_of_mem _ a2, a3⟩
      · exact .inr a
theorem cells_inj : ∀ (names : List (Str × NameKind)) (n : Nat) (acc : List (Str × Addr)), (∀ x y c, acc.lookup x = some c → acc.lookup y = some c → x = y) → (∀ x c, acc.lookup x = some c → c < n) →
    ∀ x y c, (cellsFrom n names acc).lookup x = some c → (cellsFrom n names acc).lookup y = some c → x = y
  | [], _, _, h, _ => h
  | (name, kind) :: r, n, acc, h, hb => by
    unfold cellsFrom
    by_cases hk : (kind == NameKind.cell) = true
    · rw [if_pos hk]
      refine cells_inj r (n + 1) _ (fun x y c e1 e2 => ?_) (fun x c e => ?_)
      · rw [List.lookup_cons] at e1 e2
        cases hx : x == name with
        | true =>
          cases hy : y == name with
          | true => rw [beq_iff_eq.mp hx, beq_iff_eq.mp hy]
          | false =>
            rw [hx] at e1; rw [hy] at e2
            cases e1
            exact absurd (hb y _ e2) (Nat.lt_irrefl _)
        | false =>
          cases hy : y == name with
          | true =>
            rw [hx] at e1; rw [hy] at e2
            cases e2
            exact absurd (hb x _ e1) (Nat.lt_irrefl _)
          | false => rw [hx] at e1; rw [hy] at e2; exact h x y c e1 e2
      · rw [List.lookup_cons] at e
        cases hx : x == name with
        | true => rw [hx] at e; cases e; exact Nat.lt_succ_self _
        | false => rw [hx] at e; exact Nat.lt_succ_of_lt (hb x c e)
    · rw [if_neg hk]
      exact cells_inj r n acc h hb
theorem closL_mem {env : Env} {x : Str} {c : Addr} : ∀ (names : List (Str × NameKind)) (cs : List (Str × Addr)), (closL env names cs).lookup x = some c → cs.lookup x = some c ∨ (x, NameKind.free) ∈ names
  | [], cs, h => .inl h
  | (n, k) :: r, cs, h => by
    unfold closL at h
    split at h
    · rename_i hk
      have hk' : k = .free := by simpa using hk
      rcases closL_mem r _ h with q | q
      · rw [List.lookup_cons] at q
        cases hx : x == n with
        | true =>
          have : x = n := by simpa using hx
          subst this
          exact .inr (by rw [hk']; exact List.mem_cons_self)
        | false => rw [hx] at q; exact .inl q
      · exact .inr (List.mem_cons_of_mem _ q)
    · rcases closL_mem r _ h with q | q
      · exact .inl q
      · exact .inr (List.mem_cons_of_mem _ q)
theorem wp_newEnvK {M : Model} {A : Around} {E : Value → Shared → Prop} {s : Shared} {scope : Scope} {globals : Addr} {closure : List (Str × Addr)} {qual : Str} {outer : Env} {Q : Env → Shared → Prop}
    (h : Q (newEnv scope s.heap.objs.size globals (cellsFrom (s.heap.objs.size + 1) scope.names closure) qual none .none (some outer) builtinsNs) { s with heap := pushCells (s.heap.push { cls := .type "dict", data := .dict #[] }) scope.names }) :
    wpAny M A (newFunctionEnv scope globals closure [] qual none .none (some outer)) Q E s := by
  simp only [newFunctionEnv, Option.isSome_some, if_true]
  refine wpAny_bind (wpAny_alloc ?_)
  refine wpAny_bind (wpAny_layCells _ (fun name kind cells => by cases hkc : kind == NameKind.cell <;> simp [hkc]) _ _ _ _ ?_)
  rw [show ({ s with heap := s.heap.push { cls := .type "dict", data := .dict #[] } } : Shared).heap.objs.size = s.heap.objs.size + 1 from Heap.size_push ..]
  refine wpAny_bind ?_
  rw [List.forIn_nil]
  exact wpAny_pure (wpAny_pure h)
noncomputable def cellsK (X : Cx) (scope : Scope) (s0 : Shared) : List (Str × Addr) := cellsFrom (s0.heap.objs.size + 1) scope.names (closL X.env scope.names [])
noncomputable def Cx.comp (X : Cx) (N : List Str) (scope : Scope) (s0 : Shared) (H0 : Hp) (ex : List Addr) : Cx where
  prog := X.prog
  w := X.w
  K := X.K
  mg := X.mg
  base := X.base
  A := X.A
  N := N
  s₀ := s0
  H₀ := H0
  env := compEnvC scope (cellsK X scope s0) s0.heap.objs.size X.env
  outer := X.stack
  stack := X.stack
  ex := ex
  fn := fun x => decide (scope.names.lookup x = some .cell)
  calm := X.calm
  pn := []
  xe := fun _ _ => False
noncomputable def capS (cap : List (Option Nat)) (σ : St) : St := cap.map fun o => o.bind fun j => (σ[j]?).join
structure CompScope (X : Cx) (N : List Str) (cap : List (Option Nat)) (scope : Scope) : Prop where
  kind : scope.kind = .function
  uniq : ∀ y ∈ scope.names, scope.names.lookup y.1 = some y.2
  free : ∀ y ∈ scope.names, y.2 = .free → X.env.kindOf y.1 = some .cell ∨ X.env.kindOf y.1 = some .free
  len : cap.length = N.length
  cap : ∀ (i : Nat) (x : Str) (j : Nat), N[i]? = some x → cap[i]? = some (some j) → X.N[j]? = some x ∧ scope.names.lookup x = some .free
noncomputable def PIfs (X : Cx) (ifs : List Expr) (t : TT) : Prop :=
  ∀ (pins : List (Addr × Obj)) (s : Shared) (σ : St) (H : Hp) (Q : Bool → Hp → Prop), Inv X pins σ H s → t σ H Q →
    wpAny (model X.prog X.w) X.A (forIn ifs true fun c r => if r = true then do let ok ← isTrue c X.env (eval c X.env); pure (ForInStep.yield ok) else pure (ForInStep.yield r)) (TP X pins σ Q) X.xe s
noncomputable def tYes : TT := fun _ H Q => Q true H
theorem pifs_nil {X : Cx} : PIfs X [] tYes := fun _ _ _ H _ I h => wpAny_tests_nil ⟨H, I, h⟩
theorem pifs_one {X : Cx} {c : Expr} {t : TT} (h : PT X c t) : PIfs X [c] t := fun pins s σ H Q I hw => wpAny_tests_one (h pins s σ H Q I hw)
noncomputable def tBlk (cap : List (Option Nat)) (g : TG) (tt : TT) (te : TE) (J : It) (σ : St) (H1 : Hp) (F : Addr → Hp → Prop) : Prop :=
  ∀ D, H1 D = none → ∃ W : Nat → Nat → St → Hp → Prop, (∃ m, W 0 m (capS cap σ) (upd H1 D (.lst []))) ∧ ∀ i m σ1 H2, W i m σ1 H2 →
    (J.stop i H2 ∧ F D H2) ∨ (J.go i H2 ∧ ∀ x H3, J.yld i H2 x H3 → g x σ1 H3 fun σ2 H4 => tt σ2 H4 fun b H5 =>
      if b = true then te σ2 H5 fun y H6 => ∃ ys, H6 D = some (.lst ys) ∧ ys.length < sizeLine ∧ ∃ m', m' < m ∧ W (i + 1) m' σ2 (upd H6 D (.lst (ys ++ [y])))
      else ∃ m', m' < m ∧ W (i + 1) m' σ2 H5)
theorem relabel_look {env : Env} {x : Str} : ∀ {names : List (Str × NameKind)} {k : NameKind}, names.lookup x = some k →
    (names.map fun (n, k) => if (k == NameKind.free && env.scope.kind == .function && env.kindOf n == some .cell) then (n, NameKind.cell) else (n, k)).lookup x = some (if (k == NameKind.free && env.scope.kind == .function && env.kindOf x == some .cell) then NameKind.cell else k)
  | [], _, h => by simp at h
  | (n, q) :: r, k, h => by
    have ih := @relabel_look env x r k
    show List.lookup x ((if (q == NameKind.free && env.scope.kind == .function && env.kindOf n == some .cell) = true then (n, NameKind.cell) else (n, q)) :: _) = _
    rw [List.lookup_cons] at h
    cases hx : x == n with
    | true =>
      rw [hx] at h
      cases h
      have : x = n := by simpa using hx
      subst this
      by_cases hc : (q == NameKind.free && env.scope.kind == .function && env.kindOf x == some .cell) = true
      · rw [if_pos hc, if_pos hc, List.lookup_cons, hx]
      · rw [if_neg hc, if_neg hc, List.lookup_cons, hx]
    | false =>
      rw [hx] at h
      by_cases hc : (q == NameKind.free && env.scope.kind == .function && env.kindOf n == some .cell) = true
      · rw [if_pos hc, List.lookup_cons, hx]; exact ih h
      · rw [if_neg hc, List.lookup_cons, hx]; exact ih h
section
variable {X : Cx} {N : List Str} {cap : List (Option Nat)} {scope : Scope} {pins : List (Addr × Obj)} {σ : St} {H H' : Hp} {s s' : Shared} {fp : List Addr}
theorem comp_cells (C : CompScope X N cap scope) (ok : X.Ok) : ∀ x ∈ scope.names, x.2 = .free → ∃ c, X.env.cells.lookup x.1 = some c := fun x hx hf => ok.has x.1 (C.free x hx hf)
theorem comp_sub (C : CompScope X N cap scope) (ok : X.Ok) {x : Str} {c : Addr} (h : (closL X.env scope.names []).lookup x = some c) : X.env.cells.lookup x = some c := by
  rcases closL_of scope.names [] (comp_cells C ok) h with q | q
  · simp at q
  · exact q
theorem comp_has (C : CompScope X N cap scope) (ok : X.Ok) {x : Str} (h : scope.names.lookup x = some .free) : ∃ c, (closL X.env scope.names []).lookup x = some c :=
  Option.isSome_iff_exists.mp (closL_some scope.names [] (.inr (PySem.mem_of_lookup h)))
theorem comp_look (C : CompScope X N cap scope) (ok : X.Ok) {h : Heap} (hz : h.objs.size = s.heap.objs.size + 1) {x : Str} {c : Addr} (e : (cellsK X scope s).lookup x = some c) :
    (s.heap.objs.size < c ∧ scope.names.lookup x = some .cell ∧ (pushCells h scope.names).IsCell c none) ∨ (scope.names.lookup x = some .free ∧ X.env.cells.lookup x = some c) := by
  unfold cellsK at e
  rw [← hz] at e
  rcases cells_look scope.names h _ x c e with ⟨a1, a2, a3⟩ | a
  · exact .inl ⟨by omega, C.uniq _ a2, a3⟩
  · refine .inr ⟨?_, comp_sub C ok a⟩
    rcases closL_mem scope.names [] a with q | q
    · simp at q
    · exact C.uniq _ q
theorem inv_comp (C : CompScope X N cap scope) (I : Inv X pins σ H s) (hf : ∀ b ∈ fp, FpOk X pins H b) (hfl : ∀ b ∈ fp, b < s.heap.objs.size) {tk : Nat} :
    Inv (X.comp N scope s H fp) [] (capS cap σ) H { s with heap := pushCells (s.heap.push { cls := .type "dict", data := .dict #[] }) scope.names, toks := tk } := by
  have hC : H s.heap.objs.size = none := I.hok.fresh (Nat.le_refl _)
  have hz : (s.heap.push { cls := .type "dict", data := .dict #[] }).objs.size = s.heap.objs.size + 1 := Heap.size_push ..
  have hns : (pushCells (s.heap.push { cls := .type "dict", data := .dict #[] }) scope.names).Ns s.heap.objs.size fun _ => none := (Heap.Ns.new s.heap (.type "dict")).keeps (pushCells_keeps _ _)
  have hk : ∀ b o, s.heap.get? b = some o → (pushCells (s.heap.push { cls := .type "dict", data := .dict #[] }) scope.names).get? b = some o := fun b o e => pushCells_keeps _ _ b o (Heap.get?_push_of_some _ e)
  have look : ∀ {x c}, (X.comp N scope s H fp).env.cells.lookup x = some c → _ := fun {x c} h => comp_look (s := s) C I.ok hz h
  have clt : ∀ x c, X.env.cells.lookup x = some c → c < s.heap.objs.size := fun x c h => by
    obtain ⟨v, q⟩ := I.cell x c h
    exact q.lt
  have kind : ∀ x k, (relabel scope X.env).names.lookup x = some k → k = .cell ∨ k = .free → scope.names.lookup x = some .cell ∨ scope.names.lookup x = some .free := fun x k e hk => by
    obtain ⟨k0, e0, z⟩ := lookup_relabel e
    rcases z with z | z
    · rw [← z] at e0
      rcases hk with q | q
      · rw [q] at e0; exact .inl e0
      · rw [q] at e0; exact .inr e0
    · rw [z] at e0; exact .inr e0
  refine ⟨⟨I.ok.mod, C.kind, I.ok.glob, I.ok.blt, Nat.le_refl _, ?inj, fun x hx => ?has, fun x c h e => ?cab, I.ok.hd, I.ok.frames, .inl rfl, fun b hb => ⟨Nat.ne_of_lt (hfl b hb), fun x c h => ?exf⟩,
      I.bs, Nat.le_trans I.ok.bsz I.sz, fun b o e hb => ?noex, fun b hb hs => ?exfs, I.stack, I.stkFree⟩,
    rfl, I.bare, Un.kept hk, ⟨_, hns, fun i x v h1' h2 h3 => ?loc⟩, fun x c h => ?cell, hC, fun x c h => ?freeC, fun p hp => absurd (show p ∈ ([] : List (Addr × Obj)) from hp) (by simp), I.hok.kept hk, ?len⟩
  case inj =>
    refine cells_inj scope.names _ _ (fun x y c e1 e2 => I.ok.inj x y c (comp_sub C I.ok e1) (comp_sub C I.ok e2)) fun x c e => Nat.lt_succ_of_lt (clt x c (comp_sub C I.ok e))
  case has =>
    have hx' : (relabel scope X.env).names.lookup x = some .cell ∨ (relabel scope X.env).names.lookup x = some .free := hx
    refine Option.isSome_iff_exists.mp (PySem.W.cellsFrom_some scope.names _ _ ?_)
    rcases (hx'.elim (fun q => kind x _ q (.inl rfl)) fun q => kind x _ q (.inr rfl)) with q | q
    · exact .inl q
    · obtain ⟨c, hc⟩ := comp_has C I.ok q
      exact .inr (by rw [hc]; rfl)
  case cab =>
    have h : scope.names.lookup x = some .cell := of_decide_eq_true h
    rcases look e with ⟨a, _⟩ | ⟨a, _⟩
    · exact Nat.le_of_lt a
    · rw [h] at a; cases a
  case exf =>
    rcases look h with ⟨a, _⟩ | ⟨_, a⟩
    · exact fun z => Nat.lt_irrefl _ (Nat.lt_trans a (by rw [z]; exact hfl b hb))
    · exact (hf b hb).2.2.2.2.1 x c a
  case noex =>
    obtain ⟨_, _, _, z, _⟩ := hf b hb
    rcases z with z | z
    · exact I.ok.noex b o e z
    · exact absurd (Nat.lt_of_lt_of_le (Heap.lt_size e) (Nat.le_trans I.ok.bsz z)) (Nat.lt_irrefl _)
  case exfs =>
    obtain ⟨_, f1, f2, _⟩ := hf b hb
    rcases List.mem_cons.mp (I.stkSub b hs) with e | e
    · exact f1 e
    · exact f2 e
  case loc =>
    have h2' : (cap.map fun o => o.bind fun j => (σ[j]?).join)[i]? = some (some v) := h2
    rw [List.getElem?_map] at h2'
    cases hc : cap[i]? with
    | none => rw [hc] at h2'; cases h2'
    | some o =>
      rw [hc] at h2'
      cases o with
      | none => cases h2'
      | some j =>
        have h2'' : (σ[j]?).join = some v := Option.some.inj h2'
        have hσ : σ[j]? = some (some v) := by
          cases hj : σ[j]? with
          | none => rw [hj] at h2''; cases h2''
          | some o => rw [hj] at h2''; exact congrArg some h2''
        obtain ⟨hN, hfr⟩ := C.cap i x j h1' hc
        obtain ⟨m, hn, hl⟩ := I.loc
        have hkind : X.env.kindOf x = some .cell ∨ X.env.kindOf x = some .free := C.free (x, .free) (PySem.mem_of_lookup hfr) rfl
        obtain ⟨u, r, l⟩ := hl j x v hN hσ (by rcases hkind with q | q; exact .inr (.inl q); exact .inr (.inr q))
        refine ⟨u, r, .inr ⟨?_, ?_⟩⟩
        · show (relabel scope X.env).names.lookup x = some .cell ∨ (relabel scope X.env).names.lookup x = some .free
          have := relabel_look (env := X.env) hfr
          have e : (relabel scope X.env).names.lookup x = _ := this
          rw [e]
          split
          · exact .inl rfl
          · exact .inr rfl
        · obtain ⟨c, hcl⟩ := comp_has C I.ok hfr
          obtain ⟨c2, hc2⟩ := Option.isSome_iff_exists.mp (PySem.W.cellsFrom_some scope.names (s.heap.objs.size + 1) (closL X.env scope.names []) (x := x) (.inr (by rw [hcl]; rfl)))
          rcases look (x := x) (c := c2) hc2 with ⟨_, a, _⟩ | ⟨_, a⟩
          · rw [hfr] at a; cases a
          · rcases l with ⟨k, _⟩ | ⟨_, c', e, z⟩
            · rcases hkind with q | q
              · rw [k] at q; cases q
              · rw [k] at q; cases q
            · rw [a] at e
              cases e
              obtain ⟨o, ho, hd⟩ := z
              exact ⟨c2, hc2, o, hk c2 o ho, hd⟩
  case cell =>
    rcases look h with ⟨_, _, a⟩ | ⟨_, a⟩
    · exact ⟨none, a⟩
    · obtain ⟨v, o, ho, hd⟩ := I.cell x c a
      exact ⟨v, o, hk c o ho, hd⟩
  case freeC =>
    rcases look h with ⟨a, _⟩ | ⟨_, a⟩
    · exact I.hok.fresh (Nat.le_of_lt a)
    · exact I.freeC x c a
  case len =>
    show (cap.map _).length = N.length
    rw [List.length_map, C.len]
end
end L2

set_option Elab.async false
set_option linter.all false
set_option maxRecDepth 100000
namespace L2
open PySem PySem.Spec PyProof.Rows
noncomputable def tComp (cap : List (Option Nat)) (wi : TI) (g : TG) (tt : TT) (te : TE) : TE := fun σ H Q => wi σ H fun J H1 => tBlk cap g tt te J σ H1 fun D H2 => Q (.ref D) H2
noncomputable def tCompS (i : Nat) (cap : List (Option Nat)) (wi : TI) (g : TG) (tt : TT) (te : TE) : TS := fun D σ H => wi σ H fun J H1 => tBlk cap g tt te J σ H1 fun l H2 => D.nx (σ.set i (some (.ref l))) H2
end L2

set_option Elab.async false
set_option linter.all false
set_option maxRecDepth 100000
namespace L2
open PySem PySem.Spec PyProof.Rows
theorem ObjOk.there {P : Program} {w : World} {H : Hp} {h : Heap} {a : Addr} {o : HO} (x : ObjOk P w H h a o) : ∃ u, h.get? a = some u := by
  cases o with
  | lst xs => obtain ⟨_, _, _, _, e⟩ := x; exact ⟨_, e⟩
  | tup xs => obtain ⟨_, _, _, o, e, _⟩ := x; exact ⟨_, e⟩
  | dK kvs => obtain ⟨_, _, _, _, o, _, _, e, _⟩ := x; exact ⟨_, e⟩
  | dT kvs => obtain ⟨_, _, _, _, o, _, _, e, _⟩ := x; exact ⟨_, e⟩
  | set S n => obtain ⟨o, _, _, _, e, _⟩ := x; exact ⟨_, e⟩
  | ins C dx fs => obtain ⟨_, _, _, e, _⟩ := x; exact ⟨_, e⟩
  | own y => exact x
  | xd fs => obtain ⟨_, ⟨_, _, _, e, _⟩, _⟩ := x; exact ⟨_, e⟩
  | rng lo hi => obtain ⟨_, _, _, e⟩ := x; exact ⟨_, e⟩
  | frz ob u => obtain ⟨e, _⟩ := x; exact ⟨_, e⟩
  | tbl ps => exact ⟨_, (show h.get? a = some _ from x)⟩
  | met f y => exact ⟨_, (show h.get? a = some _ from x)⟩
  | ext φ => obtain ⟨_, e, _⟩ := x; exact e
structure Flown (P : Program) (w : World) (outer : List Env) (H : Hp) (hc : Heap) (H' : Hp) (ex C : Addr) (B : Heap) (a0 : Value) (h : Heap) : Prop where
  un : Un (frs outer) [] H H' hc h
  hok : HOk P w H' h
  fly : Heap.FlyingW B outer ex (.ref C) a0 h
  inB : ∀ b o, h.get? b = some o → b ∉ frs outer → ((∃ o', hc.get? b = some o') ∨ H' b ≠ none) → B.get? b = some o
  frf : ∀ b ∈ frs outer, H' b = none
theorem Flown.move {P : Program} {w : World} {outer : List Env} {H H' : Hp} {hc B h h' : Heap} {ex C : Addr} {a0 : Value} (F : Flown P w outer H hc H' ex C B a0 h) (st : B.StaysIn h') (up : h.UpToSlots h') :
    Un (frs outer) [] H H' hc h' ∧ HOk P w H' h' ∧ ∀ b o, h'.get? b = some o → b ∉ frs outer → ((∃ o', hc.get? b = some o') ∨ H' b ≠ none) → B.get? b = some o := by
  have nf : ∀ b ∈ frs outer, ∀ o, h.get? b = some o → ∀ vs, o.data ≠ .fields vs := fun b hb o e => by
    obtain ⟨_, o', e', d⟩ := F.fly.2.2.1.mem hb
    rw [e] at e'; cases e'
    exact d
  have tr : ∀ b o, H' b = some o → b ∉ frs outer := fun b o e hb => by rw [F.frf b hb] at e; cases e
  have old : ∀ b, (∃ o', hc.get? b = some o') ∨ H' b ≠ none → ∃ o, h.get? b = some o := fun b hb => by
    rcases hb with ⟨o', e⟩ | hb
    · obtain ⟨o, e'⟩ := F.un.there b o' e (by simp)
      exact ⟨o, e'⟩
    · cases q : H' b with
      | none => exact absurd q hb
      | some u => exact (F.hok b u q).there
  refine ⟨⟨fun b o e n hb hx => ?_, fun b o e n hb hx => ?_, F.un.free, fun b o e hx => ?_, F.un.tups, F.un.frzs, F.un.tbls⟩, fun a o e => ?_, fun b o e hb hw => ?_⟩
  · exact st b o (F.inB b o (F.un.keep b o e n hb hx) hb (.inl ⟨o, e⟩))
  · obtain ⟨sl, e1⟩ := F.un.slot b o e n hb hx
    obtain ⟨sl', e2⟩ := up b _ e1 (nf b hb _ e1)
    exact ⟨sl', e2⟩
  · obtain ⟨o1, e1⟩ := F.un.there b o e hx
    by_cases hb : b ∈ frs outer
    · obtain ⟨sl', e2⟩ := up b _ e1 (nf b hb _ e1)
      exact ⟨_, e2⟩
    · exact ⟨o1, st b o1 (F.inB b o1 e1 hb (.inl ⟨o, e⟩))⟩
  · refine (F.hok a o e).stay (fun b u hb q => ?_) (fun _ q => q) fun _ _ q => q
    have hn : H' b ≠ none := by
      rcases hb with z | z
      · rw [z, e]; simp
      · rw [z]; simp
    have hb' : b ∉ frs outer := fun z => hn (F.frf b z)
    exact st b u (F.inB b u q hb' (.inr hn))
  · obtain ⟨o1, e1⟩ := old b hw
    have e2 := F.inB b o1 e1 hb hw
    have e3 := st b o1 e2
    rw [e] at e3; cases e3
    exact e2
noncomputable def CX1 (P : Program) (w : World) : CXT := fun outer H s E e s' =>
  ∃ ex C H' B a0, e = .ref ex ∧ s'.os = s.os ∧ AllBare s'.gens ∧ Flown P w outer H s.heap H' ex C B a0 s'.heap ∧ E (.ref C) none H'
section
variable {P : Program} {w : World} {K : PySem.W.Frag} {mg : Str → Option Value} {base : Heap} {N : List Str} {qual : Str} {scope : Scope} {f : Addr} {cd : Value} {A : Around} {outer : List Env} {s : Shared} {H : Hp} {E : XK}
noncomputable def Leaves (X : Cx) (E : XK) : Prop := ∀ (pins : List (Addr × Obj)) (σ : St) (H : Hp) (s : Shared) (h' : Heap) (ex C : Addr) (args : List Value),
  Inv X pins σ H s → Heap.MadeExcOf s.heap h' ex (.ref C) args → E (.ref C) none H → X.xe (.ref ex) { s with heap := h' }
theorem leaves1 : Leaves (cxOf (CX1 P w) P w K mg base N qual scope f cd A outer s H E) E := by
  intro pins σ H1 s1 h' ex C args I hm hE
  show wpAny (model P w) (A.deeper (envOfC qual scope s.heap.objs.size f cd)) (leaving (envOfC qual scope s.heap.objs.size f cd) (.ref ex)) _ _ { s1 with heap := h' }
  have hst : (cxOf (CX1 P w) P w K mg base N qual scope f cd A outer s H E).stack = envOfC qual scope s.heap.objs.size f cd :: outer := rfl
  have hin : ∀ env ∈ (envOfC qual scope s.heap.objs.size f cd :: outer), ∀ b, env.frame = some b → b ∈ frs (envOfC qual scope s.heap.objs.size f cd :: outer) := fun env he b hb => List.mem_filterMap.mpr ⟨env, he, hb⟩
  have hFun : s1.heap.FunFrames base (envOfC qual scope s.heap.objs.size f cd :: outer) := I.stack
  have hB : (PySem.W.hideAll s1.heap (frs (envOfC qual scope s.heap.objs.size f cd :: outer))).StaysIn s1.heap := fun b o q => PySem.W.of_hideAll _ q
  have getB : ∀ b o, s1.heap.get? b = some o → b ∉ frs (envOfC qual scope s.heap.objs.size f cd :: outer) → (PySem.W.hideAll s1.heap (frs (envOfC qual scope s.heap.objs.size f cd :: outer))).get? b = some o := fun b o e n => PySem.W.hideAll_get _ e n
  have sub : ∀ b, b ∈ frs (envOfC qual scope s.heap.objs.size f cd :: outer) → b = s.heap.objs.size ∨ b ∈ frs outer := fun b hb => List.mem_cons.mp (I.stkSub b hb)
  have sup : ∀ b, b ∈ frs outer → b ∈ frs (envOfC qual scope s.heap.objs.size f cd :: outer) := fun b hb => by
    unfold frs at hb ⊢
    rw [List.filterMap_cons]
    split
    · exact hb
    · exact List.mem_cons_of_mem _ hb
  have frFree : ∀ b, b ∈ frs (envOfC qual scope s.heap.objs.size f cd :: outer) → H1 b = none := fun b hb => I.stkFree b hb
  refine wpAny_leaves_madeW (A := A.deeper (envOfC qual scope s.heap.objs.size f cd)) (L := s.heap.objs.size) I.ok.frames rfl hB (PySem.W.funFrames_hide hFun hin) hm fun h'' t f1 _ _ up => ?_
  have old : ∀ b o, s.heap.get? b = some o → b ∉ frs outer → b ∉ frs (envOfC qual scope s.heap.objs.size f cd :: outer) := fun b o e nb hb => by
    rcases sub b hb with z | z
    · exact absurd (Heap.lt_size e) (by rw [z]; exact Nat.lt_irrefl _)
    · exact nb z
  have nf : ∀ b ∈ frs (envOfC qual scope s.heap.objs.size f cd :: outer), ∀ o, s1.heap.get? b = some o → ∀ vs, o.data ≠ .fields vs := fun b hb o e => by
    obtain ⟨_, o', e', d⟩ := hFun.mem hb
    rw [e] at e'; cases e'
    exact d
  refine ⟨ex, C, H1, _, _, rfl, I.os, I.bare, ⟨⟨fun b o e n hb hx => ?_, fun b o e n hb hx => ?_, I.base.free, fun b o e hx => ?_, I.base.tups, I.base.frzs, I.base.tbls⟩, fun a o e => ?_, f1, fun b o e hb hw => ?_, fun b hb => frFree b (sup b hb)⟩, hE⟩
  · exact f1.1 b o (getB b o (I.base.keep b o e n hb hx) (old b o e hb))
  · obtain ⟨sl, e1⟩ := I.base.slot b o e n hb hx
    obtain ⟨sl', e2⟩ := up b _ (hm.keeps _ _ e1) (nf b (sup b hb) _ e1)
    exact ⟨sl', e2⟩
  · obtain ⟨o1, e1⟩ := I.base.there b o e hx
    by_cases hb : b ∈ frs (envOfC qual scope s.heap.objs.size f cd :: outer)
    · obtain ⟨sl', e2⟩ := up b _ (hm.keeps _ _ e1) (nf b hb _ e1)
      exact ⟨_, e2⟩
    · exact ⟨o1, f1.1 b o1 (getB b o1 e1 hb)⟩
  · refine (I.hok a o e).stay (fun b u hb q => ?_) (fun _ q => q) fun _ _ q => q
    have hn : H1 b ≠ none := by
      rcases hb with z | z
      · rw [z, e]; simp
      · rw [z]; simp
    exact f1.1 b u (getB b u q fun z => hn (frFree b z))
  · have : ∃ o1, s1.heap.get? b = some o1 ∧ b ∉ frs (envOfC qual scope s.heap.objs.size f cd :: outer) := by
      rcases hw with ⟨o', e'⟩ | hw
      · obtain ⟨o1, e1⟩ := I.base.there b o' e' (fun z => absurd (show b ∈ ([] : List Addr) from z) (by simp))
        exact ⟨o1, e1, old b o' e' hb⟩
      · cases q : H1 b with
        | none => exact absurd q hw
        | some u =>
          obtain ⟨o1, e1⟩ := (I.hok b u q).there
          exact ⟨o1, e1, fun z => hw (frFree b z)⟩
    obtain ⟨o1, e1, nb⟩ := this
    have e2 := getB b o1 e1 nb
    have e3 := f1.1 b o1 e2
    rw [e] at e3; cases e3
    exact e2
theorem pass1 : Passes (CX1 P w) (cxOf (CX1 P w) P w K mg base N qual scope f cd A outer s H E) E := by
  intro pins σ H1 s1 e s' I h
  obtain ⟨ex, C, H', B, a0, rfl, hos, hbare, F, hE⟩ := h
  show wpAny (model P w) (A.deeper (envOfC qual scope s.heap.objs.size f cd)) (leaving (envOfC qual scope s.heap.objs.size f cd) (.ref ex)) _ _ s'
  have sub : ∀ b, b ∈ frs (envOfC qual scope s.heap.objs.size f cd :: outer) → b = s.heap.objs.size ∨ b ∈ frs outer := fun b hb => List.mem_cons.mp (I.stkSub b hb)
  have sup : ∀ b, b ∈ frs outer → b ∈ frs (envOfC qual scope s.heap.objs.size f cd :: outer) := fun b hb => by
    unfold frs at hb ⊢
    rw [List.filterMap_cons]
    split
    · exact hb
    · exact List.mem_cons_of_mem _ hb
  have old : ∀ b o, s.heap.get? b = some o → b ∉ frs outer → b ∉ frs (envOfC qual scope s.heap.objs.size f cd :: outer) := fun b o e nb hb => by
    rcases sub b hb with z | z
    · exact absurd (Heap.lt_size e) (by rw [z]; exact Nat.lt_irrefl _)
    · exact nb z
  have F' : Flown P w (envOfC qual scope s.heap.objs.size f cd :: outer) H1 s1.heap H' ex C B a0 s'.heap := F
  refine wpAny_leaves_onW (A := A.deeper (envOfC qual scope s.heap.objs.size f cd)) (L := s.heap.objs.size) I.ok.frames rfl F'.fly fun h'' f1 up => ?_
  obtain ⟨un, hok, inB⟩ := F'.move f1.1 up
  refine ⟨ex, C, H', B, a0, rfl, hos.trans I.os, hbare, ⟨?_, hok, f1, fun b o e hb hw => ?_, fun b hb => F'.frf b (sup b hb)⟩, hE⟩
  · have un0 : Un (frs outer) [] H H1 s.heap s1.heap := I.base
    refine ⟨fun b o e n hb hx => ?_, fun b o e n hb hx => ?_, fun b o e n hx => ?_, fun b o e hx => ?_, fun b xs e => un.tups b xs (un0.tups b xs e), fun b ob u e => un.frzs b ob u (un0.frzs b ob u e), fun b ps e => ?_⟩
    · exact un.keep b o (un0.keep b o e n hb hx) (un0.free b o e n hx) (old b o e hb) hx
    · obtain ⟨sl, e1⟩ := un0.slot b o e n hb hx
      obtain ⟨sl', e2⟩ := un.slot b _ e1 (un0.free b o e n hx) (sup b hb) hx
      exact ⟨sl', e2⟩
    · obtain ⟨o1, e1⟩ := un0.there b o e hx
      exact un.free b o1 e1 (un0.free b o e n hx) hx
    · obtain ⟨o1, e1⟩ := un0.there b o e hx
      exact un.there b o1 e1 hx
    · obtain ⟨m1, e1⟩ := un0.tbls b ps e
      obtain ⟨m2, e2⟩ := un.tbls b _ e1
      exact ⟨m1 ++ m2, by rw [e2, Array.append_assoc]⟩
  · refine inB b o e ?_ ?_
    · rcases hw with ⟨o', e'⟩ | hw
      · exact old b o' e' hb
      · intro z
        exact hw (F'.frf b z)
    · rcases hw with ⟨o', e'⟩ | hw
      · obtain ⟨o1, e1⟩ := (show Un (frs outer) [] H H1 s.heap s1.heap from I.base).there b o' e' (by simp)
        exact .inl ⟨o1, e1⟩
      · exact .inr hw
end
abbrev bmV : List Value := [.type "ValueError", .type "Exception", .type "BaseException", .type "object"]
theorem exc_of_in {K : PySem.W.Frag} {h : Heap} {C : Addr} {bmB : List Value} {newId : String} (X : K.In h) (q : PySem.W.excIn K C bmB newId = true) :
    ∃ bm N nm q bs hdct sn sub ab col dd k0 k1 k2 k3 k5 mN, h.get? C = some (excClassObj nm q C N bs bm hdct sn sub ab col dd k0 k1 k2 k3 k5 newId) ∧ h.Ns N mN ∧ mN "__init__" = none ∧ OwnTail h bmB bm := by
  unfold PySem.W.excIn at q
  split at q
  · rename_i dd cd sl ho
    split at q
    · rename_i C' bm k0 k1 k2 k3 n k5 hm hs
      simp only [Bool.and_eq_true, beq_iff_eq, Bool.not_eq_true'] at q
      obtain ⟨⟨⟨⟨⟨rfl, rfl⟩, hdel⟩, ht⟩, hok⟩, hni⟩ := q
      obtain ⟨nm, bs, mro, ns, qn, hd, sn, sub, ab, col, del⟩ := cd
      dsimp only at hm hdel hok hni
      subst hm hdel
      have hsl : sl = #[k0, k1, k2, k3, some (.builtin n), k5] := by
        obtain ⟨l⟩ := sl
        simp only at hs
        rw [hs]
      subst hsl
      exact ⟨bm, ns, nm, qn, bs, hd, sn, sub, ab, col, dd, k0, k1, k2, k3, k5, _, X _ _ ho, .of_isNs (PySem.W.isNs_of_in X hok), PySem.W.nsMap_none_of_in X hok hni, PySem.W.tail_of_in X ht⟩
    · cases q
  · cases q
noncomputable def tRaise (C : Addr) (E : XK) (t : TA) : TS := fun _ σ H => t σ H fun vs H1 => vs.length ≤ sizeLine ∧ E (.ref C) none H1
theorem ps_raise {X : Cx} {C : Addr} {E : XK} {x : Str} {np cpos pos : Pos} {e : Expr} {es : List Expr} {t : TA} (hc : PySem.W.excIn X.K C bmV "ValueError.__new__" = true) (hcalm : X.calm = true) (hx : Leaves X E) (hg : Gl X x) (hm : X.mg x = some (.ref C))
    (ha : PA X (e :: es) t) (hdb : (x == ("__debug__" : Str)) = false := by decide) (he : starEach (e :: es) X.env = (false, eval e X.env) :: starEach es X.env := by rfl) (hpl : (backTo cpos (starEach es X.env)).any (·.1) = false := by rfl) :
    PS X (.Raise (some (.Call (.Name x np) (e :: es) [] cpos)) none pos) (tRaise C E t) := by
  intro pins s σ H D I h
  obtain ⟨tl, N, nm, q, bs, hdct, sn, sub, ab, col, dd, k0, k1, k2, k3, k5, mN, hC, hN, hni, T⟩ := exc_of_in I.mod.kin hc
  refine wpAny_Raise_call_subT (C := C) (nm := nm) (q := q) (N := N) (bs := bs) (bm := tl) (hdct := hdct) (sn := sn) (sub := sub) (ab := ab) (col := col) (dd := dd) (k0 := k0) (k1 := k1) (k2 := k2) (k3 := k3) (k5 := k5)
    PySem.F.excBase_ValueError (mN := mN) (T.hasType PySem.F.excBase_ValueError.hasBase) (I.ok.hd hcalm) (by rw [he]; show (false || (backTo cpos (starEach es X.env)).any (·.1)) = false; rw [hpl]; rfl) hni (ld_glob I hg hm ⟨rfl, ?_⟩ hdb)
  have hh := thn (ha cpos pins s σ H _ I h) (Q' := fun vs s₂ => vs.length ≤ sizeLine ∧ (∀ b o, X.base.get? b = some o → s₂.heap.get? b = some o) ∧ ∀ h' e, Heap.MadeExcOf s₂.heap h' e (.ref C) vs → X.xe (.ref e) { s₂ with heap := h' })
    (fun us s2 ⟨vs, H2, I2, r2, hl, hE⟩ => ⟨by rw [← r2.length]; exact hl, I2.bk, fun h' ex hmk => hx pins σ H2 s2 h' ex C us I2 hmk hE⟩)
  rw [he] at hh ⊢
  exact Calls.evalArgs_plain (wpAny_mono hh (fun vs s₂ h₂ => ⟨rfl, h₂.1, h₂.2.1 _ _ hC, hN.keeps h₂.2.1, T.keeps h₂.2.1, h₂.2.2⟩) fun _ _ y => y)
theorem Fun.ok1 {P : Program} {w : World} {K : PySem.W.Frag} {mg : Str → Option Value} {base : Heap} {x qual : Str} {st : Stmt} {f : Addr} {fd : FuncData} {N ps : List Str} {k : Nat} {sp : Sp} (F : Fun K x qual st f fd) (S : FnScope N ps (defScope st)) (len : ∀ vs H Q E, sp vs H Q E → vs.length = ps.length)
    (hbody : ∀ (cdv : Value) (A : Around) (outer : List Env) (s : Shared) (H : Hp) (vs : List V) (Q : VK) (E : XK), Room k (A.deeper (envOfC qual (defScope st) s.heap.objs.size f cdv)) → sp vs H Q E →
      ∃ t, PSs (cxOf (CX1 P w) P w K mg base N qual (defScope st) f cdv A outer s H E) (defBody st) t ∧ t { nx := fun _ H' => Q .non H', rt := Q } (start N vs) H) : FnOk P w K mg base (CX1 P w) (k + 1) f fd ps sp := by
  obtain ⟨oc, od, kV, doc, pm, an, cdv, ct, osl, rfl, lk, hcd⟩ := F.ex
  exact fn_of lk hcd S len fun A outer s H vs Q E hr hsp => hbody cdv A outer s H vs Q E hr hsp
end L2

set_option Elab.async false
set_option linter.all false
set_option maxRecDepth 100000
namespace L2
open PySem PySem.Spec PyProof.Rows
noncomputable abbrev Cx.re (X : Cx) (pn : List (Addr × Obj)) (A : Around) (c : Bool) (E : Value → Shared → Prop) : Cx := { X with pn := pn, A := A, calm := c, xe := E }
section
variable {X : Cx} {pins pins' pn : List (Addr × Obj)} {σ : St} {H : Hp} {s : Shared} {A : Around} {c : Bool} {E : Value → Shared → Prop}
theorem Inv.as (I : Inv X pins σ H s) (hd : c = true → A.handled = none) (hf : A.frames = some X.stack) (hp : ∀ p ∈ pn ++ pins', p ∈ X.pn ++ pins) : Inv (X.re pn A c E) pins' σ H s :=
  ⟨⟨I.ok.mod, I.ok.kind, I.ok.glob, I.ok.blt, I.ok.above, I.ok.inj, I.ok.has, I.ok.cab, hd, hf, I.ok.stk, I.ok.exf, I.ok.bs, I.ok.bsz, I.ok.noex, I.ok.exfs, I.ok.funs, I.ok.frf⟩,
    I.os, I.bare, I.base, I.loc, I.cell, I.free, I.freeC, fun p hp' => I.pin p (hp p hp'), I.hok, I.len⟩
theorem Inv.back (I : Inv (X.re pn A c E) pins' σ H s) (ok : X.Ok) (hp : ∀ p ∈ X.pn ++ pins, p ∈ pn ++ pins') : Inv X pins σ H s :=
  ⟨ok, I.os, I.bare, I.base, I.loc, I.cell, I.free, I.freeC, fun p hp' => I.pin p (hp p hp'), I.hok, I.len⟩
theorem Inv.unbind {i : Nat} {n : Str} {m : Str → Option Value} {v : Option Value} {h' : Heap} {tk : Nat} (I : Inv X pins σ H s) (hN : X.N.Nodup) (hi : X.N[i]? = some n) (hl : X.env.scope.names.lookup n = some .local)
    (hm : ∀ (j : Nat) (x : Str) (v : V), X.N[j]? = some x → σ[j]? = some (some v) → Vis X.env.scope x → ∃ u, RelV v u ∧ Look X.env s.heap m x u)
    (hn : h'.Ns X.env.locals (fun x => if x = n then v else m x)) (hs : Heap.SameBut X.env.locals s.heap h') : Inv X pins (σ.set i none) H { s with heap := h', toks := tk } := by
  have hiσ : i < σ.length := by rw [I.len]; exact (List.getElem?_eq_some_iff.mp hi).1
  have cne := I.cne
  refine ⟨I.ok, I.os, I.bare, ⟨fun b o e n hb hx => ?_, fun b o e n hb hx => ?_, I.base.free, fun b o e hx => ?_, I.base.tups, I.base.frzs, I.base.tbls⟩, ⟨_, hn, fun j y v' e1 e2 e3 => ?_⟩, fun y c e => ?_, I.free, I.freeC, fun p hp => ?_, fun b ob e => ?_, by simpa using I.len⟩
  · exact (hs.2 b (Nat.ne_of_lt (Nat.lt_of_lt_of_le (Heap.lt_size e) I.ok.above))).trans (I.base.keep b o e n hb hx)
  · obtain ⟨sl, e1⟩ := I.base.slot b o e n hb hx
    exact ⟨sl, (hs.2 b (Nat.ne_of_lt (Nat.lt_of_lt_of_le (Heap.lt_size e) I.ok.above))).trans e1⟩
  · obtain ⟨o', e1⟩ := I.base.there b o e hx
    exact ⟨o', (hs.2 b (Nat.ne_of_lt (Nat.lt_of_lt_of_le (Heap.lt_size e) I.ok.above))).trans e1⟩
  · have hj : j ≠ i := by
      intro z
      subst z
      rw [List.getElem?_set_self hiσ] at e2
      cases e2
    rw [List.getElem?_set_ne (Ne.symm hj)] at e2
    obtain ⟨u, r, l⟩ := hm j y v' e1 e2 e3
    refine ⟨u, r, ?_⟩
    rcases l with ⟨k, e⟩ | ⟨k, c, e, z⟩
    · refine .inl ⟨k, ?_⟩
      have : y ≠ n := fun e => hj (nodup_ix hN e1 (e ▸ hi))
      simp [this, e]
    · exact .inr ⟨k, c, e, z.sameBut hs (cne y c e)⟩
  · obtain ⟨w', z⟩ := I.cell y c e
    exact ⟨w', z.sameBut hs (cne y c e)⟩
  · obtain ⟨e, n, ne, nf, d⟩ := I.pin p hp
    exact ⟨(hs.2 p.1 ne).trans e, n, ne, nf, d⟩
  · refine (I.hok b ob e).stay (fun c' w' hc q => (hs.2 c' ?_).trans q) (fun _ q => q) fun _ _ q => q
    rintro rfl
    rcases hc with z | z
    · rw [← z, I.free] at e; cases e
    · rw [I.free] at z; cases z
theorem Inv.track {a : Addr} {φ : Heap → Prop} (I : Inv X pins σ H s) (hn : H a = none) (h0 : X.s₀.heap.get? a = none) (hL : a ≠ X.env.locals) (hc : ∀ x c, X.env.cells.lookup x = some c → c ≠ a) (hp : ∀ p ∈ X.pn ++ pins, p.1 ≠ a)
    (h1 : φ s.heap) (h2 : ∃ o, s.heap.get? a = some o) (h3 : ∀ h1 h2 : Heap, φ h1 → (∀ o, h1.get? a = some o → h2.get? a = some o) → φ h2) : Inv X pins σ (upd H a (.ext φ)) s := by
  refine ⟨I.ok, I.os, I.bare, ⟨I.base.keep, I.base.slot, fun b o e n hx => ?_, I.base.there, fun b xs e => ?_, fun b o u e => ?_, fun b ps e => ?_⟩, I.loc, I.cell, ?_, fun x c e => ?_, fun p hp' => ?_, fun b ob e => ?_, I.len⟩
  · rw [upd_ne (fun z => by rw [z, h0] at e; cases e)]
    exact I.base.free b o e n hx
  · have q := I.base.tups b xs e
    rw [upd_ne (ne_of_none q hn)]
    exact q
  · have q := I.base.frzs b o u e
    rw [upd_ne (ne_of_none q hn)]
    exact q
  · obtain ⟨more, q⟩ := I.base.tbls b ps e
    exact ⟨more, by rw [upd_ne (ne_of_none q hn)]; exact q⟩
  · rw [upd_ne (Ne.symm hL)]
    exact I.free
  · rw [upd_ne (hc x c e)]
    exact I.freeC x c e
  · obtain ⟨e, n, r⟩ := I.pin p hp'
    exact ⟨e, by rw [upd_ne (hp p hp')]; exact n, r⟩
  · by_cases hb : b = a
    · subst hb
      rw [upd_same] at e
      cases e
      exact ⟨h1, h2, h3⟩
    · rw [upd_ne hb] at e
      exact (I.hok b ob e).stay (fun _ _ _ q => q) (fun c q => by rw [upd_ne (ne_of_none q hn)]; exact q) fun c xs q => by rw [upd_ne (ne_of_none q hn)]; exact q
end
noncomputable def excP (ex C : Addr) (h : Heap) : Prop := ∃ o vs, h.get? ex = some o ∧ o.cls = .ref C ∧ o.data = .fields vs
noncomputable def ExcO (ex C : Addr) : HO := .ext (excP ex C)
noncomputable def Cx.tryC (X : Cx) (pn : List (Addr × Obj)) (R : Addr → St → Hp → Prop) : Cx := X.re pn X.A X.calm fun e s1 =>
  ∃ σ Hc sc, Inv (X.re pn X.A X.calm fun _ _ => True) [] σ Hc sc ∧ CX1 X.prog X.w X.stack Hc sc (fun c _ H1 => ∃ C, c = .ref C ∧ R C σ H1) e s1
noncomputable def Cx.suite (X : Cx) (pn : List (Addr × Obj)) (ex : Addr) : Cx := X.re pn (X.A.mark (some (.ref ex))) false fun _ _ => False
section
variable {X : Cx} {pn : List (Addr × Obj)} {R : Addr → St → Hp → Prop} {k : Nat} {f : Addr} {fd : FuncData} {ps : List Str} {sp : Sp} {dvs : List V} {ds : List Value} {x : Str} {p pos : Pos} {e : Expr} {es : List Expr} {t : TA}
noncomputable def tCallX (sp : Sp) (dvs : List V) (R : Addr → St → Hp → Prop) (t : TA) : TE := fun σ H Q => t σ H fun vs H1 => sp (vs ++ dvs) H1 Q fun c _ H' => ∃ C, c = .ref C ∧ R C σ H'
end
end L2

set_option Elab.async false
set_option linter.all false
set_option maxRecDepth 100000
namespace L2
open PySem PySem.Spec PyProof.Rows
section
variable {X : Cx} {pos np hpos : Pos} {body : List Stmt} {b0 : Stmt} {suite : List Stmt} {n x : Str} {i : Nat} {Cc : Addr} {tb : (Addr → St → Hp → Prop) → TS} {th : TS}
noncomputable def tTry (K : PySem.W.Frag) (i : Nat) (Cc : Addr) (tb : (Addr → St → Hp → Prop) → TS) (th : TS) : TS := fun D σ H => ∃ R : Addr → St → Hp → Prop, tb R D σ H ∧ ∀ C σ1 H1, R C σ1 H1 → PySem.W.exmOne K (.ref C) (.ref Cc) = some true ∧
  ∀ ex, H1 ex = none → th { nx := fun σ2 H2 => D.nx (σ2.set i none) H2, rt := D.rt, bk := fun σ2 H2 => D.bk (σ2.set i none) H2, ct := fun σ2 H2 => D.ct (σ2.set i none) H2 } (σ1.set i (some (.ref ex))) (upd H1 ex (ExcO ex C))
end
end L2

set_option Elab.async false
set_option linter.all false
set_option maxRecDepth 100000
namespace L2
open PySem PySem.Spec PyProof.Rows
section
variable {X : Cx} {pos p2 : Pos} {e : Expr} {te : TE}
noncomputable def tRev (K : PySem.W.Frag) (te : TE) : TE := fun σ H Q => te σ H fun x H1 => ∃ a xs, x = .ref a ∧ SqL K H1 a xs ∧ ∀ p, H1 p = none → Q (.ref p) (upd H1 p (.lst xs.reverse))
theorem pe_rev {k : Nat} {p3 p4 : Pos} (he : PE X e te) : PE X (.Subscript e (.Slice none none (some (.UnaryOp .USub (.Constant (.int 1) k p3) p4)) p2) pos) (tRev X.K te) := by
  intro pins s σ H Q I h
  refine Subscript_ (thn (he pins s σ H _ I h) fun v s1 zz => ?_)
  obtain ⟨x, H1, I1, r1, q1⟩ := zz
  have hstep : PE X (.UnaryOp .USub (.Constant (.int 1) k p3) p4) (tUn (rU fun i => .int (-i)) (tC (.int 1))) := pe_un un_neg pe_int
  refine wpAny_Slice ?_
  rw [evalPart_none]
  refine wpAny_pure (wpAny_pure ?_)
  rw [evalPart_some]
  refine thn (hstep pins s1 σ H1 (fun y H2 => y = .int (-1) ∧ H2 = H1) I1 ⟨1, rfl, rfl, rfl⟩) fun u s2 zz => ?_
  obtain ⟨y, H2, I2, r2, ey, eH⟩ := zz
  subst ey eH
  obtain ⟨t, rfl⟩ := r2
  obtain ⟨a, xs, ex, hx, q⟩ := q1
  subst ex
  cases r1
  obtain ⟨its, r, ht, hz⟩ := I2.list hx
  have I4 : Inv X pins σ H2 { s2 with heap := s2.heap.push { cls := .type "slice", data := .fields #[.none, .none, .int (-1) t] } } := I2.kept (t' := s2.toks) fun b ob q => Heap.get?_push_of_some _ q
  obtain ⟨its4, r4, ht4, hz4⟩ := I4.list hx
  have hlen := r4.length
  refine tail_any (ops := [.ref a, .ref s2.heap.objs.size]) ht4.isList.typeIs slot_list_getitem.lookup (wpAny_getItem_list_slice ht4.isList (Heap.IsSliceOf.new ..) .none .none (.int (-1) t) (by simp) ?_ (by rw [List.size_toArray] <;> omega)) (by with_unfolding_all rfl)
  rw [PySem.W.krv_pick]
  refine ⟨.ref _, _, I4.laid (t' := s2.toks) (o := .lst xs.reverse) (fun b ob q => Heap.get?_push_of_some _ q) (Nat.le_refl _) ?_, rfl, q _ (I4.hok.fresh (Nat.le_refl _))⟩
  exact ⟨by rw [List.length_reverse]; exact hz4, _, 0, Vals.reverse r4, Heap.get?_push_size _ rfl⟩
noncomputable def eqVL (xs ys : List V) : Bool := (xs.length == ys.length) && (List.range xs.length).all fun j => eqV (xs.getD j .non) (ys.getD j .non)
theorem eqVL_str : ∀ (xs ys : List Str), eqVL (xs.map V.str) (ys.map V.str) = decide (xs = ys) := by
  intro xs ys
  unfold eqVL
  rw [List.length_map, List.length_map]
  by_cases e : xs = ys
  · subst e
    simp only [beq_self_eq_true, Bool.true_and, decide_true]
    rw [List.all_eq_true]
    intro j hj
    have hj' : j < xs.length := List.mem_range.mp hj
    simp [List.getD, hj', eqV]
  · rw [decide_eq_false e]
    by_cases hl : xs.length = ys.length
    · cases hb : ((xs.length == ys.length) && (List.range xs.length).all fun j => eqV ((xs.map V.str).getD j .non) ((ys.map V.str).getD j .non)) with
      | false => rfl
      | true =>
        exfalso
        refine e (List.ext_getElem hl fun j h1 h2 => ?_)
        rw [Bool.and_eq_true, List.all_eq_true] at hb
        have q := hb.2 j (List.mem_range.mpr h1)
        simp [List.getD, h1, h2, eqV] at q
        exact q
    · have : (xs.length == ys.length) = false := by simpa using hl
      rw [this, Bool.false_and]
noncomputable def rEqL (K : PySem.W.Frag) (g : Bool → Bool) : R2 := fun x y H Q => ∃ a b xs ys, x = .ref a ∧ y = .ref b ∧ SqL K H a xs ∧ SqL K H b ys ∧ (∀ v ∈ xs, flatV v = true) ∧ (∀ v ∈ ys, flatV v = true) ∧ Q (.bl (g (eqVL xs ys))) H
theorem eqVL_items {A : Around} {s : Shared} {xs ys : List V} {us vs : List Value} (rx : Vals xs us) (ry : Vals ys vs) (fx : ∀ v ∈ xs, flatV v = true) (fy : ∀ v ∈ ys, flatV v = true) (j : Nat) (h1 : j < us.toArray.size) (h2 : j < vs.toArray.size) :
    SeqAt.EqAt A s us.toArray[j] vs.toArray[j] (eqV (xs.getD j .non) (ys.getD j .non)) := by
  have l1 := rx.length
  have l2 := ry.length
  rw [List.size_toArray] at h1 h2
  have g1 : xs[j]? = some (xs[j]'(by omega)) := List.getElem?_eq_getElem (by omega)
  have g2 : ys[j]? = some (ys[j]'(by omega)) := List.getElem?_eq_getElem (by omega)
  obtain ⟨u, hu, ru⟩ := rx.get g1
  obtain ⟨v, hv, rv⟩ := ry.get g2
  have e1 : us.toArray[j] = u := by
    rw [List.getElem_toArray]
    rw [List.getElem?_eq_getElem h1] at hu
    exact Option.some.inj hu
  have e2 : vs.toArray[j] = v := by
    rw [List.getElem_toArray]
    rw [List.getElem?_eq_getElem h2] at hv
    exact Option.some.inj hv
  rw [e1, e2]
  have d1 : xs.getD j .non = xs[j]'(by omega) := by simp [List.getD, g1]
  have d2 : ys.getD j .non = ys[j]'(by omega) := by simp [List.getD, g2]
  rw [d1, d2]
  exact eqAt_V ru rv (fx _ (List.getElem_mem _)) (fy _ (List.getElem_mem _))
theorem op_neL (hu : X.A.units < cLine) : OpR X (compareOp .NotEq) (rEqL X.K not) := by
  intro pins s σ H x y v u Q I rx ry h
  obtain ⟨a, b, xs, ys, rfl, rfl, hx, hy, fx, fy, q⟩ := h
  cases rx
  cases ry
  obtain ⟨us, r1, p1, z1⟩ := I.list hx
  obtain ⟨vs, r2, p2, z2⟩ := I.list hy
  have l1 := r1.length
  have l2 := r2.length
  by_cases hl : xs.length = ys.length
  · refine SeqAt.RcNeAt.lists (e := fun j => eqV (xs.getD j .non) (ys.getD j .non)) p1.isList p2.isList (by rw [List.size_toArray, List.size_toArray]; omega) hu (fun j h1 h2 => eqVL_items r1 r2 fx fy j h1 h2) _ _ _ _ ?_
    refine ⟨.bl (!eqVL xs ys), H, I, ?_, q⟩
    show Value.bool _ = Value.bool (!eqVL xs ys)
    unfold eqVL
    rw [List.size_toArray, ← l1, hl, beq_self_eq_true, Bool.true_and]
  · refine SeqAt.RcNeAt.lists_lengths p1.isList p2.isList (by rw [List.size_toArray, List.size_toArray]; simpa using (by omega : us.length ≠ vs.length)) hu _ _ _ _ ?_
    refine ⟨.bl (!eqVL xs ys), H, I, ?_, q⟩
    show Value.bool _ = Value.bool (!eqVL xs ys)
    unfold eqVL
    have : (xs.length == ys.length) = false := by simpa using hl
    rw [this, Bool.false_and, Bool.not_false]
noncomputable def gTupL (K : PySem.W.Frag) (n : Nat) (t : TGs) : TG := fun v σ H Q => ∃ a xs, v = .ref a ∧ SqL K H a xs ∧ xs.length = n ∧ t xs σ H Q
theorem pg_tupL {es : List Expr} {k : Nat} {t : TGs} {n : Nat} (hc : X.calm = true) (h : PGs X es t)
    (hn : (assignEach es X.env).length = n := by rfl) (hst : (assignEach es X.env).findIdx? (·.1) = none := by rfl) : PG X (.Tuple es k pos) (gTupL X.K n t) := by
  intro pins s σ H v u Q I r hw
  obtain ⟨a, xs, e1, hq, hl, hw⟩ := hw
  subst e1
  cases r
  obtain ⟨its, rv, ht, hz⟩ := I.list hq
  rw [assign_Tuple]
  refine wpAny_bind (wpAny_standAt ?_)
  unfold unpack
  have hlen : (assignEach es X.env).length = its.toArray.size := by rw [hn, ← hl, List.size_toArray]; exact rv.length
  rw [hlen, hst]
  refine wpAny_bind (wpAny_holding (PySem.W.kun_itemsOf (I.ok.hd hc) ht.isList fun h' hx => ?_))
  have I1 : Inv X pins σ H { s with heap := h' } := I.kept (t' := s.toks) fun b o e => hx b o (Nat.ne_of_lt (Heap.lt_size e)) e
  exact h pins _ σ H xs _ Q I1 (by simpa using rv) hw
noncomputable def repS (z : Str) (n : Nat) : Str := ⟨(List.replicate n z.cps).foldl (· ++ ·) #[]⟩
theorem repS_one (z : Str) : repS z 1 = z := by
  obtain ⟨c⟩ := z
  show (⟨(#[] : Array Nat) ++ c⟩ : Str) = ⟨c⟩
  rw [Array.empty_append]
theorem foldl_app (z : Array Nat) : ∀ (n : Nat) (a : Array Nat), ((List.replicate n z).foldl (· ++ ·) a).size = a.size + n * z.size
  | 0, a => by simp
  | n + 1, a => by
    rw [List.replicate_succ, List.foldl_cons, foldl_app z n, Array.size_append, Nat.succ_mul]
    omega
theorem repS_len (z : Str) (n : Nat) : (repS z n).length = n * z.length := by
  have e := foldl_app z.cps n #[]
  show ((List.replicate n z.cps).foldl (· ++ ·) #[]).size = n * z.cps.size
  simpa using e
theorem repS_nil {z : Str} (h : z.length = 0) (n : Nat) : repS z n = z := by
  have e := repS_len z n
  rw [h, Nat.mul_zero] at e
  generalize repS z n = y at e
  obtain ⟨c⟩ := z
  obtain ⟨d⟩ := y
  have h' : c.size = 0 := h
  have e' : d.size = 0 := e
  rw [Array.size_eq_zero_iff] at h' e'
  rw [h', e']
theorem op_mul_str : OpR X (binaryOp .Mult) (fun x y H Q => ∃ z n, x = .str z ∧ y = .int n ∧ 0 ≤ n ∧ n ≤ 1000 ∧ z.length ≤ 1000 ∧ Q (.str (repS z n.toNat)) H) := by
  intro pins s σ H x y v u Q I rx ry h
  obtain ⟨z, n, rfl, rfl, h0, h1, hz, q⟩ := h
  obtain ⟨t, rfl⟩ := rx
  obtain ⟨t', rfl⟩ := ry
  have hle : z.length * n.toNat ≤ 1000 * 1000 := Nat.mul_le_mul hz (by omega)
  refine PySem.P.mul_str ?_ (fun hn hz1 => ?_) (fun hn hz1 => ?_) ?_
  · have h2 : ¬ n < -(2 ^ 63 : Int) := by omega
    have h3 : ¬ n ≥ 2 ^ 63 := by omega
    rw [decide_eq_false h2, decide_eq_false h3]
    rfl
  · have h4 : (1000 : Int) ≤ (2 ^ 63 - 1) / n := by
      refine (Int.le_ediv_iff_mul_le (by omega)).mpr ?_
      have : (1000 : Int) * n ≤ 1000 * 1000 := by omega
      omega
    omega
  · show Builtin.Str.tooLong _ = false
    unfold Builtin.Str.tooLong
    first
      | (refine decide_eq_false ?_; have := hle; rw [sizeLine_eq]; omega)
      | (simp; omega)
  · by_cases hn : n < 1
    · rw [if_pos hn]
      have : n = 0 := by omega
      subst this
      exact ⟨by decide, .str Str.empty, H, I.tok _, ⟨_, rfl⟩, q⟩
    · rw [if_neg hn]
      by_cases hc : (n == 1 || z.length == 0) = true
      · rw [if_pos hc]
        have e : repS z n.toNat = z := by
          rcases Bool.or_eq_true_iff.mp hc with e | e
          · have e' : n = 1 := by simpa using e
            subst e'
            exact repS_one z
          · exact repS_nil (by simpa using e) _
        rw [e] at q
        exact ⟨.str z, H, I, ⟨_, rfl⟩, q⟩
      · rw [if_neg hc]
        refine ⟨?_, .str (repS z n.toNat), H, I.tok _, ⟨_, rfl⟩, q⟩
        show (repS z n.toNat).length ≤ sizeLine
        rw [repS_len, Nat.mul_comm, sizeLine_eq]
        omega
theorem call_all : X.calm = true → CallR X (.builtin "all") (fun xs H Q => ∃ (a : Addr) (bs : List Bool), xs = [.ref a] ∧ H a = some (.lst (bs.map V.bl)) ∧ Q (.bl (bs.all id)) H) := by
  intro hc pins s σ H xs us Q I r h
  obtain ⟨a, bs, rfl, ha, q⟩ := h
  obtain ⟨u, rfl, ru⟩ := vals1 r
  cases ru
  obtain ⟨its, rv, p, hz⟩ := I.list (SqL.of ha)
  have hl := rv.length
  rw [List.length_map] at hl
  refine call_all_walk (wpAny_pyIter_list p.isList ?_)
  have hlt : a ≠ s.heap.objs.size := by
    obtain ⟨o, ho, _⟩ := p.isList
    exact Nat.ne_of_lt (Heap.lt_size ho)
  refine ⟨s.heap.objs.size, _, _, _, _, _, fun j => bs.getD j false, rfl, Walks.list (A := X.A.in1) (show X.A.in1.handled = none from I.ok.hd hc) s.heap.objs.size a hlt its.toArray, ⟨⟨_, Heap.get?_push_size _ rfl, rfl, rfl⟩, p.isList.push _⟩, fun i v s' Q' E' hP hQ => ?_, fun h' tk k => ?_⟩
  · have hv : its[i]? = some v := by simpa using hP
    have hi : i < its.length := (List.getElem?_eq_some_iff.mp hv).1
    have g : (bs.map V.bl)[i]? = some (.bl (bs[i]'(by omega))) := by
      rw [List.getElem?_map, List.getElem?_eq_getElem (by omega)]
      rfl
    obtain ⟨u, hu, ru⟩ := rv.get g
    rw [hv] at hu
    cases hu
    cases ru
    have e : bs.getD i false = bs[i]'(by omega) := by simp [List.getD, (by omega : i < bs.length)]
    have hQ' : Q' (bs.getD i false) s' := hQ
    rw [e] at hQ'
    exact wpAny_truthy_bool hQ'
  · refine ⟨.bl (bs.all id), H, I.kept (t' := tk) fun b o e => k b o (fun z => ?_) (Heap.get?_push_of_some _ e), ?_, q⟩
    · have z' : b = s.heap.objs.size := by simpa using z
      exact absurd (Heap.lt_size e) (by rw [z']; exact Nat.lt_irrefl _)
    · show Value.bool _ = Value.bool _
      congr 1
      rw [List.size_toArray, ← hl]
      rw [Bool.eq_iff_iff, List.all_eq_true, List.all_eq_true]
      constructor
      · intro hx b hb
        obtain ⟨j, hj, rfl⟩ := List.mem_iff_getElem.mp hb
        have := hx j (List.mem_range.mpr hj)
        simpa [List.getD, hj] using this
      · intro hx j hj
        have hj' := List.mem_range.mp hj
        have := hx _ (List.getElem_mem hj')
        simpa [List.getD, hj'] using this
end
end L2

set_option Elab.async false
set_option linter.all false
set_option maxRecDepth 100000
namespace L2
open PySem PySem.Spec PyProof.Rows
noncomputable def Itd (d : Addr) (o : Obj) (kvs : List (Key × V)) : It :=
  ⟨fun i H => H d = some (.frz o (.dK kvs)) ∧ i < kvs.length, fun i H x H' => H' = H ∧ ∃ p, kvs[i]? = some p ∧ x = kV p.1, fun i H => H d = some (.frz o (.dK kvs)) ∧ kvs.length ≤ i⟩
theorem rel_key {P : Program} {w : World} {k : Key} {u : Value} (h : (mixKind P w).is k u = true) : RelV (kV k) u := by
  rcases keyIs_shape (show keyIs k u = true from h) with ⟨i, t, rfl, rfl⟩ | ⟨x, t, rfl, rfl⟩
  · exact ⟨t, rfl⟩
  · exact ⟨t, rfl⟩
theorem kv_at : ∀ {kvs : List (Key × V)} {vs : List (Key × Value)} {i : Nat} {p : Key × V}, KV kvs vs → kvs[i]? = some p → ∃ u, vs[i]? = some (p.1, u)
  | _, _, _, _, .nil, e => by simp at e
  | _, _, 0, p, .cons (b := b) r _, e => by
    simp at e; subst e
    obtain ⟨k, u⟩ := b
    obtain ⟨r1, r2⟩ := r
    exact ⟨u, by simp only [List.getElem?_cons_zero, Option.some.injEq, Prod.mk.injEq]; exact ⟨r1.symm, trivial⟩⟩
  | _, _, i + 1, p, .cons _ t, e => by
    obtain ⟨u, h⟩ := kv_at (i := i) t (by simpa using e)
    exact ⟨u, by simpa using h⟩
theorem turn_dict {P : Program} {w : World} {K : PySem.W.Frag} {tg : Expr} (d it : Addr) (o : Obj) (es : Array DictEntry) (ep : Nat) (hd : o.data = .dict es ep) (kvs : List (Key × V)) (hne : d ≠ it) :
    Turn P w K tg (Itd d o kvs) [it] it (fun i h => h.IsKeyIter it d i kvs.length ep) where
  mem := by simp
  obj := fun i h st b hb => by
    have e : b = it := by simpa using hb
    subst e
    obtain ⟨o, e, c, d⟩ := st
    exact ⟨o, e, fun v z => by rw [d] at z; cases z⟩
  keep := fun i h h' st k => by
    obtain ⟨o, e, r⟩ := st
    exact ⟨o, k it (by simp) o e, r⟩
  item := by
    intro X hP hw hK hc i pins s σ H E I hf st hg
    subst hP hw hK
    obtain ⟨hH, hi⟩ := hg
    obtain ⟨ho, hz, hm, vs, rv, o', es', ep', ho', hex, hd', r'⟩ := I.hok d _ hH
    rw [ho] at ho'; cases ho'
    rw [hd] at hd'
    cases hd'
    have hlen : kvs.length = vs.length := Paired.length rv
    obtain ⟨f0, f1, f2, f3, f4, f5⟩ := hf it (by simp)
    have hp : kvs[i]? = some (kvs[i]'hi) := List.getElem?_eq_getElem hi
    obtain ⟨u, hu⟩ := kv_at rv hp
    rw [hlen] at st
    refine wpAny_pyNext_dict_item (knd := mixKind X.prog X.w) st ⟨o, es, ho, hex, hd, r'⟩ hu fun key h' hk st' sb => ?_
    have I1 : Inv X pins σ H { s with heap := h' } := I.turned (t' := s.toks) (fun b o hb e => (sb.2 b hb).trans e) f0 f1 f3 f4 f5
    obtain ⟨o2, e2, c2, d2⟩ := id st'
    refine ⟨key, rfl, go_of (s := { s with heap := h' }) e2 c2 d2 (by decide) ⟨_, H, I1, rel_key hk, ⟨rfl, _, hp, rfl⟩, ?_, fun b hb => (hf b hb).1⟩⟩
    rw [hlen]
    exact st'
  done := by
    intro X hP hw hK hc i pins s σ H E I hf st hg
    subst hP hw hK
    obtain ⟨hH, hi⟩ := hg
    obtain ⟨ho, hz, hm, vs, rv, o', es', ep', ho', hex, hd', r'⟩ := I.hok d _ hH
    rw [ho] at ho'; cases ho'
    rw [hd] at hd'
    cases hd'
    have hlen : kvs.length = vs.length := Paired.length rv
    obtain ⟨f0, f1, f2, f3, f4, f5⟩ := hf it (by simp)
    rw [hlen] at st
    exact wpAny_pyNext_dict_end (knd := mixKind X.prog X.w) (I.ok.hd hc) st ⟨o, es, ho, hex, hd, r'⟩ (List.getElem?_eq_none (by omega)) fun h' eb => ⟨rfl, I.turned (t' := s.toks) (fun b o hb e => eb b o hb e) f0 f1 f3 f4 f5⟩
  self := fun A i s Q E st h => by
    refine wpAny_pyIter_slot st.typeIs PySem.F.slot_dict_keyiterator_iter (wpAny_call_entry PySem.F.slot_dict_keyiterator_iter st.typeIs PySem.F.entry_dict_keyiterator_iter ?_ (PySem.F.args_dict_keyiterator_iter_1 _))
    show wpAny _ _ (ret (.ref it)) _ _ s
    exact wpAny_pure ⟨_, rfl, "dict_keyiterator", _, st.typeIs, PySem.F.slot_dict_keyiterator_next.lookup, h⟩
section
variable {X : Cx} {tg : Expr}
theorem Inv.freeze {pins : List (Addr × Obj)} {σ : St} {H : Hp} {s : Shared} {d : Addr} {kvs : List (Key × V)} {o : Obj} (I : Inv X pins σ H s) (hH : H d = some (.dK kvs)) (ho : s.heap.get? d = some o) : Inv X pins σ (upd H d (.frz o (.dK kvs))) s := by
  have ne : ∀ {b : Addr} {u : HO}, H b = some u → (HO.dK kvs ≠ u) → b ≠ d := fun {b u} e n => ne_of e hH (fun z => n z.symm)
  refine ⟨I.ok, I.os, I.bare, ⟨I.base.keep, I.base.slot, fun b ob e n hx => ?_, I.base.there, fun b xs e => ?_, fun b ob u e => ?_, fun b ps e => ?_⟩, I.loc, I.cell, ?_, fun x c e => ?_, fun p hp' => ?_, fun b ob e => ?_, I.len⟩
  · have q := I.base.free b ob e n hx
    rw [upd_ne (fun z => by rw [z, hH] at q; cases q)]
    exact q
  · have q := I.base.tups b xs e
    rw [upd_ne (ne q (by simp))]
    exact q
  · have q := I.base.frzs b ob u e
    rw [upd_ne (ne q (by simp))]
    exact q
  · obtain ⟨more, q⟩ := I.base.tbls b ps e
    exact ⟨more, by rw [upd_ne (ne q (by simp))]; exact q⟩
  · rw [upd_ne (fun z => by have := I.free; rw [z, hH] at this; cases this)]
    exact I.free
  · have q := I.freeC x c e
    rw [upd_ne (fun z => by rw [z, hH] at q; cases q)]
    exact q
  · obtain ⟨e, n, r⟩ := I.pin p hp'
    exact ⟨e, by rw [upd_ne (fun z => by rw [z, hH] at n; cases n)]; exact n, r⟩
  · by_cases hb : b = d
    · subst hb
      rw [upd_same] at e
      cases e
      exact ⟨ho, (I.hok b _ hH).stay (fun _ _ _ q => q) (fun c q => by rw [upd_ne (ne q (by simp))]; exact q) fun c xs q => by rw [upd_ne (ne q (by simp))]; exact q⟩
    · rw [upd_ne hb] at e
      exact (I.hok b ob e).stay (fun _ _ _ q => q) (fun c q => by rw [upd_ne (ne q (by simp))]; exact q) fun c xs q => by rw [upd_ne (ne q (by simp))]; exact q
noncomputable def iDict (tl : TE) : TI := fun σ H R => tl σ H fun x H1 => ∃ d kvs, x = .ref d ∧ H1 d = some (.dK kvs) ∧ ∀ o, R (Itd d o kvs) (upd H1 d (.frz o (.dK kvs)))
theorem pi_dict {l : Expr} {tl : TE} (hl : PE X l tl) : PI X tg l (iDict tl) := by
  intro pins s σ H R I h
  refine thn (hl pins s σ H _ I h) fun v s1 zz => ?_
  obtain ⟨x, H1, I1, r1, q1⟩ := zz
  obtain ⟨d, kvs, e, hH, q⟩ := q1
  subst e
  cases r1
  obtain ⟨hz, hm, vs, rv, o, es, ep, ho, hex, hd, r⟩ := I1.hok d _ hH
  have hlen : kvs.length = vs.length := Paired.length rv
  refine wpAny_pyIter_dict (knd := mixKind X.prog X.w) hm ⟨o, es, ho, hex, hd, r⟩ ?_
  have I2 := I1.freeze hH ho
  refine ⟨s1.heap.objs.size, [s1.heap.objs.size], _, _, _, rfl, I2.kept (t' := s1.toks) fun b o e => Heap.get?_push_of_some _ e, turn_dict d _ o es ep hd kvs (Nat.ne_of_lt (Heap.lt_size ho)), ⟨_, Heap.get?_push_size _ rfl, rfl, by rw [hlen]; rfl⟩, fun b hb => ?_, q o⟩
  have e : b = s1.heap.objs.size := by simpa using hb
  subst e
  exact I2.fpOk (Nat.le_refl _) (I2.hok.fresh (Nat.le_refl _))
end
noncomputable def PJ (X : Cx) (es : List Expr) (t : St → Hp → (Hp → Prop) → Prop) : Prop :=
  ∀ (out : Str) (pins : List (Addr × Obj)) (s : Shared) (σ : St) (H : Hp) (Q : Hp → Prop), Inv X pins σ H s → t σ H Q → out.length + 5000 * es.length ≤ sizeLine →
    wpAny (model X.prog X.w) X.A (joinParts out (evalEach es X.env)) (fun u s' => ∃ z tk H', u = .str z tk ∧ Inv X pins σ H' s' ∧ Q H') X.xe s
noncomputable def tJNil : St → Hp → (Hp → Prop) → Prop := fun _ H Q => Q H
noncomputable def tJStr (t : St → Hp → (Hp → Prop) → Prop) : St → Hp → (Hp → Prop) → Prop := t
noncomputable def tJInt (te : TE) (t : St → Hp → (Hp → Prop) → Prop) : St → Hp → (Hp → Prop) → Prop := fun σ H Q => te σ H fun x H1 => ∃ i, x = .int i ∧ -(10 ^ 18) < i ∧ i < 10 ^ 18 ∧ t σ H1 Q
section
variable {X : Cx} {es : List Expr} {t : St → Hp → (Hp → Prop) → Prop} {e : Expr} {te : TE} {pos : Pos}
theorem pj_nil : PJ X [] tJNil := fun out pins s σ H Q I h hz => joinParts_nil ⟨out, _, H, rfl, I.tok _, h⟩ (by simpa using hz)
theorem app_len (a b : Str) : (a ++ b).length = a.length + b.length := strLen_append a b
theorem pj_str {z : Str} {k : Nat} {p : Pos} (hz : z.length ≤ 5000) (h : PJ X es t) (he : evalEach (.Constant (.str z) k p :: es) X.env = eval (.Constant (.str z) k p) X.env :: evalEach es X.env := by rfl) : PJ X (.Constant (.str z) k p :: es) (tJStr t) := by
  intro out pins s σ H Q I hw hl
  rw [he]
  rw [List.length_cons] at hl
  refine joinParts_cons (Calls.Constant_str ⟨by rw [app_len]; omega, ?_⟩)
  exact h (out ++ z) pins _ σ H Q (I.tok _) hw (by rw [app_len]; omega)
theorem pj_int {p : Pos} (ha : PE X e te) (h : PJ X es t) (he : evalEach (.FormattedValue e (-1) none p :: es) X.env = eval (.FormattedValue e (-1) none p) X.env :: evalEach es X.env := by rfl) : PJ X (.FormattedValue e (-1) none p :: es) (tJInt te t) := by
  intro out pins s σ H Q I hw hl
  rw [he]
  rw [List.length_cons] at hl
  refine joinParts_cons (FormattedValue_plain (thn (ha pins s σ H _ I hw) fun v s1 zz => ?_))
  obtain ⟨x, H1, I1, r1, q1⟩ := zz
  obtain ⟨i, ei, h1, h2, q⟩ := q1
  subst ei
  obtain ⟨tk, rfl⟩ := r1
  have hn : i.natAbs < 10 ^ 18 := by omega
  have hlog : i.natAbs.log2 < 1920 := by
    by_cases h0 : i.natAbs = 0
    · rw [h0]; decide
    · exact (Nat.log2_lt h0).mpr (Nat.lt_of_lt_of_le hn (Nat.le_trans (by decide : 10 ^ 18 ≤ 2 ^ 60) (Nat.pow_le_pow_right (by decide) (by decide))))
  have hlen : (Str.ofString (toString i)).length ≤ 19 := by
    rw [PySem.ofString_length]
    exact int_text_length_le10 (k := 18) (by decide) hn
  refine formatField_int_small hlog ⟨by rw [app_len]; omega, ?_⟩
  exact h _ pins _ σ H1 Q ((I1.tok _)) q (by rw [app_len]; omega)
noncomputable def tJoin (t : St → Hp → (Hp → Prop) → Prop) : TE := fun σ H Q => t σ H fun H1 => ∀ z, Q (.str z) H1
theorem pe_join {a b : Expr} (h : PJ X (a :: b :: es) t) (hz : 5000 * (a :: b :: es).length ≤ sizeLine := by decide) (he : evalEach (a :: b :: es) X.env = eval a X.env :: eval b X.env :: evalEach es X.env := by rfl) : PE X (.JoinedStr (a :: b :: es) pos) (tJoin t) := by
  intro pins s σ H Q I hw
  refine JoinedStr_many ?_
  rw [← he]
  refine thn (h Str.empty pins s σ H _ I hw (by rw [show Str.empty.length = 0 from rfl]; omega)) fun u s' zz => ?_
  obtain ⟨z, tk, H', e, I', q⟩ := zz
  subst e
  exact ⟨.str z, H', I', ⟨tk, rfl⟩, q z⟩
end
end L2

set_option Elab.async false
set_option linter.all false
set_option maxRecDepth 100000
namespace L2
open PySem PySem.Spec PyProof.Rows PySem.Calls Builtin Builtin.ObjectAttr Builtin.Getset_descriptor
structure ExcF (K : PySem.W.Frag) (C : Addr) : Prop where
  ga : PySem.W.findIn K (.ref C) "__getattribute__" = some (some (.builtin "BaseException.__getattribute__"))
  gn : PySem.W.findIn K (.ref C) "__getattr__" = some none
  cl : PySem.W.findIn K (.ref C) "__class__" = some (some (.builtin "object.__class__"))
  sb : PySem.W.subIn K (.ref C) (.type "BaseException") = some true
  so : PySem.W.subIn K (.ref C) (.type "object") = some true
  ic : (PySem.W.clsIn K C).isSome = true
section
variable {prog : Program} {w : World} {A : Around} {E : Value → Shared → Prop} {K : PySem.W.Frag} {C a : Addr} {h : Heap} {g : Array GenState} {d : Drawn} {t : Nat} {os : OsState}
open PySem.W in
theorem exc_ty {M : Model} (p : excP a C h) : Looks M h (typeOf (.ref a)) (.ref C) := by
  obtain ⟨o, vs, h1, h2, h3⟩ := p
  exact h2 ▸ (Looks.ld h1).andThen .now
open PySem.W in
theorem exc_get {R : Result → Shared → Prop} (X : K.In h) (F : ExcF K C) (p : excP a C h) (hq : R (.ok (.ret (.ref C))) ⟨h, g, d, t, os⟩) :
    codeAny (model prog w) A (.call (.builtin "getset_descriptor.__get__") ⟨[.builtin "object.__class__", .ref a, .ref C], []⟩) R ⟨h, g, d, t, os⟩ := by
  have L0 := exc_ty (M := model prog w) p
  have L1 : Looks (model prog w) h (isSubtype (.ref C) (.type "object")) true := looks_subIn X F.so
  refine codeAny_call_builtin KF.slot_gs.plain KF.entry_gs (KF.slot_gs.check _ _ _ _ _ _ _ _ KF.type_class (KF.args_gs _ _ _) ?_)
  unfold Builtin.«getset_descriptor.__get__» descrGet
  rw [dga_obj]
  refine wpAny_bind (wpAny_pure ?_)
  unfold descrGetter descrCheckInstance descrNameAndClass isInstance
  simp only [KF.owner_class]
  repeat lk
  refine ⟨Code.quiet_builtin _ (by decide +kernel), codeAny_builtin KF.entry_class ?_⟩
  unfold Builtin.«object.__class__» shownTypeOf
  repeat lk
  exact hq
open PySem.W in
theorem exc_entry {tk : Tok} {Q : Fin → Shared → Prop} (X : K.In h) (F : ExcF K C) (p : excP a C h) (hq : Q (.done (.ret (.ref C))) ⟨h, g, d, t, os⟩) :
    wpAny (model prog w) A (Builtin.«object.__getattribute__» ⟨[.ref a, .str "__class__" tk], []⟩) Q E ⟨h, g, d, t, os⟩ := by
  have L0 := exc_ty (M := model prog w) p
  have L1 := looks_findIn (M := model prog w) X F.cl
  have hT5 : (⟨h, g, d, t, os⟩ : Shared).TypeIs (.builtin "object.__class__") "getset_descriptor" := PySem.F.typeOf_object_class
  have f5 := PySem.F.typeOf_object_class
  have f6 := PySem.F.slot_gs_get.lookup
  have f7 := PySem.F.slot_gs_set.lookup
  repeat (any_goals (first | assumption | (refine wpAny_bind (L0.at ?_)) | (refine wpAny_bind (L1.at ?_)) | wp_step))
  refine exc_get X F p ?_
  repeat (any_goals (first | assumption | wp_step))
open PySem.W in
theorem exc_check {M : Model} {nameV : Value} {Q : Unit → Shared → Prop} (X : K.In h) (F : ExcF K C) (p : excP a C h) (hq : Q () ⟨h, g, d, t, os⟩) : wpAny M A (checkBuiltinCall "BaseException.__getattribute__" ⟨[.ref a, nameV], []⟩) Q E ⟨h, g, d, t, os⟩ := by
  have hk : builtinKind "BaseException.__getattribute__" = some .slot := by decide +kernel
  have hsplit : splitId "BaseException.__getattribute__" = some ("BaseException", "__getattribute__") := by decide +kernel
  have L0 := exc_ty (M := M) p
  have L1 : Looks M h (isSubtype (.ref C) (.type "BaseException")) true := looks_subIn X F.sb
  have LI : Looks M h (isInstance (.ref a) (.type "BaseException")) true := L0.andThen L1
  have ha := PySem.F.args_bexc_ga (.ref a) nameV
  simp only [checkBuiltinCall, hk, hsplit]
  refine wpAny_bind (LI.at ?_)
  repeat (first | assumption | wp_step)
open PySem.W in
theorem exc_call {tk : Tok} {R : Result → Shared → Prop} (X : K.In h) (F : ExcF K C) (p : excP a C h) (hq : R (.ok (.ret (.ref C))) ⟨h, g, d, t, os⟩) :
    codeAny (model prog w) A (.call (.builtin "BaseException.__getattribute__") ⟨[.ref a, .str "__class__" tk], []⟩) R ⟨h, g, d, t, os⟩ :=
  codeAny_call_builtin (by decide +kernel) PySem.F.entry_bexc_ga (exc_check X F p (exc_entry X F p hq))
open PySem.W in
theorem exc_by {tk : Tok} {Q : Value → Shared → Prop} (X : K.In h) (F : ExcF K C) (p : excP a C h) (hq : Q (.ref C) ⟨h, g, d, t, os⟩) :
    wpAny (model prog w) A (getAttrBy (.ref a) (.str "__class__" tk) false) Q E ⟨h, g, d, t, os⟩ := by
  have L0 := exc_ty (M := model prog w) p
  have L1 := looks_findIn (M := model prog w) X F.ga
  have L2 := looks_findIn (M := model prog w) X F.gn
  have f3 : bindSpecial (.builtin "BaseException.__getattribute__") (.ref a) = pure (.builtin "BaseException.__getattribute__", [.ref a]) := PySem.F.excAttr_ValueError.ga.bind (.ref a)
  have hx2 : (Value.builtin "BaseException.__getattribute__" == Value.builtin "object.__getattribute__") = false := by decide +kernel
  have hx1 : (onTheHeap (Value.ref C) && Value.builtin "BaseException.__getattribute__" == Value.builtin "object.__getattribute__") = false := by rw [hx2]; rfl
  repeat (any_goals (first | assumption | (refine wpAny_bind (L0.at ?_)) | (refine wpAny_bind (L1.at ?_)) | (refine wpAny_bind (L2.at ?_)) | wp_step))
  refine exc_call X F p ?_
  repeat (any_goals (first | assumption | wp_step))
open PySem.W in
theorem exc_attr {Q : Option Value → Shared → Prop} (X : K.In h) (F : ExcF K C) (p : excP a C h) (hq : Q (some (.ref C)) ⟨h, g, d, t + 1, os⟩) : wpAny (model prog w) A (getAttr? (.ref a) "__class__") Q E ⟨h, g, d, t, os⟩ := by
  unfold getAttr? getAttrBy?
  repeat (any_goals (first | assumption | with_reducible apply exc_by X F p | wp_step))
end
end L2

set_option Elab.async false
set_option linter.all false
set_option maxRecDepth 100000
namespace L2
open PySem PySem.Spec PyProof.Rows
theorem kitx_exc {K : PySem.W.Frag} {C a : Addr} (F : ExcF K C) : PySem.W.KitX K (.ref a) (.ref C) (excP a C) where
  ty := fun M h X p => exc_ty p
  it := fun M h X p => by
    have z := F.ic
    unfold PySem.W.clsIn at z
    split at z
    · rename_i c' d' cd' sl' ho
      intro A' Q' E' s' k q
      unfold isType loadHead
      exact wpAny_bind (wpAny_loadPart (k _ _ (X _ _ ho)) (wpAny_pure q))
    · cases z
  ne := fun h tp dd its n sl X htp => by
    refine Bool.eq_false_iff.mpr fun q => ?_
    have e : C = tp := Value.ref.inj (beq_iff_eq.mp q)
    subst e
    have z := F.ic
    unfold PySem.W.clsIn at z
    split at z
    · rename_i c' d' cd' sl' ho
      have z := (X _ _ ho).symm.trans htp
      cases z
    · cases z
  ca := fun {prog w A E Q s} X p k => by
    obtain ⟨h, g, d, t, os⟩ := s
    exact exc_attr X F p k
noncomputable def clsV : V → Option Value
  | .ty n => some (.type n)
  | .ref a => some (.ref a)
  | _ => none
theorem clsV_rel {c : V} {u v : Value} (r : RelV c u) (h : clsV c = some v) : u = v := by
  cases c with
  | ty n => cases r; exact Option.some.inj h
  | ref a => cases r; exact Option.some.inj h
  | _ => cases h
section
variable {X : Cx}
theorem call_isinst : CallR X (.builtin "isinstance") (fun xs H Q => ∃ x c t cv b, xs = [x, c] ∧ TyOf X.K H x t ∧ clsV c = some cv ∧ PySem.W.kitOne X.K t cv = some b ∧ Q (.bl b) H) := by
  intro pins s σ H xs us Q I r h
  obtain ⟨x, c, t, cv, b, rfl, ty, hc, e, q⟩ := h
  obtain ⟨u, v, rfl, ru, rv⟩ := r.two
  have := clsV_rel rv hc
  subst this
  exact isinst_ok I ru ty e fun tk => ⟨.bl b, H, I.tok _, rfl, q⟩
end
noncomputable def wN (n : Nat) (Pv : Nat → St → Hp → Prop) : Nat → Nat → St → Hp → Prop := fun i m σ H => m = n - i ∧ i ≤ n ∧ Pv i σ H
theorem wput {n i : Nat} {Pv : Nat → St → Hp → Prop} {σ : St} {H : Hp} {D : Addr} {y : V} {ys : List V} (hi : i < n) (hD : H D = some (.lst ys)) (hl : ys.length < sizeLine) (p : Pv (i + 1) σ (upd H D (.lst (ys ++ [y])))) :
    ∃ ys, H D = some (.lst ys) ∧ ys.length < sizeLine ∧ ∃ m', m' < n - i ∧ wN n Pv (i + 1) m' σ (upd H D (.lst (ys ++ [y]))) := ⟨ys, hD, hl, n - (i + 1), by omega, rfl, hi, p⟩
theorem wskip {n i : Nat} {Pv : Nat → St → Hp → Prop} {σ : St} {H : Hp} (hi : i < n) (p : Pv (i + 1) σ H) : ∃ m', m' < n - i ∧ wN n Pv (i + 1) m' σ H := ⟨n - (i + 1), by omega, rfl, hi, p⟩
theorem blk_n {cap : List (Option Nat)} {g : TG} {tt : TT} {te : TE} {J : It} {σ : St} {H1 : Hp} {F : Addr → Hp → Prop} (n : Nat) (vs : Nat → V) (Pv : Addr → Nat → St → Hp → Prop)
    (h0 : ∀ D, H1 D = none → Pv D 0 (capS cap σ) (upd H1 D (.lst [])))
    (hgo : ∀ D i σ2 H2, H1 D = none → i < n → Pv D i σ2 H2 → J.go i H2 ∧ ∀ x H3, J.yld i H2 x H3 → H3 = H2 ∧ x = vs i)
    (hst : ∀ D σ2 H2, H1 D = none → Pv D n σ2 H2 → J.stop n H2)
    (step : ∀ D i σ1 H2, H1 D = none → i < n → Pv D i σ1 H2 → g (vs i) σ1 H2 fun σ2 H4 => tt σ2 H4 fun b H5 =>
      if b = true then te σ2 H5 fun y H6 => ∃ ys, H6 D = some (.lst ys) ∧ ys.length < sizeLine ∧ ∃ m', m' < n - i ∧ wN n (Pv D) (i + 1) m' σ2 (upd H6 D (.lst (ys ++ [y])))
      else ∃ m', m' < n - i ∧ wN n (Pv D) (i + 1) m' σ2 H5)
    (hd : ∀ D σ2 H2, H1 D = none → Pv D n σ2 H2 → F D H2) : tBlk cap g tt te J σ H1 F := by
  intro D hD
  refine ⟨wN n (Pv D), ⟨n, by simp, Nat.zero_le _, h0 D hD⟩, ?_⟩
  rintro i m σ1 H2 ⟨rfl, hi, p⟩
  by_cases hlt : i < n
  · obtain ⟨h1, h2⟩ := hgo D i σ1 H2 hD hlt p
    refine .inr ⟨h1, fun x H3 y => ?_⟩
    obtain ⟨e1, e2⟩ := h2 x H3 y
    subst e1 e2
    exact step D i σ1 _ hD hlt p
  · have e : i = n := by omega
    subst e
    exact .inl ⟨hst D σ1 H2 hD p, hd D σ1 H2 hD p⟩
theorem go_list {K : PySem.W.Frag} {a : Addr} {xs : List V} {H : Hp} {i : Nat} (h : SqL K H a xs) (hi : i < xs.length) : (Itl K a).go i H ∧ ∀ x H3, (Itl K a).yld i H x H3 → H3 = H ∧ x = xs.getD i .non :=
  ⟨⟨xs, xs[i], h, by simp [hi]⟩, fun x H3 ⟨e, y⟩ => ⟨e, by have := y xs h; simp [List.getD, this]⟩⟩
theorem st_list {K : PySem.W.Frag} {a : Addr} {xs : List V} {H : Hp} (h : SqL K H a xs) : (Itl K a).stop xs.length H := ⟨xs, h, Nat.le_refl _⟩
theorem go_dict {d : Addr} {o : Obj} {kvs : List (Key × V)} {H : Hp} {i : Nat} (h : H d = some (.frz o (.dK kvs))) (hi : i < kvs.length) : (Itd d o kvs).go i H ∧ ∀ x H3, (Itd d o kvs).yld i H x H3 → H3 = H ∧ x = (kvs.map fun p => kV p.1).getD i .non :=
  ⟨⟨h, hi⟩, fun x H3 ⟨e, p, hp, y⟩ => ⟨e, by rw [y]; simp [List.getD, hp]⟩⟩
theorem st_dict {d : Addr} {o : Obj} {kvs : List (Key × V)} {H : Hp} (h : H d = some (.frz o (.dK kvs))) : (Itd d o kvs).stop kvs.length H := ⟨h, Nat.le_refl _⟩
end L2

set_option Elab.async false
set_option linter.all false
set_option maxRecDepth 100000
namespace L2
open PySem PySem.Spec PyProof.Rows PySem.Calls
theorem orStand_led (t : SetTable) (n : Nat) : (t.orStandIn n).led = t.led := by
  unfold SetTable.orStandIn
  split
  · rfl
  · rfl
theorem layNew_led (t : SetTable) (es : Array (Int × Value)) (k : Int) (x : Value) : (layNew t es k x).2.1.led = t.led := by
  unfold layNew
  split
  · exact orStand_led _ _
  · rfl
theorem laid_flags {mask finger moves : Nat} {led plain : Bool} {hs : Array Int} {t : SetTable} {o : Array Nat} (h : SetTable.laid mask finger moves led plain hs = some (t, o)) : t.led = led ∧ t.plain = plain := by
  unfold SetTable.laid at h
  cases q : SetTable.layClean mask hs with
  | none => rw [q] at h; cases h
  | some ow =>
    rw [q] at h
    cases h
    exact ⟨rfl, rfl⟩
theorem relay_flags (t : SetTable) (es : Array (Int × Value)) (n : Nat) (hp : t.plain = false) : (relayAll t es n).2.1.led = t.led ∧ (relayAll t es n).2.1.plain = false := by
  unfold relayAll
  split
  · rename_i t' o e
    obtain ⟨e1, e2⟩ := laid_flags e
    dsimp only
    split
    · exact ⟨e1, e2.trans hp⟩
    · exact ⟨rfl, rfl⟩
  · exact ⟨rfl, rfl⟩
noncomputable def byTxt (w : World) : Bool := w.params.followText "set-order"
noncomputable def SSet (P : Program) (w : World) (h : Heap) (a : Addr) (ks : List Str) : Prop :=
  ∃ o es ep t ls, h.get? a = some o ∧ o.ExactSet ∧ o.data = .set es ep t ∧ ElemsOf (PySem.strKind P w) es.toList ∧ StrsAre (es.toList.map (·.2)) ls ∧ ls.Perm ks ∧ es.size < scanBound ∧ t.fits es.size = true ∧ t.led = !byTxt w ∧ (t.plain = true → es.size = 0)
theorem strs_perm {l1 l2 : List (Int × Value)} {ls : List Str} (p : l1.Perm l2) (h : StrsAre (l2.map (·.2)) ls) : ∃ ls', StrsAre (l1.map (·.2)) ls' ∧ ls'.Perm ls := by
  refine ⟨(l1.map (·.2)).map strOf, strsAre_map _ (fun v hv => ?_), ?_⟩
  · exact h.all v ((p.map (·.2)).mem_iff.mp hv)
  · rw [← h.strs]
    exact (p.map (·.2)).map strOf
theorem strs_snoc {vs : List Value} {ls : List Str} {x : Str} {t : Tok} (h : StrsAre vs ls) : StrsAre (vs ++ [.str x t]) (ls ++ [x]) := by
  induction h with
  | nil => exact .cons x t .nil
  | cons y u _ ih => exact .cons y u ih
section
variable {P : Program} {w : World} {A : Around} {E : Value → Shared → Prop} {s : Shared} {a : Addr} {ks : List Str}
theorem SSet.stay {h h' : Heap} (S : SSet P w h a ks) (k : ∀ o, h.get? a = some o → h'.get? a = some o) : SSet P w h' a ks := by
  obtain ⟨o, es, ep, t, ls, ho, r⟩ := S
  exact ⟨o, es, ep, t, ls, k o ho, r⟩
theorem mem_strs {vs : List (Int × Value)} {ls : List Str} (h : StrsAre (vs.map (·.2)) ls) {x : Str} : x ∈ ls ↔ ∃ e ∈ vs, (PySem.strKind P w).is x e.2 = true := by
  rw [← h.strs]
  constructor
  · intro hx
    obtain ⟨v, hv, rfl⟩ := List.mem_map.mp hx
    obtain ⟨e, he, rfl⟩ := List.mem_map.mp hv
    obtain ⟨y, t, q⟩ := h.all e.2 hv
    refine ⟨e, he, ?_⟩
    rw [q]
    exact strKind_is P w y t
  · rintro ⟨e, he, q⟩
    obtain ⟨t, e2⟩ := Value.isStrOf_shape q
    exact List.mem_map.mpr ⟨e.2, List.mem_map.mpr ⟨e, he, rfl⟩, by rw [e2]; rfl⟩
theorem sset_put {o : Obj} {es : Array (Int × Value)} {ep : Nat} {t : SetTable} {h : Heap} (ho : h.get? a = some o) (hex : o.ExactSet) (hd : o.data = .set es ep t) {es' : Array (Int × Value)} {t' : SetTable} {ls : List Str}
    (hel : ElemsOf (PySem.strKind P w) es'.toList) (hs : StrsAre (es'.toList.map (·.2)) ls) (hp : ls.Perm ks) (hb : es'.size < scanBound) (hf : t'.fits es'.size = true) (hl : t'.led = !byTxt w) (hpl : t'.plain = false) :
    (h.update a (Obj.putSet es' t')).get? a = some { o with data := .set es' (ep + 1) t' } ∧ SSet P w (h.update a (Obj.putSet es' t')) a ks := by
  have g := Heap.get?_update_self (Obj.putSet es' t') ho (by rw [putSet_of es' t' hd]; rfl)
  rw [putSet_of es' t' hd] at g
  exact ⟨g, _, es', ep + 1, t', ls, g, hex, rfl, hel, hs, hp, hb, hf, hl, fun z => by rw [hpl] at z; cases z⟩
theorem sset_tail {g : Bool → Sem Unit} (hg : ∀ (b : Bool) (s1 : Shared) (Q' : Unit → Shared → Prop), Q' () s1 → wpAny (model P w) A (g b) Q' E s1)
    {o : Obj} {es : Array (Int × Value)} {ep : Nat} {t : SetTable} (ho : s.heap.get? a = some o) (hex : o.ExactSet) (hd : o.data = .set es ep t) {es1 : Array (Int × Value)} {t2 : SetTable} {ls : List Str}
    (hel : ElemsOf (PySem.strKind P w) es1.toList) (hs : StrsAre (es1.toList.map (·.2)) ls) (hp : ls.Perm ks) (hb : es1.size < scanBound) (hf : t2.fits es1.size = true) (hl : t2.led = !byTxt w) (hpl : t2.plain = false) {wd : Bool} {R : Option Bool → Shared → Prop}
    (h : ∀ h', Heap.SameBut a s.heap h' → SSet P w h' a ks → R (some true) { s with heap := h' }) :
    wpAny (model P w) A (do
        storeSet a es1 t2
        if (!wd && t2.tooFull) = true then do g (relayAll t2 es1 (SetTable.grown es1.size)).2.2
                                              storeSet a (relayAll t2 es1 (SetTable.grown es1.size)).1 (relayAll t2 es1 (SetTable.grown es1.size)).2.1
                                              pure (some true)
        else pure (some true)) R E s := by
  refine wpAny_bind (wpAny_storeSet_of ho hd ?_ (fits_of_scanBound hb))
  obtain ⟨g1, S1⟩ := sset_put (P := P) (w := w) ho hex hd hel hs hp hb hf hl hpl
  have sb := Heap.SameBut.update s.heap a (Obj.putSet es1 t2)
  split
  · have pp := relayAll_perm t2 es1 (SetTable.grown es1.size)
    have ff := relayAll_fits t2 es1 (SetTable.grown es1.size)
    obtain ⟨fl1, fl2⟩ := relay_flags t2 es1 (SetTable.grown es1.size) hpl
    generalize relayAll t2 es1 (SetTable.grown es1.size) = R3 at pp ff fl1 fl2 ⊢
    obtain ⟨es3, t3, gv⟩ := R3
    dsimp only at pp ff fl1 fl2 ⊢
    obtain ⟨ls3, s3, p3⟩ := strs_perm pp hs
    have z : es3.size = es1.size := by rw [← Array.length_toList, pp.length_eq, Array.length_toList]
    refine wpAny_bind (hg _ _ _ ?_)
    refine wpAny_bind (wpAny_storeSet_of g1 rfl ?_ (fits_of_scanBound (by rw [z]; exact hb)))
    obtain ⟨_, S3⟩ := sset_put (P := P) (w := w) (ks := ks) g1 hex rfl (hel.perm pp) s3 (p3.trans hp) (by rw [z]; exact hb) ff (fl1.trans hl) fl2
    exact wpAny_pure (h _ (sb.trans (Heap.SameBut.update _ a _)) S3)
  · exact wpAny_pure (h _ sb S1)
theorem sset_add {x : Str} {tk : Tok} {Q : Bool → Shared → Prop} (S : SSet P w s.heap a ks) (hr : ks.length + 1 < scanBound)
    (h : ∀ b h', Heap.SameBut a s.heap h' → SSet P w h' a (if x ∈ ks then ks else ks ++ [x]) → Q b { s with heap := h' }) :
    wpAny (model P w) A (setAddHashed a (.str x tk) ((PySem.strKind P w).hash x)) Q E s := by
  obtain ⟨o, es, ep, t, ls, ho, hex, hd, hel, hs, hp, hb, hf, hl, hpl⟩ := S
  have hlen : es.size = ks.length := by
    have := hs.length
    rw [List.length_map, Array.length_toList] at this
    rw [this, hp.length_eq]
  have hkey : (PySem.strKind P w).is x (.str x tk) = true := strKind_is P w x tk
  have hin : x ∈ ks ↔ ∃ e ∈ es.toList, (PySem.strKind P w).is x e.2 = true := hp.mem_iff.symm.trans (mem_strs hs)
  unfold setAddHashed setAddHashedIn
  refine wpAny_holding (wpAny_bind (wpAny_setState_of ho hd hf ?_))
  dsimp only
  rw [byScan_of (knd := PySem.strKind P w) rfl hb hel]
  simp only [↓reduceIte]
  unfold setAddByScan
  refine wpAny_bind (wpAny_bind (wpAny_rule (wpAny_bind (wpAny_setScan_of hkey ho hd hf hel ?_))))
  cases hf1 : List.findIdx? (fun e => (PySem.strKind P w).is x e.2) es.toList with
  | some j =>
    dsimp only
    obtain ⟨hj, hpj, _⟩ := List.findIdx?_eq_some_iff_getElem.mp hf1
    have hx : x ∈ ks := hin.mpr ⟨es.toList[j], List.getElem_mem hj, hpj⟩
    refine wpAny_pure (wpAny_pure ?_)
    have := h false s.heap (Heap.SameBut.refl a s.heap) (by rw [if_pos hx]; exact ⟨o, es, ep, t, ls, ho, hex, hd, hel, hs, hp, hb, hf, hl, hpl⟩)
    exact this
  | none =>
    dsimp only
    have hx : x ∉ ks := fun z => by
      obtain ⟨e, he, q⟩ := hin.mp z
      have := List.findIdx?_eq_none_iff.mp hf1 e he
      rw [q] at this
      cases this
    have gw : ∀ (b : Bool) (s1 : Shared) (Q' : Unit → Shared → Prop), Q' () s1 → wpAny (model P w) A (match b with | true => rule "set.scan.the-table-gave-way" | false => pure ()) Q' E s1 := fun b s1 Q' q => by
      cases b with
      | true => exact wpAny_rule q
      | false => exact wpAny_pure q
    have pp := layNew_perm t es ((PySem.strKind P w).hash x) (.str x tk)
    have ff := layNew_fits t es ((PySem.strKind P w).hash x) (.str x tk)
    have fl := layNew_led t es ((PySem.strKind P w).hash x) (.str x tk)
    generalize layNew t es ((PySem.strKind P w).hash x) (.str x tk) = R at pp ff fl ⊢
    obtain ⟨es1, t1, wd, gv⟩ := R
    dsimp only at pp ff fl ⊢
    rw [Array.toList_push] at pp
    have el1 := (hel.push hkey rfl).perm pp
    have st0 : StrsAre ((es.toList ++ [((PySem.strKind P w).hash x, Value.str x tk)]).map (·.2)) (ls ++ [x]) := by
      rw [List.map_append]
      exact strs_snoc hs
    obtain ⟨ls1, st1, p1⟩ := strs_perm pp st0
    have z1 : es1.size = ks.length + 1 := by
      rw [← Array.length_toList, pp.length_eq, List.length_append, Array.length_toList, hlen]
      rfl
    have p2 : ls1.Perm (ks ++ [x]) := p1.trans (hp.append_right _)
    rw [if_neg hx] at h
    refine wpAny_bind (gw _ _ _ ?_)
    split
    · refine wpAny_bind ?_
      rw [hashByValue_scannable 8 (x := Value.str x tk) rfl]
      refine wpAny_pure ?_
      refine sset_tail (ks := ks ++ [x]) gw ho hex hd el1 st1 p2 (by rw [z1]; exact hr) (SetTable.fits_plain_off ff) (fl.trans hl) rfl (fun h' sb S' => ?_)
      dsimp only
      exact wpAny_pure (h true h' sb S')
    · rename_i np
      refine wpAny_bind (wpAny_pure ?_)
      simp only [↓reduceIte]
      refine sset_tail (ks := ks ++ [x]) gw ho hex hd el1 st1 p2 (by rw [z1]; exact hr) ff (fl.trans hl) (by cases q : t1.plain with | false => rfl | true => exact absurd q np) (fun h' sb S' => ?_)
      dsimp only
      exact wpAny_pure (h true h' sb S')
end
end L2

set_option Elab.async false
set_option linter.all false
set_option maxRecDepth 100000
namespace L2
open PySem PySem.Spec PyProof.Rows PySem.Calls
noncomputable def dd1 (acc : List Str) (x : Str) : List Str := if x ∈ acc then acc else acc ++ [x]
noncomputable def ddup (ss : List Str) : List Str := ss.foldl dd1 []
theorem ddup_snoc (ss : List Str) (x : Str) : ddup (ss ++ [x]) = dd1 (ddup ss) x := by
  unfold ddup
  rw [List.foldl_append]
  rfl
theorem ddup_ind {p : List Str → List Str → Prop} (h0 : p [] []) (h1 : ∀ ss x, p ss (ddup ss) → p (ss ++ [x]) (dd1 (ddup ss) x)) (ss : List Str) : p ss (ddup ss) := by
  have go : ∀ n ss, ss.length = n → p ss (ddup ss) := by
    intro n
    induction n with
    | zero =>
      intro ss e
      rw [List.length_eq_zero_iff.mp e]
      exact h0
    | succ n ih =>
      intro ss e
      have hne : ss ≠ [] := fun z => by rw [z] at e; cases e
      have e2 := List.dropLast_concat_getLast hne
      rw [← e2, ddup_snoc]
      exact h1 _ _ (ih _ (by rw [List.length_dropLast, e]; rfl))
  exact go _ ss rfl
theorem ddup_mem (ss : List Str) : ∀ x, x ∈ ddup ss ↔ x ∈ ss := by
  refine ddup_ind (p := fun ss d => ∀ x, x ∈ d ↔ x ∈ ss) (fun x => Iff.rfl) (fun ss y ih x => ?_) ss
  unfold dd1
  split
  · rename_i hy
    rw [ih, List.mem_append, List.mem_singleton]
    constructor
    · exact .inl
    · rintro (z | z)
      · exact z
      · rw [z]; exact (ih y).mp hy
  · rw [List.mem_append, List.mem_append, ih]
theorem ddup_nd (ss : List Str) : (ddup ss).Nodup := by
  refine ddup_ind (p := fun _ d => d.Nodup) List.nodup_nil (fun ss y ih => ?_) ss
  unfold dd1
  split
  · exact ih
  · rename_i hy
    exact List.nodup_append.mpr ⟨ih, by simp, fun a ha b hb => by rw [List.mem_singleton.mp hb]; exact fun z => hy (z ▸ ha)⟩
theorem ddup_len (ss : List Str) : (ddup ss).length ≤ ss.length := by
  refine ddup_ind (p := fun ss d => d.length ≤ ss.length) (Nat.le_refl _) (fun ss y ih => ?_) ss
  unfold dd1
  rw [List.length_append, List.length_singleton]
  split
  · omega
  · rw [List.length_append, List.length_singleton]; omega
section
variable {P : Program} {w : World} {A : Around} {E : Value → Shared → Prop} {s : Shared}
theorem sset_loop {R : Result → Shared → Prop} {I : Addr} {fp wr : List Addr} {G : Array GenState → Array GenState → Prop} {Pv : Nat → Value → Prop} {St : Nat → Shared → Prop} (ss : List Str) (W : WalksS P w A.in1 I fp wr G ss.length Pv St) (S : Addr) (nS : S ∉ fp)
    (hval : ∀ i v, Pv i v → ∃ t, v = .str (ss.getD i "") t) (hb : ss.length + 1 < scanBound) :
    ∀ (k i : Nat) (s : Shared), ss.length - i = k → i ≤ ss.length → St i s → SSet P w s.heap S (ddup (ss.take i)) → (∀ s', Moved (S :: wr) G s s' → SSet P w s'.heap S (ddup ss) → R (.ok (.ret .none)) s') →
      codeAny (model P w) A (.builtin "set.update.loop" ⟨[.ref S, .ref I], []⟩) R s := by
  have nw : S ∉ wr := fun z => nS (W.sub _ z)
  have up : ∀ b ∈ wr, b ∈ S :: wr := fun b z => List.mem_cons_of_mem _ z
  intro k
  induction k with
  | zero =>
    intro i s e hi st hS hR
    have : i = ss.length := by omega
    subst this
    rw [List.take_length] at hS
    refine codeAny_builtin F.entry_set_update_loop ?_
    rw [Around.under_plainId F.plain_set_update_loop _]
    show wpAny _ A.in1 (pyNext (.ref I) >>= fun _ => _) _ _ s
    refine wpAny_bind (W.done s _ _ st fun s' mv => ?_)
    show wpAny _ A.in1 (ret Value.none) _ _ s'
    exact wpAny_pure (hR s' (mv.mono up) (hS.stay fun o z => mv.heap S o nw z))
  | succ k ih =>
    intro i s e hi st hS hR
    have lt : i < ss.length := by omega
    refine codeAny_builtin F.entry_set_update_loop ?_
    rw [Around.under_plainId F.plain_set_update_loop _]
    show wpAny _ A.in1 (pyNext (.ref I) >>= fun _ => _) _ _ s
    refine wpAny_bind (W.item i s _ _ lt st fun v s' hP st' mv => ?_)
    obtain ⟨t, rfl⟩ := hval i v hP
    have hS' := hS.stay fun o z => mv.heap S o nw z
    show wpAny _ A.in1 (holding [Value.str (ss.getD i "") t] (setAdd S (.str (ss.getD i "") t)) >>= fun _ => _) _ _ s'
    refine wpAny_bind (wpAny_holding ?_)
    unfold setAdd
    refine wpAny_holding (wpAny_bind ((PySem.strKind P w).pyHash (k := ss.getD i "") (strKind_is P w _ t) ?_))
    have hl1 : (ddup (ss.take i)).length ≤ i := Nat.le_trans (ddup_len _) (by rw [List.length_take]; omega)
    refine sset_add (s := { s' with toks := s'.toks + 1 }) hS' (by omega) fun b h' sb S2 => ?_
    have e3 : ddup (ss.take (i + 1)) = dd1 (ddup (ss.take i)) (ss.getD i "") := by
      rw [List.take_succ_eq_append_getElem lt, ddup_snoc]
      congr 1
      simp [List.getD, lt]
    have S3 : SSet P w h' S (ddup (ss.take (i + 1))) := by rw [e3]; exact S2
    refine wpAny_pure ⟨plainId_quiet F.plain_set_update_loop _, ih (i + 1) _ (by omega) lt (W.frame _ s' _ _ st' (Nat.le_succ _) fun b hb o q => ?_) S3 fun s'' mv2 S4 => ?_⟩
    · rw [sb.2 b (fun z => nS (z ▸ hb))]
      exact q
    · refine hR s'' (Moved.trans W.gtrans ((mv.mono up).then_heap (Nat.le_succ _) fun b o hb q => ?_) mv2) S4
      rw [sb.2 b (fun z => hb (z ▸ List.mem_cons_self))]
      exact q
inductive Src (h : Heap) (l : Addr) (items : Array Value) : Prop
  | lst : h.IsList l items → Src h l items
  | tup : h.IsTuple l items → Src h l items
theorem set_new1 (a : Value) {Q : Value → Shared → Prop} (h : Q (.ref s.heap.objs.size) { s with heap := s.heap.push { cls := .type "set", dict := none, data := .set #[] 0 (.fresh 0 0 (!byTxt w)) } }) :
    codeAny (model P w) A (.call (.builtin "set.__new__") ⟨[.type "set", a], []⟩) (wants Q E) s := by
  refine codeAny_of_tree ?_
  show wpAny _ A.in1 (do checkBuiltinCall "set.__new__" ⟨[.type "set", a], []⟩
                         again (.builtin "set.__new__" ⟨[.type "set", a], []⟩)) _ _ s
  refine wpAny_bind (wpAny_of_eq (PySem.F.newCall_set_1 a) (wpAny_pure ⟨plainId_quiet PySem.F.plain_set_new _, codeAny_builtin PySem.F.entry_set_new ?_⟩))
  rw [Around.under_plainId PySem.F.plain_set_new _]
  unfold Builtin.«set.__new__» Builtin.Frozenset.newClass
  have q := sub_set_self
  obtain ⟨hp, g, d, tk, os⟩ := s
  dsimp only
  wp_walk
  refine wpAny_askSetting (wpAny_pure ?_)
  dsimp only
  simp only [newObj]
  exact wpAny_bind (wpAny_alloc (wpAny_pure (wpAny_pure h)))
end
end L2

set_option Elab.async false
set_option linter.all false
set_option maxRecDepth 100000
set_option maxHeartbeats 3200000
namespace L2
open PySem PySem.Spec PyProof.Rows PySem.Calls
section
variable {P : Program} {w : World} {A : Around} {E : Value → Shared → Prop} {s : Shared}
noncomputable abbrev nuSet (w : World) : Obj := { cls := .type "set", dict := none, data := .set #[] 0 (.fresh 0 0 (!byTxt w)) }
theorem sset_nil {h : Heap} {a : Addr} (g : h.get? a = some (nuSet w)) : SSet P w h a [] :=
  ⟨_, #[], 0, _, [], g, ⟨rfl, rfl, rfl⟩, rfl, fun e he => by simp at he, .nil, .nil, by decide, rfl, rfl, fun _ => rfl⟩
theorem set_fill {l S : Addr} {items : Array Value} {ss : List Str} {R : Unit → Shared → Prop} (hh : A.handled = none) (src : Src s.heap l items) (hs : StrsAre items.toList ss) (hb : ss.length + 1 < scanBound) (hS : SSet P w s.heap S []) (hlS : l ≠ S)
    (hTS : ∀ (Q : Bool → Shared → Prop), Q false s → wpAny (model P w) A (Builtin.Frozenset.isAnySet (.ref l)) Q E s)
    (h : ∀ (h' : Heap) (tk : Nat), SSet P w h' S (ddup ss) → (∀ b o, b ≠ S → s.heap.get? b = some o → h'.get? b = some o) → R () { s with heap := h', toks := tk }) :
    wpAny (model P w) A (Builtin.Frozenset.updateFrom "set.__init__" S (.ref l)) R E s := by
  have hlen : items.size = ss.length := by
    have := hs.length
    rwa [Array.length_toList] at this
  have hval : ∀ (i : Nat) (v : Value), items[i]? = some v → ∃ t, v = .str (ss.getD i "") t := fun i v q => by
    have q' : items.toList[i]? = some v := by rw [Array.getElem?_toList]; exact q
    obtain ⟨x, t, rfl⟩ := hs.all v (List.mem_of_getElem? q')
    refine ⟨t, ?_⟩
    congr 1
    rw [← hs.strs]
    simp [List.getD, List.getElem?_map, q, strOf]
  obtain ⟨oS, _, _, _, _, gS, _⟩ := id hS
  have ltS := Heap.lt_size gS
  unfold Builtin.Frozenset.updateFrom
  refine wpAny_bind (hTS _ ?_)
  simp only [Bool.false_eq_true, if_false]
  cases src with
  | lst hl =>
    have hll : l < s.heap.objs.size := by obtain ⟨o, g, _⟩ := hl; exact Heap.lt_size g
    refine wpAny_bind (wpAny_typeOf (T := "list") hl.typeIs ?_)
    have ne : (Value.type "list" == Value.type "dict") = false := by decide
    simp only [ne, Bool.false_eq_true, if_false]
    refine wpAny_bind (wpAny_pyIter_list hl ?_)
    refine wpAny_bind (wpAny_runValue ?_)
    have nI : S ∉ [s.heap.objs.size, l] := by simp only [List.mem_cons, List.not_mem_nil, or_false, not_or]; exact ⟨Nat.ne_of_lt ltS, hlS.symm⟩
    have W := (Walks.list (prog := P) (w := w) (A := A.in1) (by simp [hh]) s.heap.objs.size l (Nat.ne_of_lt hll) items).toS
    rw [hlen] at W
    refine sset_loop ss W S nI hval hb _ 0 _ rfl (Nat.zero_le _) ⟨⟨_, Heap.get?_push_size _ rfl, rfl, rfl⟩, hl.push _⟩ (hS.stay fun o q => Heap.get?_push_of_some _ q) fun s' mv S' => ?_
    rw [Moved.eq_with mv]
    refine wpAny_pure (h s'.heap s'.toks S' fun b o nb q => mv.heap b o (fun z => ?_) (Heap.get?_push_of_some _ q))
    rcases List.mem_cons.mp z with z | z
    · exact nb z
    · exact absurd (Heap.lt_size q) (by rw [List.mem_singleton.mp z]; exact Nat.lt_irrefl _)
  | tup hl =>
    have hll : l < s.heap.objs.size := by obtain ⟨o, g, _⟩ := hl; exact Heap.lt_size g
    refine wpAny_bind (wpAny_typeOf (T := "tuple") hl.typeIs ?_)
    have ne : (Value.type "tuple" == Value.type "dict") = false := by decide
    simp only [ne, Bool.false_eq_true, if_false]
    refine wpAny_bind (wpAny_pyIter_tuple hl ?_)
    refine wpAny_bind (wpAny_runValue ?_)
    have nI : S ∉ [s.heap.objs.size, l] := by simp only [List.mem_cons, List.not_mem_nil, or_false, not_or]; exact ⟨Nat.ne_of_lt ltS, hlS.symm⟩
    have W := (Walks.tuple (prog := P) (w := w) (A := A.in1) (by simp [hh]) s.heap.objs.size l (Nat.ne_of_lt hll) items).toS
    rw [hlen] at W
    refine sset_loop ss W S nI hval hb _ 0 _ rfl (Nat.zero_le _) ⟨⟨_, Heap.get?_push_size _ rfl, rfl, rfl⟩, hl.push _⟩ (hS.stay fun o q => Heap.get?_push_of_some _ q) fun s' mv S' => ?_
    rw [Moved.eq_with mv]
    refine wpAny_pure (h s'.heap s'.toks S' fun b o nb q => mv.heap b o (fun z => ?_) (Heap.get?_push_of_some _ q))
    rcases List.mem_cons.mp z with z | z
    · exact nb z
    · exact absurd (Heap.lt_size q) (by rw [List.mem_singleton.mp z]; exact Nat.lt_irrefl _)
theorem Src.push {h : Heap} {l : Addr} {items : Array Value} (x : Src h l items) (o : Obj) : Src (h.push o) l items := by
  cases x with
  | lst y => exact .lst (y.push o)
  | tup y => exact .tup (y.push o)
theorem Src.any {l : Addr} {items : Array Value} (x : Src s.heap l items) {Q : Bool → Shared → Prop} (q : Q false s) : wpAny (model P w) A (Builtin.Frozenset.isAnySet (.ref l)) Q E s := by
  cases x with
  | lst y =>
    obtain ⟨o, g, c, n, d⟩ := y
    obtain ⟨oc, od, odt, os⟩ := o
    simp only at c d
    subst c d
    have h1 := PySem.F.sub_list_set
    have h2 := PySem.F.sub_list_frozenset
    unfold Builtin.Frozenset.isAnySet
    wp_walk
    exact q
  | tup y =>
    obtain ⟨o, g, c, n, d⟩ := y
    obtain ⟨oc, od, odt, os⟩ := o
    simp only at c d
    subst c d
    have h1 : isSubtype (.type "tuple") (.type "set") = pure false := by rw [isSubtype_type]; kernel_rfl
    have h2 : isSubtype (.type "tuple") (.type "frozenset") = pure false := by rw [isSubtype_type]; kernel_rfl
    unfold Builtin.Frozenset.isAnySet
    wp_walk
    exact q
theorem Src.lt {h : Heap} {l : Addr} {items : Array Value} (x : Src h l items) : l < h.objs.size := by
  cases x with
  | lst y => obtain ⟨o, g, _⟩ := y; exact Heap.lt_size g
  | tup y => obtain ⟨o, g, _⟩ := y; exact Heap.lt_size g
theorem call_setS {l : Addr} {items : Array Value} {ss : List Str} {Q : Value → Shared → Prop} (hh : A.handled = none) (src : Src s.heap l items) (hs : StrsAre items.toList ss) (hb : ss.length + 1 < scanBound)
    (h : ∀ (h' : Heap) (tk : Nat), SSet P w h' s.heap.objs.size (ddup ss) → (∀ b o, s.heap.get? b = some o → h'.get? b = some o) → Q (.ref s.heap.objs.size) { s with heap := h', toks := tk }) :
    wpAny (model P w) A (call (.type "set") [.ref l]) Q E s := by
  obtain ⟨c, tl, hmro⟩ := PySem.F.called_set.mro
  have hmade := PySem.F.called_set.made
  have hsub := PySem.F.called_set.sub
  refine wpAny_call (codeAny_of_tree ?_)
  show wpAny _ _ (callAny (.type "set") _) _ _ s
  refine wpAny_pure ⟨Code.quiet_builtin _ (by decide +kernel), codeAny_builtin PySem.F.entry_type_call ?_⟩
  rw [Around.under_plain (weight_type_call_type "set" [.ref l] []) rfl]
  have f1 := PySem.F.called_set.notType
  have f2 := PySem.F.called_set.canCreate
  have f3 := PySem.F.typeCall_set_1 (.ref l)
  repeat (any_goals (first | assumption | wp_step))
  refine codeAny_mono (set_new1 (.ref l) (E := E) (Q := fun obj s1 => obj = .ref s.heap.objs.size ∧ s1 = { s with heap := s.heap.push (nuSet w) }) ⟨rfl, rfl⟩) fun r s1 hr => ?_
  cases r with
  | error e => exact hr
  | ok fl =>
    cases fl with
    | ret obj =>
      obtain ⟨rfl, rfl⟩ := hr
      have gS : (s.heap.push (nuSet w)).get? s.heap.objs.size = some (nuSet w) := Heap.get?_push_size _ rfl
      have hT : Shared.TypeIs { s with heap := s.heap.push (nuSet w) } (.ref s.heap.objs.size) "set" := ⟨_, gS, rfl⟩
      have f4 := PySem.F.called_set.init.lookup
      have f5 := PySem.F.called_set.init.bind (.ref s.heap.objs.size)
      repeat (any_goals (first | assumption | wp_step))
      refine codeAny_mono (codeAny_call_builtin (R := wants (fun r s2 => r = .none ∧ ∃ h' tk, s2 = { s with heap := h', toks := tk } ∧ SSet P w h' s.heap.objs.size (ddup ss) ∧ ∀ b o, s.heap.get? b = some o → h'.get? b = some o) E)
        PySem.F.called_set.init.plain PySem.F.entry_set_init (check_set_init_1 hT ?_)) fun r2 s2 hr2 => ?_
      · have src' := src.push (nuSet w)
        have lt := src.lt
        unfold Builtin.«set.__init__» noKeywords
        generalize hU : Builtin.Frozenset.updateFrom = U
        wp_walk
        subst hU
        refine set_fill (s := { s with heap := s.heap.push (nuSet w) }) (by simp [hh]) src' hs hb (sset_nil gS) (Nat.ne_of_lt lt) (fun Q q => Src.any (s := { s with heap := s.heap.push (nuSet w) }) src' q) fun h' tk S' kk => ?_
        exact wpAny_pure ⟨rfl, h', tk, rfl, S', fun b o q => kk b o (Nat.ne_of_lt (Heap.lt_size q)) (Heap.get?_push_of_some _ q)⟩
      · cases r2 with
        | error e => exact hr2
        | ok fl2 =>
          cases fl2 with
          | ret r =>
            obtain ⟨rfl, h', tk, rfl, S', kk⟩ := hr2
            repeat (any_goals (first | assumption | wp_step))
            exact h _ _ S' kk
          | _ => exact hr2.elim
    | _ => exact hr.elim
end
end L2

set_option Elab.async false
set_option linter.all false
set_option maxRecDepth 100000
set_option maxHeartbeats 3200000
namespace L2
open PySem PySem.Spec PyProof.Rows PySem.Calls
namespace SF
theorem sIter : Slot "set" "__iter__" "set.__iter__" := PySem.F.slot_set_iter
theorem eIter : entryFor table "set.__iter__" = some Builtin.«frozenset.__iter__» := entryFor_alias (id' := "frozenset.__iter__") (by kernel_rfl) rfl (by decide +kernel) (by kernel_rfl)
theorem sNext : Slot "set_iterator" "__next__" "set_iterator.__next__" := .of (owner := "set_iterator") (n := "__next__") (by rw [typeLookup_type, builtinLookup_eq_fast]; kernel_rfl) (by decide +kernel) (by decide +kernel) (by decide +kernel) (by first | exact .inl (by decide +kernel) | exact .inr (by decide +kernel)) (by rw [isSubtype_type]; kernel_rfl)
theorem eNext : entryFor table "set_iterator.__next__" = some Builtin.«set_iterator.__next__» := entryFor_of_tree (by kernel_rfl)
theorem aNext (a : Value) : argsOk "set_iterator.__next__" ⟨[a], []⟩ := by unfold argsOk; kernel_rfl
end SF
theorem cons_erase {α : Type} : ∀ (xs : List α) (i : Nat) (hi : i < xs.length), (xs[i] :: xs.eraseIdx i).Perm xs
  | x :: xs, 0, _ => List.Perm.refl _
  | x :: xs, i + 1, hi => by
    have ih := cons_erase xs i (by simpa using hi)
    rw [List.eraseIdx_cons_succ, List.getElem_cons_succ]
    exact (List.Perm.swap x _ _).trans (ih.cons x)
theorem pick_go {α : Type} (next : Nat → Nat) : ∀ (n k : Nat) (left : List α) (out : Array α), left.length = n → (pickOrder.go next n k left out).toList.Perm (out.toList ++ left) := by
  intro n
  induction n with
  | zero =>
    intro k left out e
    rw [List.length_eq_zero_iff.mp e, List.append_nil]
    exact List.Perm.refl _
  | succ n ih =>
    intro k left out e
    have hlt : next k % left.length < left.length := Nat.mod_lt _ (by omega)
    unfold pickOrder.go
    rw [List.getElem?_eq_getElem hlt]
    dsimp only
    refine (ih _ _ _ (by rw [List.length_eraseIdx_of_lt hlt, e]; rfl)).trans ?_
    rw [Array.toList_push, List.append_assoc]
    exact (cons_erase left _ hlt).append_left _
theorem pick_perm {α : Type} (next : Nat → Nat) (xs : Array α) : (pickOrder next xs).toList.Perm xs.toList := by
  have := pick_go next xs.size 0 xs.toList #[] (by simp)
  simpa [pickOrder] using this
section
variable {P : Program} {w : World} {A : Around} {E : Value → Shared → Prop} {s : Shared}
theorem wp_choose {src : Source} {n : Nat} {Q : Nat → Shared → Prop} (hn : n ≠ 0) (h : ∀ i d, i < n → Q i { s with drawn := d }) : wpAny (model P w) A (choose src n) Q E s := by
  intro Γ p hΓ
  exact ⟨hn, h _ _ (Nat.mod_lt _ (Nat.pos_of_ne_zero hn))⟩
theorem wp_drawOrder {α : Type} : ∀ (n : Nat) (xs : List α) (s : Shared) (Q : List α → Shared → Prop), xs.length = n → (∀ os d, os.Perm xs → Q os { s with drawn := d }) → wpAny (model P w) A (drawOrder n xs) Q E s := by
  intro n
  induction n with
  | zero =>
    intro xs s Q e h
    rw [List.length_eq_zero_iff.mp e] at h ⊢
    unfold drawOrder
    exact wpAny_pure (h [] s.drawn (List.Perm.refl _))
  | succ n ih =>
    intro xs s Q e h
    cases xs with
    | nil => cases e
    | cons y ys =>
      unfold drawOrder
      refine wpAny_bind (wp_choose (by simp) fun i d hi => ?_)
      rw [List.getElem?_eq_getElem hi]
      dsimp only
      refine wpAny_bind (ih _ _ _ (by rw [List.length_eraseIdx_of_lt hi, e]; rfl) fun os d' hp => ?_)
      exact wpAny_pure (h _ d' ((hp.cons _).trans (cons_erase _ i hi)))
noncomputable def SAt (h : Heap) (a : Addr) (es : Array (Int × Value)) (ep : Nat) (t : SetTable) : Prop := ∃ o, h.get? a = some o ∧ o.ExactSet ∧ o.data = .set es ep t ∧ t.fits es.size = true
theorem wp_setDrawn {a : Addr} {es : Array (Int × Value)} {ep : Nat} {t : SetTable} {Q : Bool → Shared → Prop} (hs : SAt s.heap a es ep t) (h : Q (!byTxt w && (!t.plain && decide (es.size > 1))) s) : wpAny (model P w) A (setDrawn a) Q E s := by
  obtain ⟨o, ho, hex, hd, hf⟩ := hs
  unfold setDrawn setsByText
  refine wpAny_bind (wpAny_setState_of ho hd hf ?_)
  dsimp only
  refine wpAny_bind (wpAny_bind (wpAny_askSetting (wpAny_pure ?_)))
  exact wpAny_pure h
noncomputable abbrev itO (f0 : Value) (i : Nat) (a : Addr) (n ep : Nat) : Obj := { cls := .type "set_iterator", data := .fields #[f0, .int i 0, .ref a, .int n 0, .int ep 0] }
inductive Ord (w : World) (h : Heap) (a : Addr) (es : Array (Int × Value)) (ep : Nat) (t : SetTable) (f0 : Value) (i : Nat) : List Value → Prop
  | txt : byTxt w = true → f0 = .int 0 0 → Ord w h a es ep t f0 i ((pickOrder (w.params.setOrder a ep) es).toList.map (·.2))
  | drw (p : Addr) (os : List Nat) : byTxt w = false → os.Perm (List.range es.size) → f0 = .ref p → (∃ n, h.get? p = some ⟨.type "tuple", none, .seq (os.map fun j => Value.int (j : Nat) 0).toArray n, #[]⟩) → Ord w h a es ep t f0 i (os.map fun j => ((es[j]?).map (·.2)).getD .none)
  | one (sl : Nat) : byTxt w = false → t.led = true → es.size ≤ 1 → f0 = .int sl 0 → (i = 0 → sl = 0) → (∀ j, i = 1 → t.place[0]? = some j → sl = j + 1) → Ord w h a es ep t f0 i (es.toList.map (·.2))
theorem iter_set {a : Addr} {es : Array (Int × Value)} {ep : Nat} {t : SetTable} {Q : Value → Shared → Prop} (hs : SAt s.heap a es ep t) (hb : es.size < scanBound) (hl : t.led = !byTxt w) (hp : t.plain = true → es.size = 0)
    (h : ∀ (f0 : Value) (vs : List Value) (h1 : Heap) (d : Drawn), (∀ b o, s.heap.get? b = some o → h1.get? b = some o) → h1.objs.size ≤ s.heap.objs.size + 1 → s.heap.objs.size ≤ h1.objs.size → (∀ p, f0 = .ref p → p < h1.objs.size) → Ord w (h1.push (itO f0 0 a es.size ep)) a es ep t f0 0 vs →
      vs.Perm (es.toList.map (·.2)) → Q (.ref h1.objs.size) { s with heap := h1.push (itO f0 0 a es.size ep), drawn := d }) :
    wpAny (model P w) A (pyIter (.ref a)) Q E s := by
  obtain ⟨o, ho, hex, hd, hf⟩ := id hs
  have hT : s.TypeIs (.ref a) "set" := ⟨o, ho, hex.1⟩
  refine wpAny_pyIter_slot hT SF.sIter (wpAny_call_entry SF.sIter hT SF.eIter ?_ (PySem.F.args_set_iter_1 _))
  unfold Builtin.«frozenset.__iter__» Builtin.Frozenset.slot0 slotArgs
  simp only [List.isEmpty_nil, Bool.not_true, Bool.false_eq_true, ↓reduceIte, bind_assoc, List.length_nil, bne_self_eq_false]
  unfold Builtin.Frozenset.addrOf Builtin.Frozenset.sizeOf
  refine wpAny_bind (wpAny_pure ?_)
  dsimp only
  refine wpAny_bind (wpAny_pure ?_)
  refine wpAny_bind (wpAny_bind (wpAny_setEntries_of ho hd hf (wpAny_pure ?_)))
  refine wpAny_bind (wp_setDrawn hs ?_)
  have fin : ∀ (f0 : Value) (vs : List Value) (h1 : Heap) (d : Drawn), (∀ b o, s.heap.get? b = some o → h1.get? b = some o) → h1.objs.size ≤ s.heap.objs.size + 1 → s.heap.objs.size ≤ h1.objs.size → (∀ p, f0 = .ref p → p < h1.objs.size) → Ord w (h1.push (itO f0 0 a es.size ep)) a es ep t f0 0 vs → vs.Perm (es.toList.map (·.2)) →
      wpAny (model P w) A.in1 (do let r ← newFields "set_iterator" [f0, rawInt 0, .ref a, rawInt es.size, rawInt ep]
                                  ret r) (fun fin s' => ∃ r, fin = .done (.ret r) ∧ ∃ T v, s'.TypeIs r T ∧ typeLookup (.type T) (Str.ofString "__next__") = pure (some v) ∧ Q r s') E { s with heap := h1, drawn := d } := fun f0 vs h1 d k1 k2 k3 k4 k5 k6 =>
    wpAny_bind (wpAny_newObj_type (wpAny_pure ⟨_, rfl, "set_iterator", _, ⟨_, Heap.get?_push_size _ rfl, rfl⟩, SF.sNext.lookup, h f0 vs h1 d k1 k2 k3 k4 k5 k6⟩))
  by_cases hc : (!byTxt w && (!t.plain && decide (es.size > 1))) = true
  · rw [if_pos hc]
    simp only [Bool.and_eq_true, Bool.not_eq_true', decide_eq_true_eq] at hc
    obtain ⟨c1, c2, c3⟩ := hc
    refine wpAny_bind (wp_drawOrder _ _ _ _ List.length_range fun os d po => ?_)
    have hol : os.length = es.size := by rw [po.length_eq, List.length_range]
    refine wpAny_bind (wpAny_newTuple ?_ (by rw [List.length_map, hol]; exact fits_of_scanBound hb))
    refine wpAny_bind (wpAny_setEpoch_of (Heap.get?_push_of_some _ ho) hd hf ?_)
    refine fin _ _ _ d (fun b o q => Heap.get?_push_of_some _ q) (by rw [size_push']; exact Nat.le_refl _) (by rw [size_push']; exact Nat.le_succ _) (fun p e => by cases e; rw [size_push']; exact Nat.lt_succ_self _) (.drw s.heap.objs.size os c1 po rfl ⟨0, Heap.get?_push_of_some _ (Heap.get?_push_size _ rfl)⟩) ?_
    have e : (os.map fun j => ((es[j]?).map (·.2)).getD Value.none).Perm ((List.range es.size).map fun j => ((es[j]?).map (·.2)).getD Value.none) := po.map _
    refine e.trans ?_
    have e2 : ((List.range es.size).map fun j => ((es[j]?).map (·.2)).getD Value.none) = es.toList.map (·.2) := by
      apply List.ext_getElem?
      intro i
      have q : es.toList[i]? = es[i]? := Array.getElem?_toList
      rw [List.getElem?_map, List.getElem?_map, q]
      by_cases hi : i < es.size
      · rw [List.getElem?_range hi, Option.map_some, getElem?_pos es i hi]
        rfl
      · rw [List.getElem?_eq_none (by simpa using hi), getElem?_neg es i hi]
        rfl
    rw [e2]
  · rw [if_neg hc]
    refine wpAny_bind (wpAny_pure ?_)
    refine wpAny_bind (wpAny_setEpoch_of ho hd hf ?_)
    cases hw : byTxt w with
    | true => exact fin _ _ _ s.drawn (fun b o q => q) (Nat.le_succ _) (Nat.le_refl _) (fun p e => by cases e) (.txt hw rfl) ((pick_perm _ es).map _)
    | false =>
      have h1 : es.size ≤ 1 := by
        cases hpl : t.plain with
        | true => rw [hp hpl]; exact Nat.zero_le _
        | false =>
          simp only [hw, hpl, Bool.not_false, Bool.true_and, decide_eq_true_eq] at hc
          omega
      exact fin _ _ _ s.drawn (fun b o q => q) (Nat.le_succ _) (Nat.le_refl _) (fun p e => by cases e) (.one 0 hw (by rw [hl, hw]; rfl) h1 rfl (fun _ => rfl) (fun j e => by cases e)) (List.Perm.refl _)
end
end L2

set_option Elab.async false
set_option linter.all false
set_option maxRecDepth 100000
set_option maxHeartbeats 3200000
namespace L2
open PySem PySem.Spec PyProof.Rows PySem.Calls
section
variable {P : Program} {w : World} {A : Around} {E : Value → Shared → Prop} {s : Shared} {I a : Addr} {es : Array (Int × Value)} {ep : Nat} {t : SetTable}
noncomputable def ItS (w : World) (I a : Addr) (es : Array (Int × Value)) (ep : Nat) (t : SetTable) (vs : List Value) (fp : Option Addr) (i : Nat) (h : Heap) : Prop :=
  ∃ f0, h.get? I = some (itO f0 i a es.size ep) ∧ Ord w h a es ep t f0 i vs ∧ SAt h a es ep t ∧ (∀ p, f0 = .ref p → fp = some p)
theorem next_body {i : Nat} {f0 : Value} {Q : Fin → Shared → Prop} (hI : s.heap.get? I = some (itO f0 i a es.size ep)) (hS : SAt s.heap a es ep t)
    (h1 : ∀ sl, f0 = .int sl 0 → wpAny (model P w) A (do
      match ← setNext a sl.toNat i ep with
      | some (x, next) => setField (.ref I) 0 (rawInt next); setField (.ref I) 1 (rawInt ((i : Int) + 1)); ret x
      | none => setField (.ref I) 2 .none; raiseNew (← newExc (.type "StopIteration") [])) Q E s)
    (h2 : ∀ p, f0 = .ref p → wpAny (model P w) A (do
      let some places ← seqItems? (.ref p) | unsupported "internal:set_iterator"
      match places[i]? with
      | some (.int place _) => let x ← setNextDrawn a place.toNat ep; setField (.ref I) 1 (rawInt ((i : Int) + 1)); ret x
      | some _ => unsupported "internal:set_iterator"
      | none => setField (.ref I) 0 (rawInt 0); setField (.ref I) 2 .none; raiseNew (← newExc (.type "StopIteration") [])) Q E s)
    (hf : (∃ sl, f0 = .int sl 0) ∨ ∃ p, f0 = .ref p) : wpAny (model P w) A (Builtin.«set_iterator.__next__» ⟨[.ref I], []⟩) Q E s := by
  obtain ⟨o, ho, hex, hd, hft⟩ := id hS
  unfold Builtin.«set_iterator.__next__» slotArgs
  simp only [List.isEmpty_nil, Bool.not_true, Bool.false_eq_true, ↓reduceIte, bind_assoc, List.length_nil, bne_self_eq_false]
  refine wpAny_bind (wpAny_pure ?_)
  dsimp only
  refine wpAny_bind (wpAny_fieldsOf hI rfl ?_)
  dsimp only
  refine wpAny_bind (wpAny_setEntries_of ho hd hft ?_)
  rw [if_neg (by simp)]
  rcases hf with ⟨sl, rfl⟩ | ⟨p, rfl⟩
  · exact h1 sl rfl
  · exact h2 p rfl
theorem it_upd {h : Heap} {f0 x : Value} {i j n : Nat} (hI : h.get? I = some (itO f0 i a n ep)) (k : Nat) (v : Value) :
    (h.update I (Obj.mapFields (·.setIfInBounds k v))).get? I = some { cls := .type "set_iterator", data := .fields ((#[f0, .int i 0, .ref a, .int n 0, .int ep 0] : Array Value).setIfInBounds k v) } :=
  Heap.get?_update_self _ hI rfl
theorem SAt.at {h h' : Heap} (x : SAt h a es ep t) (k : ∀ o, h.get? a = some o → h'.get? a = some o) : SAt h' a es ep t := by
  obtain ⟨o, ho, r⟩ := x
  exact ⟨o, k o ho, r⟩
theorem wp_setNext_txt {sl i : Nat} {Q : Option (Value × Nat) → Shared → Prop} (hw : byTxt w = true) (hS : SAt s.heap a es ep t) (h : Q (((pickOrder (w.params.setOrder a ep) es)[i]?).map fun e => (e.2, sl)) s) : wpAny (model P w) A (setNext a sl i ep) Q E s := by
  obtain ⟨o, ho, hex, hd, hf⟩ := id hS
  unfold setNext setsByText
  refine wpAny_bind (wpAny_setState_of ho hd hf ?_)
  dsimp only
  refine wpAny_bind (wpAny_bind (wpAny_askSetting (wpAny_pure ?_)))
  rw [if_pos (show (model P w).w.params.followText "set-order" = true from hw), if_neg (by simp)]
  unfold setWalk setsByText
  refine wpAny_bind (wpAny_bind (wpAny_setState_of ho hd hf ?_))
  dsimp only
  refine wpAny_bind (wpAny_bind (wpAny_askSetting (wpAny_pure ?_)))
  rw [if_pos (show (model P w).w.params.followText "set-order" = true from hw)]
  exact wpAny_bind (wpAny_askSetting (wpAny_pure (wpAny_pure h)))
theorem wp_setNext_one {sl i : Nat} {Q : Option (Value × Nat) → Shared → Prop} (hw : byTxt w = false) (hl : t.led = true) (h1 : es.size ≤ 1) (hS : SAt s.heap a es ep t)
    (h : Q (match es[SetTable.below t.place sl]?, t.place[SetTable.below t.place sl]? with | some (_, x), some j => some (x, j + 1) | _, _ => none) s) : wpAny (model P w) A (setNext a sl i ep) Q E s := by
  obtain ⟨o, ho, hex, hd, hf⟩ := id hS
  unfold setNext setsByText
  refine wpAny_bind (wpAny_setState_of ho hd hf ?_)
  dsimp only
  refine wpAny_bind (wpAny_bind (wpAny_askSetting (wpAny_pure ?_)))
  rw [if_neg (show ¬ (model P w).w.params.followText "set-order" = true from by show ¬ byTxt w = true; rw [hw]; decide)]
  have d1 : (!t.plain && decide (es.size > 1)) = false := by rw [decide_eq_false (by omega), Bool.and_false]
  refine wpAny_ite_split (fun z => ?_) (fun _ => ?_)
  · have z' : (!t.plain && decide (es.size > 1)) = true := z
    rw [d1] at z'
    cases z'
  refine wpAny_bind ?_
  have m1 : (!t.led && !es.isEmpty) = false := by rw [hl]; rfl
  refine wpAny_ite_split (fun z => ?_) (fun _ => wpAny_pure (wpAny_pure h))
  have z' : (!t.led && !es.isEmpty) = true := z
  rw [m1] at z'
  cases z'
theorem below_zero {t : SetTable} (h : t.place.size ≤ 1) : SetTable.below t.place 0 = 0 := by
  generalize t.place = pl at *
  obtain ⟨l⟩ := pl
  match l, h with
  | [], _ => rfl
  | [x], _ => simp [SetTable.below, SetTable.below.go]
theorem below_one {t : SetTable} {j : Nat} (h : t.place.size ≤ 1) (hj : t.place[0]? = some j) : SetTable.below t.place (j + 1) = 1 := by
  generalize t.place = pl at *
  obtain ⟨l⟩ := pl
  match l, h, hj with
  | [x], _, hj =>
    have : x = j := by simpa using hj
    subst this
    simp [SetTable.below, SetTable.below.go]
theorem fits_size {n : Nat} (h : t.fits n = true) : t.place.size = n := by
  unfold SetTable.fits at h
  simp only [Bool.and_eq_true, beq_iff_eq] at h
  exact h.1
end
end L2

set_option Elab.async false
set_option linter.all false
set_option maxRecDepth 100000
set_option maxHeartbeats 3200000
namespace L2
open PySem PySem.Spec PyProof.Rows PySem.Calls
section
variable {P : Program} {w : World} {A : Around} {E : Value → Shared → Prop} {s : Shared} {I a : Addr} {es : Array (Int × Value)} {ep : Nat} {t : SetTable} {vs : List Value} {fp : Option Addr}
theorem Ord.cases0 {h : Heap} {f0 : Value} {i : Nat} (x : Ord w h a es ep t f0 i vs) : (∃ sl : Int, f0 = .int sl 0) ∨ ∃ p, f0 = .ref p := by
  cases x with
  | txt _ e => exact .inl ⟨0, e⟩
  | drw p os _ _ e _ => exact .inr ⟨p, e⟩
  | one sl _ _ _ e _ _ => exact .inl ⟨sl, e⟩
theorem next_item {i : Nat} {Q : Option Value → Shared → Prop} (st : ItS w I a es ep t vs fp i s.heap) (hi : i < vs.length) (hl : vs.length = es.size) (nIa : a ≠ I) (nIp : ∀ p, fp = some p → p ≠ I)
    (hQ : ∀ h', ItS w I a es ep t vs fp (i + 1) h' → Heap.SameBut I s.heap h' → Q (some vs[i]) { s with heap := h' }) : wpAny (model P w) A (pyNext (.ref I)) Q E s := by
  obtain ⟨f0, hI, hO, hS, hp⟩ := st
  have hT : s.TypeIs (.ref I) "set_iterator" := ⟨_, hI, rfl⟩
  unfold pyNext
  refine wpAny_bind (wpAny_attempt (wpAny_callSpecial?_slot (name := Str.ofString "__next__") hT SF.sNext (wpAny_call_entry SF.sNext hT SF.eNext ?_ (SF.aNext _))))
  have e1 : ((i : Int) + 1) = ((i + 1 : Nat) : Int) := by omega
  have fin : ∀ (E' : Value → Shared → Prop) (nx : Nat), Ord w ((s.heap.update I (Obj.mapFields (·.setIfInBounds 0 (rawInt nx)))).update I (Obj.mapFields (·.setIfInBounds 1 (rawInt ((i : Int) + 1))))) a es ep t (.int nx 0) (i + 1) vs →
      wpAny (model P w) A.in1 (do
        setField (.ref I) 0 (rawInt nx)
        setField (.ref I) 1 (rawInt ((i : Int) + 1))
        ret vs[i]) (fun fin s' => ∃ r, fin = .done (.ret r) ∧ wpAny (model P w) A (pure (some r)) Q E s') E' s := fun E' nx O => by
    refine wpAny_bind (wpAny_setField hI rfl (by simp) ?_)
    refine wpAny_bind (wpAny_setField (it_upd (x := .none) (j := 0) hI 0 (rawInt nx)) rfl (by simp) ?_)
    have g := Heap.get?_update_self (Obj.mapFields (·.setIfInBounds 1 (rawInt ((i : Int) + 1)))) (it_upd (x := .none) (j := 0) hI 0 (rawInt nx)) rfl
    refine wpAny_pure ⟨_, rfl, wpAny_pure (hQ _ ⟨_, g.trans ?_, O, hS.at fun o q => ?_, fun p z => by cases z⟩ ((Heap.SameBut.update ..).trans (Heap.SameBut.update ..)))⟩
    · rw [e1]
      rfl
    · rw [((Heap.SameBut.update s.heap I _).trans (Heap.SameBut.update _ I _)).2 a nIa]
      exact q
  refine next_body hI hS (fun sl e => ?_) (fun p e => ?_) hO.cases0
  · subst e
    cases hO with
    | txt hw e =>
      cases e
      have hi2 : i < (pickOrder (w.params.setOrder a ep) es).size := by simpa using hi
      refine wpAny_bind (wp_setNext_txt hw hS ?_)
      rw [getElem?_pos _ i hi2]
      have ev : ((pickOrder (w.params.setOrder a ep) es).toList.map (·.2))[i] = ((pickOrder (w.params.setOrder a ep) es)[i]).2 := by simp
      have f := fun E' => fin E' 0 (.txt hw rfl)
      rw [ev] at f
      exact f _
    | drw p os _ _ e _ => cases e
    | one sl' hw hld h1 e hz ho =>
      cases e
      obtain ⟨_, _, _, _, hft⟩ := id hS
      have hps := fits_size hft
      have i0 : i = 0 := by
        have : i < es.size := by rw [← hl]; exact hi
        omega
      subst i0
      have z0 := hz rfl
      subst z0
      have he : 0 < es.size := by rw [← hl]; exact hi
      have hpl : 0 < t.place.size := by rw [hps]; exact he
      refine wpAny_bind (wp_setNext_one hw hld h1 hS ?_)
      have b0 : SetTable.below t.place ((0 : Nat) : Int).toNat = 0 := below_zero (by rw [hps]; exact h1)
      rw [b0, getElem?_pos es 0 he, getElem?_pos t.place 0 hpl]
      have ev : (es.toList.map (·.2))[0] = (es[0]).2 := by simp
      have f := fun E' => fin E' (t.place[0] + 1) (.one (t.place[0] + 1) hw hld h1 rfl (fun z => by cases z) (fun j _ q => by rw [getElem?_pos t.place 0 hpl] at q; cases q; rfl))
      rw [ev] at f
      exact f _
  · subst e
    cases hO with
    | txt hw e => cases e
    | one sl' hw hld h1 e hz ho => cases e
    | drw p' os hw hp2 e htp =>
      cases e
      obtain ⟨n, htp⟩ := htp
      have hil : i < os.length := by simpa using hi
      have hos : os[i] < es.size := List.mem_range.mp (hp2.mem_iff.mp (List.getElem_mem hil))
      refine wpAny_bind (wpAny_seqItems htp rfl ?_)
      have g : ((os.map fun j => Value.int (j : Nat) 0).toArray)[i]? = some (.int ((os[i] : Nat) : Int) 0) := by simp [hil]
      dsimp only
      rw [g]
      dsimp only
      obtain ⟨o, ho, hex, hd, hft⟩ := id hS
      unfold setNextDrawn
      refine wpAny_bind (wpAny_bind (wpAny_setState_of ho hd hft ?_))
      dsimp only
      rw [if_neg (by simp), show ((os[i] : Nat) : Int).toNat = os[i] from Int.toNat_natCast _, getElem?_pos es _ hos]
      refine wpAny_pure ?_
      refine wpAny_bind (wpAny_setField hI rfl (by simp) ?_)
      have ev : (os.map fun j => ((es[j]?).map (·.2)).getD Value.none)[i] = (es[os[i]]).2 := by simp [hos]
      have g2 := it_upd (x := .none) (j := 0) hI 1 (rawInt ((i : Int) + 1))
      have nI2 : p ≠ I := nIp p (hp p rfl)
      have q := hQ (s.heap.update I (Obj.mapFields (·.setIfInBounds 1 (rawInt ((i : Int) + 1))))) ⟨_, g2.trans (by rw [e1]; rfl), .drw p os hw hp2 rfl ⟨n, ?_⟩, hS.at fun o q => ?_, fun p' z => hp p' z⟩ (Heap.SameBut.update ..)
      · rw [ev] at q
        exact wpAny_pure ⟨_, rfl, wpAny_pure q⟩
      · rw [(Heap.SameBut.update s.heap I _).2 p nI2]
        exact htp
      · rw [(Heap.SameBut.update s.heap I _).2 a nIa]
        exact q
end
end L2

set_option Elab.async false
set_option linter.all false
set_option maxRecDepth 100000
set_option maxHeartbeats 3200000
namespace L2
open PySem PySem.Spec PyProof.Rows PySem.Calls
section
variable {P : Program} {w : World} {A : Around} {E : Value → Shared → Prop} {s : Shared} {I a : Addr} {es : Array (Int × Value)} {ep : Nat} {t : SetTable} {vs : List Value} {fp : Option Addr}
theorem stop_here {α : Type} {h0 : Heap} {Q : α → Shared → Prop} {E' : Value → Shared → Prop} (hh : A.handled = none)
    (k : ∀ e h', (∀ b o, s.heap.get? b = some o → h'.get? b = some o) → Shared.TypeIs { s with heap := h' } e "StopIteration" → E' e { s with heap := h' }) :
    wpAny (model P w) A (do raiseNew (← newExc (.type "StopIteration") []) : Sem α) Q E' s := by
  refine wpAny_bind ?_
  simp only [newExc, newTuple]
  refine wpAny_bind (wpAny_newObj_type ?_ (by size_fits))
  refine wpAny_bind (m := firstArgMember _ _) (wpAny_of_eq (a := Value.none) (by first | rfl | (simp only [firstArgMember]; rfl)) ?_)
  refine wpAny_newObj_type ?_ (by size_fits)
  simp only [raiseNew]
  refine wpAny_bind (wpAny_handled ?_)
  rw [hh]
  refine wpAny_bind (wpAny_pure (wpAny_throw ?_))
  exact k _ _ (fun b o q => Heap.get?_push_of_some _ (Heap.get?_push_of_some _ q)) ⟨_, Heap.get?_push_size _ rfl, rfl⟩
theorem next_end {Q : Option Value → Shared → Prop} (hh : A.handled = none) (st : ItS w I a es ep t vs fp vs.length s.heap) (hl : vs.length = es.size)
    (hQ : ∀ h', (∀ b o, b ≠ I → s.heap.get? b = some o → h'.get? b = some o) → Q none { s with heap := h' }) : wpAny (model P w) A (pyNext (.ref I)) Q E s := by
  obtain ⟨f0, hI, hO, hS, hp⟩ := st
  have hT : s.TypeIs (.ref I) "set_iterator" := ⟨_, hI, rfl⟩
  unfold pyNext
  refine wpAny_bind (wpAny_attempt (wpAny_callSpecial?_slot (name := Str.ofString "__next__") hT SF.sNext (wpAny_call_entry SF.sNext hT SF.eNext ?_ (SF.aNext _))))
  have hh1 : A.in1.handled = none := hh
  have stp : ∀ (e : Value) (h' : Heap), (∀ b o, b ≠ I → s.heap.get? b = some o → h'.get? b = some o) → Shared.TypeIs { s with heap := h' } e "StopIteration" →
      wpAny (model P w) A (do if ← isInstance e (.type "StopIteration") then pure none else throw e) Q E { s with heap := h' } := fun e h' k ty =>
    wpAny_bind (wpAny_isInstance (T := "StopIteration") (b := true) ty isSubtype_stop (wpAny_pure (hQ h' k)))
  have keep1 : ∀ (f : Obj → Obj) b o, b ≠ I → s.heap.get? b = some o → (s.heap.update I f).get? b = some o := fun f b o nb q => by
    rw [(Heap.SameBut.update s.heap I f).2 b nb]
    exact q
  have fin : ∀ (Q' : PySem.Fin → Shared → Prop), wpAny (model P w) A.in1 (do
        setField (.ref I) 2 .none
        raiseNew (← newExc (.type "StopIteration") [])) Q' (fun e s' => wpAny (model P w) A (do if ← isInstance e (.type "StopIteration") then pure none else throw e) Q E s') s := fun Q' => by
    refine wpAny_bind (wpAny_setField hI rfl (by simp) ?_)
    refine stop_here (h0 := s.heap) (s := { s with heap := s.heap.update I (Obj.mapFields (·.setIfInBounds 2 Value.none)) }) hh1 fun e h' k ty => ?_
    exact stp e h' (fun b o nb q => k b o (keep1 _ b o nb q)) ty
  refine next_body hI hS (fun sl e => ?_) (fun p e => ?_) hO.cases0
  · subst e
    cases hO with
    | txt hw e =>
      cases e
      refine wpAny_bind (wp_setNext_txt hw hS ?_)
      rw [getElem?_neg _ _ (by simp)]
      exact fin _
    | drw p os _ _ e _ => cases e
    | one sl' hw hld h1 e hz ho =>
      cases e
      obtain ⟨_, _, _, _, hft⟩ := id hS
      have hps := fits_size hft
      refine wpAny_bind (wp_setNext_one hw hld h1 hS ?_)
      have hn : es[SetTable.below t.place ((sl' : Nat) : Int).toNat]? = none := by
        rw [Int.toNat_natCast]
        by_cases h0 : es.size = 0
        · exact getElem?_neg _ _ (by omega)
        · have e1 : es.size = 1 := by omega
          have hpl : 0 < t.place.size := by rw [hps, e1]; decide
          have := ho t.place[0] (by rw [hl, e1]) (getElem?_pos t.place 0 hpl)
          rw [this, below_one (by rw [hps]; exact h1) (getElem?_pos t.place 0 hpl)]
          exact getElem?_neg _ _ (by omega)
      rw [hn]
      exact fin _
  · subst e
    cases hO with
    | txt hw e => cases e
    | one sl' hw hld h1 e hz ho => cases e
    | drw p' os hw hp2 e htp =>
      cases e
      obtain ⟨n, htp⟩ := htp
      refine wpAny_bind (wpAny_seqItems htp rfl ?_)
      dsimp only
      rw [getElem?_neg _ _ (by simp)]
      dsimp only
      refine wpAny_bind (wpAny_setField hI rfl (by simp) ?_)
      refine wpAny_bind (wpAny_setField (it_upd (x := .none) (j := 0) hI 0 (rawInt 0)) rfl (by simp) ?_)
      refine stop_here (h0 := s.heap) (s := { s with heap := (s.heap.update I (Obj.mapFields (·.setIfInBounds 0 (rawInt 0)))).update I (Obj.mapFields (·.setIfInBounds 2 Value.none)) }) hh1 fun e h' k ty => ?_
      refine stp e h' (fun b o nb q => k b o ?_) ty
      show ((s.heap.update I _).update I _).get? b = some o
      rw [(Heap.SameBut.update _ I _).2 b nb]
      exact keep1 _ b o nb q
end
end L2

set_option Elab.async false
set_option linter.all false
set_option maxRecDepth 100000
set_option maxHeartbeats 3200000
namespace L2
open PySem PySem.Spec PyProof.Rows PySem.Calls
namespace SF
theorem sSelf : Slot "set_iterator" "__iter__" "set_iterator.__iter__" := .of (owner := "set_iterator") (n := "__iter__") (by rw [typeLookup_type, builtinLookup_eq_fast]; kernel_rfl) (by decide +kernel) (by decide +kernel) (by decide +kernel) (by first | exact .inl (by decide +kernel) | exact .inr (by decide +kernel)) (by rw [isSubtype_type]; kernel_rfl)
theorem eSelf : entryFor table "set_iterator.__iter__" = some Builtin.«dict_keyiterator.__iter__» := entryFor_alias (id' := "dict_keyiterator.__iter__") (by kernel_rfl) rfl (by decide +kernel) (by kernel_rfl)
theorem aSelf (a : Value) : argsOk "set_iterator.__iter__" ⟨[a], []⟩ := by unfold argsOk; kernel_rfl
end SF
section
variable {P : Program} {w : World} {A : Around} {E : Value → Shared → Prop} {s : Shared} {I a : Addr} {es : Array (Int × Value)} {ep : Nat} {t : SetTable} {vs : List Value} {fp : Option Addr} {ks : List Str}
theorem ItS.at {i : Nat} {h h' : Heap} (x : ItS w I a es ep t vs fp i h) (k : ∀ b ∈ I :: a :: fp.toList, ∀ o, h.get? b = some o → h'.get? b = some o) : ItS w I a es ep t vs fp i h' := by
  obtain ⟨f0, h1, h2, h3, h4⟩ := x
  refine ⟨f0, k I (by simp) _ h1, ?_, h3.at fun o q => k a (by simp) o q, h4⟩
  cases h2 with
  | txt e1 e2 => exact .txt e1 e2
  | drw p os e1 e2 e3 e4 =>
    obtain ⟨n, e4⟩ := e4
    exact .drw p os e1 e2 e3 ⟨n, k p (by rw [h4 p e3]; simp) _ e4⟩
  | one sl e1 e2 e3 e4 e5 e6 => exact .one sl e1 e2 e3 e4 e5 e6
theorem walks_set (hh : A.handled = none) (hl : vs.length = es.size) (nIa : a ≠ I) (nIp : ∀ p, fp = some p → p ≠ I) : Walks P w A I (I :: a :: fp.toList) [I] vs.length (fun i v => vs[i]? = some v) (ItS w I a es ep t vs fp) where
  sub := fun b hb => by simp at hb; simp [hb]
  frame := fun _ _ _ st hk => st.at hk
  item := fun i s Q E hi st hQ => by
    refine next_item st hi hl nIa nIp fun h' st' sb => ?_
    exact hQ vs[i] h' s.toks (by simp [hi]) st' fun b o hb e => by rw [sb.2 b (fun z => hb (by simp [z]))]; exact e
  done := fun s Q E st hQ => next_end hh st hl fun h' k => hQ h' s.toks fun b o hb e => k b o (fun z => hb (by simp [z])) e
  self := fun i s Q E st hQ => by
    obtain ⟨f0, h1, _⟩ := st
    have hT : s.TypeIs (.ref I) "set_iterator" := ⟨_, h1, rfl⟩
    refine wpAny_pyIter_slot hT SF.sSelf (wpAny_call_entry SF.sSelf hT SF.eSelf ?_ (SF.aSelf _))
    show wpAny _ _ (ret (.ref I)) _ _ s
    exact wpAny_pure ⟨_, rfl, "set_iterator", _, hT, SF.sNext.lookup, hQ⟩
theorem hint_set {r : Addr} {Q : Bool → Shared → Prop} (hT : s.TypeIs (.ref r) "set") (h : Q false s) : wpAny (model P w) A (Builtin.List.listLengthHint (.ref r)) Q E s := by
  unfold Builtin.List.listLengthHint
  refine wpAny_bind (wpAny_specialOf hT PySem.F.slot_set_len.lookup ?_)
  generalize hid : ("set.__len__" : String) = id0
  wp_delta
  rw [show splitId id0 = some ("set", "__len__") from by subst hid; decide +kernel]
  subst hid
  refine wpAny_bind (wpAny_isInstance (T := "set") (b := true) hT (by rw [isSubtype_type]; kernel_rfl) ?_)
  refine wpAny_ite_split (fun z => absurd z (by decide)) (fun _ => ?_)
  refine wpAny_ite_split (fun _ => ?_) (fun z => absurd (by decide +kernel) z)
  exact wpAny_bind (wpAny_typeOf hT (wpAny_pure h))
end
end L2

set_option Elab.async false
set_option linter.all false
set_option maxRecDepth 100000
set_option maxHeartbeats 3200000
namespace L2
open PySem PySem.Spec PyProof.Rows PySem.Calls
section
variable {P : Program} {w : World} {A : Around} {E : Value → Shared → Prop} {s : Shared} {a : Addr} {ks : List Str}
theorem set_extend {R : Result → Shared → Prop} {S : Addr} {res : Value} {c0 : Nat} (hh : A.handled = none) (hs : SSet P w s.heap a ks) (nS : S ≠ a) (gS : s.heap.get? S = some { cls := .type "list", data := .seq #[] c0 })
    (hR : ∀ s' acc c vs ls, (∀ b o, b ≠ S → s.heap.get? b = some o → s'.heap.get? b = some o) → s'.os = s.os → s'.gens = s.gens → s'.heap.get? S = some { cls := .type "list", dict := none, data := .seq acc c, slots := #[] } → acc.toList = vs → StrsAre vs ls → ls.Perm ks → R (.ok (.ret res)) s') :
    wpAny (model P w) A.in1 (Builtin.List.listExtendWith (.ref S) (.ref a) res)
      (fun fin s' => match fin with | .done f => R (.ok f) s' | .again c' => c'.quiet = true ∧ codeAny (model P w) A c' R s') (fun e s' => R (.error e) s') s := by
  obtain ⟨o, es, ep, t, ls0, ho, hex, hd, hel, hst, hpm, hb, hf, hl, hpl⟩ := id hs
  have hT : s.TypeIs (.ref a) "set" := ⟨o, ho, hex.1⟩
  have la := Heap.lt_size ho
  have lS := Heap.lt_size gS
  unfold Builtin.List.listExtendWith
  refine wpAny_bind (wpAny_typeOf (T := "set") hT ?_)
  have n1 : Builtin.List.listSameRef (.ref S) (.ref a) = false := by simp [Builtin.List.listSameRef, nS]
  have n2 : (Value.type "set" == Value.type "list") = false := by decide
  have n3 : (Value.type "set" == Value.type "tuple") = false := by decide
  simp only [n1, n2, n3, Bool.or_false, Bool.false_eq_true, if_false]
  refine wpAny_bind (iter_set ⟨o, ho, hex, hd, hf⟩ hb hl hpl fun f0 vs h1 d k1 z1 z2 kp O pv => ?_)
  have hvl : vs.length = es.size := by rw [pv.length_eq, List.length_map, Array.length_toList]
  have nI : ∀ b, b < h1.objs.size → b ≠ h1.objs.size := fun b q => Nat.ne_of_lt q
  have kI : ∀ b o, s.heap.get? b = some o → (h1.push (itO f0 0 a es.size ep)).get? b = some o := fun b o q => Heap.get?_push_of_some _ (k1 b o q)
  obtain ⟨fp, hfp⟩ : ∃ fp : Option Addr, (∀ p, f0 = .ref p → fp = some p) ∧ ∀ p, fp = some p → p ≠ h1.objs.size ∧ p ≠ S := by
    cases f0 with
    | ref p =>
      refine ⟨some p, ⟨fun q e => (by cases e; rfl), fun q e => ?_⟩⟩
      cases e
      refine ⟨Nat.ne_of_lt (kp p rfl), fun z => ?_⟩
      subst z
      cases O with
      | drw p' os _ _ e ht =>
        cases e
        obtain ⟨n, ht⟩ := ht
        rw [kI _ _ gS] at ht
        have hc := congrArg Obj.cls (Option.some.inj ht)
        exact absurd hc (by simp)
      | txt _ e => cases e
      | one _ _ _ _ e _ _ => cases e
    | _ => exact ⟨none, ⟨fun q e => (by cases e), fun q e => (by cases e)⟩⟩
  have st0 : ItS w h1.objs.size a es ep t vs fp 0 (h1.push (itO f0 0 a es.size ep)) := ⟨f0, Heap.get?_push_size _ rfl, O, ⟨o, kI _ _ ho, hex, hd, hf⟩, hfp.1⟩
  have W := walks_set (P := P) (w := w) (A := A.in1) (I := h1.objs.size) (a := a) (es := es) (ep := ep) (t := t) (vs := vs) (fp := fp) hh hvl (Nat.ne_of_lt (Nat.lt_of_lt_of_le la z2)) (fun p e => (hfp.2 p e).1)
  have nSf : S ∉ h1.objs.size :: a :: fp.toList := by
    simp only [List.mem_cons, not_or]
    refine ⟨Nat.ne_of_lt (Nat.lt_of_lt_of_le lS z2), nS, fun z => ?_⟩
    cases hfq : fp with
    | none => rw [hfq] at z; simp at z
    | some p =>
      rw [hfq] at z
      have : S = p := by simpa using z
      exact (hfp.2 p hfq).2 this.symm
  have key : ∀ (h : Heap) (c1 : Nat), ItS w h1.objs.size a es ep t vs fp 0 h → (∀ b o, b ≠ S → s.heap.get? b = some o → h.get? b = some o) → h.get? S = some { cls := .type "list", data := .seq #[] c1 } →
      codeAny (model P w) A (.builtin "list.extend.loop" ⟨[.ref S, .ref h1.objs.size, res], []⟩) R { s with heap := h, drawn := d } := by
    intro h c1 hst1 hk gS1
    refine codeAny_extend_loopS W.toS (by rw [hvl]; exact fits_of_scanBound hb) S nSf res vs.length 0 _ #[] c1 rfl (Nat.zero_le _) hst1 gS1 (ItemsOf.nil _) fun s' acc c hm gS' hacc => ?_
    have hav : acc.toList = vs := by
      apply List.ext_getElem?
      intro i
      by_cases hi : i < vs.length
      · have hi2 : i < acc.size := by rw [hacc.1]; exact hi
        have := hacc.2 i acc[i] (getElem?_pos acc i hi2)
        rw [this]
        simp [hi2]
      · rw [List.getElem?_eq_none (by rw [Array.length_toList, hacc.1]; omega), List.getElem?_eq_none (by omega)]
    have hls : StrsAre vs (vs.map strOf) := strsAre_map vs fun v hv => hst.all v (pv.mem_iff.mp hv)
    refine hR s' acc c vs (vs.map strOf) (fun b o nb q => hm.heap b o (fun z => ?_) (hk b o nb q)) hm.os hm.gens gS' hav hls ?_
    · rcases List.mem_cons.mp z with z | z
      · exact nb z
      · exact absurd (Nat.lt_of_lt_of_le (Heap.lt_size q) z2) (by rw [List.mem_singleton.mp z]; exact Nat.lt_irrefl _)
    · have := pv.map strOf
      rw [hst.strs] at this
      exact this.trans hpm
  have gS1 := kI _ _ gS
  have hT1 : Shared.TypeIs { s with heap := h1.push (itO f0 0 a es.size ep), drawn := d } (.ref a) "set" := ⟨o, kI _ _ ho, hex.1⟩
  refine wpAny_bind (wpAny_holding (hint_set hT1 ?_))
  refine wpAny_ite_split (fun _ => ?_) (fun _ => wpAny_pure ⟨plainId_quiet PySem.F.plain_extend_loop _, key _ c0 st0 (fun b o _ q => kI b o q) gS1⟩)
  refine wpAny_bind (wpAny_rule (wpAny_bind ?_))
  show wpAny _ _ (updateSeq S (·.push .none) >>= fun _ => updateSeq S (·.pop)) _ _ _
  refine wpAny_bind (wpAny_updateSeq gS1 rfl ?_)
  have gS2 := Heap.get?_update_self (Obj.mapSeq (·.push Value.none)) gS1 rfl
  refine wpAny_updateSeq (hz := by seq_fits) gS2 rfl ?_
  have gS3 := Heap.get?_update_self (Obj.mapSeq (·.pop)) gS2 rfl
  have other : ∀ b, b ≠ S → (((h1.push (itO f0 0 a es.size ep)).update S (Obj.mapSeq (·.push Value.none))).update S (Obj.mapSeq (·.pop))).get? b = (h1.push (itO f0 0 a es.size ep)).get? b := fun b nb =>
    (Heap.get?_update_other _ _ (Ne.symm nb)).trans (Heap.get?_update_other _ _ (Ne.symm nb))
  refine wpAny_pure ⟨plainId_quiet PySem.F.plain_extend_loop _, key _ _ (st0.at fun b hb2 o q => ?_) (fun b o nb q => ?_) gS3⟩
  · rw [other b (fun z => nSf (z ▸ hb2))]
    exact q
  · rw [other b nb]
    exact kI b o q
theorem set_collect {R : List Value → Shared → Prop} (hh : A.handled = none) (hs : SSet P w s.heap a ks)
    (h : ∀ s' vs ls, (∀ b o, s.heap.get? b = some o → s'.heap.get? b = some o) → s'.os = s.os → s'.gens = s.gens → StrsAre vs ls → ls.Perm ks → R vs s') : wpAny (model P w) A (collect (.ref a)) R E s := by
  have la : a < s.heap.objs.size := by obtain ⟨o, _, _, _, _, g, _⟩ := hs; exact Heap.lt_size g
  unfold collect
  refine wpAny_bind (wpAny_runValue (codeAny_builtin entry_proto_collect' ?_))
  rw [Around.under_plainId PySem.F.plain_proto_collect _]
  show wpAny _ A.in1 (newList [] >>= fun l => again (.builtin "list.__iadd__" ⟨[l, Value.ref a], []⟩)) _ _ s
  refine wpAny_bind (wpAny_newObj_type ?_)
  refine wpAny_pure ⟨plainId_quiet PySem.F.plain_list_iadd _, codeAny_builtin entry_list_iadd' ?_⟩
  rw [Around.under_plainId PySem.F.plain_list_iadd _]
  have gS : (s.heap.push { cls := .type "list", data := .seq ([] : List Value).toArray }).get? s.heap.objs.size = some { cls := .type "list", data := .seq #[] 0 } := Heap.get?_push_size _ rfl
  show wpAny _ A.in1 (Builtin.List.listExtendWith (.ref s.heap.objs.size) (.ref a) (.ref s.heap.objs.size)) _ _ _
  have key := set_extend (A := A) (s := { s with heap := s.heap.push { cls := .type "list", data := .seq ([] : List Value).toArray } }) (S := s.heap.objs.size) (res := .ref s.heap.objs.size)
    (R := fun q s' => ∃ acc c vs ls, q = .ok (.ret (.ref s.heap.objs.size)) ∧ (∀ b o, s.heap.get? b = some o → s'.heap.get? b = some o) ∧ s'.os = s.os ∧ s'.gens = s.gens ∧ s'.heap.get? s.heap.objs.size = some { cls := .type "list", dict := none, data := .seq acc c, slots := #[] } ∧ acc.toList = vs ∧ StrsAre vs ls ∧ ls.Perm ks)
    hh (hs.stay fun o q => Heap.get?_push_of_some _ q) (Nat.ne_of_gt la) gS (fun s' acc c vs ls k e1 e2 g e3 e4 e5 => ⟨acc, c, vs, ls, rfl, fun b o q => k b o (Nat.ne_of_lt (Heap.lt_size q)) (Heap.get?_push_of_some _ q), e1, e2, g, e3, e4, e5⟩)
  have done : ∀ (q : Result) (s' : Shared), (∃ acc c vs ls, q = .ok (.ret (.ref s.heap.objs.size)) ∧ (∀ b o, s.heap.get? b = some o → s'.heap.get? b = some o) ∧ s'.os = s.os ∧ s'.gens = s.gens ∧ s'.heap.get? s.heap.objs.size = some { cls := .type "list", dict := none, data := .seq acc c, slots := #[] } ∧ acc.toList = vs ∧ StrsAre vs ls ∧ ls.Perm ks) →
      wants (fun v s2 => wpAny (model P w) A (match v with
        | .ref l => (do match (← load l).data with
                        | .seq xs _ => pure xs.toList
                        | _ => unsupported "internal:collect")
        | _ => unsupported "internal:collect") R E s2) E q s' := fun q s' zz => by
    obtain ⟨acc, c, vs, ls, e0, k, e1, e2, g, e3, e4, e5⟩ := zz
    subst e0
    show wpAny _ A (load s.heap.objs.size >>= _) _ _ s'
    refine wpAny_bind (wpAny_load g ?_)
    refine wpAny_pure ?_
    rw [e3]
    exact h s' vs ls k e1 e2 e4 e5
  refine wpAny_mono key (fun fin s' x => ?_) fun e s' x => ?_
  · cases fin with
    | done f => exact done _ _ x
    | again c1 => exact ⟨x.1, codeAny_mono x.2 fun q s2 y => done q s2 y⟩
  · obtain ⟨_, _, _, _, e', _⟩ := x
    cases e'
end
end L2

set_option Elab.async false
set_option linter.all false
set_option maxRecDepth 100000
set_option maxHeartbeats 3200000
namespace L2
open PySem PySem.Spec PyProof.Rows PySem.Calls
section
variable {X : Cx} {pins : List (Addr × Obj)} {σ : St} {H : Hp} {s s' : Shared}
theorem Inv.moved (I : Inv X pins σ H s) (k : ∀ b u, s.heap.get? b = some u → s'.heap.get? b = some u) (ho : s'.os = s.os) (hg : s'.gens = s.gens) : Inv X pins σ H s' := by
  have J := I.kept (h' := s'.heap) (t' := s'.toks) k
  exact ⟨J.ok, ho.trans I.os, by rw [hg]; exact I.bare, J.base, J.loc, J.cell, J.free, J.freeC, J.pin, J.hok, J.len⟩
theorem Inv.laidM {a : Addr} {o : HO} (I : Inv X pins σ H s) (k : ∀ b u, s.heap.get? b = some u → s'.heap.get? b = some u) (ho : s'.os = s.os) (hg : s'.gens = s.gens) (hp : s.heap.objs.size ≤ a) (new : ObjOk X.prog X.w (upd H a o) s'.heap a o) : Inv X pins σ (upd H a o) s' := by
  have J := I.laid (h' := s'.heap) (t' := s'.toks) k hp new
  exact ⟨J.ok, ho.trans I.os, by rw [hg]; exact I.bare, J.base, J.loc, J.cell, J.free, J.freeC, J.pin, J.hok, J.len⟩
end
section
variable {P : Program} {w : World} {A : Around} {E : Value → Shared → Prop} {s : Shared} {ks : List Str}
theorem call_sortedC {r : Addr} {Q : Value → Shared → Prop} (h64 : ks.length < 64)
    (hc : ∀ (R : List Value → Shared → Prop), (∀ s' vs ls, (∀ b o, s.heap.get? b = some o → s'.heap.get? b = some o) → s'.os = s.os → s'.gens = s.gens → StrsAre vs ls → ls.Perm ks → R vs s') → wpAny (model P w) A.in1 (collect (.ref r)) R E s)
    (h : ∀ (s1 s' : Shared) (vs : List Value) (ls : List Str) (e : Nat), (∀ b o, s.heap.get? b = some o → s1.heap.get? b = some o) → s1.os = s.os → s1.gens = s.gens → (∀ b o, s1.heap.get? b = some o → s'.heap.get? b = some o) → s'.os = s1.os → s'.gens = s1.gens → s'.heap.get? s1.heap.objs.size = some (seqObj "list" vs.toArray e) → StrsAre vs ls → ls.Perm ks → sortedS ls = true → Q (.ref s1.heap.objs.size) s') :
    wpAny (model P w) A (call (.builtin "sorted") [.ref r]) Q E s := by
  refine Calls.call_function_entry kind_sorted plain_sorted entry_sorted (args_sorted1 _) ?_
  unfold Builtin.«sorted»
  refine wpAny_bind (m := checkCount "sorted" 1 1 _) (wpAny_pure ?_)
  refine wpAny_bind (hc _ fun s1 vs ls k1 o1 g1 st p => ?_)
  have hl : vs.length < 64 := by rw [st.length, p.length_eq]; exact h64
  refine wpAny_bind (wpAny_newList ?_ (by rw [sizeLine_eq]; omega))
  have gL : (s1.heap.push (seqObj "list" vs.toArray 0)).get? s1.heap.objs.size = some (seqObj "list" vs.toArray 0) := Heap.get?_push_size _ rfl
  refine wpAny_bind (wpAny_holding (wpAny_call_entry (s := { s1 with heap := s1.heap.push (seqObj "list" vs.toArray 0) }) slot_list_sort ⟨_, gL, rfl⟩ entry_list_sort (list_sort_treeK strKind_oneLt gL st.keysOf (fun a b rest e => keyKind_strs (by rw [← e]; exact st)) hl fun st' pp so => ⟨_, rfl, ?_⟩) (args_list_sort _)))
  obtain ⟨ls', a1, a2, a3⟩ := sorted_out_str st pp so
  obtain ⟨e, he⟩ := sortedHeap_at (out := (arrOf st').map (·.2)) gL
  refine wpAny_pure ⟨_, rfl, h s1 _ ((arrOf st').map (·.2)).toList ls' e k1 o1 g1 (fun b o q => ?_) rfl rfl he a1 (a2.trans p) a3⟩
  have lt := Heap.lt_size q
  show (sortedHeap (s1.heap.push (seqObj "list" vs.toArray 0)) s1.heap.objs.size vs ((arrOf st').map (·.2))).get? b = some o
  rw [sortedHeap_old (Nat.ne_of_lt lt) (by rw [size_push']; exact Nat.lt_succ_of_lt lt)]
  exact Heap.get?_push_of_some _ q
end
noncomputable def SetO (P : Program) (w : World) (a : Addr) (ks : List Str) : HO := .ext fun h => SSet P w h a ks
theorem strs_vals {ss : List Str} {vs : List Value} (h : StrsAre vs ss) : Vals (ss.map V.str) vs := by
  induction h with
  | nil => exact .nil
  | cons x t _ ih => exact .cons ⟨t, rfl⟩ ih
theorem vals_strs : ∀ {ss : List Str} {vs : List Value}, Vals (ss.map V.str) vs → StrsAre vs ss
  | [], _, r => by cases r; exact .nil
  | x :: ss, _, r => by
    cases r with
    | cons r1 r2 =>
      obtain ⟨t, rfl⟩ := r1
      exact .cons x t (vals_strs r2)
section
variable {X : Cx}
theorem call_set : X.calm = true → CallR X (.type "set") (fun xs H Q => ∃ p ss, xs = [.ref p] ∧ (SqL X.K H p (ss.map V.str) ∨ SqT X.K H p (ss.map V.str)) ∧ ss.length + 1 < scanBound ∧ ∀ a, H a = none → Q (.ref a) (upd H a (SetO X.prog X.w a (ddup ss)))) := by
  intro hcalm pins s σ H xs us Q I r h
  obtain ⟨p, ss, rfl, hq, hb, q⟩ := h
  obtain ⟨u, rfl, rx⟩ := vals1 r
  cases rx
  obtain ⟨its, r', src⟩ : ∃ its : List Value, Vals (ss.map V.str) its ∧ Src s.heap p its.toArray := by
    rcases hq with hq | hq
    · obtain ⟨its, r', pl, _⟩ := I.list hq
      exact ⟨its, r', .lst pl.isList⟩
    · obtain ⟨its, r', pl, _⟩ := I.tuple hq
      exact ⟨its, r', .tup pl⟩
  refine call_setS (I.ok.hd hcalm) src (vals_strs r') hb fun h' tk S k => ?_
  refine ⟨.ref s.heap.objs.size, _, I.laidM (s' := { s with heap := h', toks := tk }) k rfl rfl (Nat.le_refl _) ?_, rfl, q _ (I.hok.fresh (Nat.le_refl _))⟩
  exact ⟨S, by obtain ⟨o, _, _, _, _, g, _⟩ := S; exact ⟨o, g⟩, fun h1 h2 S1 kk => S1.stay kk⟩
theorem sorted_fin {pins : List (Addr × Obj)} {σ : St} {H : Hp} {s s1 s' : Shared} {Q : VK} {vs : List Value} {ls ks : List Str} {e : Nat} (I : Inv X pins σ H s) (h64 : ks.length < 64) (k1 : ∀ b o, s.heap.get? b = some o → s1.heap.get? b = some o) (o1 : s1.os = s.os) (g1 : s1.gens = s.gens)
    (k2 : ∀ b o, s1.heap.get? b = some o → s'.heap.get? b = some o) (o2 : s'.os = s1.os) (g2 : s'.gens = s1.gens) (he : s'.heap.get? s1.heap.objs.size = some (seqObj "list" vs.toArray e)) (st : StrsAre vs ls) (p : ls.Perm ks)
    (q : ∀ l, H l = none → Q (.ref l) (upd H l (.lst (ls.map V.str)))) : EP X pins σ Q (.ref s1.heap.objs.size) s' := by
  have I1 := I.moved k1 o1 g1
  refine ⟨.ref s1.heap.objs.size, _, I1.laidM k2 o2 g2 (Nat.le_refl _) (show ObjOk X.prog X.w _ s'.heap _ (.lst (ls.map V.str)) from ⟨?_, vs, e, strs_vals st, he⟩), rfl, q _ (I1.hok.fresh (Nat.le_refl _))⟩
  rw [List.length_map, p.length_eq, sizeLine_eq]
  omega
theorem call_sortedS : X.calm = true → CallR X (.builtin "sorted") (fun xs H Q => ∃ a ks, xs = [.ref a] ∧ H a = some (SetO X.prog X.w a ks) ∧ ks.length < 64 ∧ ∀ l ls, H l = none → ls.Perm ks → sortedS ls = true → Q (.ref l) (upd H l (.lst (ls.map V.str)))) := by
  intro hcalm pins s σ H xs us Q I r h
  obtain ⟨a, ks, rfl, ha, h64, q⟩ := h
  obtain ⟨u, rfl, rx⟩ := vals1 r
  cases rx
  obtain ⟨S, _⟩ := (show ObjOk X.prog X.w H s.heap a (.ext fun h => SSet X.prog X.w h a ks) from I.hok a _ ha)
  refine call_sortedC h64 (fun R k => set_collect (by show X.A.in1.handled = none; simp [I.ok.hd hcalm]) S k) fun s1 s' vs ls e k1 o1 g1 k2 o2 g2 he st p so => ?_
  exact sorted_fin I h64 k1 o1 g1 k2 o2 g2 he st p fun l hl => q l ls hl p so
end
end L2

set_option Elab.async false
set_option linter.all false
set_option maxRecDepth 100000
set_option maxHeartbeats 3200000
namespace L2
open PySem PySem.Spec PyProof.Rows PySem.Calls
theorem Inv.turned2 {X : Cx} {pins : List (Addr × Obj)} {σ : St} {H : Hp} {s : Shared} {h' : Heap} {t' : Nat} {e1 e2 : Addr} (I : Inv X pins σ H s) (k : ∀ b o, b ≠ e1 → b ≠ e2 → s.heap.get? b = some o → h'.get? b = some o) (f1 : FpOk X pins H e1) (f2 : FpOk X pins H e2) : Inv X pins σ H { s with heap := h', toks := t' } := by
  have no : ∀ b u, H b = some u → b ≠ e1 ∧ b ≠ e2 := fun b u q => ⟨fun z => (by rw [z, f1.1] at q; cases q), fun z => (by rw [z, f2.1] at q; cases q)⟩
  have nn : ∀ b, b ∉ [e1, e2] → b ≠ e1 ∧ b ≠ e2 := fun b hb => by simpa using hb
  refine I.step (g' := s.gens) (d' := s.drawn) (ch := [e1, e2]) (fun b hb => ?_) (fun b o _ _ hc q _ => k b o (nn b hc).1 (nn b hc).2 q) (fun b o _ _ hc q _ => ⟨o.slots, k b o (nn b hc).1 (nn b hc).2 q⟩) (fun _ _ _ _ n => n) (fun b o hc q => ⟨o, k b o (nn b hc).1 (nn b hc).2 q⟩) (fun _ _ q => q) (fun _ _ _ q => q) (fun b ps q => ⟨#[], by rw [q]; simp⟩) (fun m hm => ?_) (fun b u q => ?_) I.bare
  · have hb' : b = e1 ∨ b = e2 := by simpa using hb
    rcases hb' with z | z
    · subst z; exact ⟨f1.2.2.2.1, f1.2.1, f1.2.2.2.2.1, f1.2.2.2.2.2⟩
    · subst z; exact ⟨f2.2.2.2.1, f2.2.1, f2.2.2.2.2.1, f2.2.2.2.2.2⟩
  · obtain ⟨o, es, ep, ho, r⟩ := hm
    exact ⟨o, es, ep, k _ o (Ne.symm f1.2.1) (Ne.symm f2.2.1) ho, r⟩
  · refine (I.hok b u q).stay (fun c v hc z => k c v ?_ ?_ z) (fun _ z => z) fun _ _ z => z
    · rcases hc with y | y
      · rw [y]; exact (no b u q).1
      · exact (no c _ y).1
    · rcases hc with y | y
      · rw [y]; exact (no b u q).2
      · exact (no c _ y).2
noncomputable def Ite (K : PySem.W.Frag) (a : Addr) : It :=
  ⟨fun i H => ∃ xs x, SqL K H a xs ∧ xs[i]? = some x, fun i H x H' => ∃ tp, x = .ref tp ∧ H tp = none ∧ ∀ xs, SqL K H a xs → ∃ y, xs[i]? = some y ∧ H' = upd H tp (.tup [.int i, y]), fun i H => ∃ xs, SqL K H a xs ∧ xs.length ≤ i⟩
theorem turn_enum {P : Program} {w : World} {K : PySem.W.Frag} {es : List Expr} {k : Nat} {p : Pos} (a e it : Addr) (ne : e ≠ it) : Turn P w K (.Tuple es k p) (Ite K a) [e, it] e (fun i h => (∃ old, IsEnum h e it i old) ∧ h.IsListIter it a i) where
  mem := by simp
  obj := fun i h st b hb => by
    have hb' : b = e ∨ b = it := by simpa using hb
    rcases hb' with z | z
    · subst z
      obtain ⟨⟨old, q⟩, _⟩ := st
      exact ⟨_, q, fun v z => by
        have z' : Data.fields _ = Data.cell v := z
        cases z'⟩
    · subst z
      obtain ⟨o, q, c, d⟩ := st.2
      exact ⟨o, q, fun v z => by rw [d] at z; cases z⟩
  keep := fun i h h' st k => by
    obtain ⟨⟨old, q⟩, l⟩ := st
    exact ⟨⟨old, k e (by simp) _ q⟩, l.at fun o z => k it (by simp) o z⟩
  item := by
    intro X hP hw hK hc i pins s σ H E I hf st hg
    subst hP hw hK
    obtain ⟨xs, x, hq, hx⟩ := hg
    obtain ⟨its, rv, pl, hz⟩ := I.list hq
    obtain ⟨u, hu, ru⟩ := rv.get hx
    have f1 := hf e (by simp)
    have f2 := hf it (by simp)
    obtain ⟨⟨old, q⟩, l⟩ := st
    refine wpAny_pyNext_enum_item q l pl.isList (x := u) (by simpa using hu) ne fun h' qo l' tp sz kk => ?_
    have I1 : Inv X pins σ H { s with heap := h', toks := s.toks + 1 } := I.turned2 kk f1 f2
    refine ⟨_, rfl, ?_⟩
    have le : e < s.heap.objs.size := Heap.lt_size q
    obtain ⟨ol, hol, _⟩ := id l
    have lit : it < s.heap.objs.size := Heap.lt_size hol
    unfold letOwnedTupleGo
    refine wpAny_bind (wpAny_load qo ?_)
    dsimp only
    rw [if_pos (by simp [rawInt])]
    refine wpAny_bind (wpAny_rule ?_)
    show wpAny _ _ (setField (.ref e) 0 .none) _ _ _
    refine wpAny_setField qo rfl (by simp) ?_
    have g := Heap.get?_update_self (Obj.mapFields (·.setIfInBounds 0 Value.none)) qo rfl
    have sb := Heap.SameBut.update h' e (Obj.mapFields (·.setIfInBounds 0 Value.none))
    have I2 : Inv X pins σ (upd H s.heap.objs.size (.tup [.int i, x])) { s with heap := h'.update e (Obj.mapFields (·.setIfInBounds 0 Value.none)), toks := s.toks + 1 } := by
      have J := I.laid (a := s.heap.objs.size) (o := .tup [.int i, x]) (h' := s.heap.push { cls := .type "tuple", data := .seq #[.int i s.toks, u] }) (t' := s.toks + 1) (fun b o z => Heap.get?_push_of_some _ z) (Nat.le_refl _) (show ObjOk X.prog X.w _ _ _ (.tup [.int i, x]) from ⟨by show 2 ≤ sizeLine; decide, [.int i s.toks, u], .cons ⟨_, rfl⟩ (.cons ru .nil), IsTup.new _ _⟩)
      have g1 : FpOk X pins (upd H s.heap.objs.size (.tup [.int i, x])) e := ⟨by rw [upd_ne (Nat.ne_of_lt le)]; exact f1.1, f1.2⟩
      have g2 : FpOk X pins (upd H s.heap.objs.size (.tup [.int i, x])) it := ⟨by rw [upd_ne (Nat.ne_of_lt lit)]; exact f2.1, f2.2⟩
      refine J.turned2 (fun b o n1 n2 z => ?_) g1 g2
      show (h'.update e _).get? b = some o
      rw [sb.2 b n1]
      by_cases hb : b = s.heap.objs.size
      · subst hb
        have z' : (s.heap.push { cls := .type "tuple", data := .seq #[.int i s.toks, u] }).get? s.heap.objs.size = some o := z
        rw [Heap.get?_push_size _ rfl] at z'
        cases z'
        exact tp
      · have z' : (s.heap.push { cls := .type "tuple", data := .seq #[.int i s.toks, u] }).get? b = some o := z
        rw [Heap.get?_push_ne _ _ _ hb] at z'
        exact kk b o n1 n2 z'
    refine ⟨.ref s.heap.objs.size, _, I2, rfl, ⟨_, rfl, I.hok.fresh (Nat.le_refl _), fun ys hy => ⟨x, by rw [I.list_inj hy hq]; exact hx, rfl⟩⟩, ⟨⟨u, g.trans ?_⟩, l'.at fun o z => ?_⟩, fun b hb => ?_⟩
    · rfl
    · rw [sb.2 it (Ne.symm ne)]
      exact z
    · have hb' : b = e ∨ b = it := by simpa using hb
      rcases hb' with z | z
      · subst z; rw [upd_ne (Nat.ne_of_lt le)]; exact f1.1
      · subst z; rw [upd_ne (Nat.ne_of_lt lit)]; exact f2.1
  done := by
    intro X hP hw hK hc i pins s σ H E I hf st hg
    subst hP hw hK
    obtain ⟨xs, hq, hx⟩ := hg
    obtain ⟨its, rv, pl, hz⟩ := I.list hq
    have hl := rv.length
    have f2 := hf it (by simp)
    obtain ⟨⟨old, q⟩, l⟩ := st
    exact wpAny_pyNext_enum_end (I.ok.hd hc) q l pl.isList (by simp; omega) fun h' eb => ⟨rfl, I.turned (t' := s.toks) (fun b o hb z => eb b o hb z) f2.1 f2.2.1 f2.2.2.2.1 f2.2.2.2.2.1 f2.2.2.2.2.2⟩
  self := fun _ _ _ _ _ st h => by
    obtain ⟨⟨old, q⟩, _⟩ := st
    exact wpAny_pyIter_enum q h
noncomputable def iEnum (K : PySem.W.Frag) (ta : TA) : TI := fun σ H R => ta σ H fun vs H1 => ∃ a, vs = [.ref a] ∧ (∃ xs, SqL K H1 a xs) ∧ R (Ite K a) H1
theorem pi_enum {X : Cx} {es : List Expr} {k : Nat} {p2 : Pos} {l : Expr} {ta : TA} {p pos : Pos} (hg : Gl X "enumerate") (hm : X.mg "enumerate" = none) (ha : PA X [l] ta) (hs : starEach [l] X.env = [(false, eval l X.env)] := by rfl) : PI X (.Tuple es k p2) (.Call (.Name "enumerate" p) [l] [] pos) (iEnum X.K ta) := by
  intro pins s σ H R I h
  refine Call_ (ld_blt I hg hm (show bootBuiltins "enumerate" = some (.type "enumerate") by decide +kernel) (PyProof.Rows.callWith_type1 (thn (ha pos pins s σ H _ I h) fun us s1 zz => ?_) hs rfl))
  obtain ⟨vs, H1, I1, r1, q1⟩ := zz
  obtain ⟨a, e, ⟨xs, hq⟩, q⟩ := q1
  subst e
  cases r1 with
  | cons r rr =>
    cases rr
    cases r
    obtain ⟨its, rv, pl, hz⟩ := I1.list hq
    refine call_enumerate_list pl.isList fun h' qe ql sz kk => ?_
    refine wpAny_pyIter_enum qe ?_
    have I2 : Inv X pins σ H1 { s1 with heap := h' } := I1.kept (t' := s1.toks) kk
    refine ⟨_, [s1.heap.objs.size + 1, s1.heap.objs.size], _, _, H1, rfl, I2, turn_enum a _ _ (Nat.succ_ne_self _), ⟨⟨_, qe⟩, ql⟩, fun b hb => ?_, q⟩
    have hb' : b = s1.heap.objs.size + 1 ∨ b = s1.heap.objs.size := by simpa using hb
    rcases hb' with z | z
    · subst z; exact I1.fpOk (Nat.le_succ _) (I1.hok.fresh (Nat.le_succ _))
    · subst z; exact I1.fpOk (Nat.le_refl _) (I1.hok.fresh (Nat.le_refl _))
end L2

set_option Elab.async false
set_option linter.all false
set_option maxRecDepth 100000
set_option maxHeartbeats 3200000
namespace L2
open PySem PySem.Spec PyProof.Rows PySem.Calls
section
variable {X : Cx} {es : List Expr} {t : St → Hp → (Hp → Prop) → Prop} {e : Expr} {te : TE} {pos : Pos}
noncomputable def tJRep (te : TE) (t : St → Hp → (Hp → Prop) → Prop) : St → Hp → (Hp → Prop) → Prop := fun σ H Q => te σ H fun x H1 => ∃ z, x = .str z ∧ z.length ≤ 400 ∧ (∀ c ∈ z.cps.toList, c < 16 ^ 8) ∧ t σ H1 Q
theorem pj_repr {p : Pos} (ha : PE X e te) (h : PJ X es t) (he : evalEach (.FormattedValue e 114 none p :: es) X.env = eval (.FormattedValue e 114 none p) X.env :: evalEach es X.env := by rfl) : PJ X (.FormattedValue e 114 none p :: es) (tJRep te t) := by
  intro out pins s σ H Q I hw hl
  rw [he]
  rw [List.length_cons] at hl
  refine joinParts_cons (wpAny_FormattedValue_repr (thn (ha pins s σ H _ I hw) fun v s1 zz => ?_))
  obtain ⟨x, H1, I1, r1, q1⟩ := zz
  obtain ⟨z, ez, h1, h2, q⟩ := q1
  subst ez
  obtain ⟨tk, rfl⟩ := r1
  have hz := StrLaws.reprText_len z h2
  have hz2 : (reprText z).length ≤ sizeLine := by rw [sizeLine_eq]; omega
  refine wpAny_pyReprObj_str ?_ hz2
  refine formatField_str (fun t' k => ⟨by rw [app_len]; omega, ?_⟩) hz2
  exact h _ pins _ σ H1 Q ((I1.tok _).tok _) q (by rw [app_len]; omega)
theorem strs_each : ∀ (ss : List Str) (l : List Value), l.length = ss.length → (∀ i (hi : i < ss.length), ∃ t, l[i]? = some (.str ss[i] t)) → StrsAre l ss
  | [], l, e, _ => by rw [List.length_eq_zero_iff.mp e]; exact .nil
  | y :: ys, [], e, _ => by cases e
  | y :: ys, v :: vs, e, each => by
    obtain ⟨t, q⟩ := each 0 (by simp)
    have : v = .str y t := by simpa using q
    subst this
    refine .cons y t (strs_each ys vs (by simpa using e) fun i hi => ?_)
    obtain ⟨t', e'⟩ := each (i + 1) (by simpa using hi)
    exact ⟨t', by simpa using e'⟩
theorem call_sortedD : X.calm = true → CallR X (.builtin "sorted") (fun xs H Q => ∃ d kvs ss, xs = [.ref d] ∧ Rd H d (.dK kvs) ∧ kvs.map (·.1) = ss.map (fun x => (Sum.inr x : Key)) ∧ ss.length < 64 ∧ ∀ l ls, H l = none → ls.Perm ss → sortedS ls = true → Q (.ref l) (upd H l (.lst (ls.map V.str)))) := by
  intro hcalm pins s σ H xs us Q I r h
  obtain ⟨d, kvs, ss, rfl, hd, hk, h64, q⟩ := h
  obtain ⟨u, rfl, rx⟩ := vals1 r
  cases rx
  obtain ⟨hz, hm, vs, rv, o, es, ep, ho, hex, hdd, hr⟩ := dk_rd I.hok hd
  have hkl : kvs.length = ss.length := by have := congrArg List.length hk; simpa using this
  have hvl : vs.length = ss.length := by rw [← hkl]; exact (Paired.length rv).symm
  have hvk : vs.map (·.1) = ss.map (fun x => (Sum.inr x : Key)) := by rw [← hk]; exact rv.keys.symm
  have each : ∀ acc : Array Value, ItemsOf (fun i v => ∃ k x, vs[i]? = some (k, x) ∧ (mixKind X.prog X.w).is k v = true) acc vs.length → StrsAre acc.toList ss := fun acc hacc => by
    refine strs_each ss _ (by rw [Array.length_toList, hacc.1, hvl]) fun i hi => ?_
    have hi2 : i < acc.size := by rw [hacc.1, hvl]; exact hi
    obtain ⟨k', x, hx, his⟩ := hacc.2 i acc[i] (getElem?_pos acc i hi2)
    have hk' : k' = Sum.inr ss[i] := by
      have := congrArg (fun l => l[i]?) hvk
      simp only [List.getElem?_map, hx, Option.map_some, List.getElem?_eq_getElem hi] at this
      exact Option.some.inj this
    subst hk'
    obtain ⟨t, e⟩ := Value.isStrOf_shape his
    exact ⟨t, by rw [Array.getElem?_toList, getElem?_pos acc i hi2, e]⟩
  refine call_sortedC h64 (fun R kR => PySem.W.kdu_collect (PySem.W.kdl_dict (knd := mixKind X.prog X.w) (kvs := vs) (ep := ep) hm) (by show X.A.in1.handled = none; simp [I.ok.hd hcalm]) ⟨o, es, ho, hex, hdd, hr⟩ (by rw [hvl, sizeLine_eq]; omega) (fun h' tk acc kk hacc => kR { s with heap := h', toks := tk } acc.toList ss kk rfl rfl (each acc hacc) (List.Perm.refl _)))
    fun s1 s' vs ls e k1 o1 g1 k2 o2 g2 he st p so => sorted_fin I h64 k1 o1 g1 k2 o2 g2 he st p fun l hl => q l ls hl p so
noncomputable def rSlS : V → Option Int → Option Int → Hp → VK → Prop := fun x lo hi H Q => ∃ z, x = .str z ∧ lo = none ∧ (∃ j, hi = some j) ∧ z.length ≤ 1000 ∧ Q (.str (Txt.slice z lo hi)) H
theorem sl_str : SlR X rSlS := by
  intro pins s σ H x v vl vu lo hi sl Q I rx hs pl pu h
  obtain ⟨z, rfl, rfl, ⟨j, rfl⟩, hz, q⟩ := h
  obtain ⟨tz, rfl⟩ := rx
  cases pl
  cases pu
  rename_i tu
  refine ⟨"str", _, PySem.F.slot_str_getitem.lookup, typeIs_str _ _ _, wpAny_getItem_str_slice (l := none) (u := some (j, tu)) (st := none) hs rfl (post_val_or_str ⟨?_, fun t' k => ?_⟩)⟩
  · exact Nat.le_trans (Txt.slice_le z none (some j)) (by rw [sizeLine_eq]; omega)
  · exact ⟨.str (Txt.slice z none (some j)), H, I.tok _, ⟨t', rfl⟩, q⟩
end
end L2

set_option Elab.async false
set_option linter.all false
set_option maxRecDepth 100000
set_option maxHeartbeats 4000000
namespace L2
open PySem PySem.Spec PyProof.Rows
noncomputable def leS (x y : Str) : Prop := x.cps.toList ≤ y.cps.toList
theorem strExt {x y : Str} (h : x.cps.toList = y.cps.toList) : x = y := by
  obtain ⟨⟨a⟩⟩ := x
  obtain ⟨⟨b⟩⟩ := y
  have : a = b := h
  rw [this]
theorem leS_anti {x y : Str} (h : leS x y) (g : leS y x) : x = y := strExt (List.le_antisymm h g)
theorem leS_trans {x y z : Str} (h : leS x y) (g : leS y z) : leS x z := List.le_trans h g
theorem leS_total (x y : Str) : leS x y ∨ leS y x := List.le_total _ _
noncomputable def ltS (x y : Str) : Prop := x.cps.toList < y.cps.toList
noncomputable instance (x y : Str) : Decidable (ltS x y) := inferInstanceAs (Decidable (x.cps.toList < y.cps.toList))
noncomputable instance (x y : Str) : Decidable (leS x y) := inferInstanceAs (Decidable (x.cps.toList ≤ y.cps.toList))
theorem ltS_irrefl (x : Str) : ¬ ltS x x := List.lt_irrefl _
theorem ltS_trans {x y z : Str} (h : ltS x y) (g : ltS y z) : ltS x z := List.lt_trans h g
theorem not_ltS {x y : Str} : ¬ ltS x y ↔ leS y x := List.not_lt
theorem ltS_of {x y : Str} (h : leS x y) (n : x ≠ y) : ltS x y := by
  by_cases q : ltS x y
  · exact q
  · exact absurd (leS_anti h (not_ltS.mp q)) n
theorem rising_pw : ∀ (l : List Str) (p : Str), risingS p l = true → (p :: l).Pairwise leS
  | [], p, _ => by simp
  | x :: r, p, h => by
    have h' : (!ltCps x.cps.toList p.cps.toList && risingS x r) = true := h
    rw [Bool.and_eq_true, ltCps_eq] at h'
    have ih := rising_pw r x h'.2
    have hpx : leS p x := by
      have := h'.1
      simp only [Bool.not_eq_true', decide_eq_false_iff_not] at this
      exact this
    refine List.pairwise_cons.mpr ⟨fun y hy => ?_, ih⟩
    rcases List.mem_cons.mp hy with e | e
    · rw [e]; exact hpx
    · exact leS_trans hpx ((List.pairwise_cons.mp ih).1 y e)
theorem sorted_pw : ∀ (l : List Str), sortedS l = true → l.Pairwise leS
  | [], _ => by simp
  | x :: r, h => rising_pw r x h
theorem pw_eq : ∀ {a b : List Str}, a.Perm b → a.Pairwise leS → b.Pairwise leS → a = b
  | [], b, p, _, _ => by rw [List.nil_perm.mp p]
  | x :: a, [], p, _, _ => by have := p.length_eq; simp at this
  | x :: a, y :: b, p, ha, hb => by
    obtain ⟨a1, a2⟩ := List.pairwise_cons.mp ha
    obtain ⟨b1, b2⟩ := List.pairwise_cons.mp hb
    have e : x = y := by
      have hx : x ∈ y :: b := p.mem_iff.mp List.mem_cons_self
      have hy : y ∈ x :: a := p.mem_iff.mpr List.mem_cons_self
      rcases List.mem_cons.mp hx with e | hx
      · exact e
      · rcases List.mem_cons.mp hy with e | hy
        · exact e.symm
        · exact leS_anti (a1 y hy) (b1 x hx)
    subst e
    rw [pw_eq (List.Perm.cons_inv p) a2 b2]
noncomputable def srt (l : List Str) : List Str := l.mergeSort fun x y => decide (leS x y)
theorem srt_perm (l : List Str) : (srt l).Perm l := List.mergeSort_perm ..
theorem srt_pw (l : List Str) : (srt l).Pairwise leS := by
  have h := List.pairwise_mergeSort (le := fun x y => decide (leS x y)) (fun a b c h1 h2 => decide_eq_true (leS_trans (of_decide_eq_true h1) (of_decide_eq_true h2)))
    (fun a b => by rcases leS_total a b with h | h <;> simp [h]) l
  exact h.imp fun h => of_decide_eq_true h
theorem srt_eq {ls ks : List Str} (p : ls.Perm ks) (h : sortedS ls = true) : ls = srt ks := pw_eq (p.trans (srt_perm ks).symm) (sorted_pw _ h) (srt_pw _)
theorem srt_mem {l : List Str} {x : Str} : x ∈ srt l ↔ x ∈ l := (srt_perm l).mem_iff
noncomputable def dit (row : List Str) : List Str := srt (ddup row)
theorem dit_mem {row : List Str} {x : Str} : x ∈ dit row ↔ x ∈ row := srt_mem.trans (ddup_mem row x)
theorem dit_nd (row : List Str) : (dit row).Nodup := (srt_perm _).nodup_iff.mpr (ddup_nd row)
theorem dit_lt (row : List Str) : (dit row).Pairwise ltS := by
  have h1 := srt_pw (ddup row)
  have h2 : (dit row).Pairwise (· ≠ ·) := dit_nd row
  exact (h1.and h2).imp fun h => ltS_of h.1 h.2
theorem dit_len (row : List Str) : (dit row).length ≤ row.length := by
  have := (srt_perm (ddup row)).length_eq
  have h := ddup_len row
  unfold dit
  omega
theorem nd_perm {a b : List Str} (ha : a.Nodup) (hb : b.Nodup) (h : ∀ x, x ∈ a ↔ x ∈ b) : a.Perm b := (List.perm_ext_iff_of_nodup ha hb).mpr h
theorem dit_eq {ls row ks : List Str} (p : ls.Perm ks) (h : sortedS ls = true) (nd : ks.Nodup) (m : ∀ x, x ∈ ks ↔ x ∈ row) : ls = dit row :=
  pw_eq (p.trans ((nd_perm nd (ddup_nd row) fun x => (m x).trans (ddup_mem row x).symm).trans (srt_perm _).symm)) (sorted_pw _ h) (srt_pw _)
end L2

set_option Elab.async false
set_option linter.all false
set_option maxRecDepth 100000
set_option maxHeartbeats 4000000
namespace L2
open PySem PySem.Spec PyProof.Rows
structure Fn (P : Program) (w : World) (K : PySem.W.Frag) (mg : Str → Option Value) (base : Heap) (CX : CXT) (k : Nat) (x : Str) (ps : List Str) (sp : Sp) : Prop where
  ex : ∃ f fd, mg x = some (.ref f) ∧ PySem.W.keepIn K (.ref f) = true ∧ Binds K fd ps [] ∧ FnOk P w K mg base CX k f fd ps sp
section
variable {X : Cx} {CX : CXT} {k : Nat} {ps : List Str} {sp : Sp} {E : XK} {x : Str} {p pos : Pos} {e : Expr} {es : List Expr} {t : TA}
theorem pe_fn (F : Fn X.prog X.w X.K X.mg X.base CX k x ps sp) (hr : Room k X.A) (hg : Gl X x) (hx : Passes CX X E)
    (ha : PA X (e :: es) t) (hdb : (x == ("__debug__" : Str)) = false := by decide) (he : starEach (e :: es) X.env = (false, eval e X.env) :: starEach es X.env := by rfl) (hpl : (backTo pos (starEach es X.env)).any (·.1) = false := by rfl) :
    PE X (.Call (.Name x p) (e :: es) [] pos) (tCall sp [] E t) := by
  obtain ⟨f, fd, hm, hk, hb, hF⟩ := F.ex
  exact pe_call hF hr hg hm hk hb .nil hx ha hdb he hpl
theorem cons_split {st : Stmt} {rest : List Stmt} {D : Ends} {σ : St} {H : Hp} (P : St → Hp → Prop) (h2 : ∃ u, PSs X rest u ∧ ∀ σ' H', P σ' H' → u D σ' H')
    (h1 : ∀ nx, (∀ σ' H', P σ' H' → nx σ' H') → ∃ t, PS X st t ∧ t { D with nx := nx } σ H) : ∃ t, PSs X (st :: rest) t ∧ t D σ H := by
  obtain ⟨u, hu, ru⟩ := h2
  obtain ⟨t, ht, rt⟩ := h1 (u D) ru
  exact ⟨tSeq t u, pss_cons ht hu, rt⟩
end
theorem ite2b {c : Bool} {A B : Prop} (h1 : c = true → A) (h2 : c = false → B) : if c = true then A else B := by
  cases c with
  | true => exact iteT (h1 rfl)
  | false => exact iteF (h2 rfl)
theorem Same.upd {H H' : Hp} {a : Addr} {o : HO} (s : Same H H') (h : H a = none) : Same H (upd H' a o) := fun b u e => by
  rw [upd_ne (ne_of_none e h)]
  exact s b u e
end L2
namespace L2
open PySem PySem.Spec PyProof.Rows
theorem ku {H : Hp} {b p : Addr} {o u : HO} (h : H b = some o) (hp : H p = none) : upd H p u b = some o := by
  rw [upd_ne (ne_of_none h hp)]
  exact h
theorem Same.step {H H1 : Hp} {p : Addr} {o : HO} (s : Same H H1) (hp : H1 p = none) : Same H (L2.upd H1 p o) := s.upd (s.free hp)
theorem Same.go {H H1 : Hp} {p q : Addr} {o : HO} (s : Same H H1) (hp : H1 p = none) (hq : L2.upd H1 p o q = none) : Same H (L2.upd H1 p o) := s.step hp
theorem cut_to {α : Type} (f : α → V) (xs : List α) (b : Nat) (hb : b ≤ xs.length) : cutV (xs.map f) none (some (b : Int)) = (xs.take b).map f := by
  unfold cutV
  rw [HT.sIx_none, List.drop_zero, HT.sIx_nat, List.length_map, List.map_take, Nat.sub_zero, Nat.min_eq_left hb]
theorem cut_of {α : Type} (f : α → V) (xs : List α) (a : Nat) (ha : a ≤ xs.length) : cutV (xs.map f) (some (a : Int)) none = (xs.drop a).map f := by
  unfold cutV
  rw [HT.sIx_none, HT.sIx_nat, List.length_map, Nat.min_eq_left ha, List.map_drop]
  exact List.take_of_length_le (by rw [List.length_drop, List.length_map]; omega)
theorem cut_in {α : Type} (f : α → V) (xs : List α) (a b : Nat) (hab : a ≤ b) (hb : b ≤ xs.length) : cutV (xs.map f) (some (a : Int)) (some (b : Int)) = ((xs.drop a).take (b - a)).map f := by
  unfold cutV
  rw [HT.sIx_nat, HT.sIx_nat, List.length_map, Nat.min_eq_left hb, Nat.min_eq_left (Nat.le_trans hab hb), List.map_take, List.map_drop]
end L2
namespace L2
open PySem PySem.Spec PyProof.Rows
noncomputable def chkC (fsc : Scope) (fN N : List Str) (cap : List (Option Nat)) (scope : Scope) : Bool :=
  (scope.names.all fun y => decide (scope.names.lookup y.1 = some y.2)) &&
  (scope.names.all fun y => decide (y.2 ≠ .free) || decide (fsc.names.lookup y.1 = some .cell) || decide (fsc.names.lookup y.1 = some .free)) && decide (cap.length = N.length) &&
  ((List.range N.length).all fun i => match cap[i]?, N[i]? with
    | some (some j), some x => decide (fN[j]? = some x) && decide (scope.names.lookup x = some .free)
    | _, _ => true)
theorem CompScope.of {X : Cx} {N : List Str} {cap : List (Option Nat)} {scope : Scope} (fsc : Scope) (fN : List Str) (h1 : X.env.scope = fsc) (h2 : X.N = fN) (hk : scope.kind = .function) (h : chkC fsc fN N cap scope = true) : CompScope X N cap scope := by
  unfold chkC at h
  simp only [Bool.and_eq_true, List.all_eq_true, Bool.or_eq_true, decide_eq_true_eq] at h
  obtain ⟨⟨⟨a1, a3⟩, a4⟩, a5⟩ := h
  refine ⟨hk, a1, fun y hy e => ?_, a4, fun i x j hN hc => ?_⟩
  · show X.env.scope.names.lookup y.1 = some .cell ∨ X.env.scope.names.lookup y.1 = some .free
    rw [h1]
    rcases a3 y hy with (z | z) | z
    · exact absurd e z
    · exact .inl z
    · exact .inr z
  · have hi : i < N.length := (List.getElem?_eq_some_iff.mp hN).1
    have q := a5 i (List.mem_range.mpr hi)
    rw [hc, hN] at q
    simp only [Bool.and_eq_true, decide_eq_true_eq] at q
    rw [h2]
    exact q
end L2
namespace L2
open PySem PySem.Spec PyProof.Rows
section
variable {X : Cx}
theorem call_isinstK (K : PySem.W.Frag) (h : X.K = K) : CallR X (.builtin "isinstance") (fun xs H Q => ∃ x c t cv b, xs = [x, c] ∧ TyOf K H x t ∧ clsV c = some cv ∧ PySem.W.kitOne K t cv = some b ∧ Q (.bl b) H) := by subst h; exact call_isinst
theorem blk_n1 {cap : List (Option Nat)} {te : TE} {J : It} {σ : St} {H1 : Hp} {F : Addr → Hp → Prop} {j : Nat} (n : Nat) (vs : Nat → V) (Pv : Addr → Nat → St → Hp → Prop)
    (h0 : ∀ D, H1 D = none → Pv D 0 (capS cap σ) (upd H1 D (.lst [])))
    (hgo : ∀ D i σ2 H2, H1 D = none → i < n → Pv D i σ2 H2 → J.go i H2 ∧ ∀ x H3, J.yld i H2 x H3 → H3 = H2 ∧ x = vs i)
    (hst : ∀ D σ2 H2, H1 D = none → Pv D n σ2 H2 → J.stop n H2)
    (step : ∀ D i σ1 H2, H1 D = none → i < n → Pv D i σ1 H2 → te (σ1.set j (some (vs i))) H2 fun y H6 => ∃ ys, H6 D = some (.lst ys) ∧ ys.length < sizeLine ∧ ∃ m', m' < n - i ∧ wN n (Pv D) (i + 1) m' (σ1.set j (some (vs i))) (upd H6 D (.lst (ys ++ [y]))))
    (hd : ∀ D σ2 H2, H1 D = none → Pv D n σ2 H2 → F D H2) : tBlk cap (gName j) tYes te J σ H1 F :=
  blk_n n vs Pv h0 hgo hst (fun D i σ1 H2 a b c => by
    show if true = true then te (σ1.set j (some (vs i))) H2 (fun y H6 => ∃ ys, H6 D = some (.lst ys) ∧ ys.length < sizeLine ∧ ∃ m', m' < n - i ∧ wN n (Pv D) (i + 1) m' (σ1.set j (some (vs i))) (upd H6 D (.lst (ys ++ [y])))) else ∃ m', m' < n - i ∧ wN n (Pv D) (i + 1) m' (σ1.set j (some (vs i))) H2
    rw [if_pos rfl]
    exact step D i σ1 H2 a b c) hd
theorem ix_listK (K : PySem.W.Frag) (h : X.K = K) : IxR X (rIxL K) := by subst h; exact ix_list
theorem ix_tupK (K : PySem.W.Frag) (h : X.K = K) : IxR X (rIxT K) := by subst h; exact ix_tup
end
end L2
namespace L2
open PySem PySem.Spec PyProof.Rows
end L2
namespace L2
open PySem PySem.Spec PyProof.Rows
theorem blk_pure {cap : List (Option Nat)} {tt : TT} {te : TE} {J : It} {σ : St} {H1 : Hp} {F : Addr → Hp → Prop} {j : Nat} (n : Nat) (hn : n < sizeLine) (vs : Nat → V) (ok : Nat → Bool) (ys : Nat → V)
    (hgo : ∀ i H2, i < n → Same H1 H2 → J.go i H2 ∧ ∀ x H3, J.yld i H2 x H3 → H3 = H2 ∧ x = vs i)
    (hst : ∀ H2, Same H1 H2 → J.stop n H2)
    (tst : ∀ i H2 Q, i < n → Same H1 H2 → (∀ H', Same H2 H' → Q (ok i) H') → tt ((capS cap σ).set j (some (vs i))) H2 Q)
    (step : ∀ i H2 Q, i < n → ok i = true → Same H1 H2 → (∀ H', Same H2 H' → Q (ys i) H') → te ((capS cap σ).set j (some (vs i))) H2 Q)
    (hd : ∀ D H2, H1 D = none → Same H1 H2 → H2 D = some (.lst (((List.range n).filter ok).map ys)) → F D H2) : tBlk cap (gName j) tt te J σ H1 F := by
  refine blk_n n vs (fun D i σ2 H2 => (∀ v, σ2.set j v = (capS cap σ).set j v) ∧ Same H1 H2 ∧ H2 D = some (.lst (((List.range i).filter ok).map ys))) ?_ ?_ ?_ ?_ ?_
  · intro D hD
    exact ⟨fun _ => rfl, (Same.refl H1).step hD, upd_same⟩
  · rintro D i σ2 H2 hD hi ⟨_, s2, _⟩
    exact hgo i H2 hi s2
  · rintro D σ2 H2 hD ⟨_, s2, _⟩
    exact hst H2 s2
  · rintro D i σ2 H2 hD hi ⟨e, s2, hb⟩
    show tt (σ2.set j (some (vs i))) H2 _
    rw [e]
    refine tst i H2 _ hi s2 fun H3 s3 => ?_
    have s13 := s2.trans s3
    have hb3 := s3 _ _ hb
    have hss : ∀ v, ((capS cap σ).set j (some (vs i))).set j v = (capS cap σ).set j v := fun v => by rw [List.set_set]
    have hl : (((List.range i).filter ok).map ys).length ≤ i := by
      rw [List.length_map]
      exact Nat.le_trans (List.length_filter_le ..) (by rw [List.length_range]; omega)
    refine ite2b (fun hk => ?_) (fun hk => ?_)
    · refine step i H3 _ hi hk s13 fun H4 s4 => ?_
      refine wput hi (s4 _ _ hb3) (by omega) ⟨hss, fun b u e' => ?_, ?_⟩
      · rw [upd_ne (ne_of_none e' hD)]
        exact s4 _ _ (s13 b u e')
      · rw [upd_same, List.range_succ, List.filter_append, List.map_append]
        simp [hk]
    · refine wskip hi ⟨hss, s13, ?_⟩
      rw [hb3, List.range_succ, List.filter_append, List.map_append]
      simp [hk]
  · rintro D σ2 H2 hD ⟨_, s2, hb⟩
    exact hd D H2 hD s2 hb
theorem blk_map {cap : List (Option Nat)} {te : TE} {J : It} {σ : St} {H1 : Hp} {F : Addr → Hp → Prop} {j : Nat} (n : Nat) (hn : n < sizeLine) (vs : Nat → V) (ys : Nat → V)
    (hgo : ∀ i H2, i < n → Same H1 H2 → J.go i H2 ∧ ∀ x H3, J.yld i H2 x H3 → H3 = H2 ∧ x = vs i)
    (hst : ∀ H2, Same H1 H2 → J.stop n H2)
    (step : ∀ i H2 Q, i < n → Same H1 H2 → (∀ H', Same H2 H' → Q (ys i) H') → te ((capS cap σ).set j (some (vs i))) H2 Q)
    (hd : ∀ D H2, H1 D = none → Same H1 H2 → H2 D = some (.lst ((List.range n).map ys)) → F D H2) : tBlk cap (gName j) tYes te J σ H1 F :=
  blk_pure n hn vs (fun _ => true) ys hgo hst (fun i H2 Q _ _ k => k H2 (Same.refl _)) (fun i H2 Q hi _ s k => step i H2 Q hi s k) fun D H2 hD s e => hd D H2 hD s (by rw [e, List.filter_eq_self.mpr (fun _ _ => rfl)])
theorem passX {X : Cx} : Passes (CX1 X.prog X.w) X E0 := fun _ _ _ _ _ _ _ h => by
  obtain ⟨_, _, _, _, _, _, _, _, _, h⟩ := h
  exact h.elim
end L2
namespace L2
open PySem PySem.Spec PyProof.Rows
structure DefAt (K : PySem.W.Frag) (x : Str) (st : Stmt) : Prop where
  ex : ∃ f fd, PySem.W.nsIn K mainGlobals x = some (some (.ref f)) ∧ PySem.W.keepIn K (.ref f) = true ∧ Fun K x x st f fd
theorem DefAt.of {K : PySem.W.Frag} {x : Str} {st : Stmt} {f : Addr} {oc : Value} {od an : Option Addr} {osl : Array (Option Value)} {kV doc pm cdv ct : Value} (a : PySem.W.nsIn K mainGlobals x = some (some (.ref f)))
    (l : K.lookup f = some ⟨oc, od, .func (PySem.W.fnOf x x (defArgs st) (defBody st) (defScope st) .none kV doc pm an cdv ct), osl⟩) (c : PySem.W.codeIn K cdv x = true) (k : PySem.W.keepIn K (.ref f) = true) : DefAt K x st :=
  ⟨⟨f, _, a, k, fun_mk l c k⟩⟩
theorem Fn.of {P : Program} {w : World} {K : PySem.W.Frag} {h : Heap} {mg : Str → Option Value} {base : Heap} {CX : CXT} {k : Nat} {x : Str} {st : Stmt} {ps : List Str} {sp : Sp} (X : K.In h) (G : h.Ns mainGlobals mg) (D : DefAt K x st)
    (hb : ∀ (kV doc pm : Value) (an : Option Addr) (cdv ct : Value) (us : List Value), us.length = ps.length → bindArgs (PySem.W.fnOf x x (defArgs st) (defBody st) (defScope st) .none kV doc pm an cdv ct) ⟨us, []⟩ = pure (ps.zip us))
    (ok : ∀ f fd, Fun K x x st f fd → FnOk P w K mg base CX k f fd ps sp) : Fn P w K mg base CX k x ps sp := by
  obtain ⟨f, fd, a, hk, F⟩ := D.ex
  exact ⟨⟨f, fd, PySem.W.mg_of X G a, hk, F.binds hb, ok f fd F⟩⟩
structure ExcAt (K : PySem.W.Frag) (x : Str) (C : Addr) : Prop where
  a : PySem.W.nsIn K mainGlobals x = some (some (.ref C))
  e : PySem.W.excIn K C bmV "ValueError.__new__" = true
  ga : PySem.W.findIn K (.ref C) "__getattribute__" = some (some (.builtin "BaseException.__getattribute__"))
  gn : PySem.W.findIn K (.ref C) "__getattr__" = some none
  cl : PySem.W.findIn K (.ref C) "__class__" = some (some (.builtin "object.__class__"))
  sb : PySem.W.subIn K (.ref C) (.type "BaseException") = some true
  so : PySem.W.subIn K (.ref C) (.type "object") = some true
  sv : PySem.W.subIn K (.ref C) (.type "ValueError") = some true
  ss : PySem.W.subIn K (.ref C) (.ref C) = some true
  ic : PySem.W.isClsIn K C = true
  ty : PySem.W.typeIn K (.ref C) = some (.type "type")
section
variable {K : PySem.W.Frag} {x : Str} {C : Addr}
theorem ExcAt.f (E : ExcAt K x C) : ExcF K C := ⟨E.ga, E.gn, E.cl, E.sb, E.so, E.ic⟩
theorem kitCls_of {t : Value} {S : Addr} {b : Bool} (ic : PySem.W.isClsIn K S = true) (ty : PySem.W.typeIn K (.ref S) = some (.type "type")) (h : PySem.W.subIn K t (.ref S) = some b) : PySem.W.kitCls K t (.ref S) = some b := by
  unfold PySem.W.kitCls
  have ic' : (PySem.W.clsIn K S).isSome = true := ic
  simp only [ic', ty]
  exact h
theorem kit_of {S : Addr} {b : Bool} (ne : C ≠ S) (ic : PySem.W.isClsIn K S = true) (ty : PySem.W.typeIn K (.ref S) = some (.type "type")) (h : PySem.W.subIn K (.ref C) (.ref S) = some b) : PySem.W.kitOne K (.ref C) (.ref S) = some b := by
  unfold PySem.W.kitOne
  rw [if_neg (fun z => ne (Value.ref.inj (beq_iff_eq.mp z)))]
  exact kitCls_of ic ty h
theorem ExcAt.val (E : ExcAt K x C) : PySem.W.kitOne K (.ref C) (.type "ValueError") = some true := by
  unfold PySem.W.kitOne
  rw [if_neg (fun z => by cases (beq_iff_eq.mp z))]
  show (if PySem.W.kitMeta "ValueError" = true then PySem.W.subIn K (.ref C) (.type "ValueError") else none) = some true
  rw [if_pos (by decide +kernel)]
  exact E.sv
end
structure ClsAt (K : PySem.W.Frag) (x : Str) (C : Addr) : Prop where
  a : PySem.W.nsIn K mainGlobals x = some (some (.ref C))
  ic : PySem.W.isClsIn K C = true
  ty : PySem.W.typeIn K (.ref C) = some (.type "type")
end L2

set_option Elab.async false
set_option linter.all false
set_option maxRecDepth 100000
set_option maxHeartbeats 4000000
namespace L2
open PySem PySem.Spec PyProof.Rows
theorem inV_str (x : Str) (row : List Str) : inV (.str x) (row.map V.str) = decide (x ∈ row) := by
  unfold inV
  rw [Bool.eq_iff_iff, List.any_eq_true, decide_eq_true_eq]
  constructor
  · rintro ⟨y, hy, e⟩
    obtain ⟨z, hz, rfl⟩ := List.mem_map.mp hy
    have : z = x := by simpa [eqV] using e
    rw [← this]; exact hz
  · intro hx
    exact ⟨.str x, List.mem_map.mpr ⟨x, hx, rfl⟩, by simp [eqV]⟩
theorem flat_all (row : List Str) : (row.map V.str).all flatV = true := by
  rw [List.all_eq_true]
  intro v h
  obtain ⟨x, _, rfl⟩ := List.mem_map.mp h
  rfl
theorem blk_enum {K : PySem.W.Frag} {cap : List (Option Nat)} {tt : TT} {te : TE} {a : Addr} {xs : List V} {σ : St} {H1 : Hp} {F : Addr → Hp → Prop} {p q : Nat} (hpq : p ≠ q) (hS : SqL K H1 a xs) (hn : xs.length < sizeLine) (ok : Nat → Bool) (ys : Nat → V)
    (tst : ∀ (i : Nat) x H2 Q, xs[i]? = some x → Same H1 H2 → (∀ H', Same H2 H' → Q (ok i) H') → tt (((capS cap σ).set p (some (.int i))).set q (some x)) H2 Q)
    (step : ∀ (i : Nat) x H2 Q, xs[i]? = some x → ok i = true → Same H1 H2 → (∀ H', Same H2 H' → Q (ys i) H') → te (((capS cap σ).set p (some (.int i))).set q (some x)) H2 Q)
    (hd : ∀ D H2, H1 D = none → Same H1 H2 → H2 D = some (.lst (((List.range xs.length).filter ok).map ys)) → F D H2) : tBlk cap (gTup K 2 (gCons (gName p) (gCons (gName q) gNil))) tt te (Ite K a) σ H1 F := by
  intro D hD
  refine ⟨wN xs.length fun i σ2 H2 => (∀ u v, (σ2.set p u).set q v = ((capS cap σ).set p u).set q v) ∧ Same H1 H2 ∧ H2 D = some (.lst (((List.range i).filter ok).map ys)), ⟨xs.length, by simp, Nat.zero_le _, fun _ _ => rfl, (Same.refl H1).step hD, upd_same⟩, ?_⟩
  rintro i m σ1 H2 ⟨rfl, hi, e, s2, hb⟩
  have hS2 : SqL K H2 a xs := s2.seq hS
  by_cases hlt : i < xs.length
  · have hx : xs[i]? = some xs[i] := List.getElem?_eq_getElem hlt
    refine .inr ⟨⟨xs, xs[i], hS2, hx⟩, ?_⟩
    rintro x H3 ⟨tp, rfl, ht, hy⟩
    obtain ⟨y, hy1, rfl⟩ := hy xs hS2
    rw [hx] at hy1
    cases hy1
    refine ⟨tp, _, rfl, SqT.of upd_same, rfl, _, _, rfl, _, _, rfl, rfl, ?_⟩
    have s3 : Same H1 (upd H2 tp (.tup [.int i, xs[i]])) := s2.step ht
    have hb3 : upd H2 tp (.tup [.int i, xs[i]]) D = some (.lst (((List.range i).filter ok).map ys)) := ku hb ht
    rw [e]
    refine tst i _ _ _ hx s3 fun H4 s4 => ?_
    have s14 := s3.trans s4
    have hb4 := s4 _ _ hb3
    have hss : ∀ u v, (((((capS cap σ).set p (some (.int i))).set q (some xs[i])).set p u).set q v) = ((capS cap σ).set p u).set q v := fun u v => by
      rw [List.set_comm _ _ (Ne.symm hpq), List.set_set, List.set_set]
    have hl : (((List.range i).filter ok).map ys).length ≤ i := by
      rw [List.length_map]
      exact Nat.le_trans (List.length_filter_le ..) (by rw [List.length_range]; omega)
    refine ite2b (fun hk => ?_) (fun hk => ?_)
    · refine step i _ H4 _ hx hk s14 fun H5 s5 => ?_
      refine wput hlt (s5 _ _ hb4) (by omega) ⟨hss, fun b u e' => ?_, ?_⟩
      · rw [upd_ne (ne_of_none e' hD)]
        exact s5 _ _ (s14 b u e')
      · rw [upd_same, List.range_succ, List.filter_append, List.map_append]
        simp [hk]
    · refine wskip hlt ⟨hss, s14, ?_⟩
      rw [hb4, List.range_succ, List.filter_append, List.map_append]
      simp [hk]
  · have ei : i = xs.length := by omega
    subst ei
    exact .inl ⟨⟨xs, hS2, Nat.le_refl _⟩, hd D H2 hD s2 hb⟩
theorem pg_tupK {X : Cx} {pos : Pos} {es : List Expr} {k : Nat} {t : TGs} (K : PySem.W.Frag) (n : Nat) (hK : X.K = K) (hc : X.calm = true) (h : PGs X es t)
    (hn : (assignEach es X.env).length = n := by rfl) (hst : (assignEach es X.env).findIdx? (·.1) = none := by rfl) : PG X (.Tuple es k pos) (gTup K n t) := by
  subst hK
  exact pg_tup hc h hn hst
theorem filt_range {α : Type} (d : α) (p : α → Bool) : ∀ (xs : List α), ((List.range xs.length).filter fun i => p (xs.getD i d)).map (fun i => xs.getD i d) = xs.filter p := by
  intro xs
  have go : ∀ n, n ≤ xs.length → ((List.range n).filter fun i => p (xs.getD i d)).map (fun i => xs.getD i d) = (xs.take n).filter p := by
    intro n
    induction n with
    | zero => intro _; rfl
    | succ n ih =>
      intro h
      have hn : n < xs.length := by omega
      have e : xs.getD n d = xs[n] := by simp [List.getD, hn]
      rw [List.range_succ, List.filter_append, List.map_append, ih (by omega), List.take_succ_eq_append_getElem hn, List.filter_append, List.filter_cons, List.filter_cons, e]
      split
      · simp [hn]
      · simp
  rw [go _ (Nat.le_refl _), List.take_length]
end L2

set_option Elab.async false
set_option linter.all false
set_option maxRecDepth 100000
set_option maxHeartbeats 4000000
namespace L2
open PySem PySem.Spec PyProof.Rows
noncomputable abbrev TM := St → Hp → (St → Hp → Prop) → Prop
noncomputable def PM (X : Cx) (m : Sem Unit) (t : TM) : Prop := ∀ (pins : List (Addr × Obj)) (s : Shared) (σ : St) (H : Hp) (Q : St → Hp → Prop), Inv X pins σ H s → t σ H Q →
  wpAny (model X.prog X.w) X.A m (fun _ s' => ∃ σ' H', Inv X pins σ' H' s' ∧ Q σ' H') X.xe s
noncomputable def turnOf (e : Expr) (d : Nat) (tg iter : Expr) (ifs : List Expr) (act : Sem Unit) (it acc : Value) (env : Env) : Sem Fin := do
  standAt iter.pos
  match ← pyNext it with
  | none => pure (.done .next)
  | some v =>
    letOwnedTupleGo tg it v
    assign tg env v
    let mut ok := true
    for c in ifs do
      if ok then ok ← isTrue c env (eval c env)
    if ok then act
    again (.compLoop e d it acc env)
structure Cm (e : Expr) : Prop where
  den1 : ∀ (P : Program) (w : World) (d : Nat) (it acc : Value) (env : Env), (model P w).den (.compLoop e d it acc env) = (compTurn e d it acc env).onRaise (fun x => do noteFrame x env; theTreesLotGoes x)
  den2 : ∀ (P : Program) (w : World) (d : Nat) (it acc : Value) (env : Env), (model P w).den (.compStart e d it acc env) = (compStart e d it acc env).onRaise (fun x => do noteFrame x env; standAt theWindowsPlace)
  und1 : ∀ (A : Around) (d : Nat) (it acc : Value) (env : Env), A.under (.compLoop e d it acc env) = A
  und2 : ∀ (A : Around) (d : Nat) (it acc : Value) (env : Env), A.under (.compStart e d it acc env) = A
theorem cm_list {elt : Expr} {gs : List Comprehension} {sc : Scope} {p : Pos} : Cm (.ListComp elt gs sc p) := ⟨fun _ _ _ _ _ _ => rfl, fun _ _ _ _ _ _ => rfl, fun _ _ _ _ _ => rfl, fun _ _ _ _ _ => rfl⟩
theorem cm_dict {k v : Expr} {gs : List Comprehension} {sc : Scope} {p : Pos} : Cm (.DictComp k v gs sc p) := ⟨fun _ _ _ _ _ _ => rfl, fun _ _ _ _ _ _ => rfl, fun _ _ _ _ _ => rfl, fun _ _ _ _ _ => rfl⟩
noncomputable def tLp (g : TG) (tt : TT) (tm : TM) (J : It) (σ : St) (H1 : Hp) (F : St → Hp → Prop) : Prop :=
  ∃ W : Nat → Nat → St → Hp → Prop, (∃ m, W 0 m σ H1) ∧ ∀ i m σ1 H2, W i m σ1 H2 →
    (J.stop i H2 ∧ F σ1 H2) ∨ (J.go i H2 ∧ ∀ x H3, J.yld i H2 x H3 → g x σ1 H3 fun σ2 H4 => tt σ2 H4 fun b H5 =>
      if b = true then tm σ2 H5 fun σ3 H6 => ∃ m', m' < m ∧ W (i + 1) m' σ3 H6 else ∃ m', m' < m ∧ W (i + 1) m' σ2 H5)
section
variable {Y : Cx} {e tg iter : Expr} {d : Nat} {ifs : List Expr} {act : Sem Unit} {acc : Value} {g : TG} {tt : TT} {tm : TM} {pins : List (Addr × Obj)} {σ : St} {H : Hp} {s : Shared} {J : It} {fp : List Addr} {it : Addr} {tn : Nat → Heap → Prop} {F : St → Hp → Prop} {R : Result → Shared → Prop}
theorem loop_go (cm : Cm e) (hx : Y.xe = fun _ _ => False) (hc : Y.calm = true) (eq : compTurn e d (.ref it) acc Y.env = turnOf e d tg iter ifs act (.ref it) acc Y.env) (hg : PG Y tg g) (ht : PIfs Y ifs tt) (hm : PM Y act tm)
    (I : Inv Y pins σ H s) (T : Turn Y.prog Y.w Y.K tg J fp it tn) (h0 : tn 0 s.heap) (hf : ∀ b ∈ fp, FpOk Y pins H b) (hb : tLp g tt tm J σ H F) (fin : ∀ σ' H' s', Inv Y pins σ' H' s' → F σ' H' → R (.ok .next) s') :
    codeAny (model Y.prog Y.w) Y.A (.compLoop e d (.ref it) acc Y.env) R s := by
  obtain ⟨W, ⟨m0, w0⟩, turn⟩ := hb
  have stat : ∀ {H' : Hp}, (∀ b ∈ fp, H' b = none) → ∀ b ∈ fp, FpOk Y pins H' b := fun hn b hb => ⟨hn b hb, (hf b hb).2⟩
  refine codeAny_loop rfl (fun n s' => ∃ i σ1 H2, Inv Y pins σ1 H2 s' ∧ tn i s'.heap ∧ (∀ b ∈ fp, H2 b = none) ∧ W i n σ1 H2) (fun n s' hI => ?_) m0 ⟨0, σ, H, I, h0, fun b hb => (hf b hb).1, w0⟩
  obtain ⟨i, σ1, H2, I', st', fr', w'⟩ := hI
  rw [cm.den1, cm.und1]
  refine wpAny_noted ?_
  rw [eq]
  have no : ∀ {α : Type} {t : Sem α} {Q : α → Shared → Prop} {E' : Value → Shared → Prop} {s₁ : Shared}, wpAny (model Y.prog Y.w) Y.A t Q Y.xe s₁ → wpAny (model Y.prog Y.w) Y.A t Q E' s₁ := fun h => wpAny_mono h (fun _ _ q => q) fun _ _ z => by rw [hx] at z; exact z.elim
  unfold turnOf
  rcases turn i n σ1 H2 w' with ⟨stop, q⟩ | ⟨go, step⟩
  · refine wpAny_bind (wpAny_standAt (wpAny_bind (thn (T.done Y rfl rfl rfl hc i pins s' σ1 H2 _ I' (stat fr') st' stop) fun r s1 zz => ?_)))
    obtain ⟨hr, I1⟩ := zz
    subst hr
    exact wpAny_pure (fin σ1 H2 s1 I1 q)
  · refine wpAny_bind (wpAny_standAt (wpAny_bind (thn (T.item Y rfl rfl rfl hc i pins s' σ1 H2 _ I' (stat fr') st' go) fun r s1 zz => ?_)))
    obtain ⟨u, hr, h4⟩ := zz
    subst hr
    refine wpAny_bind (thn h4 fun _ s5 zz => ?_)
    obtain ⟨x, H5, I5, r5, y5, st5, fr5⟩ := zz
    have I5' := I5.pinned (stat fr5) (T.obj _ _ st5)
    refine wpAny_bind (thn (no (hg _ s5 σ1 H5 x u _ I5' r5 (step x H5 y5))) fun _ s6 zz => ?_)
    obtain ⟨σ6, H6, I6, q6⟩ := zz
    refine wpAny_bind (thn (no (ht _ s6 σ6 H6 _ I6 q6)) fun b s7 zz => ?_)
    obtain ⟨H7, I7, q7⟩ := zz
    have again : ∀ {s8 : Shared} {σ8 : St} {H8 : Hp}, Inv Y (pins ++ pinsAt fp s5.heap) σ8 H8 s8 → (∃ m', m' < n ∧ W (i + 1) m' σ8 H8) → ∃ m, m < n ∧ ∃ i σ1 H2, Inv Y pins σ1 H2 s8 ∧ tn i s8.heap ∧ (∀ b ∈ fp, H2 b = none) ∧ W i m σ1 H2 := fun {s8 σ8 H8} I8 ⟨m', hm, w8⟩ => by
      refine ⟨m', hm, i + 1, σ8, H8, I8.unpinned, T.keep _ _ _ st5 fun b hb o e => (I8.pin (b, o) (List.mem_append_right _ (List.mem_append_right _ (mem_pinsAt hb e)))).1, fun b hb => ?_, w8⟩
      obtain ⟨o, e, d⟩ := T.obj _ _ st5 b hb
      exact (I8.pin (b, o) (List.mem_append_right _ (List.mem_append_right _ (mem_pinsAt hb e)))).2.1
    cases b with
    | false =>
      rw [if_neg Bool.false_ne_true] at q7
      exact wpAny_pure ⟨rfl, again I7 q7⟩
    | true =>
      rw [if_pos rfl] at q7
      exact wpAny_bind (thn (no (hm _ s7 σ6 H7 _ I7 q7)) fun _ s8 zz => by obtain ⟨σ8, H8, I8, q8⟩ := zz; exact wpAny_pure ⟨rfl, again I8 q8⟩)
theorem start_go {prog : Program} {w : World} {A : Around} {env : Env} {itv : Value} {cl : Comprehension} (cm : Cm e) (hcl : (clausesOf e)[d]? = some cl) (has : cl.is_async = 0)
    (h0 : codeAny (model prog w) A (.compLoop e d itv acc env) R s)
    (h : wpAny (model prog w) A (pyIter itv) (fun it' s' => codeAny (model prog w) A (.compLoop e d it' acc env) R s') (notedBy (model prog w) A env fun x s' => R (.error x) s') s) :
    codeAny (model prog w) A (.compStart e d itv acc env) R s := by
  refine codeAny_of_tree ?_
  rw [cm.den2, cm.und2]
  refine wpAny_notedAt ?_
  unfold compStart
  rw [hcl]
  have e1 : (Option.elim (some cl) false fun x => x.is_async != 0) = false := by
    show (cl.is_async != 0) = false
    rw [has]
    rfl
  rw [e1, if_neg Bool.false_ne_true]
  show wpAny _ A (ask >>= _) _ _ s
  refine wpAny_bind (wpAny_askSetting (wpAny_ite ?_))
  split
  · first
      | exact wpAny_bind (wpAny_pure (wpAny_pure (And.intro rfl h0)))
      | exact wpAny_pure (And.intro rfl h0)
  · first
      | exact wpAny_bind (wpAny_rule (wpAny_bind (wpAny_standAt (wpAny_bind (wpAny_mono h (fun it' s' h' => wpAny_pure (And.intro rfl h')) fun _ _ x => x)))))
      | (refine wpAny_bind (wpAny_rule ?_); show wpAny _ _ (standAt cl.iter.pos >>= _) _ _ s; exact wpAny_bind (wpAny_standAt (wpAny_bind (wpAny_mono h (fun it' s' h' => wpAny_pure (And.intro rfl h')) fun _ _ x => x))))
end
noncomputable def mList (te : TE) (D : Addr) : TM := fun σ H Q => te σ H fun y H6 => ∃ ys, H6 D = some (.lst ys) ∧ ys.length < sizeLine ∧ Q σ (upd H6 D (.lst (ys ++ [y])))
theorem pm_list {Y : Cx} {elt : Expr} {te : TE} {D : Addr} (he : PE Y elt te) : PM Y (do let _ ← call (.builtin "list.append") [.ref D, ← eval elt Y.env]) (mList te D) := by
  intro pins s σ H Q I h
  refine wpAny_bind (thn (he pins s σ H _ I h) fun yv s8 zz => ?_)
  obtain ⟨y, H8, I8, r8, ys, hD, hlt, q8⟩ := zz
  exact wpAny_bind (thn (mt_append (X := Y) _ s8 σ H8 (.ref D) [y] (.ref D) [yv] (fun _ H9 => Q σ H9) I8 rfl (.cons r8 .nil) ⟨_, ys, y, rfl, rfl, hD, hlt, q8⟩) fun _ s9 zz => by obtain ⟨_, H9, I9, _, q9⟩ := zz; exact wpAny_pure ⟨σ, H9, I9, q9⟩)
noncomputable def mDict (tk tv : TE) (D : Addr) : TM := fun σ H Q => tk σ H fun k H1 => tv σ H1 fun v H2 => ∃ kvs ky, k = kV ky ∧ H2 D = some (.dK kvs) ∧ kvs.length < sizeLine ∧ Q σ (upd H2 D (.dK (putK kvs ky v)))
theorem pm_dict {Y : Cx} {kx vx : Expr} {tk tv : TE} {D : Addr} (hk : PE Y kx tk) (hv : PE Y vx tv) : PM Y (do
    let kv ← eval kx Y.env
    let vv ← holding [kv] (eval vx Y.env)
    standAt { kx.pos with endLine := vx.pos.endLine, endCol := vx.pos.endCol }
    holding [kv, vv] (dictSet D kv vv)) (mDict tk tv D) := by
  intro pins s σ H Q I h
  refine wpAny_bind (thn (hk pins s σ H _ I h) fun kv s1 ⟨k, H1, I1, rk, q1⟩ => wpAny_bind (wpAny_holding (thn (hv pins s1 σ H1 _ I1 q1) fun vv s2 ⟨v, H2, I2, rv, kvs, ky, ek, hD, hl, q⟩ => wpAny_bind (wpAny_standAt (wpAny_holding ?_)))))
  subst ek
  obtain ⟨z, hd, vs, rel, dd⟩ := dk_of I2.hok hD
  have hz : vs.length ≤ sizeLine := by rw [← rel.length]; exact z
  have hl' : (putK kvs ky v).length ≤ sizeLine := by have := length_putK kvs ky v; omega
  refine wpAny_dictSet_pairs (knd := mixKind Y.prog Y.w) (hsz := hz) (kV_is rk) dd fun h' dd' hs => ⟨σ, _, ?_, q⟩
  have he : ∃ q, h'.get? D = some q := by obtain ⟨q, _, _, hq, _⟩ := dd'; exact ⟨q, hq⟩
  exact d_write I2 (by rw [hD]; exact True.intro) hs he (dk_new hl' hd (rel.put ky rv) dd')
noncomputable def mFor (wi : TI) (g : TG) (tt : TT) (tm : TM) : TM := fun σ H Q => wi σ H fun J H1 => tLp g tt tm J σ H1 Q
theorem pm_for {Y : Cx} {e tg iter : Expr} {ifs : List Expr} {d : Nat} {D : Addr} {wi : TI} {g : TG} {tt : TT} {tm : TM} {act : Sem Unit} (cm : Cm e) (hx : Y.xe = fun _ _ => False) (hc : Y.calm = true) (hcl : (clausesOf e)[d]? = some ⟨tg, iter, ifs, 0⟩)
    (eq : ∀ it, compTurn e d it (.ref D) Y.env = turnOf e d tg iter ifs act it (.ref D) Y.env) (hi : PI Y tg iter wi) (hg : PG Y tg g) (ht : PIfs Y ifs tt) (hm : PM Y act tm)
    (hs : ∀ x, foldedSetIterable iter Y.env x = pure x := by intro _; rfl) : PM Y (do
      let x ← eval iter Y.env
      standAt iter.pos
      let x ← foldedSetIterable iter Y.env x
      let _ ← runOwn (.compStart e d (← holding [x] (pyIter x)) (.ref D) Y.env) Y.env) (mFor wi g tt tm) := by
  intro pins s σ H Q I h
  refine wpAny_bind (thn (hi pins s σ H _ I h) fun v s1 h1 => wpAny_bind (wpAny_standAt (wpAny_bind (wpAny_of_eq (hs v) (wpAny_bind (wpAny_holding (thn h1 fun itv s2 h2 => ?_)))))))
  obtain ⟨it, fp, tn, J, H2, ei, I2, T, st2, f2, lp⟩ := h2
  subst ei
  refine wpAny_bind (wpAny_runOwn ?_)
  have go : ∀ s3, s3 = s2 → codeAny (model Y.prog Y.w) Y.A (.compLoop e d (.ref it) (.ref D) Y.env) (fun r s' => match r with | .ok _ => ∃ σ' H', Inv Y pins σ' H' s' ∧ Q σ' H' | .error e => False) s3 := by
    rintro s3 rfl
    exact loop_go cm hx hc (eq _) hg ht hm I2 T st2 f2 lp fun σ' H' s' I' q => ⟨σ', H', I', q⟩
  have st := start_go (s := s2) (R := fun r s' => match r with | .ok _ => ∃ σ' H', Inv Y pins σ' H' s' ∧ Q σ' H' | .error e => False) cm hcl rfl (go s2 rfl) (T.self Y.A 0 s2 _ _ st2 (go s2 rfl))
  refine codeAny_mono st fun r s' hr => ?_
  cases r with
  | ok f => exact wpAny_pure hr
  | error e => exact hr.elim
end L2

set_option Elab.async false
set_option linter.all false
set_option maxRecDepth 100000
set_option maxHeartbeats 4000000
namespace L2
open PySem PySem.Spec PyProof.Rows
noncomputable def tBlkG (cap : List (Option Nat)) (o0 : HO) (g : TG) (tt : TT) (tm : Addr → TM) (J : It) (σ : St) (H1 : Hp) (F : Addr → Hp → Prop) : Prop :=
  ∀ D, H1 D = none → tLp g tt (tm D) J (capS cap σ) (upd H1 D o0) fun _ H2 => F D H2
section
variable {X : Cx} {N : List Str} {cap : List (Option Nat)} {scope : Scope} {e tg iter : Expr} {ifs : List Expr} {g : TG} {tt : TT} {tm : Addr → TM} {E : Value → Shared → Prop} {newAcc : Sem Value} {ob : Obj} {o0 : HO} {act : Addr → Env → Sem Unit}
theorem comp_blockG (C : CompScope X N cap scope) (hcalm : X.calm = true) (cm : Cm e) (hcl : (clausesOf e)[0]? = some ⟨tg, iter, ifs, 0⟩)
    (hnew : ∀ (s : Shared) (Q : Value → Shared → Prop) (E' : Value → Shared → Prop), Q (.ref s.heap.objs.size) { s with heap := s.heap.push ob } → wpAny (model X.prog X.w) X.A newAcc Q E' s)
    (hlay : ∀ pins σ H s, Inv X pins σ H s → Inv X pins σ (upd H s.heap.objs.size o0) { s with heap := s.heap.push ob })
    (heq : ∀ it D env, compTurn e 0 it (.ref D) env = turnOf e 0 tg iter ifs (act D env) it (.ref D) env)
    (hg : ∀ s0 H0 ex, PG (X.comp N scope s0 H0 ex) tg g) (ht : ∀ s0 H0 ex, PIfs (X.comp N scope s0 H0 ex) ifs tt) (hm : ∀ D s0 H0 ex, PM (X.comp N scope s0 H0 ex) (act D (X.comp N scope s0 H0 ex).env) (tm D))
    {pins : List (Addr × Obj)} {σ : St} {H : Hp} {s : Shared} {J : It} {fp : List Addr} {it : Addr} {tn : Nat → Heap → Prop} {F : Addr → Hp → Prop} {RR : Value → Addr → Result → Shared → Prop}
    (I : Inv X pins σ H s) (T : Turn X.prog X.w X.K tg J fp it tn) (h0 : tn 0 s.heap) (hf : ∀ b ∈ fp, FpOk X pins H b) (hb : tBlkG cap o0 g tt tm J σ H F)
    (fin : ∀ D L H' s' m, Inv X pins σ H' s' → FpOk X pins H' L → s'.heap.Ns L m → F D H' → RR (.ref D) L (.ok .next) s') :
    wpAny (model X.prog X.w) X.A newAcc (fun acc s₃ => wpAny (model X.prog X.w) X.A (newFunctionEnv scope X.env.globals (closL X.env scope.names []) [] X.env.qual none .none (some X.env)) (fun cenv s₄ =>
      codeAny (model X.prog X.w) X.A (.compStart e 0 (.ref it) acc { cenv with scope := relabel scope X.env }) (RR acc cenv.locals) s₄) E s₃) E s := by
  have hDn : H s.heap.objs.size = none := I.hok.fresh (Nat.le_refl _)
  have lp := hb s.heap.objs.size hDn
  have flt : ∀ b ∈ fp, b < s.heap.objs.size := fun b hb => by
    obtain ⟨o, e, _⟩ := T.obj _ _ h0 b hb
    exact Heap.lt_size e
  refine hnew s _ _ (wp_newEnvK ?_)
  have I3 : Inv X pins σ (upd H s.heap.objs.size o0) { s with heap := s.heap.push ob } := hlay pins σ H s I
  generalize e3 : ({ s with heap := s.heap.push ob } : Shared) = s3 at I3
  have es3 : s3.heap = s.heap.push ob := by rw [← e3]
  have hsz : s3.heap.objs.size = s.heap.objs.size + 1 := by rw [es3, Heap.size_push]
  have hf3 : ∀ b ∈ fp, FpOk X pins (upd H s.heap.objs.size o0) b := fun b hb => by
    obtain ⟨f0, f⟩ := hf b hb
    exact ⟨by rw [upd_ne (Nat.ne_of_lt (flt b hb))]; exact f0, f⟩
  have flt3 : ∀ b ∈ fp, b < s3.heap.objs.size := fun b hb => by rw [hsz]; exact Nat.lt_succ_of_lt (flt b hb)
  have hk : ∀ b o, s3.heap.get? b = some o → (pushCells (s3.heap.push { cls := .type "dict", data := .dict #[] }) scope.names).get? b = some o := fun b o e => pushCells_keeps _ _ b o (Heap.get?_push_of_some _ e)
  have IY := inv_comp (tk := s3.toks) C I3 hf3 flt3
  generalize eY : X.comp N scope s3 (upd H s.heap.objs.size o0) fp = Y at IY
  have hz3 : (s3.heap.push { cls := .type "dict", data := .dict #[] }).objs.size = s3.heap.objs.size + 1 := Heap.size_push ..
  have hst1 : tn 0 (pushCells (s3.heap.push { cls := .type "dict", data := .dict #[] }) scope.names) := T.keep _ _ _ h0 fun b hb o e => hk b o (by rw [es3]; exact Heap.get?_push_of_some _ e)
  have fY : ∀ {H' : Hp}, (∀ b ∈ fp, H' b = none) → ∀ b ∈ fp, FpOk Y [] H' b := fun {H'} hn b hb => by
    subst eY
    obtain ⟨_, f1, f2, _, f4, _⟩ := hf3 b hb
    refine ⟨hn b hb, Nat.ne_of_lt (flt3 b hb), fun z => ?_, .inl hb, fun x c h => ?_, fun p hp => absurd (show p ∈ ([] : List (Addr × Obj)) from hp) (by simp)⟩
    · rcases List.mem_cons.mp (I3.stkSub b z) with e | e
      · exact f1 e
      · exact f2 e
    · rcases comp_look (s := s3) C I3.ok hz3 h with ⟨a, _⟩ | ⟨_, a⟩
      · exact fun z => Nat.lt_irrefl _ (Nat.lt_trans a (by rw [z]; exact flt3 b hb))
      · exact f4 x c a
  have loop : ∀ s4 : Shared, s4 = { s3 with heap := pushCells (s3.heap.push { cls := .type "dict", data := .dict #[] }) scope.names } →
      codeAny (model X.prog X.w) X.A (.compLoop e 0 (.ref it) (.ref s.heap.objs.size) (compEnvC scope (cellsK X scope s3) s3.heap.objs.size X.env))
        (RR (.ref s.heap.objs.size) s3.heap.objs.size) s4 := by
    rintro s4 rfl
    have pP : Y.prog = X.prog := by subst eY; rfl
    have pW : Y.w = X.w := by subst eY; rfl
    have pK : Y.K = X.K := by subst eY; rfl
    have pC : Y.calm = true := by subst eY; exact hcalm
    have pA : Y.A = X.A := by subst eY; rfl
    have pE : Y.env = compEnvC scope (cellsK X scope s3) s3.heap.objs.size X.env := by subst eY; rfl
    have pX : Y.xe = fun _ _ => False := by subst eY; rfl
    have T' : Turn Y.prog Y.w Y.K tg J fp it tn := by rw [pP, pW, pK]; exact T
    have go := loop_go (Y := Y) (acc := .ref s.heap.objs.size) (pins := []) (R := RR (.ref s.heap.objs.size) s3.heap.objs.size) cm pX pC (heq _ _ _) (by subst eY; exact hg _ _ _) (by subst eY; exact ht _ _ _) (show PM Y (act s.heap.objs.size Y.env) (tm s.heap.objs.size) by subst eY; exact hm _ _ _ _)
      IY T' hst1 (fY fun b hb => (hf3 b hb).1) lp ?_
    · rw [pP, pW, pA, pE] at go
      exact go
    · intro σ' H2 s1 I1 q
      have IX : Inv X pins σ H2 s1 := by
        subst eY
        refine I3.call' (ch := fp) I1.os I1.base I1.hok I1.bare fun b hb => ?_
        obtain ⟨_, f1, _, f3, f4, f5⟩ := hf3 b hb
        exact ⟨f3, f1, f4, f5⟩
      have hL : H2 s3.heap.objs.size = none := by
        have z := I1.free
        rw [pE] at z
        exact z
      obtain ⟨m, hm, _⟩ := I1.loc
      rw [pE] at hm
      exact fin s.heap.objs.size s3.heap.objs.size H2 s1 m IX (I3.fpOk (Nat.le_refl _) hL) hm q
  have lp := loop _ rfl
  have T1 := T.self
  subst e3
  exact start_go cm hcl rfl lp (T1 X.A 0 _ _ _ hst1 lp)
structure Acc (X : Cx) (newAcc : Sem Value) (ob : Obj) (o0 : HO) : Prop where
  new : ∀ (s : Shared) (Q : Value → Shared → Prop) (E' : Value → Shared → Prop), Q (.ref s.heap.objs.size) { s with heap := s.heap.push ob } → wpAny (model X.prog X.w) X.A newAcc Q E' s
  lay : ∀ pins σ H s, Inv X pins σ H s → Inv X pins σ (upd H s.heap.objs.size o0) { s with heap := s.heap.push ob }
theorem acc_list : Acc X (newList []) { cls := .type "list", data := .seq ([] : List Value).toArray } (.lst []) := ⟨fun s Q E' h => wpAny_newObj_type h, fun pins σ H s I => I.lnew (t' := s.toks) .nil (Nat.zero_le _)⟩
theorem acc_dict : Acc X newDict { cls := .type "dict", data := .dict #[] } (.dK []) := ⟨fun s Q E' h => wpAny_newObj_type h, fun pins σ H s I => I.laid (a := s.heap.objs.size) (o := .dK []) (t' := s.toks) (fun _ _ q => Heap.get?_push_of_some _ q) (Nat.le_refl _) (dk_empty s.heap I.big)⟩
noncomputable def tCompG (cap : List (Option Nat)) (o0 : HO) (wi : TI) (g : TG) (tt : TT) (tm : Addr → TM) : TE := fun σ H Q => wi σ H fun J H1 => tBlkG cap o0 g tt tm J σ H1 fun D H2 => Q (.ref D) H2
theorem pe_compG {wi : TI} {pos : Pos} {gens : List Comprehension} (ac : Acc X newAcc ob o0) (he : eval e X.env = comprehension e scope X.env pos newAcc false (eval iter X.env)) (hcls : clausesOf e = ⟨tg, iter, ifs, 0⟩ :: gens)
    (C : CompScope X N cap scope) (hcalm : X.calm = true) (cm : Cm e) (hi : PI X tg iter wi)
    (heq : ∀ it D env, compTurn e 0 it (.ref D) env = turnOf e 0 tg iter ifs (act D env) it (.ref D) env)
    (hg : ∀ s0 H0 ex, PG (X.comp N scope s0 H0 ex) tg g) (ht : ∀ s0 H0 ex, PIfs (X.comp N scope s0 H0 ex) ifs tt) (hm : ∀ D s0 H0 ex, PM (X.comp N scope s0 H0 ex) (act D (X.comp N scope s0 H0 ex).env) (tm D))
    (hs : ∀ x, foldedSetIterable iter X.env x = pure x) : PE X e (tCompG cap o0 wi g tt tm) := by
  intro pins s σ H Q I h
  rw [he]
  refine wpAny_comprehension_free (use := none) hcls hs (clos_for (comp_cells C I.ok)) C.kind (fun x hx hl => by rw [C.uniq x hx, hl]) (thn (hi pins s σ H _ I h) fun v s1 h1 => thn h1 fun itv s2 h2 => ?_)
  obtain ⟨it, fp, tn, J, H2, ei, I2, T, st2, f2, R⟩ := h2
  subst ei
  refine comp_blockG (RR := fun acc L => compPost (model X.prog X.w) X.A X.xe none (EP X pins σ Q) acc L) C hcalm cm (by rw [hcls]; rfl) ac.new ac.lay heq hg ht hm I2 T st2 f2 R ?_
  intro D L H' s' m I' fL hm q
  refine ⟨m, hm, fun h' hs' => ?_⟩
  obtain ⟨f0, f1, _, f3, f4, f5⟩ := fL
  exact ⟨.ref D, H', I'.turned (t' := s'.toks) (fun b o hb e => (hs'.2 b hb).trans e) f0 f1 f3 f4 f5, rfl, q⟩
noncomputable def tCompGS (i : Nat) (cap : List (Option Nat)) (o0 : HO) (wi : TI) (g : TG) (tt : TT) (tm : Addr → TM) : TS := fun D σ H => wi σ H fun J H1 => tBlkG cap o0 g tt tm J σ H1 fun l H2 => D.nx (σ.set i (some (.ref l))) H2
theorem ps_compG {wi : TI} {i : Nat} {y : Str} {py spos cpos : Pos} {gens : List Comprehension} (ac : Acc X newAcc ob o0) (he : ∀ use, evalThenUse e X.env use = (do let _ ← comprehension e scope X.env cpos newAcc false (eval iter X.env) (some use))) (hcls : clausesOf e = ⟨tg, iter, ifs, 0⟩ :: gens)
    (C : CompScope X N cap scope) (hcalm : X.calm = true) (cm : Cm e) (hN : X.N.Nodup) (hiN : X.N[i]? = some y) (hy : X.env.scope.names.lookup y = some .local) (hi : PI X tg iter wi)
    (heq : ∀ it D env, compTurn e 0 it (.ref D) env = turnOf e 0 tg iter ifs (act D env) it (.ref D) env)
    (hg : ∀ s0 H0 ex, PG (X.comp N scope s0 H0 ex) tg g) (ht : ∀ s0 H0 ex, PIfs (X.comp N scope s0 H0 ex) ifs tt) (hm : ∀ D s0 H0 ex, PM (X.comp N scope s0 H0 ex) (act D (X.comp N scope s0 H0 ex).env) (tm D))
    (hsw : swapsWith e (some (.Name y py)) spos.line X.env = pure true) (hs : ∀ x, foldedSetIterable iter X.env x = pure x) : PS X (.Assign [.Name y py] e spos) (tCompGS i cap o0 wi g tt tm) := by
  intro pins s σ H D I h
  rw [exec_Assign_Name_used _ _ _ _ hsw]
  refine wpAny_bind (wpAny_standAt (wpAny_bind ?_))
  rw [he]
  refine wpAny_bind (thn (wpAny_comprehension_free (use := some (assign (.Name y py) X.env)) (Q := fun _ s' => SP X pins D .next s') hcls hs (clos_for (comp_cells C I.ok)) C.kind (fun x hx hl => by rw [C.uniq x hx, hl])
    (thn (hi pins s σ H _ I h) fun v s1 h1 => thn h1 fun itv s2 h2 => ?_)) (fun _ s' hq => wpAny_pure (wpAny_pure hq)))
  obtain ⟨it, fp, tn, J, H2, ei, I2, T, st2, f2, R⟩ := h2
  subst ei
  refine comp_blockG (RR := fun acc L => compPost (model X.prog X.w) X.A X.xe (some (assign (.Name y py) X.env)) (fun _ s' => SP X pins D .next s') acc L) C hcalm cm (by rw [hcls]; rfl) ac.new ac.lay heq hg ht hm I2 T st2 f2 R ?_
  intro l L H' s' m I' fL hm q
  obtain ⟨f0, f1, _, f3, f4, f5⟩ := fL
  show wpAny _ X.A (assign (.Name y py) X.env (.ref l)) _ _ s'
  refine wpAny_assign_Name (store_ok2 I' hN hiN (.inl hy) (show RelV (.ref l) (.ref l) from rfl) (fun s3 I3 zz => ?_) (.inr hy))
  obtain ⟨a, sb, ha⟩ := zz
  have hLa : L ≠ a := by
    rcases ha with rfl | ha
    · exact f1
    · exact fun z => f4 y a ha z.symm
  refine ⟨m, hm.sameBut sb hLa, fun h' hs' => ?_⟩
  exact ⟨_, H', I3.turned (t' := s3.toks) (fun b o hb e => (hs'.2 b hb).trans e) f0 f1 f3 f4 f5, q⟩
end
noncomputable def act2 (elt tg iter tg2 iter2 : Expr) (ifs ifs2 : List Expr) (scope : Scope) (pos : Pos) (D : Addr) (env : Env) : Sem Unit := do
      let x ← eval iter2 env
      standAt iter2.pos
      let x ← foldedSetIterable iter2 env x
      let _ ← runOwn (.compStart (.ListComp elt [⟨tg, iter, ifs, 0⟩, ⟨tg2, iter2, ifs2, 0⟩] scope pos) 1 (← holding [x] (pyIter x)) (.ref D) env) env
theorem compTurn_two (elt tg iter tg2 iter2 : Expr) (ifs ifs2 : List Expr) (scope : Scope) (pos : Pos) (it : Value) (D : Addr) (env : Env) :
    compTurn (.ListComp elt [⟨tg, iter, ifs, 0⟩, ⟨tg2, iter2, ifs2, 0⟩] scope pos) 0 it (.ref D) env = turnOf (.ListComp elt [⟨tg, iter, ifs, 0⟩, ⟨tg2, iter2, ifs2, 0⟩] scope pos) 0 tg iter ifs (act2 elt tg iter tg2 iter2 ifs ifs2 scope pos D env) it (.ref D) env := by
  unfold compTurn turnOf act2
  dsimp only
  simp only [List.getElem?_cons_zero, List.getElem?_cons_succ, bind_assoc, pure_bind]
  simp
  rfl
section
variable {X : Cx} {N : List Str} {cap : List (Option Nat)} {scope : Scope} {tg iter tg2 iter2 elt kx vx : Expr} {ifs ifs2 : List Expr} {g g2 : TG} {tt tt2 : TT} {te tk tv : TE} {wi wi2 : TI} {pos : Pos}
theorem pe_comp (C : CompScope X N cap scope) (hcalm : X.calm = true) (hi : PI X tg iter wi)
    (hg : ∀ s0 H0 ex, PG (X.comp N scope s0 H0 ex) tg g) (ht : ∀ s0 H0 ex, PIfs (X.comp N scope s0 H0 ex) ifs tt) (he : ∀ s0 H0 ex, PE (X.comp N scope s0 H0 ex) elt te)
    (hs : ∀ x, foldedSetIterable iter X.env x = pure x := by intro _; rfl) : PE X (.ListComp elt [⟨tg, iter, ifs, 0⟩] scope pos) (tComp cap wi g tt te) :=
  pe_compG (act := fun D env => do let _ ← call (.builtin "list.append") [.ref D, ← eval elt env]) acc_list rfl rfl C hcalm cm_list hi (fun it D env => rfl) hg ht (fun D s0 H0 ex => pm_list (he s0 H0 ex)) hs
theorem ps_comp {i : Nat} {y : Str} {py spos : Pos} (C : CompScope X N cap scope) (hcalm : X.calm = true) (hN : X.N.Nodup) (hiN : X.N[i]? = some y) (hy : X.env.scope.names.lookup y = some .local) (hi : PI X tg iter wi)
    (hg : ∀ s0 H0 ex, PG (X.comp N scope s0 H0 ex) tg g) (ht : ∀ s0 H0 ex, PIfs (X.comp N scope s0 H0 ex) ifs tt) (he : ∀ s0 H0 ex, PE (X.comp N scope s0 H0 ex) elt te)
    (hsw : swapsWith (.ListComp elt [⟨tg, iter, ifs, 0⟩] scope pos) (some (.Name y py)) spos.line X.env = pure true := by rfl)
    (hs : ∀ x, foldedSetIterable iter X.env x = pure x := by intro _; rfl) : PS X (.Assign [.Name y py] (.ListComp elt [⟨tg, iter, ifs, 0⟩] scope pos) spos) (tCompS i cap wi g tt te) :=
  ps_compG (act := fun D env => do let _ ← call (.builtin "list.append") [.ref D, ← eval elt env]) acc_list (fun use => rfl) rfl C hcalm cm_list hN hiN hy hi (fun it D env => rfl) hg ht (fun D s0 H0 ex => pm_list (he s0 H0 ex)) hsw hs
theorem pe_dcomp (C : CompScope X N cap scope) (hcalm : X.calm = true) (hi : PI X tg iter wi)
    (hg : ∀ s0 H0 ex, PG (X.comp N scope s0 H0 ex) tg g) (ht : ∀ s0 H0 ex, PIfs (X.comp N scope s0 H0 ex) ifs tt) (hk : ∀ s0 H0 ex, PE (X.comp N scope s0 H0 ex) kx tk) (hv : ∀ s0 H0 ex, PE (X.comp N scope s0 H0 ex) vx tv)
    (hs : ∀ x, foldedSetIterable iter X.env x = pure x := by intro _; rfl) : PE X (.DictComp kx vx [⟨tg, iter, ifs, 0⟩] scope pos) (tCompG cap (.dK []) wi g tt (mDict tk tv)) :=
  pe_compG acc_dict rfl rfl C hcalm cm_dict hi (fun it D env => compTurn_dict kx vx tg iter ifs scope pos it D env) hg ht (fun D s0 H0 ex => pm_dict (hk s0 H0 ex) (hv s0 H0 ex)) hs
theorem pe_comp2 (C : CompScope X N cap scope) (hcalm : X.calm = true) (hi : PI X tg iter wi)
    (hg : ∀ s0 H0 ex, PG (X.comp N scope s0 H0 ex) tg g) (ht : ∀ s0 H0 ex, PIfs (X.comp N scope s0 H0 ex) ifs tt)
    (hi2 : ∀ s0 H0 ex, PI (X.comp N scope s0 H0 ex) tg2 iter2 wi2) (hg2 : ∀ s0 H0 ex, PG (X.comp N scope s0 H0 ex) tg2 g2) (ht2 : ∀ s0 H0 ex, PIfs (X.comp N scope s0 H0 ex) ifs2 tt2) (he : ∀ s0 H0 ex, PE (X.comp N scope s0 H0 ex) elt te)
    (hs : ∀ x, foldedSetIterable iter X.env x = pure x := by intro _; rfl) (hs2 : ∀ s0 H0 ex x, foldedSetIterable iter2 (X.comp N scope s0 H0 ex).env x = pure x := by intro _ _ _ _; rfl) :
    PE X (.ListComp elt [⟨tg, iter, ifs, 0⟩, ⟨tg2, iter2, ifs2, 0⟩] scope pos) (tCompG cap (.lst []) wi g tt fun D => mFor wi2 g2 tt2 (mList te D)) :=
  pe_compG (act := fun D env => act2 elt tg iter tg2 iter2 ifs ifs2 scope pos D env) acc_list rfl rfl C hcalm cm_list hi (fun it D env => compTurn_two ..) hg ht (fun D s0 H0 ex => pm_for (Y := X.comp N scope s0 H0 ex) (e := .ListComp elt [⟨tg, iter, ifs, 0⟩, ⟨tg2, iter2, ifs2, 0⟩] scope pos) (d := 1) cm_list rfl hcalm rfl (fun it => rfl) (hi2 s0 H0 ex) (hg2 s0 H0 ex) (ht2 s0 H0 ex) (pm_list (he s0 H0 ex)) (hs2 s0 H0 ex)) hs
end
end L2

set_option Elab.async false
set_option linter.all false
set_option maxRecDepth 100000
set_option maxHeartbeats 4000000
namespace L2
open PySem PySem.Spec PyProof.Rows
mutual
noncomputable def DAt (H : Hp) : PyData → V → Prop
  | .none, v => v = .non
  | .bool b, v => v = .bl b
  | .int i, v => v = .int i
  | .str x, v => v = .str x
  | .list ds, v => ∃ p xs, v = .ref p ∧ H p = some (.lst xs) ∧ DAll H ds xs
  | .tuple ds, v => ∃ p xs, v = .ref p ∧ H p = some (.tup xs) ∧ DAll H ds xs
  | .dict _, _ => False
noncomputable def DAll (H : Hp) : List PyData → List V → Prop
  | [], vs => vs = []
  | d :: ds, vs => ∃ v r, vs = v :: r ∧ DAt H d v ∧ DAll H ds r
end
mutual
theorem DAt.same {H H' : Hp} (s : Same H H') : ∀ (d : PyData) (v : V), DAt H d v → DAt H' d v
  | .none, v, h => by unfold DAt at h ⊢; exact h
  | .bool b, v, h => by unfold DAt at h ⊢; exact h
  | .int i, v, h => by unfold DAt at h ⊢; exact h
  | .str x, v, h => by unfold DAt at h ⊢; exact h
  | .list ds, v, h => by
    unfold DAt at h ⊢
    obtain ⟨p, xs, h1, h2, h3⟩ := h
    exact ⟨p, xs, h1, s _ _ h2, DAll.same s ds xs h3⟩
  | .tuple ds, v, h => by
    unfold DAt at h ⊢
    obtain ⟨p, xs, h1, h2, h3⟩ := h
    exact ⟨p, xs, h1, s _ _ h2, DAll.same s ds xs h3⟩
  | .dict _, v, h => by unfold DAt at h; exact h.elim
theorem DAll.same {H H' : Hp} (s : Same H H') : ∀ (ds : List PyData) (vs : List V), DAll H ds vs → DAll H' ds vs
  | [], vs, h => by unfold DAll at h ⊢; exact h
  | d :: ds, vs, h => by
    unfold DAll at h ⊢
    obtain ⟨v, r, h1, h2, h3⟩ := h
    exact ⟨v, r, h1, DAt.same s d v h2, DAll.same s ds r h3⟩
end
theorem dall_nil {H : Hp} : DAll H [] [] := by unfold DAll; rfl
theorem dall_cons {H : Hp} {d : PyData} {ds : List PyData} {v : V} {vs : List V} (h : DAt H d v) (hs : DAll H ds vs) : DAll H (d :: ds) (v :: vs) := by unfold DAll; exact ⟨v, vs, rfl, h, hs⟩
theorem dall_snoc {H : Hp} {d : PyData} {v : V} : ∀ {ds : List PyData} {vs : List V}, DAll H ds vs → DAt H d v → DAll H (ds ++ [d]) (vs ++ [v])
  | [], vs, h, hd => by
    unfold DAll at h
    subst h
    exact dall_cons hd dall_nil
  | e :: ds, vs, h, hd => by
    unfold DAll at h
    obtain ⟨u, r, rfl, h2, h3⟩ := h
    exact dall_cons h2 (dall_snoc h3 hd)
theorem dall_len {H : Hp} : ∀ {ds : List PyData} {vs : List V}, DAll H ds vs → vs.length = ds.length
  | [], vs, h => by unfold DAll at h; subst h; rfl
  | e :: ds, vs, h => by
    unfold DAll at h
    obtain ⟨u, r, rfl, h2, h3⟩ := h
    rw [List.length_cons, List.length_cons, dall_len h3]
theorem dall_get {H : Hp} : ∀ {ds : List PyData} {vs : List V} {i : Nat} {d : PyData}, DAll H ds vs → ds[i]? = some d → ∃ v, vs[i]? = some v ∧ DAt H d v
  | [], vs, i, d, h, e => by simp at e
  | c :: ds, vs, 0, d, h, e => by
    unfold DAll at h
    obtain ⟨u, r, rfl, h2, h3⟩ := h
    simp at e
    subst e
    exact ⟨u, rfl, h2⟩
  | c :: ds, vs, i + 1, d, h, e => by
    unfold DAll at h
    obtain ⟨u, r, rfl, h2, h3⟩ := h
    simpa using dall_get h3 (by simpa using e)
theorem dall_strs {H : Hp} (row : List Str) : DAll H (row.map PyData.str) (row.map V.str) := by
  induction row with
  | nil => exact dall_nil
  | cons x r ih => exact dall_cons (by unfold DAt; rfl) ih
theorem dall_ints {H : Hp} (row : List Int) : DAll H (row.map PyData.int) (row.map V.int) := by
  induction row with
  | nil => exact dall_nil
  | cons x r ih => exact dall_cons (by unfold DAt; rfl) ih
theorem dat_tup {H : Hp} {ds : List PyData} {p : Addr} {xs : List V} (h : H p = some (.tup xs)) (hs : DAll H ds xs) : DAt H (.tuple ds) (.ref p) := by unfold DAt; exact ⟨p, xs, rfl, h, hs⟩
theorem dat_lst {H : Hp} {ds : List PyData} {p : Addr} {xs : List V} (h : H p = some (.lst xs)) (hs : DAll H ds xs) : DAt H (.list ds) (.ref p) := by unfold DAt; exact ⟨p, xs, rfl, h, hs⟩
section
variable {X : Cx} {pins : List (Addr × Obj)} {σ : St} {H : Hp} {s : Shared}
mutual
theorem reads_of (I : Inv X pins σ H s) : ∀ (d : PyData) (v : V) (u : Value), DAt H d v → RelV v u → ∃ as, Reads s.heap u d as
  | .none, v, u, h, r => by unfold DAt at h; subst h; cases r; exact ⟨_, .none⟩
  | .bool b, v, u, h, r => by unfold DAt at h; subst h; cases r; exact ⟨_, .bool b⟩
  | .int i, v, u, h, r => by unfold DAt at h; subst h; obtain ⟨t, rfl⟩ := r; exact ⟨_, .int i t⟩
  | .str x, v, u, h, r => by unfold DAt at h; subst h; obtain ⟨t, rfl⟩ := r; exact ⟨_, .str x t⟩
  | .list ds, v, u, h, r => by
    unfold DAt at h
    obtain ⟨p, xs, rfl, hp, hs⟩ := h
    cases r
    obtain ⟨its, rv, pl, hz⟩ := I.list (SqL.of (K := X.K) hp)
    obtain ⟨as, ra⟩ := readsAll_of I ds xs its hs rv
    obtain ⟨o, ho, hc, n, hd⟩ := pl.isList
    exact ⟨_, .list ho hc hd (by simpa using ra)⟩
  | .tuple ds, v, u, h, r => by
    unfold DAt at h
    obtain ⟨p, xs, rfl, hp, hs⟩ := h
    cases r
    obtain ⟨its, rv, pl, hz⟩ := I.tuple (SqT.of (K := X.K) hp)
    obtain ⟨as, ra⟩ := readsAll_of I ds xs its hs rv
    obtain ⟨o, ho, hc, n, hd⟩ := pl
    exact ⟨_, .tuple ho hc hd (by simpa using ra)⟩
  | .dict _, v, u, h, r => by unfold DAt at h; exact h.elim
theorem readsAll_of (I : Inv X pins σ H s) : ∀ (ds : List PyData) (vs : List V) (us : List Value), DAll H ds vs → Vals vs us → ∃ as, ReadsAll s.heap us ds as
  | [], vs, us, h, r => by unfold DAll at h; subst h; cases r; exact ⟨_, .nil⟩
  | d :: ds, vs, us, h, r => by
    unfold DAll at h
    obtain ⟨v, vr, rfl, h1, h2⟩ := h
    cases r with
    | cons r1 r2 =>
      obtain ⟨a1, q1⟩ := reads_of I d v _ h1 r1
      obtain ⟨a2, q2⟩ := readsAll_of I ds vr _ h2 r2
      exact ⟨_, .cons q1 q2⟩
end
theorem op_eqD (hu : X.A.units + 3 < cLine) : OpR X (compareOp .Eq) (fun x y H Q => ∃ d d', DAt H d x ∧ DAt H d' y ∧ d.canLay0 = true ∧ d'.canLay0 = true ∧ min d.depth d'.depth ≤ 3 ∧ Q (.bl (PyData.eqv d d')) H) := by
  intro pins s σ H x y v u Q I rx ry h
  obtain ⟨d, d', h1, h2, c1, c2, hd, q⟩ := h
  obtain ⟨as, ra⟩ := reads_of I d x v h1 rx
  obtain ⟨bs, rb⟩ := reads_of I d' y u h2 ry
  exact SeqAt.compareEq_reads ra rb c1 c2 (by omega) ⟨.bl _, H, I, rfl, q⟩
theorem op_neD (hu : X.A.units + 3 < cLine) : OpR X (compareOp .NotEq) (fun x y H Q => ∃ d d', DAt H d x ∧ DAt H d' y ∧ d.canLay0 = true ∧ d'.canLay0 = true ∧ min d.depth d'.depth ≤ 3 ∧ Q (.bl (!PyData.eqv d d')) H) := by
  intro pins s σ H x y v u Q I rx ry h
  obtain ⟨d, d', h1, h2, c1, c2, hd, q⟩ := h
  obtain ⟨as, ra⟩ := reads_of I d x v h1 rx
  obtain ⟨bs, rb⟩ := reads_of I d' y u h2 ry
  exact SeqAt.compareNe_reads ra rb c1 c2 (by omega) ⟨.bl _, H, I, rfl, q⟩
theorem op_inD (hu : X.A.units + 4 < cLine) : OpR X (compareOp .In) (fun x y H Q => ∃ d ds, DAt H d x ∧ DAt H (.list ds) y ∧ d.canLay0 = true ∧ PyData.canLayAll0 ds = true ∧ d.depth ≤ 3 ∧ Q (.bl (ds.any fun e => PyData.eqv e d)) H) := by
  intro pins s σ H x y v u Q I rx ry h
  obtain ⟨d, ds, h1, h2, c1, c2, hd, q⟩ := h
  obtain ⟨as, ra⟩ := reads_of I d x v h1 rx
  obtain ⟨bs, rb⟩ := reads_of I (.list ds) y u h2 ry
  exact SeqAt.in_list_reads rb ra c2 c1 (by omega) ⟨.bl _, H, I, rfl, q⟩
end
mutual
noncomputable def plainD : PyData → Bool
  | .none | .int _ => true
  | .str x => PyData.strOk x
  | .list xs | .tuple xs => plainAll xs
  | .bool _ | .dict _ => false
noncomputable def plainAll : List PyData → Bool
  | [] => true
  | x :: xs => plainD x && plainAll xs
end
mutual
theorem plain_lay : ∀ d : PyData, plainD d = true → d.canLay0 = true
  | .none, _ => rfl
  | .int _, _ => rfl
  | .str x, h => h
  | .list xs, h => plain_layAll xs h
  | .tuple xs, h => plain_layAll xs h
  | .bool _, h => nomatch h
  | .dict _, h => nomatch h
theorem plain_layAll : ∀ ds : List PyData, plainAll ds = true → PyData.canLayAll0 ds = true
  | [], _ => rfl
  | d :: ds, h => by
    have h' : (plainD d && plainAll ds) = true := h
    rw [Bool.and_eq_true] at h'
    show (d.canLay0 && PyData.canLayAll0 ds) = true
    rw [plain_lay d h'.1, plain_layAll ds h'.2]
    rfl
end
mutual
theorem eqv_iff : ∀ (d d' : PyData), plainD d = true → plainD d' = true → (PyData.eqv d d' = true ↔ d = d')
  | .none, d', _, h => by cases d' <;> simp [PyData.eqv] 
  | .int i, d', _, h => by cases d' <;> simp_all [PyData.eqv, plainD]
  | .str x, d', _, h => by cases d' <;> simp_all [PyData.eqv, plainD]
  | .list xs, d', g, h => by
    cases d' with
    | list ys =>
      have := eqvAll_iff xs ys g h
      simp only [PyData.eqv, this, PyData.list.injEq]
    | _ => simp [PyData.eqv]
  | .tuple xs, d', g, h => by
    cases d' with
    | tuple ys =>
      have := eqvAll_iff xs ys g h
      simp only [PyData.eqv, this, PyData.tuple.injEq]
    | _ => simp [PyData.eqv]
  | .bool _, _, g, _ => nomatch g
  | .dict _, _, g, _ => nomatch g
theorem eqvAll_iff : ∀ (xs ys : List PyData), plainAll xs = true → plainAll ys = true → (PyData.eqvAll xs ys = true ↔ xs = ys)
  | [], [], _, _ => by simp [PyData.eqvAll]
  | [], _ :: _, _, _ => by simp [PyData.eqvAll]
  | _ :: _, [], _, _ => by simp [PyData.eqvAll]
  | x :: xs, y :: ys, g, h => by
    have g' : (plainD x && plainAll xs) = true := g
    have h' : (plainD y && plainAll ys) = true := h
    rw [Bool.and_eq_true] at g' h'
    have e1 := eqv_iff x y g'.1 h'.1
    have e2 := eqvAll_iff xs ys g'.2 h'.2
    simp only [PyData.eqvAll, Bool.and_eq_true, e1, e2, List.cons.injEq]
end
theorem plainAll_map {α : Type} (f : α → PyData) : ∀ (xs : List α), (∀ x ∈ xs, plainD (f x) = true) → plainAll (xs.map f) = true
  | [], _ => rfl
  | x :: xs, h => by
    show (plainD (f x) && plainAll (xs.map f)) = true
    rw [h x List.mem_cons_self, plainAll_map f xs fun y hy => h y (List.mem_cons_of_mem _ hy)]
    rfl
end L2

set_option Elab.async false
set_option linter.all false
set_option maxRecDepth 100000
set_option maxHeartbeats 4000000
namespace L2
open PySem PySem.Spec PyProof.Rows
section
variable {X : Cx} {tg : Expr}
noncomputable def iDictR (tl : TE) : TI := fun σ H R => tl σ H fun x H1 => ∃ d kvs, x = .ref d ∧ ((H1 d = some (.dK kvs) ∧ ∀ o, R (Itd d o kvs) (upd H1 d (.frz o (.dK kvs)))) ∨ ∃ o, H1 d = some (.frz o (.dK kvs)) ∧ R (Itd d o kvs) H1)
theorem pi_dictR {l : Expr} {tl : TE} (hl : PE X l tl) : PI X tg l (iDictR tl) := by
  intro pins s σ H R I h
  refine thn (hl pins s σ H _ I h) fun v s1 zz => ?_
  obtain ⟨x, H1, I1, r1, q1⟩ := zz
  obtain ⟨d, kvs, e, q⟩ := q1
  subst e
  cases r1
  rcases q with ⟨hH, q⟩ | ⟨o, hH, q⟩
  · obtain ⟨hz, hm, vs, rv, o, es, ep, ho, hex, hd, r⟩ := I1.hok d _ hH
    have hlen : kvs.length = vs.length := Paired.length rv
    refine wpAny_pyIter_dict (knd := mixKind X.prog X.w) hm ⟨o, es, ho, hex, hd, r⟩ ?_
    have I2 := I1.freeze hH ho
    refine ⟨s1.heap.objs.size, [s1.heap.objs.size], _, _, _, rfl, I2.kept (t' := s1.toks) fun b o e => Heap.get?_push_of_some _ e, turn_dict d _ o es ep hd kvs (Nat.ne_of_lt (Heap.lt_size ho)), ⟨_, Heap.get?_push_size _ rfl, rfl, by rw [hlen]; rfl⟩, fun b hb => ?_, q o⟩
    have e : b = s1.heap.objs.size := by simpa using hb
    subst e
    exact I2.fpOk (Nat.le_refl _) (I2.hok.fresh (Nat.le_refl _))
  · obtain ⟨ho', hok⟩ := (show ObjOk X.prog X.w H1 s1.heap d (.frz o (.dK kvs)) from I1.hok d _ hH)
    obtain ⟨hz, hm, vs, rv, o', es, ep, ho, hex, hd, r⟩ := hok
    have eo : o' = o := by rw [ho'] at ho; exact (Option.some.inj ho).symm
    subst eo
    have hlen : kvs.length = vs.length := Paired.length rv
    refine wpAny_pyIter_dict (knd := mixKind X.prog X.w) hm ⟨o', es, ho, hex, hd, r⟩ ?_
    refine ⟨s1.heap.objs.size, [s1.heap.objs.size], _, _, _, rfl, I1.kept (t' := s1.toks) fun b o e => Heap.get?_push_of_some _ e, turn_dict d _ o' es ep hd kvs (Nat.ne_of_lt (Heap.lt_size ho)), ⟨_, Heap.get?_push_size _ rfl, rfl, by rw [hlen]; rfl⟩, fun b hb => ?_, q⟩
    have e : b = s1.heap.objs.size := by simpa using hb
    subst e
    exact I1.fpOk (Nat.le_refl _) (I1.hok.fresh (Nat.le_refl _))
end
noncomputable def hid (D : Addr) (H : Hp) : Hp := fun b => if b = D then none else H b
theorem hid_same (D : Addr) (H : Hp) : Same (hid D H) H := fun b o e => by
  unfold hid at e
  split at e
  · cases e
  · exact e
theorem hid_upd (D : Addr) (H : Hp) (o : HO) : hid D (upd H D o) = hid D H := by
  funext b
  unfold hid
  split
  · rfl
  · rename_i h
    rw [upd_ne h]
theorem hid_mono {D : Addr} {H H' : Hp} (s : Same H H') : Same (hid D H) (hid D H') := fun b o e => by
  unfold hid at e ⊢
  split at e
  · cases e
  · rename_i h
    rw [if_neg h]
    exact s b o e
theorem hid_ne {D b : Addr} {H : Hp} {o : HO} (h : H b = some o) (n : b ≠ D) : hid D H b = some o := by
  unfold hid
  rw [if_neg n]
  exact h
theorem dat_new {D p : Addr} {H : Hp} {o : HO} {ds : List PyData} {xs : List V} (hD : H D = some o) (np : H p = none) (h : DAll (hid D (upd H p (.tup xs))) ds xs) : DAt (hid D (upd H p (.tup xs))) (.tuple ds) (.ref p) :=
  dat_tup (hid_ne upd_same (ne_of_none hD np).symm) h
section
variable {tt : TT} {te : TE} {J : It} {σ : St} {H0 H1 : Hp} {D : Addr} {F : St → Hp → Prop} {j : Nat} {xs0 : List V}
theorem lp_deep (n : Nat) (vs : Nat → V) (ok : Nat → Bool) (dat : Nat → PyData) (acc : List PyData) (hH : H0 D = none) (s0 : Same H0 H1) (hxs : H1 D = some (.lst xs0)) (hall : DAll (hid D H1) acc xs0) (hbd : acc.length + n < sizeLine)
    (hgo : ∀ i H2, i < n → Same H0 H2 → J.go i H2 ∧ ∀ x H3, J.yld i H2 x H3 → H3 = H2 ∧ x = vs i)
    (hst : ∀ H2, Same H0 H2 → J.stop n H2)
    (tst : ∀ (i : Nat) H2 Q, i < n → Same H0 H2 → (∀ H', Same H2 H' → Q (ok i) H') → tt (σ.set j (some (vs i))) H2 Q)
    (step : ∀ (i : Nat) xs H2 Q, i < n → ok i = true → Same H0 H2 → H2 D = some (.lst xs) → (∀ v H', Same H2 H' → DAt (hid D H') (dat i) v → Q v H') → te (σ.set j (some (vs i))) H2 Q)
    (fin : ∀ σ' H2 xs, (∀ v, σ'.set j v = σ.set j v) → Same H0 H2 → H2 D = some (.lst xs) → DAll (hid D H2) (acc ++ ((List.range n).filter ok).map dat) xs → F σ' H2) :
    tLp (gName j) tt (mList te D) J σ H1 F := by
  refine ⟨wN n fun i σ2 H2 => (∀ v, σ2.set j v = σ.set j v) ∧ Same H0 H2 ∧ ∃ xs, H2 D = some (.lst xs) ∧ DAll (hid D H2) (acc ++ ((List.range i).filter ok).map dat) xs, ⟨n, by simp, Nat.zero_le _, fun _ => rfl, s0, xs0, hxs, by simpa using hall⟩, ?_⟩
  rintro i m σ1 H2 ⟨rfl, hi, e, s2, xs, hD, hal⟩
  by_cases hlt : i < n
  · obtain ⟨h1, h2⟩ := hgo i H2 hlt s2
    refine .inr ⟨h1, fun x H3 y => ?_⟩
    obtain ⟨e1, e2⟩ := h2 x H3 y
    subst e1 e2
    show tt (σ1.set j (some (vs i))) H3 _
    rw [e]
    refine tst i H3 _ hlt s2 fun H4 s4 => ?_
    have s04 := s2.trans s4
    have hD4 := s4 _ _ hD
    have hal4 := DAll.same (hid_mono (D := D) s4) _ _ hal
    have hss : ∀ v, (σ.set j (some (vs i))).set j v = σ.set j v := fun v => by rw [List.set_set]
    have hl : xs.length ≤ acc.length + i := by
      rw [dall_len hal, List.length_append, List.length_map]
      have : ((List.range i).filter ok).length ≤ i := Nat.le_trans (List.length_filter_le ..) (by rw [List.length_range]; omega)
      omega
    refine ite2b (fun hk => ?_) (fun hk => ?_)
    · show te (σ.set j (some (vs i))) H4 _
      refine step i xs H4 _ hlt hk s04 hD4 fun v H5 s5 hv => ?_
      refine ⟨xs, s5 _ _ hD4, by omega, ?_⟩
      refine wskip hlt ⟨hss, fun b u e' => ?_, xs ++ [v], upd_same, ?_⟩
      · rw [upd_ne (ne_of_none e' hH)]
        exact s5 _ _ (s04 b u e')
      · rw [hid_upd, List.range_succ, List.filter_append, List.map_append, ← List.append_assoc]
        simp only [List.filter_cons, hk, if_true, List.filter_nil, List.map_cons, List.map_nil]
        exact dall_snoc (DAll.same (hid_mono (D := D) s5) _ _ hal4) hv
    · refine wskip hlt ⟨hss, s04, xs, hD4, ?_⟩
      rw [List.range_succ, List.filter_append]
      simpa [hk] using hal4
  · have ei : i = n := by omega
    subst ei
    exact .inl ⟨hst H2 s2, fin σ1 H2 xs e s2 hD hal⟩
theorem lp_acc {tm : TM} (n : Nat) (vs : Nat → V) (acc : Nat → List PyData) (hH : H0 D = none) (s0 : Same H0 H1) (hxs : H1 D = some (.lst xs0)) (hall : DAll (hid D H1) (acc 0) xs0) (Eσ : St → Prop) (hE : Eσ σ)
    (hgo : ∀ i H2, i < n → Same H0 H2 → J.go i H2 ∧ ∀ x H3, J.yld i H2 x H3 → H3 = H2 ∧ x = vs i)
    (hst : ∀ H2, Same H0 H2 → J.stop n H2)
    (step : ∀ (i : Nat) σ1 xs H2 (Q : St → Hp → Prop), i < n → Eσ σ1 → Same H0 H2 → H2 D = some (.lst xs) → DAll (hid D H2) (acc i) xs → (∀ σ' H' xs', Eσ σ' → Same H0 H' → H' D = some (.lst xs') → DAll (hid D H') (acc (i + 1)) xs' → Q σ' H') → tm (σ1.set j (some (vs i))) H2 Q)
    (fin : ∀ σ' H2 xs, Same H0 H2 → H2 D = some (.lst xs) → DAll (hid D H2) (acc n) xs → F σ' H2) :
    tLp (gName j) tYes tm J σ H1 F := by
  refine ⟨wN n fun i σ2 H2 => Eσ σ2 ∧ Same H0 H2 ∧ ∃ xs, H2 D = some (.lst xs) ∧ DAll (hid D H2) (acc i) xs, ⟨n, by simp, Nat.zero_le _, hE, s0, xs0, hxs, hall⟩, ?_⟩
  rintro i m σ1 H2 ⟨rfl, hi, e, s2, xs, hD, hal⟩
  by_cases hlt : i < n
  · obtain ⟨h1, h2⟩ := hgo i H2 hlt s2
    refine .inr ⟨h1, fun x H3 y => ?_⟩
    obtain ⟨e1, e2⟩ := h2 x H3 y
    subst e1 e2
    unfold gName tYes
    dsimp only
    rw [if_pos rfl]
    exact step i σ1 xs H3 _ hlt e s2 hD hal fun σ' H' xs' e' s' hD' hal' => wskip hlt ⟨e', s', xs', hD', hal'⟩
  · have ei : i = n := by omega
    subst ei
    exact .inl ⟨hst H2 s2, fin σ1 H2 xs s2 hD hal⟩
end
section
variable {X : Cx} {pos np hpos : Pos} {body : List Stmt} {b0 : Stmt} {suite : List Stmt} {x : Str} {Cc : Addr} {tb : (Addr → St → Hp → Prop) → TS} {th : TS}
noncomputable def tTryN (K : PySem.W.Frag) (Cc : Addr) (tb : (Addr → St → Hp → Prop) → TS) (th : TS) : TS := fun D σ H => ∃ R : Addr → St → Hp → Prop, tb R D σ H ∧ ∀ C σ1 H1, R C σ1 H1 → PySem.W.exmOne K (.ref C) (.ref Cc) = some true ∧ th D σ1 H1
end
end L2

set_option Elab.async false
set_option linter.all false
set_option maxRecDepth 100000
set_option maxHeartbeats 4000000
namespace L2
open PySem PySem.Spec PyProof.Rows
section
variable {X : Cx}
noncomputable def rCount : V → List V → Hp → VK → Prop := fun x vs H Q => ∃ l xs y, x = .ref l ∧ vs = [y] ∧ H l = some (.lst xs) ∧ flatV y = true ∧ xs.all flatV = true ∧ Q (.int (xs.countP fun z => eqV z y)) H
theorem countP_eqU {y : V} : ∀ {xs : List V} {its : List Value}, Vals xs its → xs.all flatV = true → its.countP (eqU y) = xs.countP fun z => eqV z y
  | _, _, .nil, _ => rfl
  | _, _, .cons (a := a) (b := b) r t, f => by
    rw [List.all_cons, Bool.and_eq_true] at f
    rw [List.countP_cons, List.countP_cons, countP_eqU t f.2, eqU_of r f.1]
theorem mt_count : MtM X "list.count" rCount := by
  intro pins s σ H x vs v us Q I rx rv h
  obtain ⟨l, xs, y, rfl, rfl, hH, fy, fs, q⟩ := h
  cases rx
  obtain ⟨u, rfl, ru⟩ := rv.one
  obtain ⟨z, its, n, r, hl, e⟩ := I.lstM hH
  refine call_meets F.slot_list_count ⟨_, e, rfl⟩ F.entry_list_count (F.args_list_count_2 _ _) (SeqAt.list_countAt l its.toArray n _ _ u (eqU y)) ⟨e, fun w hw => mem_eqAt ru fy r fs w (by simpa using hw), ?_⟩
  refine ⟨.int _, H, I.tok _, ⟨_, rfl⟩, ?_⟩
  have e2 : ((its.toArray.toList.countP (eqU y) : Nat) : Int) = ((xs.countP fun z => eqV z y : Nat) : Int) := by rw [← countP_eqU r fs]
  exact e2 ▸ q
noncomputable def rCatT2 : R2 := fun x y H Q => ∃ a b xs ys, x = .ref a ∧ y = .ref b ∧ H a = some (.tup xs) ∧ H b = some (.tup ys) ∧ xs.length + ys.length ≤ sizeLine ∧ ∀ p H', Same H H' → H' p = some (.tup (xs ++ ys)) → Q (.ref p) H'
end
end L2

set_option Elab.async false
set_option linter.all false
set_option maxRecDepth 100000
set_option maxHeartbeats 4000000
namespace HT
open PySem PySem.Spec PyProof.Rows PySem.Calls L2
section
variable {prog : Program} {w : World} {A : Around} {E : Value → Shared → Prop} {s : Shared}
end
end HT
namespace L2
open PySem PySem.Spec PyProof.Rows
section
variable {X : Cx} {pos p2 : Pos} {e : Expr} {te : TE}
noncomputable def rSlT2 : V → Option Int → Option Int → Hp → VK → Prop := fun x lo hi H Q => ∃ a xs, x = .ref a ∧ H a = some (.tup xs) ∧ ∀ p H', Same H H' → H' p = some (.tup (cutV xs lo hi)) → Q (.ref p) H'
noncomputable def tRevT (te : TE) : TE := fun σ H Q => te σ H fun x H1 => ∃ a xs, x = .ref a ∧ H1 a = some (.tup xs) ∧ ∀ p, H1 p = none → Q (.ref p) (upd H1 p (.tup xs.reverse))
end
end L2

set_option Elab.async false
set_option linter.all false
set_option maxRecDepth 100000
set_option maxHeartbeats 4000000
namespace L2
open PySem PySem.Spec PyProof.Rows
section
variable {X : Cx} {es : List Expr} {t : L2.St → Hp → (Hp → Prop) → Prop} {e : Expr} {te : TE} {pos : Pos}
noncomputable def tJRepT (te : TE) (t : L2.St → Hp → (Hp → Prop) → Prop) : L2.St → Hp → (Hp → Prop) → Prop := fun σ H Q => te σ H fun x H1 => ∃ (a : Addr) (ss : List Str), x = .ref a ∧ H1 a = some (.tup (ss.map V.str)) ∧ ss.length ≤ 24 ∧ (∀ z ∈ ss, z.length ≤ 20 ∧ ∀ c ∈ z.cps.toList, c < 16 ^ 8) ∧ t σ H1 Q
noncomputable def rIndex : V → List V → Hp → VK → Prop := fun x vs H Q => ∃ l xs y j, x = .ref l ∧ vs = [y] ∧ H l = some (.lst xs) ∧ flatV y = true ∧ xs.all flatV = true ∧ xs.length ≤ 1000 ∧ (∃ z, xs[j]? = some z ∧ eqV z y = true) ∧ (∀ m z, m < j → xs[m]? = some z → eqV z y = false) ∧ Q (.int (j : Nat)) H
theorem mt_index : MtM X "list.index" rIndex := by
  intro pins s σ H x vs v us Q I rx rv h
  obtain ⟨l, xs, y, j, rfl, rfl, hH, fy, fs, hlen, ⟨z, hz, hzy⟩, hno, q⟩ := h
  cases rx
  obtain ⟨u, rfl, ru⟩ := rv.one
  obtain ⟨zz, its, n, r, hl, e⟩ := I.lstM hH
  have hj : j < xs.length := (List.getElem?_eq_some_iff.mp hz).1
  have hji : j < its.toArray.size := by rw [List.size_toArray]; omega
  have at' : ∀ m (hm : m < its.toArray.size), ∃ w, xs[m]? = some w ∧ eqU y its.toArray[m] = eqV w y := fun m hm => by
    rw [List.size_toArray] at hm
    have g : xs[m]? = some (xs[m]'(by omega)) := List.getElem?_eq_getElem (by omega)
    obtain ⟨uu, hu, ruu⟩ := r.get g
    have e1 : its.toArray[m] = uu := by
      rw [List.getElem_toArray]
      rw [List.getElem?_eq_getElem hm] at hu
      exact Option.some.inj hu
    refine ⟨_, g, ?_⟩
    rw [e1]
    exact eqU_of ruu (List.all_eq_true.mp fs _ (List.getElem_mem _))
  refine call_meets F.slot_list_index ⟨_, e, rfl⟩ F.entry_list_index (F.args_list_index_2 _ _) (SeqAt.list_indexAt l its.toArray n _ _ u (eqU y) j hji (by omega) ?_ ?_) ⟨e, fun w hw => mem_eqAt ru fy r fs w (by simpa using hw), ?_⟩
  · obtain ⟨w, h1, h2⟩ := at' j hji
    rw [hz] at h1
    cases h1
    rw [h2]; exact hzy
  · intro m hm hmj
    obtain ⟨w, h1, h2⟩ := at' m hm
    rw [h2]
    exact hno m w hmj h1
  · exact ⟨.int _, H, I.tok _, ⟨_, rfl⟩, q⟩
end
theorem exm_of {K : PySem.W.Frag} {C S : Addr} (sb : PySem.W.subIn K (.ref C) (.type "BaseException") = some true) (sbS : PySem.W.subIn K (.ref S) (.type "BaseException") = some true) (ic : PySem.W.isClsIn K S = true) (ty : PySem.W.typeIn K (.ref S) = some (.type "type"))
    {b : Bool} (h : PySem.W.subIn K (.ref C) (.ref S) = some b) : PySem.W.exmOne K (.ref C) (.ref S) = some b := by
  unfold PySem.W.exmOne
  rw [sbS, if_pos (by decide)]
  exact kitCls_of ic ty h
end L2

set_option Elab.async false
set_option linter.all false
set_option maxRecDepth 100000
set_option maxHeartbeats 4000000
namespace SH
open PySem PySem.Spec PyProof.Rows L2
structure Bl (mg : Str → Option Value) : Prop where
  len : mg "len" = none
  range : mg "range" = none
  list : mg "list" = none
  min : mg "min" = none
  isi : mg "isinstance" = none
  all : mg "all" = none
  str : mg "str" = none
  val : mg "ValueError" = none
  sorted : mg "sorted" = none
  set : mg "set" = none
  enum : mg "enumerate" = none
  int : mg "int" = none
  bool : mg "bool" = none
  tuple : mg "tuple" = none
  any : mg "any" = none
  dict : mg "dict" = none
  sum : mg "sum" = none
  max : mg "max" = none
structure DrawOk (H : Hp) (dr sc : Addr) : Prop where
  ex : ∃ (ns : List Int) (p : Nat) (c m k : Int), H dr = some (.lst [.ref sc, .int p, .int c, .int m, .int k]) ∧ H sc = some (.lst (ns.map V.int)) ∧ p ≤ ns.length ∧ ns.length ≤ 63 ∧ 0 ≤ m ∧ m < 1000000007
noncomputable def spBegin (K : PySem.W.Frag) : Sp := fun vs H Q _ => ∃ (a : Addr) (ns : List Int), vs = [.ref a] ∧ SqL K H a (ns.map V.int) ∧ ns.length ≤ 63 ∧ ∀ dr sc H', H dr = none → H sc = none → DrawOk H' dr sc → Same H H' → Q (.ref dr) H'
noncomputable def spPick : Sp := fun vs H Q _ => ∃ (dr sc : Addr) (n : Int), vs = [.ref dr, .int n] ∧ 0 < n ∧ n ≤ 1000 ∧ DrawOk H dr sc ∧
  ∀ r H', 0 ≤ r → r < n → DrawOk H' dr sc → (∀ b o, H b = some o → b ≠ dr → H' b = some o) → Q (.int r) H'
noncomputable abbrev NP : List Str := ["_law_draw", "_law_many", "_law_cell", "_law_got"]
noncomputable def D5 (H : Hp) (dr sc : Addr) (ns : List Int) (p : Nat) (c m k : Int) : Prop := H dr = some (.lst [.ref sc, .int p, .int c, .int m, .int k]) ∧ H sc = some (.lst (ns.map V.int))
theorem cpow3 {m : Int} (h0 : 0 ≤ m) (h1 : m < 1000000007) : CPow m 3 := ⟨by decide, by decide, by omega⟩
noncomputable def putR (row : List Str) (x : Str) (a b : Nat) : List Str := row.take a ++ [x] ++ (row.drop a).take (b - a) ++ [x] ++ row.drop b
theorem putR_perm (row : List Str) (x : Str) (a b : Nat) (hab : a ≤ b) : (putR row x a b).Perm (x :: x :: row) := by
  unfold putR
  have e : row = row.take a ++ ((row.drop a).take (b - a) ++ row.drop b) := by
    have e1 : row.drop b = (row.drop a).drop (b - a) := by rw [List.drop_drop]; congr 1; omega
    rw [e1, List.take_append_drop, List.take_append_drop]
  generalize hA : row.take a = A at *
  generalize hB : (row.drop a).take (b - a) = B at *
  generalize hC : row.drop b = C at *
  rw [e]
  have p1 : (A ++ [x] ++ B ++ [x] ++ C).Perm (x :: (A ++ B ++ [x] ++ C)) := by
    have : A ++ [x] ++ B ++ [x] ++ C = A ++ x :: (B ++ [x] ++ C) := by simp
    rw [this]
    refine List.perm_middle.trans ?_
    simp
  refine p1.trans (List.Perm.cons x ?_)
  have : A ++ B ++ [x] ++ C = (A ++ B) ++ x :: C := by simp
  rw [this]
  refine List.perm_middle.trans ?_
  simp
noncomputable def spPut : Sp := fun vs H Q _ => ∃ (r : Addr) (row : List Str) (x : Str) (a b : Nat), vs = [.ref r, .str x, .int a, .int b] ∧ H r = some (.lst (row.map V.str)) ∧ row.length ≤ 1000 ∧ a ≤ b ∧ b ≤ row.length ∧
  ∀ l H', H l = none → H' l = some (.lst ((putR row x a b).map V.str)) → Same H H' → Q (.ref l) H'
noncomputable abbrev NPut : List Str := ["_law_row_here", "_law_name", "_law_at", "_law_to", "_law_told"]
noncomputable def plcF (x : Str) : Nat → List Str → List Int
  | _, [] => []
  | n, y :: r => if y = x then (n : Int) :: plcF x (n + 1) r else plcF x (n + 1) r
noncomputable def plc (row : List Str) (x : Str) : List Int := plcF x 0 row
theorem plcF_snoc (x y : Str) : ∀ (n : Nat) (r : List Str), plcF x n (r ++ [y]) = plcF x n r ++ (if y = x then [((n + r.length : Nat) : Int)] else [])
  | n, [] => by
    show (if y = x then ((n : Nat) : Int) :: plcF x (n + 1) [] else plcF x (n + 1) []) = _
    split <;> simp [plcF]
  | n, z :: r => by
    have ih := plcF_snoc x y (n + 1) r
    show (if z = x then (n : Int) :: plcF x (n + 1) (r ++ [y]) else plcF x (n + 1) (r ++ [y])) = (if z = x then (n : Int) :: plcF x (n + 1) r else plcF x (n + 1) r) ++ _
    rw [ih, List.length_cons, show n + 1 + r.length = n + (r.length + 1) by omega]
    split <;> simp
theorem plcF_len (x : Str) : ∀ (n : Nat) (r : List Str), (plcF x n r).length = r.count x
  | _, [] => rfl
  | n, z :: r => by
    show (if z = x then (n : Int) :: plcF x (n + 1) r else plcF x (n + 1) r).length = _
    rw [List.count_cons]
    split
    · rename_i e
      rw [List.length_cons, plcF_len, if_pos (by simpa using e)]
    · rename_i e
      rw [plcF_len, if_neg (by simpa using e)]
      rfl
theorem plc_len (row : List Str) (x : Str) : (plc row x).length = row.count x := plcF_len x 0 row
theorem plc_snoc (r : List Str) (x y : Str) : plc (r ++ [y]) x = plc r x ++ (if y = x then [(r.length : Int)] else []) := by
  have e := plcF_snoc x y 0 r
  rw [Nat.zero_add] at e
  exact e
structure Wh (H : Hp) (kvs : List (Key × V)) (row : List Str) : Prop where
  keys : ∀ k ∈ kvs.map (·.1), ∃ x, k = Sum.inr x ∧ x ∈ row
  val : ∀ x ∈ row, ∃ l, valV kvs (Sum.inr x : Key) = some (.ref l) ∧ H l = some (.lst ((plc row x).map V.int))
  none : ∀ x, x ∉ row → valV kvs (Sum.inr x : Key) = none
  nd : (kvs.map (·.1)).Nodup
  len : kvs.length ≤ row.length
theorem keys_putK {kvs : List (Key × V)} {k : Key} {v : V} {l : V} (h : valV kvs k = some l) : (putK kvs k v).map (·.1) = kvs.map (·.1) := by
  unfold putK
  rw [valV_any, h, if_pos Option.isSome_some, List.map_map]
  refine List.map_congr_left fun p _ => ?_
  show (if p.1 = k then (p.1, v) else p).1 = p.1
  split <;> rfl
theorem Wh.snoc {H H' : Hp} {kvs : List (Key × V)} {row : List Str} (w : Wh H kvs row) (y : Str) (l : Addr) (hl : H' l = some (.lst ((plc (row ++ [y]) y).map V.int)))
    (s : ∀ b xs, H b = some (.lst xs) → H' b = some (.lst xs)) : Wh H' (putK kvs (Sum.inr y) (.ref l)) (row ++ [y]) := by
  refine ⟨fun k hk => ?_, fun x hx => ?_, fun x hx => ?_, ?_, ?_⟩
  · by_cases hy : y ∈ row
    · obtain ⟨l0, e, _⟩ := w.val y hy
      rw [keys_putK e] at hk
      obtain ⟨x, e1, e2⟩ := w.keys k hk
      exact ⟨x, e1, List.mem_append_left _ e2⟩
    · rw [putK_new _ (w.none y hy), List.map_append] at hk
      rcases List.mem_append.mp hk with hk | hk
      · obtain ⟨x, e1, e2⟩ := w.keys k hk
        exact ⟨x, e1, List.mem_append_left _ e2⟩
      · exact ⟨y, by simpa using hk, by simp⟩
  · rw [valV_put]
    by_cases e : x = y
    · subst e
      exact ⟨l, if_pos rfl, hl⟩
    · have hx' : x ∈ row := by
        rcases List.mem_append.mp hx with z | z
        · exact z
        · exact absurd (List.mem_singleton.mp z) e
      obtain ⟨l0, e1, e2⟩ := w.val x hx'
      refine ⟨l0, by rw [if_neg (fun z => e (Sum.inr.inj z))]; exact e1, ?_⟩
      rw [plc_snoc, if_neg (fun z => e z.symm), List.append_nil]
      exact s _ _ e2
  · rw [valV_put]
    have h1 : x ∉ row := fun z => hx (List.mem_append_left _ z)
    have h2 : x ≠ y := fun z => hx (by rw [z]; simp)
    rw [if_neg (fun z => h2 (Sum.inr.inj z))]
    exact w.none x h1
  · by_cases hy : y ∈ row
    · obtain ⟨l0, e, _⟩ := w.val y hy
      rw [keys_putK e]
      exact w.nd
    · exact nd_putK _ w.nd (w.none y hy)
  · have := length_putK kvs (Sum.inr y : Key) (.ref l)
    have := w.len
    rw [List.length_append, List.length_singleton]
    omega
noncomputable def spWhere : Sp := fun vs H Q _ => ∃ (r : Addr) (row : List Str), vs = [.ref r] ∧ H r = some (.lst (row.map V.str)) ∧ row.length ≤ 1000 ∧
  ∀ d kvs H', H d = none → H' d = some (.dK kvs) → Wh H' kvs row → Same H H' → Q (.ref d) H'
noncomputable abbrev NWh : List Str := ["_law_row_here", "_law_told", "_law_at"]
noncomputable def inn (a b : Int) (ys : List Int) : List Int := ys.filter fun t => decide (a < t) && decide (t < b)
theorem inn_le (a b : Int) (ys : List Int) : (inn a b ys).length ≤ ys.length := List.length_filter_le ..
noncomputable def words3 : List Str := ["same", "cross", "around"]
noncomputable def wordT (a b c e : Int) (same : Bool) : Str :=
  if (same || decide (0 < (inn a b [c, e]).length)) = true then words3.getD (inn a b [c, e]).length "apart" else if c < a ∧ b < e then "within" else "apart"
noncomputable def spWord : Sp := fun vs H Q _ => ∃ (d l1 l2 : Addr) (kvs : List (Key × V)) (x y : Str) (a b c e : Int), vs = [.ref d, .str x, .str y] ∧ Rd H d (.dK kvs) ∧ valV kvs (Sum.inr x : Key) = some (.ref l1) ∧ valV kvs (Sum.inr y : Key) = some (.ref l2) ∧
  H l1 = some (.lst [.int a, .int b]) ∧ H l2 = some (.lst [.int c, .int e]) ∧ ∀ H', Same H H' → Q (.str (wordT a b c e (decide (x = y)))) H'
noncomputable abbrev NWo : List Str := ["_law_where_here", "_law_one", "_law_other", "_law_low", "_law_high", "_law_inner"]
theorem Rd.same {H H' : Hp} {d : Addr} {o : HO} (r : Rd H d o) (s : Same H H') : Rd H' d o := by
  rcases r with r | ⟨u, r⟩
  · exact .inl (s _ _ r)
  · exact .inr ⟨u, s _ _ r⟩
theorem DGet.rd {H : Hp} {a : Addr} {kvs : List (Key × V)} {x : Str} {v : V} (e : Rd H a (.dK kvs)) (h : valV kvs (Sum.inr x : Key) = some v) : DGet H a (.str x) (some v) := .inl ⟨kvs, Sum.inr x, e, rfl, h.symm⟩
theorem two_plc {row : List Str} {x : Str} (h : row.count x = 2) : ∃ a b, plc row x = [a, b] := by
  have e := plc_len row x
  rw [h] at e
  match q : plc row x, e with
  | [a, b], _ => exact ⟨a, b, rfl⟩
noncomputable def spBarred : Sp := fun vs H Q _ => ∃ (r : Addr) (row : List Str) (x : Str), vs = [.ref r, .str x] ∧ H r = some (.lst (row.map V.str)) ∧ row.length ≤ 1000 ∧ (∀ y ∈ row, row.count y = 2) ∧ x ∈ row ∧
  ∀ b H', Same H H' → Q (.bl b) H'
noncomputable abbrev NBa : List Str := ["_law_row_here", "_law_name", "_law_where_here", "_law_met", "_law_at", "_law_other"]
noncomputable abbrev NBc : List Str := ["_law_one", "_law_name", "_law_where_here"]
noncomputable abbrev baseS : Str := "kqvzbdgmprtxhnjfwlycsaeiou"
noncomputable def signOf (i : Nat) : Str := ⟨#[(baseS.cps.toList).getD i 0]⟩
noncomputable def nameOf (st : Nat) (late : Bool) (k : Nat) : Str :=
  if late = true then (repS "m" ((st + k * k) % 7) ++ signOf ((st + k) % 26)) ++ "y" else signOf ((st + k) % 26) ++ repS "m" ((st + k * k) % 7)
noncomputable def namesAt (st : Nat) (late : Bool) (n : Nat) : List Str := (List.range n).map (nameOf st late)
theorem names_nd14 : ∀ st < 26, ∀ late : Bool, (namesAt st late 14).Nodup := by decide +kernel
theorem names_nd {st : Nat} {late : Bool} {n : Nat} (hs : st < 26) (hn : n ≤ 14) : (namesAt st late n).Nodup := by
  refine (names_nd14 st hs late).sublist ?_
  unfold namesAt
  refine List.Sublist.map _ ?_
  have e : List.range 14 = List.range n ++ (List.range (14 - n)).map (n + ·) := by
    rw [← List.range_add]
    congr 1
    omega
  rw [e]
  exact List.sublist_append_left ..
noncomputable def But (dr : Addr) (H H' : Hp) : Prop := ∀ b o, H b = some o → b ≠ dr → H' b = some o
theorem But.trans {dr : Addr} {H H1 H2 : Hp} (a : But dr H H1) (b : But dr H1 H2) : But dr H H2 := fun c o e h => b c o (a c o e h) h
theorem But.same {dr : Addr} {H H1 H2 : Hp} (a : But dr H H1) (b : Same H1 H2) : But dr H H2 := fun c o e h => b c o (a c o e h)
theorem But.free {dr b : Addr} {H H' : Hp} {o : HO} (a : But dr H H') (hd : H' dr = some o) (h : H' b = none) : H b = none := by
  cases q : H b with
  | none => rfl
  | some u =>
    by_cases e : b = dr
    · rw [e, hd] at h; cases h
    · rw [a b u q e] at h; cases h
theorem But.upd {dr a : Addr} {H H' : Hp} {o : HO} (x : But dr H H') (h : H a = none) : But dr H (L2.upd H' a o) := fun b u e hb => by
  rw [upd_ne (ne_of_none e h)]
  exact x b u e hb
theorem DrawOk.at {H : Hp} {dr sc : Addr} (d : DrawOk H dr sc) : ∃ xs, H dr = some (.lst xs) := by obtain ⟨_, _, _, _, _, h, _⟩ := d.ex; exact ⟨_, h⟩
theorem DrawOk.same {H H' : Hp} {dr sc : Addr} (d : DrawOk H dr sc) (s : Same H H') : DrawOk H' dr sc := by
  obtain ⟨⟨ns, p, c, m, k, h1, h2, r⟩⟩ := d
  exact ⟨ns, p, c, m, k, s _ _ h1, s _ _ h2, r⟩
theorem DrawOk.upd {H : Hp} {dr sc a : Addr} {o : HO} (d : DrawOk H dr sc) (h1 : a ≠ dr) (h2 : a ≠ sc) : DrawOk (L2.upd H a o) dr sc := by
  obtain ⟨ns, p, c, m, k, e1, e2, r⟩ := d.ex
  exact ⟨ns, p, c, m, k, by rw [upd_ne h1.symm]; exact e1, by rw [upd_ne h2.symm]; exact e2, r⟩
theorem DrawOk.ne {H : Hp} {dr sc a : Addr} (d : DrawOk H dr sc) (h : H a = none) : a ≠ dr ∧ a ≠ sc := by
  obtain ⟨ns, p, c, m, k, e1, e2, r⟩ := d.ex
  exact ⟨(ne_of_none e1 h).symm, (ne_of_none e2 h).symm⟩
noncomputable def spNames : Sp := fun vs H Q _ => ∃ (dr sc : Addr) (n : Nat), vs = [.ref dr, .int n] ∧ n ≤ 14 ∧ DrawOk H dr sc ∧
  ∀ l st late H', H l = none → st < 26 → H' l = some (.lst ((namesAt st late n).map V.str)) → l ≠ sc → DrawOk H' dr sc → But dr H H' → Q (.ref l) H'
noncomputable abbrev FnPick (P : Program) (w : World) (K : PySem.W.Frag) (mg : Str → Option Value) (base : Heap) : Prop := Fn P w K mg base CX0 1 "_law_pick" ["_law_draw", "_law_many"] spPick
noncomputable abbrev NNa : List Str := ["_law_draw", "_law_many", "_law_base", "_law_start", "_law_late", "_law_told", "_law_k", "_law_sign", "_law_hum"]
theorem sign_at {i : Nat} (h : i < 26) : atI baseS.cps.toList (i : Int) = some ((baseS.cps.toList).getD i 0) := by
  have hl : i < baseS.cps.toList.length := h
  refine atI_nat ?_
  rw [List.getElem?_eq_getElem hl]
  simp [List.getD, List.getElem?_eq_getElem hl]
theorem count_two {l : List Str} (h : l.Nodup) {row : List Str} (p : row.Perm (l ++ l)) : ∀ y ∈ row, row.count y = 2 := fun y hy => by
  rw [p.count_eq, List.count_append]
  have hy' : y ∈ l := by
    rcases List.mem_append.mp (p.mem_iff.mp hy) with z | z
    · exact z
    · exact z
  have e1 : l.count y ≤ 1 := List.nodup_iff_count.mp h y
  have e2 : 0 < l.count y := List.count_pos_iff.mpr hy'
  omega
theorem perm_more {A row more : List Str} {x : Str} (p : row.Perm (A ++ A)) (q : more.Perm (x :: x :: row)) : more.Perm ((A ++ [x]) ++ (A ++ [x])) := by
  refine q.trans (((p.cons x).cons x).trans ?_)
  have e : (A ++ [x]) ++ (A ++ [x]) = A ++ x :: (A ++ x :: []) := by simp
  rw [e]
  refine List.Perm.trans ?_ List.perm_middle.symm
  refine List.Perm.cons x ?_
  have e2 : A ++ (A ++ x :: []) = (A ++ A) ++ x :: [] := by simp
  rw [e2]
  refine List.Perm.trans ?_ List.perm_middle.symm
  simp
noncomputable def spRow : Sp := fun vs H Q _ => ∃ (dr sc nl : Addr) (ns : List Str), vs = [.ref dr, .ref nl] ∧ DrawOk H dr sc ∧ H nl = some (.lst (ns.map V.str)) ∧ nl ≠ dr ∧ ns.Nodup ∧ ns.length ≤ 14 ∧
  ∀ (l : Addr) (row : List Str) (H' : Hp), H l = none → H' l = some (.lst (row.map V.str)) → row.Perm (ns ++ ns) → DrawOk H' dr sc → But dr H H' → Q (.ref l) H'
noncomputable abbrev NRo : List Str := ["_law_draw", "_law_names_here", "_law_cut", "_law_row_here", "_law_name", "_law_at", "_law_to", "_law_more"]
noncomputable def spIsland : Sp := fun vs H Q _ => ∃ (dr sc : Addr) (m : Nat), vs = [.ref dr, .int m] ∧ m ≤ 14 ∧ DrawOk H dr sc ∧
  ∀ (l : Addr) (row : List Str) (n st : Nat) (late : Bool) (H' : Hp), H l = none → n ≤ m → st < 26 → H' l = some (.lst (row.map V.str)) → row.Perm (namesAt st late n ++ namesAt st late n) → DrawOk H' dr sc → But dr H H' → Q (.ref l) H'
noncomputable abbrev NIs : List Str := ["_law_draw", "_law_most", "_law_few", "_law_many"]
noncomputable def spTexts : Sp := fun vs H Q _ => ∃ (a : Addr) (row : List Str), vs = [.ref a] ∧ H a = some (.lst (row.map V.str)) ∧ row.length ≤ 1000 ∧ ∀ H', Same H H' → Q (.bl true) H'
theorem kit_same (K : PySem.W.Frag) (T : String) : PySem.W.kitOne K (.type T) (.type T) = some true := by
  unfold PySem.W.kitOne
  rw [if_pos (beq_self_eq_true _)]
theorem plc_range (row : List Str) (x : Str) : ((List.range row.length).filter fun i => decide (row.getD i Str.empty = x)).map (fun i : Nat => (i : Int)) = plc row x := by
  have go : ∀ n, n ≤ row.length → ((List.range n).filter fun i => decide (row.getD i Str.empty = x)).map (fun i : Nat => (i : Int)) = plc (row.take n) x := by
    intro n
    induction n with
    | zero => intro _; rfl
    | succ n ih =>
      intro h
      have hn : n < row.length := by omega
      have e : row.getD n Str.empty = row[n] := by simp [List.getD, hn]
      rw [List.range_succ, List.filter_append, List.map_append, ih (by omega), List.take_succ_eq_append_getElem hn, plc_snoc, List.filter_cons, e, List.length_take, Nat.min_eq_left (by omega)]
      by_cases q : row[n] = x
      · rw [if_pos q, if_pos (decide_eq_true q)]
        rfl
      · rw [if_neg q, if_neg (by simpa using q)]
        rfl
  rw [go _ (Nat.le_refl _), List.take_length]
noncomputable def okN (x : Str) : Prop := x.length ≤ 20 ∧ ∀ c ∈ x.cps.toList, c < 0x110000
noncomputable def spAsk (C : Addr) : Sp := fun vs H Q E => ∃ (r : Addr) (row : List Str) (x : Str), vs = [.ref r, .str x] ∧ H r = some (.lst (row.map V.str)) ∧ okN x ∧
  (x ∈ row → ∀ H', Same H H' → Q .non H') ∧ (x ∉ row → ∀ H', Same H H' → E (.ref C) none H')
noncomputable def spDitches : Sp := fun vs H Q _ => ∃ (r : Addr) (row : List Str), vs = [.ref r] ∧ H r = some (.lst (row.map V.str)) ∧ row.length ≤ 60 ∧
  ∀ l H', H l = none → H' l = some (.lst ((dit row).map V.str)) → Same H H' → Q (.ref l) H'
noncomputable def spEnds (C : Addr) : Sp := fun vs H Q E => ∃ (r : Addr) (row : List Str) (x : Str), vs = [.ref r, .str x] ∧ H r = some (.lst (row.map V.str)) ∧ okN x ∧ row.length ≤ 1000 ∧
  (x ∈ row → ∃ a b, plc row x = [a, b] ∧ ∀ l H', H l = none → H' l = some (.tup [.int a, .int b]) → Same H H' → Q (.ref l) H') ∧ (x ∉ row → ∀ H', Same H H' → E (.ref C) none H')
noncomputable def spLeft (C : Addr) : Sp := fun vs H Q E => ∃ (r : Addr) (row : List Str) (x : Str), vs = [.ref r, .str x] ∧ H r = some (.lst (row.map V.str)) ∧ okN x ∧ row.length ≤ 1000 ∧
  (x ∈ row → ∀ l H', H l = none → H' l = some (.lst ((row.filter fun y => decide (y ≠ x)).map V.str)) → Same H H' → Q (.ref l) H') ∧ (x ∉ row → ∀ H', Same H H' → E (.ref C) none H')
noncomputable abbrev NEn : List Str := ["row", "name", "found"]
noncomputable abbrev NEc : List Str := ["at", "end", "name"]
noncomputable abbrev NLc : List Str := ["end", "name"]
end SH

set_option Elab.async false
set_option linter.all false
set_option maxRecDepth 100000
set_option maxHeartbeats 4000000
namespace L2
open PySem PySem.Spec PyProof.Rows
theorem vstr_dec (x y : Str) : decide (V.str x = V.str y) = decide (x = y) := by
  by_cases z : x = y
  · rw [z]; simp
  · rw [decide_eq_false z, decide_eq_false (fun q => z (by injection q))]
theorem flatS (row : List Str) : ∀ v ∈ row.map V.str, flatV v = true := fun v h => by
  obtain ⟨x, _, rfl⟩ := List.mem_map.mp h
  rfl
theorem getD_map {α : Type} (f : α → V) (d : α) (xs : List α) {i : Nat} (hi : i < xs.length) : (xs.map f).getD i .non = f (xs.getD i d) := by simp [List.getD, hi]
end L2
namespace SH
open PySem PySem.Spec PyProof.Rows L2
theorem Wh.names {H : Hp} {kvs : List (Key × V)} {row : List Str} (w : Wh H kvs row) : ∃ ss : List Str, kvs.map (·.1) = ss.map (fun x => (Sum.inr x : Key)) ∧ ss.Nodup ∧ ∀ x, x ∈ ss ↔ x ∈ row := by
  have e : ∀ ks : List Key, (∀ k ∈ ks, ∃ x, k = Sum.inr x) → ∃ ss : List Str, ks = ss.map (fun x => (Sum.inr x : Key)) := by
    intro ks
    induction ks with
    | nil => intro _; exact ⟨[], rfl⟩
    | cons k r ih =>
      intro h
      obtain ⟨x, rfl⟩ := h k List.mem_cons_self
      obtain ⟨ss, rfl⟩ := ih fun k hk => h k (List.mem_cons_of_mem _ hk)
      exact ⟨x :: ss, rfl⟩
  obtain ⟨ss, hs⟩ := e (kvs.map (·.1)) fun k hk => by obtain ⟨x, h, _⟩ := w.keys k hk; exact ⟨x, h⟩
  have inj : ∀ x, x ∈ ss ↔ (Sum.inr x : Key) ∈ kvs.map (·.1) := fun x => by
    rw [hs, List.mem_map]
    constructor
    · exact fun h => ⟨x, h, rfl⟩
    · rintro ⟨y, hy, e⟩
      rw [← Sum.inr.inj e]; exact hy
  refine ⟨ss, hs, ?_, fun x => ?_⟩
  · have := w.nd
    rw [hs] at this
    exact List.Pairwise.of_map _ (fun a b hab e => hab (congrArg _ e)) this
  · rw [inj]
    constructor
    · intro h
      obtain ⟨y, e, hy⟩ := w.keys _ h
      rw [Sum.inr.inj e]; exact hy
    · intro h
      obtain ⟨l, e, _⟩ := w.val x h
      exact valV_in e
structure Isl (row : List Str) : Prop where
  ex : ∃ n st late, n ≤ 14 ∧ st < 26 ∧ row.Perm (namesAt st late n ++ namesAt st late n)
theorem names_sub {st n : Nat} {late : Bool} (hn : n ≤ 14) {x : Str} (h : x ∈ namesAt st late n) : x ∈ namesAt st late 14 := by
  unfold namesAt at h ⊢
  obtain ⟨i, hi, rfl⟩ := List.mem_map.mp h
  exact List.mem_map.mpr ⟨i, List.mem_range.mpr (by have := List.mem_range.mp hi; omega), rfl⟩
noncomputable instance (x : Str) : Decidable (okN x) := inferInstanceAs (Decidable (_ ∧ _))
theorem names_ok14 : ∀ st < 26, ∀ late : Bool, ∀ x ∈ namesAt st late 14, okN x := by decide +kernel
noncomputable def strangerOf : List Str → Str
  | [] => "noneatal"
  | y :: _ => Txt.slice y none (some 7) ++ Str.ofString "q"
theorem stranger14 : ∀ st < 26, ∀ late : Bool, ∀ y ∈ namesAt st late 14, okN (Txt.slice y none (some 7) ++ Str.ofString "q") ∧ Txt.slice y none (some 7) ++ Str.ofString "q" ∉ namesAt st late 14 := by decide +kernel
end SH

set_option Elab.async false
set_option linter.all false
set_option maxRecDepth 100000
set_option maxHeartbeats 4000000
namespace SH
open PySem PySem.Spec PyProof.Rows L2
theorem okN_plain {x : Str} (h : okN x) : plainD (.str x) = true := by
  show PyData.strOk x = true
  unfold PyData.strOk
  rw [← Array.all_toList, List.all_eq_true]
  intro c hc
  exact decide_eq_true (h.2 c hc)
theorem plc_mem {row : List Str} {x : Str} {i : Int} : i ∈ plc row x ↔ ∃ k : Nat, i = k ∧ row[k]? = some x := by
  rw [← plc_range, List.mem_map]
  constructor
  · rintro ⟨k, hk, rfl⟩
    obtain ⟨h1, h2⟩ := List.mem_filter.mp hk
    have hk' := List.mem_range.mp h1
    refine ⟨k, rfl, ?_⟩
    have := of_decide_eq_true h2
    rw [List.getElem?_eq_getElem hk']
    simpa [List.getD, hk'] using this
  · rintro ⟨k, rfl, hk⟩
    have hk' : k < row.length := (List.getElem?_eq_some_iff.mp hk).1
    refine ⟨k, List.mem_filter.mpr ⟨List.mem_range.mpr hk', decide_eq_true ?_⟩, rfl⟩
    simp [List.getD, hk]
theorem plc_lt (row : List Str) (x : Str) : (plc row x).Pairwise (· < ·) := by
  rw [← plc_range, List.pairwise_map]
  refine List.Pairwise.imp ?_ (List.Pairwise.filter _ (List.pairwise_lt_range (n := row.length)))
  intro a b h
  omega
noncomputable def pl (row : List Str) (x : Str) : Int × Int := ((plc row x).getD 0 0, (plc row x).getD 1 0)
theorem pl_of {row : List Str} {x : Str} {a b : Int} (h : plc row x = [a, b]) : pl row x = (a, b) := by
  unfold pl
  rw [h]
  rfl
theorem pl_plc {row : List Str} {x : Str} (h : row.count x = 2) : plc row x = [(pl row x).1, (pl row x).2] := by
  obtain ⟨a, b, e⟩ := two_plc h
  rw [pl_of e, e]
theorem pl_lt {row : List Str} {x : Str} (h : row.count x = 2) : (pl row x).1 < (pl row x).2 := by
  have h1 := plc_lt row x
  rw [pl_plc h] at h1
  simpa using h1
theorem pl_ne {row : List Str} {x y : Str} (hx : row.count x = 2) (hy : row.count y = 2) (n : x ≠ y) : (pl row x).1 ≠ (pl row y).1 ∧ (pl row x).1 ≠ (pl row y).2 ∧ (pl row x).2 ≠ (pl row y).1 ∧ (pl row x).2 ≠ (pl row y).2 := by
  have key : ∀ i, i ∈ plc row x → i ∈ plc row y → False := fun i h1 h2 => by
    obtain ⟨k, e1, g1⟩ := plc_mem.mp h1
    obtain ⟨m, e2, g2⟩ := plc_mem.mp h2
    have : k = m := by omega
    subst this
    rw [g1] at g2
    exact n (Option.some.inj g2)
  rw [pl_plc hx, pl_plc hy] at key
  refine ⟨fun e => key (pl row x).1 (by simp) (by rw [e]; simp), fun e => key (pl row x).1 (by simp) (by rw [e]; simp), fun e => key (pl row x).2 (by simp) (by rw [e]; simp), fun e => key (pl row x).2 (by simp) (by rw [e]; simp)⟩
theorem pl_nn {row : List Str} {x : Str} (h : row.count x = 2) : 0 ≤ (pl row x).1 ∧ (pl row x).2 < row.length := by
  have h1 : (pl row x).1 ∈ plc row x := by rw [pl_plc h]; simp
  have h2 : (pl row x).2 ∈ plc row x := by rw [pl_plc h]; simp
  obtain ⟨k, e1, g1⟩ := plc_mem.mp h1
  obtain ⟨m, e2, g2⟩ := plc_mem.mp h2
  have : m < row.length := (List.getElem?_eq_some_iff.mp g2).1
  omega
noncomputable def nIn (a b : Int) (ys : List Int) : Nat := (inn a b ys).length
theorem nIn2 (a b c e : Int) : nIn a b [c, e] = (if a < c ∧ c < b then 1 else 0) + (if a < e ∧ e < b then 1 else 0) := by
  unfold nIn inn
  simp only [List.filter_cons, List.filter_nil, Bool.and_eq_true, decide_eq_true_eq]
  split <;> split <;> rfl
noncomputable def lieT (a b c e : Int) : Str := if a = c ∧ b = e then "same" else if nIn c e [a, b] = 1 then "cross" else if nIn c e [a, b] = 2 then "within" else if nIn a b [c, e] = 2 then "around" else "apart"
theorem lie_word {a b c e : Int} (h1 : a < b) (h2 : c < e) (n1 : a ≠ c) (n2 : a ≠ e) (n3 : b ≠ c) (n4 : b ≠ e) : lieT a b c e = wordT a b c e false := by
  unfold lieT wordT
  rw [if_neg (fun z => n1 z.1)]
  have e1 := nIn2 a b c e
  have e2 := nIn2 c e a b
  have e3 : (inn a b [c, e]).length = nIn a b [c, e] := rfl
  rw [e3]
  generalize nIn a b [c, e] = p at *
  generalize nIn c e [a, b] = q at *
  by_cases p1 : a < c ∧ c < b <;> by_cases p2 : a < e ∧ e < b <;> by_cases q1 : c < a ∧ a < e <;> by_cases q2 : c < b ∧ b < e <;>
    (first | rw [if_pos p1] at e1 | rw [if_neg p1] at e1) <;> (first | rw [if_pos p2] at e1 | rw [if_neg p2] at e1) <;>
    (first | rw [if_pos q1] at e2 | rw [if_neg q1] at e2) <;> (first | rw [if_pos q2] at e2 | rw [if_neg q2] at e2) <;> subst e1 e2 <;> first
    | (exfalso; omega)
    | rfl
    | (have hw : (c < a ∧ b < e) := by omega
       rw [if_pos hw]; rfl)
    | (have hw : ¬ (c < a ∧ b < e) := by omega
       rw [if_neg hw]; rfl)
theorem lie_self {a b : Int} : lieT a b a b = wordT a b a b true := by
  unfold lieT wordT
  rw [if_pos ⟨rfl, rfl⟩, Bool.true_or, if_pos rfl]
  have e1 := nIn2 a b a b
  have e3 : (inn a b [a, b]).length = nIn a b [a, b] := rfl
  rw [e3, e1, if_neg (by omega), if_neg (by omega)]
  rfl
noncomputable def lieR (row : List Str) (x y : Str) : Str := lieT (pl row x).1 (pl row x).2 (pl row y).1 (pl row y).2
theorem lieR_word {row : List Str} {x y : Str} (hx : row.count x = 2) (hy : row.count y = 2) : lieR row x y = wordT (pl row x).1 (pl row x).2 (pl row y).1 (pl row y).2 (decide (x = y)) := by
  unfold lieR
  by_cases n : x = y
  · subst n
    rw [decide_eq_true rfl]
    exact lie_self
  · rw [decide_eq_false n]
    obtain ⟨n1, n2, n3, n4⟩ := pl_ne hx hy n
    exact lie_word (pl_lt hx) (pl_lt hy) n1 n2 n3 n4
noncomputable def crs (row : List Str) : List (Str × Str) := (dit row).flatMap fun x => ((dit row).filter fun y => decide (ltS x y) && decide (lieR row x y = "cross")).map fun y => (x, y)
noncomputable def prD (p : Str × Str) : PyData := .tuple [.str p.1, .str p.2]
theorem prD_inj (p q : Str × Str) (h : prD p = prD q) : p = q := by
  unfold prD at h
  injection h with h
  injection h with h1 h2
  injection h2 with h2 _
  injection h1 with h1
  injection h2 with h2
  exact Prod.ext h1 h2
theorem prD_plain {p : Str × Str} (h1 : okN p.1) (h2 : okN p.2) : plainD (prD p) = true := by
  show (plainD (.str p.1) && (plainD (.str p.2) && true)) = true
  rw [okN_plain h1, okN_plain h2]
  rfl
structure Spn (H : Hp) (kvs : List (Key × V)) (row : List Str) (ns : List Str) : Prop where
  keys : kvs.map (·.1) = ns.map (fun x => (Sum.inr x : Key))
  val : ∀ x ∈ ns, ∃ l, valV kvs (Sum.inr x : Key) = some (.ref l) ∧ H l = some (.tup [.int (pl row x).1, .int (pl row x).2])
theorem Spn.mono {H H' : Hp} {kvs : List (Key × V)} {row ns : List Str} (s : Spn H kvs row ns) (h : Same H H') : Spn H' kvs row ns := ⟨s.keys, fun x hx => by obtain ⟨l, h1, h2⟩ := s.val x hx; exact ⟨l, h1, h _ _ h2⟩⟩
end SH

set_option Elab.async false
set_option linter.all false
set_option maxRecDepth 100000
set_option maxHeartbeats 4000000
namespace L2
open PySem
theorem hu3 {A : Around} {k : Nat} (hr : Room k A) : A.units + 3 < cLine := by have := hr.units; omega
theorem hu4 {A : Around} {k : Nat} (hr : Room k A) : A.units + 4 < cLine := by have := hr.units; omega
end L2
namespace SH
open PySem PySem.Spec PyProof.Rows L2
structure Row2 (row : List Str) : Prop where
  two : ∀ y ∈ row, row.count y = 2
  ok : ∀ y ∈ row, okN y
  len : row.length ≤ 60
noncomputable def spSpans : Sp := fun vs H Q _ => ∃ (r : Addr) (row : List Str), vs = [.ref r] ∧ H r = some (.lst (row.map V.str)) ∧ Row2 row ∧
  ∀ d kvs H', H d = none → H' d = some (.dK kvs) → Spn H' kvs row (dit row) → Same H H' → Q (.ref d) H'
noncomputable def Lie4 (a b c e : Int) : Prop := c ≤ e ∧ (b = e → a = c)
theorem lie4 {row : List Str} {x y : Str} (hx : row.count x = 2) (hy : row.count y = 2) : Lie4 (pl row x).1 (pl row x).2 (pl row y).1 (pl row y).2 :=
  ⟨Int.le_of_lt (pl_lt hy), fun e => by
    by_cases n : x = y
    · rw [n]
    · exact absurd e (pl_ne hx hy n).2.2.2⟩
theorem lie_cr {a b c e : Int} (n : ¬ (a = c ∧ b = e)) (h : ((decide (c < a) && decide (a < e)) == (decide (c < b) && decide (b < e))) = false) : lieT a b c e = "cross" := by
  unfold lieT
  rw [if_neg n, if_pos]
  rw [nIn2]
  rw [← Bool.decide_and, ← Bool.decide_and] at h
  by_cases q1 : c < a ∧ a < e <;> by_cases q2 : c < b ∧ b < e <;> simp [q1, q2] at h ⊢
theorem lie_wi {a b c e : Int} (n : ¬ (a = c ∧ b = e)) (h : ((decide (c < a) && decide (a < e)) == (decide (c < b) && decide (b < e))) = true) (h2 : (decide (c < a) && decide (a < e)) = true) : lieT a b c e = "within" := by
  unfold lieT
  rw [h2, beq_iff_eq] at h
  simp only [Bool.and_eq_true, decide_eq_true_eq] at h2
  have h3 : c < b ∧ b < e := by simpa using h.symm
  rw [if_neg n, nIn2, if_pos h2, if_pos h3, if_neg (by decide), if_pos rfl]
theorem lie_out {a b c e : Int} (l : Lie4 a b c e) (n : ¬ (a = c ∧ b = e)) (h : ((decide (c < a) && decide (a < e)) == (decide (c < b) && decide (b < e))) = true) (h2 : (decide (c < a) && decide (a < e)) = false) : lieT a b c e = if (decide (a < c) && decide (c < b)) = true then "around" else "apart" := by
  unfold lieT
  rw [h2, beq_iff_eq] at h
  have h2 : ¬ (c < a ∧ a < e) := fun z => by rw [decide_eq_true z.1, decide_eq_true z.2] at h2; cases h2
  have h3 : ¬ (c < b ∧ b < e) := fun z => by rw [decide_eq_true z.1, decide_eq_true z.2] at h; cases h
  rw [if_neg n, nIn2, if_neg h2, if_neg h3, if_neg (by decide), if_neg (by decide), nIn2]
  obtain ⟨l1, l2⟩ := l
  have key : a < c ∧ c < b → a < e ∧ e < b := fun z => by
    have : b ≠ e := fun q => n ⟨l2 q, q⟩
    omega
  by_cases q : a < c ∧ c < b
  · rw [if_pos q, if_pos (key q), if_pos rfl, if_pos (by simp [q])]
  · rw [if_neg q, if_neg (by split <;> decide), if_neg (by simpa using q)]
noncomputable def spLieOf : Sp := fun vs H Q _ => ∃ (p q : Addr) (a b c e : Int), vs = [.ref p, .ref q] ∧ H p = some (.tup [.int a, .int b]) ∧ H q = some (.tup [.int c, .int e]) ∧ Lie4 a b c e ∧ ∀ H', Same H H' → Q (.str (lieT a b c e)) H'
theorem tChain_ii {ta tb tc : TE} {σ : L2.St} {H : Hp} {Q : VK} {x y z : Int} (ha : ∀ Q' : VK, Q' (.int x) H → ta σ H Q') (hb : ∀ Q' : VK, Q' (.int y) H → tb σ H Q') (hc : ∀ Q' : VK, Q' (.int z) H → tc σ H Q') (h : Q (.bl (decide (x < y) && decide (y < z))) H) :
    tChain (rI0 fun i j => .bl (decide (i < j))) (rI0 fun i j => .bl (decide (i < j))) ta tb tc σ H Q := by
  refine ha _ (hb _ ⟨x, y, rfl, rfl, _, rfl, ?_⟩)
  refine ite2b (fun q => hc _ ⟨y, z, rfl, rfl, ?_⟩) (fun q => ?_)
  · rw [q, Bool.true_and] at h
    exact h
  · rw [q, Bool.false_and] at h
    exact h
noncomputable def spLie (C : Addr) : Sp := fun vs H Q E => ∃ (r : Addr) (row : List Str) (x y : Str), vs = [.ref r, .str x, .str y] ∧ H r = some (.lst (row.map V.str)) ∧ Row2 row ∧ okN x ∧ okN y ∧
  (x ∈ row → y ∈ row → ∀ H', Same H H' → Q (.str (lieR row x y)) H') ∧ (¬ (x ∈ row ∧ y ∈ row) → ∀ H', Same H H' → E (.ref C) none H')
noncomputable def spCrossings : Sp := fun vs H Q _ => ∃ (r : Addr) (row : List Str), vs = [.ref r] ∧ H r = some (.lst (row.map V.str)) ∧ Row2 row ∧
  ∀ l xs H', H l = none → H' l = some (.lst xs) → DAll (hid l H') ((crs row).map prD) xs → Same H H' → Q (.ref l) H'
noncomputable abbrev NSp : List Str := ["name", "row"]
noncomputable abbrev NBt : List Str := ["place", "span"]
noncomputable abbrev NLo : List Str := ["here", "there", "first", "last"]
noncomputable abbrev NCr : List Str := ["row", "span"]
noncomputable abbrev NCc : List Str := ["one", "other", "span"]
theorem Spn.snoc {H H' : Hp} {kvs : List (Key × V)} {row ns : List Str} {x : Str} {l : Addr} (s : Spn H kvs row ns) (nx : x ∉ ns) (h : H' l = some (.tup [.int (pl row x).1, .int (pl row x).2])) (k : ∀ b xs, H b = some (.tup xs) → H' b = some (.tup xs)) :
    Spn H' (putK kvs (Sum.inr x) (.ref l)) row (ns ++ [x]) := by
  have hn : valV kvs (Sum.inr x : Key) = none := by
    cases e : valV kvs (Sum.inr x : Key) with
    | none => rfl
    | some v =>
      exfalso
      have := valV_in e
      rw [s.keys] at this
      obtain ⟨y, hy, e2⟩ := List.mem_map.mp this
      rw [Sum.inr.inj e2] at hy
      exact nx hy
  refine ⟨by rw [putK_new _ hn, List.map_append, List.map_append, s.keys]; rfl, fun y hy => ?_⟩
  rw [valV_put]
  by_cases e : y = x
  · subst e
    exact ⟨l, if_pos rfl, h⟩
  · have hy' : y ∈ ns := by
      rcases List.mem_append.mp hy with z | z
      · exact z
      · exact absurd (List.mem_singleton.mp z) e
    obtain ⟨l0, h1, h2⟩ := s.val y hy'
    exact ⟨l0, by rw [if_neg (fun z => e (Sum.inr.inj z))]; exact h1, k _ _ h2⟩
theorem Spn.get {H : Hp} {kvs : List (Key × V)} {row ns : List Str} {d : Addr} {x : Str} (s : Spn H kvs row ns) (hd : Rd H d (.dK kvs)) (hx : x ∈ ns) : ∃ l, DGet H d (.str x) (some (.ref l)) ∧ H l = some (.tup [.int (pl row x).1, .int (pl row x).2]) := by
  obtain ⟨l, h1, h2⟩ := s.val x hx
  exact ⟨l, DGet.rd hd h1, h2⟩
theorem Spn.at {H : Hp} {kvs : List (Key × V)} {row ns : List Str} (s : Spn H kvs row ns) (i : Nat) (hi : i < ns.length) : (kvs.map fun p => kV p.1).getD i .non = .str (ns.getD i Str.empty) := by
  have e : (kvs.map fun p => kV p.1) = ns.map V.str := by
    have : (kvs.map fun p => kV p.1) = (kvs.map (·.1)).map kV := by rw [List.map_map]; rfl
    rw [this, s.keys, List.map_map]
    rfl
  rw [e]
  exact getD_map V.str Str.empty ns hi
theorem Spn.len {H : Hp} {kvs : List (Key × V)} {row ns : List Str} (s : Spn H kvs row ns) : kvs.length = ns.length := by
  have := congrArg List.length s.keys
  simpa using this
theorem mem_getD {ns : List Str} {i : Nat} (hi : i < ns.length) : ns.getD i Str.empty ∈ ns := by
  have : ns.getD i Str.empty = ns[i] := by simp [List.getD, hi]
  rw [this]
  exact List.getElem_mem hi
theorem dall_strs_inv {H : Hp} : ∀ {ss : List Str} {xs : List V}, DAll H (ss.map PyData.str) xs → xs = ss.map V.str
  | [], xs, h => by unfold List.map DAll at h; exact h
  | s :: ss, xs, h => by
    rw [List.map_cons] at h
    unfold DAll at h
    obtain ⟨v, r, rfl, h1, h2⟩ := h
    unfold DAt at h1
    rw [h1, dall_strs_inv h2]
    rfl
theorem crs_mem {row : List Str} {p : Str × Str} (h : p ∈ crs row) : p.1 ∈ row ∧ p.2 ∈ row := by
  unfold crs at h
  obtain ⟨x, hx, h2⟩ := List.mem_flatMap.mp h
  obtain ⟨y, hy, rfl⟩ := List.mem_map.mp h2
  exact ⟨dit_mem.mp hx, dit_mem.mp (List.mem_filter.mp hy).1⟩
theorem crs_plain {row : List Str} (h : ∀ y ∈ row, okN y) : plainD (.list ((crs row).map prD)) = true :=
  plainAll_map prD (crs row) fun p hp => prD_plain (h _ (crs_mem hp).1) (h _ (crs_mem hp).2)
noncomputable def spInt : Sp := fun vs H Q _ => ∃ i : Int, vs = [.int i] ∧ Q (.bl true) H
noncomputable def spStranger : Sp := fun vs H Q _ => ∃ (r : Addr) (row : List Str), vs = [.ref r] ∧ H r = some (.lst (row.map V.str)) ∧ (∀ y ∈ row, y.length ≤ 20) ∧ ∀ H', Same H H' → Q (.str (strangerOf row)) H'
noncomputable def spTuple : Sp := fun vs H Q _ => ∃ (v : V) (ss : List Str), vs = [v] ∧ DAt H (.tuple (ss.map PyData.str)) v ∧ ss.length ≤ 1000 ∧ ∀ H', Same H H' → Q (.bl true) H'
end SH

set_option Elab.async false
set_option linter.all false
set_option maxRecDepth 100000
set_option maxHeartbeats 4000000
namespace SH
open PySem PySem.Spec PyProof.Rows L2
noncomputable def allowsT (how : Str) (off : Bool) : Bool := if how = "within" then off else (!decide (how = "apart") || !off)
noncomputable def told (ss : List Str) : List Str := srt (ddup ss)
noncomputable def isPlotB (row plot : List Str) : Bool := decide (plot = told plot) && plot.all (fun x => decide (x ∈ row)) && plot.all fun x => (dit row).all fun y => allowsT (lieR row x y) (decide (y ∈ plot))
noncomputable def trD (t : Str × Str × Str) : PyData := .tuple [.str t.1, .str t.2.1, .str t.2.2]
noncomputable def barB (row : List Str) (x y : Str) : Bool := decide (lieR row x y = "within") || (decide (lieR row x y = "apart") && decide (ltS x y))
noncomputable def bars (row : List Str) : List (Str × Str × Str) := (dit row).flatMap fun x => ((dit row).filter (barB row x)).map fun y => (x, y, lieR row x y)
noncomputable def fitsB (bs : List (Str × Str × Str)) (plot : List Str) : Bool := bs.all fun t => !(decide (t.1 ∈ plot) && !decide (decide (t.2.1 ∈ plot) = decide (t.2.2 = "within")))
noncomputable def goodB (row plot : List Str) : Bool := decide (plot = (dit row).filter fun y => decide (y ∈ plot)) && fitsB (bars row) plot
theorem lieR_self (row : List Str) (x : Str) : lieR row x x = "same" := by
  unfold lieR lieT
  rw [if_pos ⟨rfl, rfl⟩]
end SH

set_option Elab.async false
set_option linter.all false
set_option maxRecDepth 100000
set_option maxHeartbeats 4000000
namespace SH
open PySem PySem.Spec PyProof.Rows L2
theorem strs_plain {ss : List Str} (h : ∀ y ∈ ss, okN y) : plainAll (ss.map PyData.str) = true := plainAll_map PyData.str ss fun x hx => okN_plain (h x hx)
theorem tup_plain {ss : List Str} (h : ∀ y ∈ ss, okN y) : plainD (.tuple (ss.map PyData.str)) = true := strs_plain h
theorem lst_plain {ss : List Str} (h : ∀ y ∈ ss, okN y) : plainD (.list (ss.map PyData.str)) = true := strs_plain h
theorem depth_strs : ∀ (ss : List Str), PyData.depthAll (ss.map PyData.str) = 0
  | [] => rfl
  | s :: ss => by
    rw [List.map_cons]
    unfold PyData.depthAll
    rw [depth_strs ss]
    rfl
theorem dat_tups {H : Hp} {p : Addr} {ss : List Str} (h : H p = some (.tup (ss.map V.str))) : DAt H (.tuple (ss.map PyData.str)) (.ref p) := dat_tup h (dall_strs ss)
noncomputable def spTold (K : PySem.W.Frag) : Sp := fun vs H Q _ => ∃ (p : Addr) (ss : List Str), vs = [.ref p] ∧ (SqL K H p (ss.map V.str) ∨ SqT K H p (ss.map V.str)) ∧ ss.length ≤ 60 ∧
  ∀ l H', H l = none → H' l = some (.tup ((told ss).map V.str)) → Same H H' → Q (.ref l) H'
noncomputable def spAllows : Sp := fun vs H Q _ => ∃ (how : Str) (off : Bool), vs = [.str how, .bl off] ∧ Q (.bl (allowsT how off)) H
noncomputable def spIsPlot : Sp := fun vs H Q _ => ∃ (r p : Addr) (row ss : List Str), vs = [.ref r, .ref p] ∧ H r = some (.lst (row.map V.str)) ∧ Row2 row ∧ H p = some (.tup (ss.map V.str)) ∧ (∀ y ∈ ss, okN y) ∧ ss.length ≤ 60 ∧
  ∀ H', Same H H' → Q (.bl (isPlotB row ss)) H'
noncomputable abbrev NIp : List Str := ["row", "plot", "span"]
noncomputable abbrev NI1 : List Str := ["name", "span"]
noncomputable abbrev NI2 : List Str := ["name", "other", "plot", "span"]
theorem all_range {α : Type} (d : α) (p : α → Bool) (xs : List α) : ((List.range xs.length).map fun i => p (xs.getD i d)).all id = xs.all p := by
  have e : (List.range xs.length).map (fun i => p (xs.getD i d)) = xs.map p := by
    have := filt_range d (fun _ => true) xs
    rw [List.filter_eq_self.mpr (fun _ _ => rfl), List.filter_eq_self.mpr (fun _ _ => rfl)] at this
    conv => rhs; rw [← this]
    rw [List.map_map]
    rfl
  rw [e, List.all_map]
  rfl
end SH

set_option Elab.async false
set_option linter.all false
set_option maxRecDepth 100000
set_option maxHeartbeats 4000000
namespace L2
open PySem PySem.Spec PyProof.Rows
theorem pe_bmK {X : Cx} {o e : Expr} {es : List Expr} {to : TE} {t : TA} {name : Str} {apos cpos : Pos} {T id : String} {r : V → List V → Hp → VK → Prop} (K : PySem.W.Frag) (hK : X.K = K) (pa : PlainAttrs T) (slot : Slot T name id) (hty : typeOf (.builtin id) = pure (.type "method_descriptor")) (hm : MtR X id r) (ho : PE X o to) (ha : PA X (e :: es) t)
    (hbase : attributeBase o name X.env (eval o X.env) = eval o X.env := by rfl)
    (hfew : ((backTo cpos (starEach (e :: es) X.env)).all (fun x => !x.1) && (backToKw cpos (keywordEach [] X.env)).all (fun x => x.1.isSome)
      && decide ((e :: es).length + ([] : List Keyword).length + (if ([] : List Keyword).isEmpty then 0 else 1) < 30)) = true := by rfl)
    (hline : (apos.endLine == cpos.line) = true := by rfl) (hs : starEach (e :: es) X.env = (false, eval e X.env) :: starEach es X.env := by rfl) (hplain : (backTo cpos (starEach es X.env)).any (·.1) = false := by rfl) :
    PE X (.Call (.Attribute o name apos) (e :: es) [] cpos) (tBM K T r to t) := by
  subst hK
  exact pe_bm pa slot hty hm ho ha hbase hfew hline hs hplain
noncomputable def tSsetV (K : PySem.W.Frag) (i : Nat) : TE := fun σ H Q => ∃ v, σ[i]? = some (some v) ∧ ∃ p ss, v = .ref p ∧ (SqL K H p (ss.map V.str) ∨ SqT K H p (ss.map V.str)) ∧ ss.length ≤ 60 ∧ ∀ l H', H l = none → H' l = some (.lst ((dit ss).map V.str)) → Same H H' → Q (.ref l) H'
end L2
namespace SH
open PySem PySem.Spec PyProof.Rows L2
noncomputable def spChoice : Sp := fun vs H Q _ => ∃ (dr sc r : Addr) (row : List Str), vs = [.ref dr, .ref r] ∧ DrawOk H dr sc ∧ H r = some (.lst (row.map V.str)) ∧ r ≠ dr ∧ row.length ≤ 60 ∧
  ∀ (p : Addr) (ss : List Str) (H' : Hp), H' p = some (.tup (ss.map V.str)) → (∀ y ∈ ss, y ∈ row) → ss.length ≤ (dit row).length → DrawOk H' dr sc → But dr H H' → Q (.ref p) H'
noncomputable def seenT (row : List Str) (g : Nat) : List Str := (dit (row.take g)).filter fun x => decide ((row.take g).count x = 1)
noncomputable def spSeen : Sp := fun vs H Q _ => ∃ (r : Addr) (row : List Str) (g : Nat), vs = [.ref r, .int g] ∧ H r = some (.lst (row.map V.str)) ∧ row.length ≤ 60 ∧ g ≤ row.length ∧
  ∀ p H', H p = none → H' p = some (.tup ((seenT row g).map V.str)) → Same H H' → Q (.ref p) H'
noncomputable def flipT (ss : List Str) (x : Str) : List Str := srt (ss.filter (fun y => decide (y ≠ x)) ++ (if x ∈ ss then [] else [x]))
noncomputable def spFlip : Sp := fun vs H Q _ => ∃ (p : Addr) (ss : List Str) (x : Str), vs = [.ref p, .str x] ∧ H p = some (.tup (ss.map V.str)) ∧ ss.length ≤ 60 ∧
  ∀ q H', H q = none → H' q = some (.tup ((flipT ss x).map V.str)) → Same H H' → Q (.ref q) H'
noncomputable def spOdd : Sp := fun vs H Q _ => ∃ (dr sc r p : Addr) (row ss : List Str), vs = [.ref dr, .ref r, .ref p] ∧ DrawOk H dr sc ∧ H r = some (.lst (row.map V.str)) ∧ r ≠ dr ∧ Isl row ∧ H p = some (.tup (ss.map V.str)) ∧ (∀ y ∈ ss, okN y) ∧ ss.length ≤ 50 ∧
  ∀ (q : Addr) (ss' : List Str) (H' : Hp), H' q = some (.tup (ss'.map V.str)) → (∀ y ∈ ss', okN y) → ss'.length ≤ ss.length + 1 → DrawOk H' dr sc → But dr H H' → Q (.ref q) H'
noncomputable def spFits : Sp := fun vs H Q _ => ∃ (b p : Addr) (xs : List V) (bs : List (Str × Str × Str)) (ss : List Str), vs = [.ref b, .ref p] ∧ H b = some (.lst xs) ∧ DAll H (bs.map trD) xs ∧ H p = some (.tup (ss.map V.str)) ∧
  ∀ H', Same H H' → Q (.bl (fitsB bs ss)) H'
noncomputable def spBars : Sp := fun vs H Q _ => ∃ (r : Addr) (row : List Str), vs = [.ref r] ∧ H r = some (.lst (row.map V.str)) ∧ Row2 row ∧
  ∀ l xs H', H l = none → H' l = some (.lst xs) → DAll H' ((bars row).map trD) xs → Same H H' → Q (.ref l) H'
noncomputable def spGood : Sp := fun vs H Q _ => ∃ (r p : Addr) (row ss : List Str), vs = [.ref r, .ref p] ∧ H r = some (.lst (row.map V.str)) ∧ Row2 row ∧ H p = some (.tup (ss.map V.str)) ∧ (∀ y ∈ ss, okN y) ∧ ss.length ≤ 60 ∧
  ∀ H', Same H H' → Q (.bl (goodB row ss)) H'
noncomputable def barPart (row : List Str) (x : Str) (ys : List Str) : List (Str × Str × Str) := (ys.filter (barB row x)).map fun y => (x, y, lieR row x y)
noncomputable def barUpto (row : List Str) (i : Nat) : List (Str × Str × Str) := ((dit row).take i).flatMap fun x => barPart row x (dit row)
noncomputable abbrev NCh : List Str := ["_law_draw", "_law_row_here"]
noncomputable abbrev NCh1 : List Str := ["_law_name", "_law_draw"]
noncomputable abbrev NSe : List Str := ["_law_row_here", "_law_gap", "_law_ahead"]
noncomputable abbrev NSe1 : List Str := ["_law_name", "_law_ahead"]
noncomputable abbrev NFl : List Str := ["_law_plot", "_law_name"]
noncomputable abbrev NFl1 : List Str := ["_law_one", "_law_name"]
noncomputable abbrev NOd : List Str := ["_law_draw", "_law_row_here", "_law_plot", "_law_way", "_law_at", "_law_name"]
noncomputable abbrev NFi : List Str := ["_law_bars_here", "_law_plot", "_law_one", "_law_other", "_law_word_here"]
noncomputable abbrev NBr : List Str := ["_law_row_here", "_law_where_here", "_law_told", "_law_one", "_law_other", "_law_word_here"]
noncomputable abbrev NGo : List Str := ["_law_row_here", "_law_plot"]
noncomputable abbrev NGo1 : List Str := ["_law_name", "_law_plot"]
end SH

set_option Elab.async false
set_option linter.all false
set_option maxRecDepth 100000
set_option maxHeartbeats 4000000
namespace SH
open PySem PySem.Spec PyProof.Rows L2
noncomputable def spAskPlot (C : Addr) : Sp := fun vs H Q E => ∃ (r p : Addr) (row ss : List Str), vs = [.ref r, .ref p] ∧ H r = some (.lst (row.map V.str)) ∧ Row2 row ∧ H p = some (.tup (ss.map V.str)) ∧ (∀ y ∈ ss, okN y) ∧ ss.length ≤ 24 ∧
  (isPlotB row ss = true → ∀ H', Same H H' → Q .non H') ∧ (isPlotB row ss = false → ∀ H', Same H H' → E (.ref C) none H')
noncomputable def spAtGap (C : Addr) : Sp := fun vs H Q E => ∃ (r : Addr) (row : List Str) (g : Int), vs = [.ref r, .int g] ∧ H r = some (.lst (row.map V.str)) ∧ row.length ≤ 60 ∧ -1000 ≤ g ∧ g ≤ 2000 ∧
  (∀ n : Nat, g = n → n ≤ row.length → ∀ p H', H p = none → H' p = some (.tup ((seenT row n).map V.str)) → Same H H' → Q (.ref p) H') ∧ (¬ (0 ≤ g ∧ g ≤ row.length) → ∀ H', Same H H' → E (.ref C) none H')
noncomputable def gapsT (row ss : List Str) : List Int := ((List.range (row.length + 1)).filter fun g => decide (seenT row g = ss)).map fun g : Nat => (g : Int)
noncomputable def spGaps (C : Addr) : Sp := fun vs H Q E => ∃ (r p : Addr) (row ss : List Str), vs = [.ref r, .ref p] ∧ H r = some (.lst (row.map V.str)) ∧ Row2 row ∧ H p = some (.tup (ss.map V.str)) ∧ (∀ y ∈ ss, okN y) ∧ ss.length ≤ 24 ∧
  (isPlotB row ss = true → ∀ l H', H l = none → H' l = some (.lst ((gapsT row ss).map V.int)) → Same H H' → Q (.ref l) H') ∧ (isPlotB row ss = false → ∀ H', Same H H' → E (.ref C) none H')
noncomputable def spBankOf : Sp := fun vs H Q _ => ∃ (p : Addr) (ss : List Str) (x : Str), vs = [.ref p, .str x] ∧ H p = some (.tup (ss.map V.str)) ∧ ∀ H', Same H H' → Q (.str (if x ∈ ss then "off" else "home")) H'
noncomputable def spBank (C D : Addr) : Sp := fun vs H Q E => ∃ (r p : Addr) (row ss : List Str) (x : Str), vs = [.ref r, .ref p, .str x] ∧ H r = some (.lst (row.map V.str)) ∧ Row2 row ∧ H p = some (.tup (ss.map V.str)) ∧ (∀ y ∈ ss, okN y) ∧ ss.length ≤ 24 ∧ okN x ∧
  (isPlotB row ss = true → x ∈ row → ∀ H', Same H H' → Q (.str (if x ∈ ss then "off" else "home")) H') ∧ (isPlotB row ss = false → ∀ H', Same H H' → E (.ref C) none H') ∧ (isPlotB row ss = true → x ∉ row → ∀ H', Same H H' → E (.ref D) none H')
noncomputable abbrev NAg : List Str := ["row", "gap", "ahead"]
noncomputable abbrev NAg1 : List Str := ["name", "ahead"]
noncomputable abbrev NGp1 : List Str := ["gap", "plot", "row"]
end SH
namespace SH
open PySem PySem.Spec PyProof.Rows L2
noncomputable def seensD (row : List Str) : List PyData := (List.range (row.length + 1)).map fun g => .tuple ((seenT row g).map PyData.str)
end SH

set_option Elab.async false
set_option linter.all false
set_option maxRecDepth 100000
set_option maxHeartbeats 4000000
namespace SH
open PySem PySem.Spec PyProof.Rows L2
noncomputable def mid (row : List Str) (x : Str) : List Str := ((row.dropWhile fun y => decide (y ≠ x)).tail).takeWhile fun y => decide (y ≠ x)
theorem ne_dec {x y : Str} {r : List Str} (h : x ∉ y :: r) : decide (y ≠ x) = true := by
  have : y ≠ x := fun e => h (by rw [e]; exact List.mem_cons_self)
  simpa using this
theorem drop_split {A R : List Str} {x : Str} (h : x ∉ A) : (A ++ x :: R).dropWhile (fun y => decide (y ≠ x)) = x :: R := by
  induction A with
  | nil => rw [List.nil_append, List.dropWhile_cons, if_neg (by simp)]
  | cons y r ih =>
    rw [List.cons_append, List.dropWhile_cons, if_pos (ne_dec h)]
    exact ih fun z => h (List.mem_cons_of_mem _ z)
theorem take_split {A R : List Str} {x : Str} (h : x ∉ A) : (A ++ x :: R).takeWhile (fun y => decide (y ≠ x)) = A := by
  induction A with
  | nil => rw [List.nil_append, List.takeWhile_cons, if_neg (by simp)]
  | cons y r ih =>
    rw [List.cons_append, List.takeWhile_cons, if_pos (ne_dec h)]
    rw [ih fun z => h (List.mem_cons_of_mem _ z)]
theorem mid_split {A B C : List Str} {x : Str} (hA : x ∉ A) (hB : x ∉ B) : mid (A ++ x :: (B ++ x :: C)) x = B := by
  unfold mid
  rw [drop_split hA, List.tail_cons, take_split hB]
theorem split1 {x : Str} : ∀ {row : List Str}, x ∈ row → ∃ A R, row = A ++ x :: R ∧ x ∉ A := by
  intro row
  induction row with
  | nil => intro h; cases h
  | cons y r ih =>
    intro h
    by_cases e : x = y
    · exact ⟨[], r, by rw [e]; rfl, by simp⟩
    · obtain ⟨A, R, h1, h2⟩ := ih ((List.mem_cons.mp h).resolve_left e)
      exact ⟨y :: A, R, by rw [h1]; rfl, fun z => (List.mem_cons.mp z).elim e h2⟩
theorem split2 {row : List Str} {x : Str} (h : row.count x = 2) : ∃ A B C, row = A ++ x :: (B ++ x :: C) ∧ x ∉ A ∧ x ∉ B ∧ x ∉ C := by
  obtain ⟨A, R, h1, h2⟩ := split1 (List.count_pos_iff.mp (by omega : 0 < row.count x))
  rw [h1, List.count_append, List.count_eq_zero.mpr h2, List.count_cons_self] at h
  have hR : R.count x = 1 := by omega
  obtain ⟨B, C, h3, h4⟩ := split1 (List.count_pos_iff.mp (by omega : 0 < R.count x))
  rw [h3, List.count_append, List.count_eq_zero.mpr h4, List.count_cons_self] at hR
  exact ⟨A, B, C, by rw [h1, h3], h2, h4, List.count_eq_zero.mp (by omega)⟩
theorem plcF_app (x : Str) : ∀ (n : Nat) (l r : List Str), plcF x n (l ++ r) = plcF x n l ++ plcF x (n + l.length) r
  | n, [], r => rfl
  | n, y :: l, r => by
    have ih := plcF_app x (n + 1) l r
    have e : n + (y :: l).length = n + 1 + l.length := by rw [List.length_cons]; omega
    rw [e]
    show (if y = x then (n : Int) :: plcF x (n + 1) (l ++ r) else plcF x (n + 1) (l ++ r)) = (if y = x then (n : Int) :: plcF x (n + 1) l else plcF x (n + 1) l) ++ _
    rw [ih]
    split <;> rfl
theorem plcF_rng (x : Str) : ∀ (n : Nat) (l : List Str), ∀ i ∈ plcF x n l, (n : Int) ≤ i ∧ i < n + l.length
  | n, [] => fun i h => by cases h
  | n, y :: l => fun i h => by
    have ih := plcF_rng x (n + 1) l
    have h' : i = n ∨ i ∈ plcF x (n + 1) l := by
      change i ∈ (if y = x then (n : Int) :: plcF x (n + 1) l else plcF x (n + 1) l) at h
      split at h
      · exact List.mem_cons.mp h
      · exact .inr h
    rw [List.length_cons]
    rcases h' with rfl | h'
    · omega
    · have := ih i h'
      omega
theorem plcF_out {x : Str} : ∀ (n : Nat) (l : List Str), x ∉ l → plcF x n l = []
  | _, [], _ => rfl
  | n, y :: l, h => by
    show (if y = x then (n : Int) :: plcF x (n + 1) l else plcF x (n + 1) l) = []
    rw [if_neg (fun e => h (by rw [e]; exact List.mem_cons_self))]
    exact plcF_out _ _ fun z => h (List.mem_cons_of_mem _ z)
theorem inn_mid {row : List Str} {x y : Str} (hx : row.count x = 2) (n : x ≠ y) : nIn (pl row x).1 (pl row x).2 (plc row y) = (mid row x).count y := by
  obtain ⟨A, B, C, e, hA, hB, hC⟩ := split2 hx
  have ex : plc row x = [(A.length : Int), ((A.length + 1 + B.length : Nat) : Int)] := by
    unfold plc
    rw [e, plcF_app, plcF_out _ _ hA]
    show [] ++ (if x = x then _ else _) = _
    rw [if_pos rfl, plcF_app, plcF_out _ _ hB]
    show [] ++ (_ :: ([] ++ (if x = x then _ else _))) = _
    rw [if_pos rfl, plcF_out _ _ hC]
    simp
  have ey : plc row y = plcF y 0 A ++ (plcF y (A.length + 1) B ++ plcF y (A.length + 1 + B.length + 1) C) := by
    unfold plc
    rw [e, plcF_app]
    show _ ++ (if x = y then _ else _) = _
    rw [if_neg n, plcF_app]
    show _ ++ (_ ++ (if x = y then _ else _)) = _
    rw [if_neg n]
    simp
  rw [pl_of ex, ey]
  unfold nIn inn
  rw [List.filter_append, List.filter_append]
  have e1 : (plcF y 0 A).filter (fun t => decide ((A.length : Int) < t) && decide (t < ((A.length + 1 + B.length : Nat) : Int))) = [] := by
    rw [List.filter_eq_nil_iff]
    intro i hi
    have := plcF_rng y 0 A i hi
    simp
    intro
    omega
  have e2 : (plcF y (A.length + 1) B).filter (fun t => decide ((A.length : Int) < t) && decide (t < ((A.length + 1 + B.length : Nat) : Int))) = plcF y (A.length + 1) B := by
    rw [List.filter_eq_self]
    intro i hi
    have := plcF_rng y (A.length + 1) B i hi
    simp
    omega
  have e3 : (plcF y (A.length + 1 + B.length + 1) C).filter (fun t => decide ((A.length : Int) < t) && decide (t < ((A.length + 1 + B.length : Nat) : Int))) = [] := by
    rw [List.filter_eq_nil_iff]
    intro i hi
    have := plcF_rng y _ C i hi
    simp
    intro
    omega
  rw [e1, e2, e3, List.nil_append, List.append_nil, plcF_len]
  rw [e, mid_split hA hB]
noncomputable def crossP (row : List Str) (x y : Str) : Prop := lieR row x y = "cross"
noncomputable instance (row : List Str) (x y : Str) : Decidable (crossP row x y) := inferInstanceAs (Decidable (_ = _))
theorem word_cross {a b c e : Int} : wordT a b c e false = "cross" ↔ nIn a b [c, e] = 1 := by
  unfold wordT
  have e3 : (inn a b [c, e]).length = nIn a b [c, e] := rfl
  have h2 : (inn a b [c, e]).length ≤ 2 := inn_le a b [c, e]
  rw [e3] at *
  generalize nIn a b [c, e] = q at *
  match q, h2 with
  | 0, _ =>
    rw [if_neg (by decide)]
    split <;> decide
  | 1, _ => rw [if_pos (by decide)]; decide
  | 2, _ => rw [if_pos (by decide)]; decide
theorem cross_mid {row : List Str} {x y : Str} (hx : row.count x = 2) (hy : row.count y = 2) (n : x ≠ y) : crossP row x y ↔ (mid row x).count y = 1 := by
  unfold crossP
  rw [lieR_word hx hy, decide_eq_false n, word_cross, ← pl_plc hy, inn_mid hx n]
theorem cross_irr {row : List Str} {x : Str} (hx : row.count x = 2) : ¬ crossP row x x := by
  unfold crossP lieR lieT
  rw [if_pos ⟨rfl, rfl⟩]
  decide
theorem cross_symm {row : List Str} {x y : Str} (hx : row.count x = 2) (hy : row.count y = 2) (h : crossP row x y) : crossP row y x := by
  by_cases n : x = y
  · subst n; exact h
  · obtain ⟨n1, n2, n3, n4⟩ := pl_ne hx hy n
    unfold crossP at *
    rw [lieR_word hx hy, decide_eq_false n, word_cross, nIn2] at h
    rw [lieR_word hy hx, decide_eq_false (fun e => n e.symm), word_cross, nIn2]
    have l1 := pl_lt hx
    have l2 := pl_lt hy
    generalize (pl row x).1 = a at *
    generalize (pl row x).2 = b at *
    generalize (pl row y).1 = c at *
    generalize (pl row y).2 = e at *
    by_cases p1 : a < c ∧ c < b <;> by_cases p2 : a < e ∧ e < b <;> by_cases q1 : c < a ∧ a < e <;> by_cases q2 : c < b ∧ b < e <;>
    (first | rw [if_pos p1] at h | rw [if_neg p1] at h) <;> (first | rw [if_pos p2] at h | rw [if_neg p2] at h) <;>
    (first | rw [if_pos q1] | rw [if_neg q1]) <;> (first | rw [if_pos q2] | rw [if_neg q2]) <;> omega
theorem mid_filter {x : Str} {p : Str → Bool} (h : p x = true) : ∀ row : List Str, mid (row.filter p) x = (mid row x).filter p := by
  have tk : ∀ l : List Str, (l.filter p).takeWhile (fun y => decide (y ≠ x)) = (l.takeWhile fun y => decide (y ≠ x)).filter p := by
    intro l
    induction l with
    | nil => rfl
    | cons y r ih =>
      by_cases e : y = x
      · subst e
        rw [List.filter_cons, if_pos h, List.takeWhile_cons, if_neg (by simp), List.takeWhile_cons, if_neg (by simp)]
        rfl
      · rw [List.takeWhile_cons, if_pos (decide_eq_true e), List.filter_cons, List.filter_cons]
        by_cases q : p y = true
        · rw [if_pos q, if_pos q, List.takeWhile_cons, if_pos (decide_eq_true e), ih]
        · rw [if_neg q, if_neg q, ih]
  intro row
  unfold mid
  rw [← tk]
  congr 1
  induction row with
  | nil => rfl
  | cons y r ih =>
    by_cases e : y = x
    · subst e
      rw [List.filter_cons, if_pos h, List.dropWhile_cons, if_neg (by simp), List.dropWhile_cons, if_neg (by simp)]
      rfl
    · rw [List.dropWhile_cons, if_pos (decide_eq_true e), ← ih, List.filter_cons]
      by_cases q : p y = true
      · rw [if_pos q, List.dropWhile_cons, if_pos (decide_eq_true e)]
      · rw [if_neg q]
theorem cross_alike {row row' : List Str} {x y : Str} (hx : row.count x = 2) (hy : row.count y = 2) (hx' : row'.count x = 2) (hy' : row'.count y = 2)
    (e : row.filter (fun z => decide (z = x ∨ z = y)) = row'.filter (fun z => decide (z = x ∨ z = y))) : crossP row x y ↔ crossP row' x y := by
  by_cases n : x = y
  · subst n
    exact ⟨fun h => absurd h (cross_irr hx), fun h => absurd h (cross_irr hx')⟩
  · rw [cross_mid hx hy n, cross_mid hx' hy' n]
    have h1 : ∀ r : List Str, (mid r x).count y = (mid (r.filter fun z => decide (z = x ∨ z = y)) x).count y := fun r => by
      rw [mid_filter (by simp), List.count_filter (by simp)]
    rw [h1 row, h1 row', e]
noncomputable def noThree (row : List Str) : Prop := ∀ x ∈ row, ∀ y ∈ row, ∀ z ∈ row, crossP row x y → crossP row x z → ¬ crossP row y z
theorem noThree_nil : noThree [] := fun x h => by cases h
theorem noThree_put {row more : List Str} {x : Str} (h : noThree row) (h2 : ∀ y ∈ row, row.count y = 2) (h2' : ∀ y ∈ more, more.count y = 2) (hin : ∀ y ∈ more, y = x ∨ y ∈ row)
    (hf : ∀ p : Str → Bool, p x = false → more.filter p = row.filter p) (hb : ∀ y ∈ more, ∀ z ∈ more, crossP more x y → crossP more x z → ¬ crossP more y z) : noThree more := by
  intro a ha b hb' c hc k1 k2 k3
  have s12 := cross_symm (h2' a ha) (h2' b hb') k1
  have s13 := cross_symm (h2' a ha) (h2' c hc) k2
  have s23 := cross_symm (h2' b hb') (h2' c hc) k3
  by_cases ea : a = x
  · subst ea; exact hb b hb' c hc k1 k2 k3
  by_cases eb : b = x
  · subst eb; exact hb a ha c hc s12 k3 k2
  by_cases ec : c = x
  · subst ec; exact hb a ha b hb' s13 s23 k1
  have ra := (hin a ha).resolve_left ea
  have rb := (hin b hb').resolve_left eb
  have rc := (hin c hc).resolve_left ec
  have go : ∀ u v : Str, u ≠ x → v ≠ x → u ∈ row → v ∈ row → u ∈ more → v ∈ more → crossP more u v → crossP row u v := fun u v nu nv hu hv mu mv k =>
    (cross_alike (h2' u mu) (h2' v mv) (h2 u hu) (h2 v hv) (hf _ (by
      rw [decide_eq_false_iff_not]
      rintro (e | e)
      · exact nu e.symm
      · exact nv e.symm))).mp k
  exact h a ra b rb c rc (go a b ea eb ra rb ha hb' k1) (go a c ea ec ra rc ha hc k2) (go b c eb ec rb rc hb' hc k3)
theorem putR_filter {row : List Str} {x : Str} {a b : Nat} (hab : a ≤ b) {p : Str → Bool} (h : p x = false) : (putR row x a b).filter p = row.filter p := by
  unfold putR
  have e : row = row.take a ++ ((row.drop a).take (b - a) ++ row.drop b) := by
    have e1 : row.drop b = (row.drop a).drop (b - a) := by rw [List.drop_drop]; congr 1; omega
    rw [e1, List.take_append_drop, List.take_append_drop]
  conv => rhs; rw [e]
  simp [List.filter_append, List.filter_cons, h]
theorem near_not {A C : List Str} {x y : Str} (hx : (A ++ [x, x] ++ C).count x = 2) (hy : (A ++ [x, x] ++ C).count y = 2) : ¬ crossP (A ++ [x, x] ++ C) x y := by
  by_cases n : x = y
  · subst n; exact cross_irr hx
  · rw [cross_mid hx hy n]
    have hA : x ∉ A := by
      rw [← List.count_eq_zero]
      rw [List.count_append, List.count_append, List.count_cons_self, List.count_cons_self] at hx
      omega
    have e : A ++ [x, x] ++ C = A ++ x :: ([] ++ x :: C) := by simp
    rw [e, mid_split hA (by simp)]
    simp
theorem near_filter {row : List Str} {x : Str} {a : Nat} {p : Str → Bool} (h : p x = false) : (row.take a ++ [x, x] ++ row.drop a).filter p = row.filter p := by
  simp [List.filter_append, List.filter_cons, h]
  rw [← List.filter_append, List.take_append_drop]
theorem rev_not {F : List Str} {x y : Str} (hF : F.Nodup) (hx : x ∈ F) (n : x ≠ y) : (mid (F ++ F.reverse) x).count y ≠ 1 := by
  obtain ⟨A, B, rfl, hA⟩ := split1 hx
  have hB : x ∉ B := by
    have h1 := (List.nodup_append.mp hF).2.1
    exact (List.nodup_cons.mp h1).1
  have e : (A ++ x :: B) ++ (A ++ x :: B).reverse = A ++ x :: ((B ++ B.reverse) ++ x :: A.reverse) := by simp
  rw [e, mid_split hA (by simp [hB]), List.count_append, List.count_reverse]
  omega
theorem grid_not {ns : List Str} (hn : ns.Nodup) (c : Nat) {x y : Str} (h2 : ∀ z ∈ ns, (ns ++ (ns.take c).reverse ++ (ns.drop c).reverse).count z = 2)
    (h : (x ∈ ns.take c ∧ y ∈ ns.take c) ∨ (x ∈ ns.drop c ∧ y ∈ ns.drop c)) : ¬ crossP (ns ++ (ns.take c).reverse ++ (ns.drop c).reverse) x y := by
  have sub : (∀ z, z ∈ ns.take c → z ∈ ns) ∧ ∀ z, z ∈ ns.drop c → z ∈ ns := ⟨fun z => List.mem_of_mem_take, fun z => List.mem_of_mem_drop⟩
  have hx : x ∈ ns := h.elim (fun z => sub.1 _ z.1) fun z => sub.2 _ z.1
  have hy : y ∈ ns := h.elim (fun z => sub.1 _ z.2) fun z => sub.2 _ z.2
  by_cases n : x = y
  · subst n; exact cross_irr (h2 x hx)
  rw [cross_mid (h2 x hx) (h2 y hy) n]
  have key : (mid (ns ++ (ns.take c).reverse ++ (ns.drop c).reverse) x).count y = (mid ((ns ++ (ns.take c).reverse ++ (ns.drop c).reverse).filter fun z => decide (z = x ∨ z = y)) x).count y := by
    rw [mid_filter (by simp), List.count_filter (by simp)]
  rw [key]
  have dj : ∀ z, z ∈ ns.take c → z ∈ ns.drop c → False := by
    have := hn
    rw [← List.take_append_drop c ns] at this
    intro z h1 h2
    exact (List.nodup_append.mp this).2.2 z h1 z h2 rfl
  have e0 : ns.filter (fun z => decide (z = x ∨ z = y)) = (ns.take c).filter (fun z => decide (z = x ∨ z = y)) ++ (ns.drop c).filter (fun z => decide (z = x ∨ z = y)) := by
    rw [← List.filter_append, List.take_append_drop]
  rw [List.filter_append, List.filter_append, e0, List.filter_reverse, List.filter_reverse]
  rcases h with ⟨h1, h2⟩ | ⟨h1, h2⟩
  · have e : (ns.drop c).filter (fun z => decide (z = x ∨ z = y)) = [] := by
      rw [List.filter_eq_nil_iff]
      intro z hz q
      rcases of_decide_eq_true q with q | q
      · exact dj x h1 (q ▸ hz)
      · exact dj y h2 (q ▸ hz)
    rw [e, List.append_nil, List.reverse_nil, List.append_nil]
    exact rev_not ((hn.sublist (List.take_sublist ..)).filter _) (List.mem_filter.mpr ⟨h1, by simp⟩) n
  · have e : (ns.take c).filter (fun z => decide (z = x ∨ z = y)) = [] := by
      rw [List.filter_eq_nil_iff]
      intro z hz q
      rcases of_decide_eq_true q with q | q
      · exact dj x (q ▸ hz) h1
      · exact dj y (q ▸ hz) h2
    rw [e, List.nil_append, List.reverse_nil, List.append_nil]
    exact rev_not ((hn.sublist (List.drop_sublist ..)).filter _) (List.mem_filter.mpr ⟨h1, by simp⟩) n
theorem noThree_grid {ns : List Str} (hn : ns.Nodup) (c : Nat) (h2 : ∀ z ∈ ns, (ns ++ (ns.take c).reverse ++ (ns.drop c).reverse).count z = 2) : noThree (ns ++ (ns.take c).reverse ++ (ns.drop c).reverse) := by
  have mem : ∀ z, z ∈ ns ++ (ns.take c).reverse ++ (ns.drop c).reverse → z ∈ ns.take c ∨ z ∈ ns.drop c := by
    intro z hz
    rw [← List.mem_append, List.take_append_drop]
    simp only [List.mem_append, List.mem_reverse] at hz
    rcases hz with (h | h) | h
    · exact h
    · exact List.mem_of_mem_take h
    · exact List.mem_of_mem_drop h
  intro x hx y hy z hz k1 k2 k3
  rcases mem x hx with a | a <;> rcases mem y hy with b | b <;> rcases mem z hz with d | d
  · exact grid_not hn c h2 (.inl ⟨a, b⟩) k1
  · exact grid_not hn c h2 (.inl ⟨a, b⟩) k1
  · exact grid_not hn c h2 (.inl ⟨a, d⟩) k2
  · exact grid_not hn c h2 (.inr ⟨b, d⟩) k3
  · exact grid_not hn c h2 (.inl ⟨b, d⟩) k3
  · exact grid_not hn c h2 (.inr ⟨a, d⟩) k2
  · exact grid_not hn c h2 (.inr ⟨a, b⟩) k1
  · exact grid_not hn c h2 (.inr ⟨a, b⟩) k1
noncomputable def spBarredN : Sp := fun vs H Q _ => ∃ (r : Addr) (row : List Str) (x : Str), vs = [.ref r, .str x] ∧ H r = some (.lst (row.map V.str)) ∧ row.length ≤ 1000 ∧ (∀ y ∈ row, row.count y = 2) ∧ x ∈ row ∧
  ∀ b H', (b = false → ∀ y ∈ row, ∀ z ∈ row, crossP row x y → crossP row x z → ¬ crossP row y z) → Same H H' → Q (.bl b) H'
noncomputable def spRowN : Sp := fun vs H Q _ => ∃ (dr sc nl : Addr) (ns : List Str), vs = [.ref dr, .ref nl] ∧ DrawOk H dr sc ∧ H nl = some (.lst (ns.map V.str)) ∧ nl ≠ dr ∧ ns.Nodup ∧ ns.length ≤ 14 ∧
  ∀ (l : Addr) (row : List Str) (H' : Hp), H l = none → H' l = some (.lst (row.map V.str)) → row.Perm (ns ++ ns) → noThree row → DrawOk H' dr sc → But dr H H' → Q (.ref l) H'
noncomputable def spIslandN : Sp := fun vs H Q _ => ∃ (dr sc : Addr) (m : Nat), vs = [.ref dr, .int m] ∧ m ≤ 14 ∧ DrawOk H dr sc ∧
  ∀ (l : Addr) (row : List Str) (n st : Nat) (late : Bool) (H' : Hp), H l = none → n ≤ m → st < 26 → H' l = some (.lst (row.map V.str)) → row.Perm (namesAt st late n ++ namesAt st late n) → noThree row → DrawOk H' dr sc → But dr H H' → Q (.ref l) H'
theorem ne_of_dec {p : Prop} {_ : Decidable p} (h : decide p = false) : ¬ p := of_decide_eq_false h
theorem Wh.pl {H : Hp} {kvs : List (Key × V)} {row : List Str} {x : Str} (w : Wh H kvs row) (hx : x ∈ row) (h : row.count x = 2) : ∃ l, valV kvs (Sum.inr x : Key) = some (.ref l) ∧ H l = some (.lst [.int (pl row x).1, .int (pl row x).2]) := by
  obtain ⟨l, h1, h2⟩ := w.val x hx
  rw [pl_plc h] at h2
  exact ⟨l, h1, h2⟩
end SH

set_option Elab.async false
set_option linter.all false
set_option maxRecDepth 100000
set_option maxHeartbeats 4000000
namespace SH
open PySem PySem.Spec PyProof.Rows L2
noncomputable def deg2 {α : Type} (R : α → α → Bool) (l : List α) : Nat := (l.map fun x => l.countP (R x)).sum
end SH

set_option Elab.async false
set_option linter.all false
set_option maxRecDepth 100000
set_option maxHeartbeats 4000000
namespace SH
open PySem PySem.Spec PyProof.Rows L2
noncomputable def upB (row : List Str) (x y : Str) : Bool := decide (y = x) || decide (lieR row x y = "within")
noncomputable def span (row : List Str) (x : Str) : Nat := ((pl row x).2 - (pl row x).1).toNat
noncomputable def cands (row : List Str) : List (List Str) := (dit row).map (fun a => (dit row).filter (upB row a)) ++ (crs row).map fun p => (dit row).filter fun y => upB row p.1 y || upB row p.2 y
end SH

set_option Elab.async false
set_option linter.all false
set_option maxRecDepth 100000
set_option maxHeartbeats 4000000
namespace L2
open PySem PySem.Spec PyProof.Rows
open PySem.W (KasT kas_asc kas_desc kas_rev kas_tail3 kas_descPart kas_count kas_place kas_bin kas_sort kas_ask kas_item kat_run kat_snds kat_kind kat_lt KatLex kat_cons kat_go kat_yes kat_no kat_one kat_nil KatTups)
noncomputable def KAll {α : Type} (n : Nat) (P : α → Prop) : KasT α → Prop
  | .ret a => P a
  | .ask i j k => i < n ∧ j < n ∧ ∀ b, KAll n P (k b)
noncomputable def Gd (n : Nat) (p : Array Nat) : Prop := p.Perm (List.toArray (List.range n))
section
variable {prog : Program} {w : World} {A : Around} {E : Value → Shared → Prop} {s : Shared}
noncomputable def TupS (h : Heap) (v : Value) : Prop := ∃ a o xs n ss, v = .ref a ∧ h.get? a = some o ∧ o.cls = .type "tuple" ∧ o.data = .seq xs n ∧ StrsAre xs.toList ss ∧ ss ≠ []
end
section
variable {X : Cx}
end
end L2

set_option Elab.async false
set_option linter.all false
set_option maxRecDepth 100000
set_option maxHeartbeats 4000000
namespace L2
open PySem PySem.Spec PyProof.Rows
section
variable {X : Cx}
end
end L2
namespace SH
open PySem PySem.Spec PyProof.Rows L2
noncomputable def tupD (ss : List Str) : PyData := .tuple (ss.map PyData.str)
noncomputable def Plts (row : List Str) (H : Hp) (ps : List Addr) : Prop := ∀ p ∈ ps, ∃ ss : List Str, H p = some (.tup (ss.map V.str)) ∧ isPlotB row ss = true
structure Fresh (row : List Str) (H : Hp) (f : Addr) (xs : List V) (Ts : List (List Str)) : Prop where
  at' : H f = some (.lst xs)
  all : DAll H (Ts.map tupD) xs
  nd : Ts.Nodup
  ok : ∀ T ∈ Ts, T ≠ [] ∧ isPlotB row T = true
noncomputable def spPlots : Sp := fun vs H Q _ => ∃ (r : Addr) (row : List Str), vs = [.ref r] ∧ H r = some (.lst (row.map V.str)) ∧ Row2 row ∧ noThree row ∧ (dit row).length ≤ 14 ∧
  ∀ (l : Addr) (ps : List Addr) (H' : Hp), H l = none → H' l = some (.lst (ps.map V.ref)) → ps ≠ [] → ps.length ≤ 1000 → Plts row H' ps → Same H H' → Q (.ref l) H'
noncomputable abbrev NPl : List Str := ["_law_row_here", "_law_bars_here", "_law_names_here", "_law_told", "_law_layer", "_law_k", "_law_fresh", "_law_plot", "_law_name", "_law_over"]
end SH

set_option Elab.async false
set_option linter.all false
set_option maxRecDepth 100000
set_option maxHeartbeats 4000000
namespace L2
open PySem PySem.Spec PyProof.Rows
section
variable {prog : Program} {w : World} {A : Around} {E : Value → Shared → Prop} {h : Heap} {g : Array GenState} {d : Drawn} {t : Nat} {os : OsState}
variable {nm q : Str} {C N : Addr} {bs bm bmB : List Value} {hdct : Bool} {sn : List Str} {sub : List Value} {ab : Bool} {col : Option Bool} {dd : Option Addr} {k0 k1 k2 k3 k5 : Option Value} {B newId initId : String}
theorem wpAny_type_call_exc_initT (F : ExcBaseFacts B newId initId bmB) (T : OwnTail h bmB bm) {mN : Str → Option Value} {rest : List Value} {fI : Addr} {oI : Obj} {Q : PySem.Fin → Shared → Prop}
    (hC : h.get? C = some (excClassObj nm q C N bs bm hdct sn sub ab col dd k0 k1 k2 k3 k5 newId)) (hn : h.Ns N mN) (hi : mN "__init__" = some (.ref fI))
    (hfI : h.get? fI = some oI) (hfc : oI.cls = .type "function")
    (hq : ∀ h' e, Heap.MadeExcOf h h' e (.ref C) rest →
      wpAny (model prog w) A (call (.ref fI) (.ref e :: rest)) (fun r s' => r = .none ∧ Q (.done (.ret (.ref e))) s') E ⟨h', g, d, t, os⟩) (hrest : rest.length ≤ sizeLine := by size_fits) :
    wpAny (model prog w) A (Builtin.«type.__call__» ⟨.ref C :: rest, []⟩) Q E ⟨h, g, d, t, os⟩ := by
  repeat (first | with_reducible refine wpAny_loadPart_at hC ?_ | with_reducible refine wpAny_madeBy_exc hC ?_ | wp_step)
  refine codeAny_call_builtin_code (Code.quiet_builtin _ F.quiet) (wpAny_check_new_subT F T hC ?_)
  refine codeAny_exc_new_subT F T hC ?_ hrest
  show wpAny _ _ _ _ _ _
  have hC₁ := Heap.get?_push_of_some { cls := .ref C, data := .fields #[.ref h.objs.size, .none, .none, .none, .bool false, .none] }
    (Heap.get?_push_of_some { cls := .type "tuple", data := .seq rest.toArray } hC)
  have hfI₁ := Heap.get?_push_of_some { cls := .ref C, data := .fields #[.ref h.objs.size, .none, .none, .none, .bool false, .none] }
    (Heap.get?_push_of_some { cls := .type "tuple", data := .seq rest.toArray } hfI)
  have hn₁ : ((h.push { cls := .type "tuple", data := .seq rest.toArray }).push { cls := .ref C, data := .fields #[.ref h.objs.size, .none, .none, .none, .bool false, .none] }).Ns N mN :=
    let ⟨o, es, ep, e, r⟩ := hn; ⟨o, es, ep, Heap.get?_push_of_some _ (Heap.get?_push_of_some _ e), r⟩
  have hget : ((h.push { cls := .type "tuple", data := .seq rest.toArray }).push
      { cls := .ref C, data := .fields #[.ref h.objs.size, .none, .none, .none, .bool false, .none] }).get? (h.objs.size + 1) = some
      { cls := .ref C, data := .fields #[.ref h.objs.size, .none, .none, .none, .bool false, .none] } := by heap_get
  have hcC : (Value.ref C :: bm).contains (.ref C) = true := by simp
  have T₁ := T.keeps (h' := (h.push { cls := .type "tuple", data := .seq rest.toArray }).push { cls := .ref C, data := .fields #[.ref h.objs.size, .none, .none, .none, .bool false, .none] })
    fun b o e => Heap.get?_push_of_some _ (Heap.get?_push_of_some _ e)
  unfold isInstance
  repeat (first | with_reducible refine wpAny_loadPart_at hget ?_ | (with_reducible refine wpAny_isSubtype_exc hC₁ ?_; rw [hcC]) | wp_step)
  show wpAny _ _ (typeLookup (.ref C) _) _ _ _
  refine wpAny_typeLookup_tail hC₁ hn₁ T₁ F.mroIs F.init.lookup ?_
  rw [hi]
  refine wpAny_holding (wpAny_bind ?_)
  unfold bindSpecial
  refine wpAny_bind (wpAny_typeOf (T := "function") ⟨_, hfI₁, hfc⟩ ?_)
  rw [if_pos (by decide)]
  refine wpAny_pure (wpAny_bind (wpAny_mono (hq _ (h.objs.size + 1) ⟨fun b o hb => Heap.get?_push_of_some _ (Heap.get?_push_of_some _ hb), Heap.get?_none_of_le (Nat.le_succ _), h.objs.size, hget, Heap.get?_none_of_le (Nat.le_refl _), ?_⟩) (fun r s' hr => ?_) fun _ _ x => x))
  · exact Heap.get?_push_of_some _ (Heap.get?_push_at rfl rfl)
  · obtain ⟨rfl, hQ⟩ := hr
    wp_walk
    exact hQ
theorem wpAny_call_exc_initT (F : ExcBaseFacts B newId initId bmB) (T : OwnTail h bmB bm) {mN : Str → Option Value} {rest : List Value} {fI : Addr} {oI : Obj} {Q : Value → Shared → Prop}
    (hC : h.get? C = some (excClassObj nm q C N bs bm hdct sn sub ab col dd k0 k1 k2 k3 k5 newId)) (hn : h.Ns N mN) (hi : mN "__init__" = some (.ref fI))
    (hfI : h.get? fI = some oI) (hfc : oI.cls = .type "function")
    (hq : ∀ h' e, Heap.MadeExcOf h h' e (.ref C) rest →
      wpAny (model prog w) (A.under (.builtin "type.__call__" ⟨.ref C :: rest, []⟩)) (call (.ref fI) (.ref e :: rest)) (fun r s' => r = .none ∧ Q (.ref e) s') E ⟨h', g, d, t, os⟩) (hrest : rest.length ≤ sizeLine := by size_fits) :
    wpAny (model prog w) A (call (.ref C) rest) Q E ⟨h, g, d, t, os⟩ := by
  have f1 := tc_lookup
  have f2 := tc_bind (.ref C)
  have hT : (⟨h, g, d, t, os⟩ : Shared).TypeIs (.ref C) "type" := ⟨_, hC, rfl⟩
  refine wpAny_call (codeAny_of_tree ?_)
  show wpAny _ _ (callAny (.ref C) _) _ _ _
  repeat (any_goals (first | assumption | with_reducible refine wpAny_loadPart_at hC ?_ | wp_step))
  refine ⟨rfl, ?_⟩
  refine codeAny_call_builtin_at (Code.quiet_builtin _ (by decide +kernel)) entry_typeCall (wpAny_check_type_call_sub hC (wpAny_type_call_exc_initT (hrest := hrest) F T hC hn hi hfI hfc fun h' e hm => ?_))
  exact hq h' e hm
end
end L2

set_option Elab.async false
set_option linter.all false
set_option maxRecDepth 100000
set_option maxHeartbeats 4000000
namespace L2
open PySem PySem.Spec PyProof.Rows PySem.W
open Builtin Builtin.ObjectAttr
noncomputable def valTail : List Value := [.type "ValueError", .type "Exception", .type "BaseException", .type "object"]
theorem refuse_val (self : Value) : ∀ (rs : List Addr), refuseLoop self "__setattr__" (rs.map Value.ref ++ valTail) = pure ()
  | [] => PySem.F.store_ValueError.passes self
  | c :: r => by rw [List.map_cons, List.cons_append, refuseLoop_ref]; exact refuse_val self r
section
variable {prog : Program} {w : World} {A : Around} {E : Value → Shared → Prop} {K : Frag} {s : Shared} {x C : Addr} {o : Obj} {name : Str} {v : Value} {cd : ClassData} {rs : List Addr}
theorem osa_exc {R : Result → Shared → Prop} {tk : Tok} (X : K.In s.heap) (hx : s.heap.get? x = some o) (hc : o.cls = .ref C) (hno : notCls o = true) (hdn : o.dict = none) (hcd : clsIn K C = some cd) (hm : cd.mro = rs.map Value.ref ++ valTail) (hdict : cd.hasDict = true)
    (ha : findIn K (.ref C) name = some none)
    (hq : ∀ h' tk' dx, h'.get? x = some { o with dict := some dx } → s.heap.get? dx = none → h'.Ns1 dx (fun y => if y = name then some v else none) → (∀ b ob, b ≠ x → s.heap.get? b = some ob → h'.get? b = some ob) → R (.ok (.ret .none)) { s with heap := h', toks := tk' }) :
    codeAny (model prog w) A (.call (.builtin "object.__setattr__") ⟨[.ref x, .str name tk, v], []⟩) R s := by
  have SF := PySem.F.store_object
  have I : InstAt s.heap x o C none := ⟨hx, hc, hno, by rw [hdn]; trivial⟩
  have ne : cd.mro.isEmpty = false := by rw [hm]; cases rs <;> rfl
  have ho : cd.mro.contains (.type "object") = true := by
    rw [hm, List.contains_iff_mem, List.mem_append]
    exact .inr (by simp [valTail])
  have sub : Looks (model prog w) s.heap (isInstance (.ref x) (.type "object")) true := I.type.andThen (looks_mroIn X (by unfold mroIn; rw [hcd, Option.bind_some, if_neg (by rw [ne]; decide), ho]))
  refine codeAny_call_builtin SF.slot.plain SF.entry (@check_slot (model prog w) _ _ s "object.__setattr__" "object" "__setattr__" (.ref x) [.str name tk, v] [] _ SF.kind SF.split sub (SF.args (.ref x) (.str name tk) v) ?_)
  have hmr : Looks (model prog w) s.heap (mroOf (.ref C)) cd.mro := (looks_clsIn X hcd).andThen .now
  rw [osa_eq, refuse_eq]
  refine wpAny_bind (wpAny_bind (I.type.here (wpAny_bind (hmr.here ?_))))
  rw [hm, refuse_val]
  refine wpAny_pure (wpAny_bind (I.type.here (wpAny_bind ((looks_findIn X ha).here (wpAny_bind (wpAny_pure ?_))))))
  dsimp only
  show wpAny _ _ (storeInOwnDict (.ref x) (.ref C) (.str name tk) name v false) _ _ _
  obtain ⟨h, g, d, t, os⟩ := s
  have hxs : x ≠ h.objs.size := Nat.ne_of_lt (Heap.lt_size hx)
  obtain ⟨oc, odi, oda, osl⟩ := o
  dsimp only at hc hdn
  subst hc hdn
  have hx₁ : (h.push { cls := .type "dict", data := .dict #[] }).get? x = some ⟨.ref C, none, oda, osl⟩ := Heap.get?_push_of_some _ hx
  refine wpAny_bind (wpAny_pure (wpAny_bind (wpAny_bind (wpAny_loadPart hx (wpAny_bind ((looks_clsIn X hcd).here ?_))))))
  rw [hdict]
  rw [if_neg (by decide)]
  dsimp only
  rw [if_neg (by simp [typeHasDict])]
  have fin : wpAny (model prog w) A.in1 (do
      let d ← alloc { cls := Value.type "dict", data := Data.dict #[] }
      update x fun o => { cls := o.cls, dict := some d, data := o.data, slots := o.slots }
      dictMade (Value.ref C) x d)
    (fun a s' => wpAny (model prog w) A.in1 (match a with
        | some d => storeInDict d (Value.str name tk) name v
        | none => noDictFor (Value.ref x) (Value.ref C) name false)
        (fun fin s' => match fin with
          | Fin.done f => R (Except.ok f) s'
          | Fin.again c' => c'.quiet = true ∧ codeAny (model prog w) A c' R s')
        (fun e s' => R (Except.error e) s') s')
    (fun e s' => R (Except.error e) s') { heap := h, gens := g, drawn := d, toks := t, os := os } := by
    refine wpAny_bind (wpAny_alloc' ?_)
    refine wpAny_bind (wpAny_update' hx₁ ?_)
    refine wpAny_pure ?_
    have hgd : ((h.push { cls := .type "dict", data := .dict #[] }).update x fun o => { cls := o.cls, dict := some h.objs.size, data := o.data, slots := o.slots }).get? h.objs.size
        = some { cls := .type "dict", data := .dict #[] } :=
      (Heap.get?_update_ne _ _ _ _ hxs.symm).trans (Heap.get?_push_at rfl rfl)
    have hnd : ((h.push { cls := .type "dict", data := .dict #[] }).update x fun o => { cls := o.cls, dict := some h.objs.size, data := o.data, slots := o.slots }).Ns h.objs.size (fun _ => none) :=
      ⟨_, #[], _, hgd, rfl, fun e he => absurd he (by simp), fun _ => rfl⟩
    show wpAny _ _ (storeInDict h.objs.size (.str name tk) name v) _ _ _
    unfold storeInDict newKeyGuard
    refine wpAny_bind (wpAny_pure (wpAny_bind (wpAny_nsSet1 (Heap.Ns1.of_empty hnd) fun h' hn' hs => ?_)))
    obtain ⟨oD, esD, epD, hoD, hdD, hcD⟩ := hn'.count (Within.cons name v Within.nil)
    refine wpAny_bind (wpAny_lookBehind hoD (by rw [hdD]; exact pastItsLine_dict (Nat.le_trans hcD (by rw [List.length_cons, List.length_nil, sizeLine_eq]; omega))) ?_)
    wp_walk
    refine hq h' _ h.objs.size ?_ (Heap.get?_none_of_le (Nat.le_refl _)) hn' (fun b ob hb e => ?_)
    · refine (hs.2 x hxs).trans (Heap.get?_update_self _ hx₁ ?_)
      have hfr := (Heap.get?_some_iff.mp hx).2
      cases oda <;> first | rfl | exact hfr
    · exact (hs.2 b (Nat.ne_of_lt (Heap.lt_size e))).trans ((Heap.get?_update_ne _ _ _ _ hb).trans (Heap.get?_push_of_some _ e))
  cases oda <;> first | exact fin | exact absurd hno (by simp [notCls])
theorem set_exc {Q : Unit → Shared → Prop} (X : K.In s.heap) (hx : s.heap.get? x = some o) (hc : o.cls = .ref C) (hno : notCls o = true) (hdn : o.dict = none) (hcd : clsIn K C = some cd) (hm : cd.mro = rs.map Value.ref ++ valTail) (hdict : cd.hasDict = true)
    (hs : findIn K (.ref C) "__setattr__" = some (some (.builtin "object.__setattr__"))) (ha : findIn K (.ref C) name = some none)
    (hq : ∀ h' tk' dx, h'.get? x = some { o with dict := some dx } → s.heap.get? dx = none → h'.Ns1 dx (fun y => if y = name then some v else none) → (∀ b ob, b ≠ x → s.heap.get? b = some ob → h'.get? b = some ob) → Q () { s with heap := h', toks := tk' }) :
    wpAny (model prog w) A (setAttr (.ref x) name v) Q E s :=
  set_plain X (⟨hx, hc, hno, by rw [hdn]; trivial⟩ : InstAt s.heap x o C none) hs (osa_exc (s := { s with toks := s.toks + 1 }) X hx hc hno hdn hcd hm hdict ha fun h' tk' dx a1 a2 a3 a4 => hq h' tk' dx a1 a2 a3 a4)
end
end L2

set_option Elab.async false
set_option linter.all false
set_option maxRecDepth 100000
set_option maxHeartbeats 4000000
namespace L2
open PySem PySem.Spec PyProof.Rows
theorem dict_mapFields (o : Obj) (f) : (o.mapFields f).dict = o.dict := by
  obtain ⟨c, d, dt, sl⟩ := o; cases dt <;> rfl
noncomputable def DictAt (h : Heap) (e : Addr) (dd : Option Addr) : Prop := ∃ oe, h.get? e = some oe ∧ oe.dict = dd
section
variable {M : Model} {A : Around} {E : Value → Shared → Prop} {s : Shared}
theorem newEntryD {base : Heap} {env : Env} {outer : List Env} {L e : Addr} {oe : Obj} {vs : Array Value} {head a0 : Value} {hadNext : Bool} {Q : Unit → Shared → Prop}
    (hfr : A.frames = some (env :: outer)) (hl : s.heap.FunFrames base (env :: outer)) (hf : env.frame = some L)
    (he : s.heap.get? e = some oe) (hkb : base.StaysIn s.heap) (hen : base.get? e = none) (hd : oe.data = .fields vs) (hsz : 1 < vs.size) (h0 : vs[0]? = some a0)
    (h : ∀ h', Heap.LeftW base (env :: outer) e oe.cls a0 s.heap h' → DictAt h' e oe.dict → Q () { s with heap := h' }) :
    wpAny M A (do let a ← frameOf env; let pl ← entryPlaceOf L hadNext; let b ← EntryCells.newEntry head a .none (rawInt L) .none pl; setField (.ref e) 1 b) (fun _ s' => wpAny M A (setFlight (.ref e) none) Q E s') E s := by
  have hene : e ∉ (env :: outer).filterMap (·.frame) := fun hm => by
    obtain ⟨_, o, ho, hnf⟩ := hl.mem hm
    rw [he] at ho; injection ho with ho; subst ho; exact hnf vs hd
  refine wpAny_bind (wpAny_frameOf_fun hfr hl hf fun h₁ hs₁ => ?_)
  refine wpAny_bind (wpAny_entryPlaceOf fun pl hpl => ?_)
  unfold EntryCells.newEntry newFields
  refine wpAny_bind (wpAny_newObj_type ?_ (hpl.sizeOk5 _ _ _ _ _))
  have he₁ : h₁.get? e = some oe := (hs₁.2.1 e hene).trans he
  have kb₁ : base.StaysIn h₁ := fun b o hbo => (hs₁.2.1 b fun hm => by rw [(hl.mem hm).1] at hbo; cases hbo).trans (hkb b o hbo)
  have he₂ := Heap.get?_push_of_some (h := h₁) { cls := .type "traceback", dict := none, data := .fields ([head, .ref L, .none, rawInt L, .none] ++ (if pl.isEmpty then List.replicate 6 Value.none else pl)).toArray } he₁
  refine wpAny_setField he₂ hd hsz ?_
  have hTe : h₁.objs.size ≠ e := Nat.ne_of_gt (Heap.lt_size he₁)
  have hd₃ := Obj.data_mapFields hd (·.setIfInBounds 1 (Value.ref h₁.objs.size))
  have he₃ := Heap.get?_update_self (Obj.mapFields (·.setIfInBounds 1 (Value.ref h₁.objs.size))) he₂ (Obj.isFreed_of_fields hd₃)
  have hT₃ := (Heap.get?_update_other (h₁.push { cls := .type "traceback", dict := none, data := .fields ([head, .ref L, .none, rawInt L, .none] ++ (if pl.isEmpty then List.replicate 6 Value.none else pl)).toArray })
    (Obj.mapFields (·.setIfInBounds 1 (Value.ref h₁.objs.size))) (Ne.symm hTe)).trans (Heap.get?_push_size h₁ rfl)
  unfold setFlight
  refine wpAny_bind (wpAny_field he₃ hd₃ (x := .ref h₁.objs.size) (by simp [hsz]) ?_)
  rw [if_pos (show (Value.ref h₁.objs.size != Value.none) = true from by simp)]
  refine wpAny_setField hT₃ rfl (by simp only [List.size_toArray, List.length_append, List.length_cons, List.length_nil] <;> omega) (h _ ?_ ⟨_, by rw [Heap.get?_update_other _ _ hTe]; exact he₃, dict_mapFields _ _⟩)
  have keep : ∀ b o, b ≠ e → h₁.get? b = some o →
      (((h₁.push { cls := .type "traceback", dict := none, data := .fields ([head, .ref L, .none, rawInt L, .none] ++ (if pl.isEmpty then List.replicate 6 Value.none else pl)).toArray }).update e (Obj.mapFields (·.setIfInBounds 1 (Value.ref h₁.objs.size)))).update h₁.objs.size
        (Obj.mapFields (·.setIfInBounds 3 ((none : Option Addr).elim Value.none fun f => rawInt f)))).get? b = some o := fun b o hbe hb => by
    have hbT : h₁.objs.size ≠ b := Nat.ne_of_gt (Heap.lt_size hb)
    rw [Heap.get?_update_other _ _ hbT, Heap.get?_update_other _ _ (Ne.symm hbe)]
    exact Heap.get?_push_of_some _ hb
  have noRecord : ∀ b o, s.heap.get? b = some o → (∀ vs, o.data ≠ .fields vs) → b ≠ e := fun b o hb hnf q => by
    rw [q, he] at hb; injection hb with hb; subst hb; exact hnf vs hd
  refine ⟨fun b o hbo => keep b o (fun q => by rw [q, hen] at hbo; cases hbo) (kb₁ b o hbo), hl.of_keeps fun b o hb hnf => ?_, ?_, fun b o hb hnf => ?_⟩
  · obtain ⟨sl, hs⟩ := hs₁.2.2 b o hb
    exact ⟨_, keep b _ (noRecord b o hb hnf) hs, rfl⟩
  · refine ⟨_, _, h₁.objs.size, _, _, ?_, ⟨Obj.cls_mapFields _ _, by rw [Array.getElem?_setIfInBounds_ne (by decide)]; exact h0⟩, hd₃, by simp [hsz], kb₁.fresh, hTe, Heap.get?_update_self _ hT₃ (Obj.isFreed_of_fields (Obj.data_mapFields rfl _)), Obj.data_mapFields rfl _, by first | (simp; done) | (rcases hpl with rfl | ⟨_, _, _, _, _, _, _, rfl⟩ <;> simp)⟩
    rw [Heap.get?_update_other _ _ hTe]; exact he₃
  · obtain ⟨sl, hs⟩ := hs₁.2.2 b o hb
    exact ⟨sl, keep b _ (noRecord b o hb hnf) hs⟩
theorem leaving_firstD {base : Heap} {env : Env} {outer : List Env} {L e : Addr} {oe : Obj} {vs : Array Value} {a0 : Value} {Q : Unit → Shared → Prop}
    (hfr : A.frames = some (env :: outer)) (hl : s.heap.FunFrames base (env :: outer)) (hf : env.frame = some L)
    (he : s.heap.get? e = some oe) (hkb : base.StaysIn s.heap) (hen : base.get? e = none) (hd : oe.data = .fields vs) (h1 : vs[1]? = some .none) (h0 : vs[0]? = some a0)
    (h : ∀ h', Heap.LeftW base (env :: outer) e oe.cls a0 s.heap h' → DictAt h' e oe.dict → Q () { s with heap := h' }) : wpAny M A (leaving env (.ref e)) Q E s := by
  unfold leaving noteFrame
  simp only [hf]
  refine wpAny_bind (wpAny_bind (wpAny_field he hd h1 ?_))
  rw [if_neg (by decide)]
  exact newEntryD hfr hl hf he hkb hen hd (Array.getElem?_eq_some_iff.mp h1).1 h0 h
theorem leaving_nextD {base : Heap} {env : Env} {outer : List Env} {L e : Addr} {cls a0 : Value} {dd : Option Addr} {Q : Unit → Shared → Prop}
    (hfr : A.frames = some (env :: outer)) (hl : s.heap.FunFrames base (env :: outer)) (hf : env.frame = some L) (ht : s.heap.TracedW base e cls a0) (hdt : DictAt s.heap e dd) (hkb : base.StaysIn s.heap) (hen : base.get? e = none)
    (h : ∀ h', Heap.LeftW base (env :: outer) e cls a0 s.heap h' → DictAt h' e dd → Q () { s with heap := h' }) : wpAny M A (leaving env (.ref e)) Q E s := by
  obtain ⟨oe, vs, T, oT, ts, he, ⟨hcls, h0⟩, hd, h1, hnT, hTe, hT, hdT, h3⟩ := ht
  subst hcls
  obtain ⟨oe', he', hdd⟩ := hdt
  rw [he] at he'
  have e0 := Option.some.inj he'
  subst e0 hdd
  unfold leaving noteFrame
  simp only [hf]
  refine wpAny_bind (wpAny_bind (wpAny_field he hd h1 ?_))
  rw [if_pos (show (Value.ref T != Value.none) = true from by simp)]
  refine wpAny_bind (wpAny_field hT hdT h3 ?_)
  rw [if_neg (show ¬ ((Value.none == rawInt L) = true) from by simp [rawInt])]
  refine wpAny_bind (wpAny_setField hT hdT (Array.getElem?_eq_some_iff.mp h3).1 ?_)
  have other : ∀ b, b ≠ T → (s.heap.update T (Obj.mapFields (·.setIfInBounds 3 Value.none))).get? b = s.heap.get? b := fun b hb => Heap.get?_update_other _ _ (Ne.symm hb)
  have noRecord : ∀ b o, s.heap.get? b = some o → (∀ vs, o.data ≠ .fields vs) → b ≠ T := fun b o hb hnf q => by
    rw [q, hT] at hb; injection hb with hb; subst hb; exact hnf ts hdT
  refine newEntryD hfr (hl.of_keeps fun b o hb hnf => ⟨o, (other b (noRecord b o hb hnf)).trans hb, rfl⟩) hf ((other e (Ne.symm hTe)).trans he)
    (fun b o hbo => (other b fun q => by rw [q, hnT] at hbo; cases hbo).trans (hkb b o hbo)) hen hd (Array.getElem?_eq_some_iff.mp h1).1 h0
    fun h' ⟨x1, x2, x3, x4⟩ hD => h h' ⟨x1, x2, x3, fun b o hb hnf => x4 b o ((other b (noRecord b o hb hnf)).trans hb) hnf⟩ hD
noncomputable def FlyD (base : Heap) (l : List Env) (e : Addr) (cls a0 : Value) (dd : Option Addr) (h : Heap) : Prop := Heap.FlyingW base l e cls a0 h ∧ DictAt h e dd
theorem leaves_onD {base : Heap} {env : Env} {outer : List Env} {L e : Addr} {cls a0 : Value} {dd : Option Addr} {Q : Unit → Shared → Prop}
    (hfr : A.frames = some (env :: outer)) (hf : env.frame = some L) (hfl : FlyD base (env :: outer) e cls a0 dd s.heap)
    (hQ : ∀ h', FlyD base outer e cls a0 dd h' → s.heap.UpToSlots h' → Q () { s with heap := h' }) : wpAny M A (leaving env (.ref e)) Q E s := by
  obtain ⟨⟨f1, f2, f3, f4⟩, hD⟩ := hfl
  refine leaving_nextD hfr f3 hf f4 hD f1 f2 fun h' hL hD' => ?_
  obtain ⟨k1, ⟨_, _, k2⟩, k3, k4⟩ := hL
  exact hQ h' ⟨⟨k1, f2, k2, k3⟩, hD'⟩ k4
structure MadeD (h h' : Heap) (e : Addr) (cls : Value) (args : List Value) (dx : Addr) : Prop where
  keeps : ∀ b o, h.get? b = some o → h'.get? b = some o
  new : h.get? e = none
  newD : h.get? dx = none
  there : ∃ t, h'.get? e = some { cls := cls, dict := some dx, data := .fields #[.ref t, .none, .none, .none, .bool false, .none] } ∧ h.get? t = none ∧ h'.get? t = some { cls := .type "tuple", data := .seq args.toArray }
end
end L2

set_option Elab.async false
set_option linter.all false
set_option maxRecDepth 100000
namespace L2
open PySem PySem.Spec PyProof.Rows
section
variable {M : Model} {A : Around} {E : Value → Shared → Prop} {s : Shared}
theorem leaves_made0 {base h : Heap} {env : Env} {outer : List Env} {L e : Addr} {cls : Value} {args : List Value} {Q : Unit → Shared → Prop}
    (hfr : A.frames = some (env :: outer)) (hf : env.frame = some L) (hkb : base.StaysIn h) (hl : h.FunFrames base (env :: outer)) (hx : Heap.MadeExcOf h s.heap e cls args)
    (hQ : ∀ h' t, FlyD base outer e cls (.ref t) none h' → s.heap.UpToSlots h' → Q () { s with heap := h' }) : wpAny M A (leaving env (.ref e)) Q E s := by
  obtain ⟨t, he, htn, ht⟩ := hx.there
  have fresh : ∀ b, h.get? b = none → base.get? b = none := fun b hb => by
    cases hq : base.get? b with
    | none => rfl
    | some o' => have := hkb b o' hq; rw [hb] at this; cases this
  refine leaving_firstD (a0 := .ref t) hfr (hl.of_keeps fun b o hb _ => ⟨o, hx.keeps b o hb, rfl⟩) hf he (fun b o hb => hx.keeps b o (hkb b o hb)) (fresh e hx.new) rfl rfl rfl fun h' hL hD => ?_
  obtain ⟨k1, ⟨_, _, k2⟩, k3, k4⟩ := hL
  exact hQ h' t ⟨⟨k1, fresh e hx.new, k2, k3⟩, hD⟩ k4
end
structure FlownD (P : Program) (w : World) (outer : List Env) (H : Hp) (hc : Heap) (H' : Hp) (ex C : Addr) (dd : Option Addr) (B : Heap) (a0 : Value) (h : Heap) : Prop where
  un : Un (frs outer) [] H H' hc h
  hok : HOk P w H' h
  fly : FlyD B outer ex (.ref C) a0 dd h
  inB : ∀ b o, h.get? b = some o → b ∉ frs outer → ((∃ o', hc.get? b = some o') ∨ H' b ≠ none) → B.get? b = some o
  frf : ∀ b ∈ frs outer, H' b = none
theorem FlownD.move {P : Program} {w : World} {outer : List Env} {H H' : Hp} {hc B h h' : Heap} {ex C : Addr} {dd : Option Addr} {a0 : Value} (F : FlownD P w outer H hc H' ex C dd B a0 h) (st : B.StaysIn h') (up : h.UpToSlots h') :
    Un (frs outer) [] H H' hc h' ∧ HOk P w H' h' ∧ ∀ b o, h'.get? b = some o → b ∉ frs outer → ((∃ o', hc.get? b = some o') ∨ H' b ≠ none) → B.get? b = some o := by
  have nf : ∀ b ∈ frs outer, ∀ o, h.get? b = some o → ∀ vs, o.data ≠ .fields vs := fun b hb o e => by
    obtain ⟨_, o', e', d⟩ := F.fly.1.2.2.1.mem hb
    rw [e] at e'; cases e'
    exact d
  have tr : ∀ b o, H' b = some o → b ∉ frs outer := fun b o e hb => by rw [F.frf b hb] at e; cases e
  have old : ∀ b, (∃ o', hc.get? b = some o') ∨ H' b ≠ none → ∃ o, h.get? b = some o := fun b hb => by
    rcases hb with ⟨o', e⟩ | hb
    · obtain ⟨o, e'⟩ := F.un.there b o' e (by simp)
      exact ⟨o, e'⟩
    · cases q : H' b with
      | none => exact absurd q hb
      | some u => exact (F.hok b u q).there
  refine ⟨⟨fun b o e n hb hx => ?_, fun b o e n hb hx => ?_, F.un.free, fun b o e hx => ?_, F.un.tups, F.un.frzs, F.un.tbls⟩, fun a o e => ?_, fun b o e hb hw => ?_⟩
  · exact st b o (F.inB b o (F.un.keep b o e n hb hx) hb (.inl ⟨o, e⟩))
  · obtain ⟨sl, e1⟩ := F.un.slot b o e n hb hx
    obtain ⟨sl', e2⟩ := up b _ e1 (nf b hb _ e1)
    exact ⟨sl', e2⟩
  · obtain ⟨o1, e1⟩ := F.un.there b o e hx
    by_cases hb : b ∈ frs outer
    · obtain ⟨sl', e2⟩ := up b _ e1 (nf b hb _ e1)
      exact ⟨_, e2⟩
    · exact ⟨o1, st b o1 (F.inB b o1 e1 hb (.inl ⟨o, e⟩))⟩
  · refine (F.hok a o e).stay (fun b u hb q => ?_) (fun _ q => q) fun _ _ q => q
    have hn : H' b ≠ none := by
      rcases hb with z | z
      · rw [z, e]; simp
      · rw [z]; simp
    have hb' : b ∉ frs outer := fun z => hn (F.frf b z)
    exact st b u (F.inB b u q hb' (.inr hn))
  · obtain ⟨o1, e1⟩ := old b hw
    have e2 := F.inB b o1 e1 hb hw
    have e3 := st b o1 e2
    rw [e] at e3; cases e3
    exact e2
noncomputable def CX2 (P : Program) (w : World) : CXT := fun outer H s E e s' =>
  ∃ ex C dd H' B a0, e = .ref ex ∧ s'.os = s.os ∧ AllBare s'.gens ∧ FlownD P w outer H s.heap H' ex C dd B a0 s'.heap ∧ E (.ref C) dd H'
section
variable {P : Program} {w : World} {K : PySem.W.Frag} {mg : Str → Option Value} {base : Heap} {N : List Str} {qual : Str} {scope : Scope} {f : Addr} {cd : Value} {A : Around} {outer : List Env} {s : Shared} {H : Hp} {E : XK}
noncomputable def LeavesD (X : Cx) (E : XK) : Prop := ∀ (pins : List (Addr × Obj)) (σ : St) (H : Hp) (s : Shared) (h' : Heap) (ex C : Addr) (args : List Value),
  Inv X pins σ H s → Heap.MadeExcOf s.heap h' ex (.ref C) args → E (.ref C) none H → X.xe (.ref ex) { s with heap := h' }
theorem leaves2 : LeavesD (cxOf (CX2 P w) P w K mg base N qual scope f cd A outer s H E) E := by
  intro pins σ H1 s1 h' ex C args I hm hE
  show wpAny (model P w) (A.deeper (envOfC qual scope s.heap.objs.size f cd)) (leaving (envOfC qual scope s.heap.objs.size f cd) (.ref ex)) _ _ { s1 with heap := h' }
  have hst : (cxOf (CX2 P w) P w K mg base N qual scope f cd A outer s H E).stack = envOfC qual scope s.heap.objs.size f cd :: outer := rfl
  have hin : ∀ env ∈ (envOfC qual scope s.heap.objs.size f cd :: outer), ∀ b, env.frame = some b → b ∈ frs (envOfC qual scope s.heap.objs.size f cd :: outer) := fun env he b hb => List.mem_filterMap.mpr ⟨env, he, hb⟩
  have hFun : s1.heap.FunFrames base (envOfC qual scope s.heap.objs.size f cd :: outer) := I.stack
  have hB : (PySem.W.hideAll s1.heap (frs (envOfC qual scope s.heap.objs.size f cd :: outer))).StaysIn s1.heap := fun b o q => PySem.W.of_hideAll _ q
  have getB : ∀ b o, s1.heap.get? b = some o → b ∉ frs (envOfC qual scope s.heap.objs.size f cd :: outer) → (PySem.W.hideAll s1.heap (frs (envOfC qual scope s.heap.objs.size f cd :: outer))).get? b = some o := fun b o e n => PySem.W.hideAll_get _ e n
  have sub : ∀ b, b ∈ frs (envOfC qual scope s.heap.objs.size f cd :: outer) → b = s.heap.objs.size ∨ b ∈ frs outer := fun b hb => List.mem_cons.mp (I.stkSub b hb)
  have sup : ∀ b, b ∈ frs outer → b ∈ frs (envOfC qual scope s.heap.objs.size f cd :: outer) := fun b hb => by
    unfold frs at hb ⊢
    rw [List.filterMap_cons]
    split
    · exact hb
    · exact List.mem_cons_of_mem _ hb
  have frFree : ∀ b, b ∈ frs (envOfC qual scope s.heap.objs.size f cd :: outer) → H1 b = none := fun b hb => I.stkFree b hb
  refine leaves_made0 (A := A.deeper (envOfC qual scope s.heap.objs.size f cd)) (L := s.heap.objs.size) I.ok.frames rfl hB (PySem.W.funFrames_hide hFun hin) hm fun h'' t f1 up => ?_
  have old : ∀ b o, s.heap.get? b = some o → b ∉ frs outer → b ∉ frs (envOfC qual scope s.heap.objs.size f cd :: outer) := fun b o e nb hb => by
    rcases sub b hb with z | z
    · exact absurd (Heap.lt_size e) (by rw [z]; exact Nat.lt_irrefl _)
    · exact nb z
  have nf : ∀ b ∈ frs (envOfC qual scope s.heap.objs.size f cd :: outer), ∀ o, s1.heap.get? b = some o → ∀ vs, o.data ≠ .fields vs := fun b hb o e => by
    obtain ⟨_, o', e', d⟩ := hFun.mem hb
    rw [e] at e'; cases e'
    exact d
  refine ⟨ex, C, none, H1, _, _, rfl, I.os, I.bare, ⟨⟨fun b o e n hb hx => ?_, fun b o e n hb hx => ?_, I.base.free, fun b o e hx => ?_, I.base.tups, I.base.frzs, I.base.tbls⟩, fun a o e => ?_, f1, fun b o e hb hw => ?_, fun b hb => frFree b (sup b hb)⟩, hE⟩
  · exact f1.1.1 b o (getB b o (I.base.keep b o e n hb hx) (old b o e hb))
  · obtain ⟨sl, e1⟩ := I.base.slot b o e n hb hx
    obtain ⟨sl', e2⟩ := up b _ (hm.keeps _ _ e1) (nf b (sup b hb) _ e1)
    exact ⟨sl', e2⟩
  · obtain ⟨o1, e1⟩ := I.base.there b o e hx
    by_cases hb : b ∈ frs (envOfC qual scope s.heap.objs.size f cd :: outer)
    · obtain ⟨sl', e2⟩ := up b _ (hm.keeps _ _ e1) (nf b hb _ e1)
      exact ⟨_, e2⟩
    · exact ⟨o1, f1.1.1 b o1 (getB b o1 e1 hb)⟩
  · refine (I.hok a o e).stay (fun b u hb q => ?_) (fun _ q => q) fun _ _ q => q
    have hn : H1 b ≠ none := by
      rcases hb with z | z
      · rw [z, e]; simp
      · rw [z]; simp
    exact f1.1.1 b u (getB b u q fun z => hn (frFree b z))
  · have : ∃ o1, s1.heap.get? b = some o1 ∧ b ∉ frs (envOfC qual scope s.heap.objs.size f cd :: outer) := by
      rcases hw with ⟨o', e'⟩ | hw
      · obtain ⟨o1, e1⟩ := I.base.there b o' e' (fun z => absurd (show b ∈ ([] : List Addr) from z) (by simp))
        exact ⟨o1, e1, old b o' e' hb⟩
      · cases q : H1 b with
        | none => exact absurd q hw
        | some u =>
          obtain ⟨o1, e1⟩ := (I.hok b u q).there
          exact ⟨o1, e1, fun z => hw (frFree b z)⟩
    obtain ⟨o1, e1, nb⟩ := this
    have e2 := getB b o1 e1 nb
    have e3 := f1.1.1 b o1 e2
    rw [e] at e3; cases e3
    exact e2
theorem pass2 : Passes (CX2 P w) (cxOf (CX2 P w) P w K mg base N qual scope f cd A outer s H E) E := by
  intro pins σ H1 s1 e s' I h
  obtain ⟨ex, C, dd, H', B, a0, rfl, hos, hbare, F, hE⟩ := h
  show wpAny (model P w) (A.deeper (envOfC qual scope s.heap.objs.size f cd)) (leaving (envOfC qual scope s.heap.objs.size f cd) (.ref ex)) _ _ s'
  have sub : ∀ b, b ∈ frs (envOfC qual scope s.heap.objs.size f cd :: outer) → b = s.heap.objs.size ∨ b ∈ frs outer := fun b hb => List.mem_cons.mp (I.stkSub b hb)
  have sup : ∀ b, b ∈ frs outer → b ∈ frs (envOfC qual scope s.heap.objs.size f cd :: outer) := fun b hb => by
    unfold frs at hb ⊢
    rw [List.filterMap_cons]
    split
    · exact hb
    · exact List.mem_cons_of_mem _ hb
  have old : ∀ b o, s.heap.get? b = some o → b ∉ frs outer → b ∉ frs (envOfC qual scope s.heap.objs.size f cd :: outer) := fun b o e nb hb => by
    rcases sub b hb with z | z
    · exact absurd (Heap.lt_size e) (by rw [z]; exact Nat.lt_irrefl _)
    · exact nb z
  have F' : FlownD P w (envOfC qual scope s.heap.objs.size f cd :: outer) H1 s1.heap H' ex C dd B a0 s'.heap := F
  refine leaves_onD (A := A.deeper (envOfC qual scope s.heap.objs.size f cd)) (L := s.heap.objs.size) I.ok.frames rfl F'.fly fun h'' f1 up => ?_
  obtain ⟨un, hok, inB⟩ := F'.move f1.1.1 up
  refine ⟨ex, C, dd, H', B, a0, rfl, hos.trans I.os, hbare, ⟨?_, hok, f1, fun b o e hb hw => ?_, fun b hb => F'.frf b (sup b hb)⟩, hE⟩
  · have un0 : Un (frs outer) [] H H1 s.heap s1.heap := I.base
    refine ⟨fun b o e n hb hx => ?_, fun b o e n hb hx => ?_, fun b o e n hx => ?_, fun b o e hx => ?_, fun b xs e => un.tups b xs (un0.tups b xs e), fun b ob u e => un.frzs b ob u (un0.frzs b ob u e), fun b ps e => ?_⟩
    · exact un.keep b o (un0.keep b o e n hb hx) (un0.free b o e n hx) (old b o e hb) hx
    · obtain ⟨sl, e1⟩ := un0.slot b o e n hb hx
      obtain ⟨sl', e2⟩ := un.slot b _ e1 (un0.free b o e n hx) (sup b hb) hx
      exact ⟨sl', e2⟩
    · obtain ⟨o1, e1⟩ := un0.there b o e hx
      exact un.free b o1 e1 (un0.free b o e n hx) hx
    · obtain ⟨o1, e1⟩ := un0.there b o e hx
      exact un.there b o1 e1 hx
    · obtain ⟨m1, e1⟩ := un0.tbls b ps e
      obtain ⟨m2, e2⟩ := un.tbls b _ e1
      exact ⟨m1 ++ m2, by rw [e2, Array.append_assoc]⟩
  · refine inB b o e ?_ ?_
    · rcases hw with ⟨o', e'⟩ | hw
      · exact old b o' e' hb
      · intro z
        exact hw (F'.frf b z)
    · rcases hw with ⟨o', e'⟩ | hw
      · obtain ⟨o1, e1⟩ := (show Un (frs outer) [] H H1 s.heap s1.heap from I.base).there b o' e' (by simp)
        exact .inl ⟨o1, e1⟩
      · exact .inr hw
end
end L2

set_option Elab.async false
set_option linter.all false
set_option maxRecDepth 100000
set_option maxHeartbeats 4000000
namespace L2
open PySem PySem.Spec PyProof.Rows
noncomputable def made (t : Addr) : Array Value := #[.ref t, .none, .none, .none, .bool false, .none]
noncomputable def excN (a C : Addr) (h : Heap) : Prop := ∃ t sl, h.get? a = some ⟨.ref C, none, .fields (made t), sl⟩
noncomputable def excW (a C dx : Addr) (h : Heap) : Prop := ∃ t sl, h.get? a = some ⟨.ref C, some dx, .fields (made t), sl⟩
noncomputable def xdP (dx : Addr) (fs : List (Str × V)) (h : Heap) : Prop := ∃ mA, h.Ns1 dx mA ∧ ∀ f, RelO (fs.lookup f) (mA f)
structure ExK (K : PySem.W.Frag) (C : Addr) (f : Str) : Prop where
  cls : ∃ (cd : ClassData) (rs : List Addr), PySem.W.clsIn K C = some cd ∧ cd.mro = rs.map Value.ref ++ valTail ∧ cd.hasDict = true
  sa : PySem.W.findIn K (.ref C) "__setattr__" = some (some (.builtin "object.__setattr__"))
  no : PySem.W.findIn K (.ref C) f = some none
section
variable {X : Cx} {pins : List (Addr × Obj)} {σ : St} {H : Hp} {s : Shared} {A : Around} {E : Value → Shared → Prop}
theorem setattr_exc {a C : Addr} {f : Str} {y : V} {u : Value} {Q : Unit → Shared → Prop} (hex : X.ex = []) (I : Inv X pins σ H s) (e : H a = some (.ext (excN a C))) (c : ExK X.K C f) (ry : RelV y u)
    (h : ∀ s' dx, H dx = none → dx ≠ a → Inv X pins σ (upd (upd H a (.ext (excW a C dx))) dx (.ext (xdP dx [(f, y)]))) s' → Q () s') : wpAny (model X.prog X.w) A (setAttr (.ref a) f u) Q E s := by
  obtain ⟨⟨vs, sl, ho⟩, _, _⟩ := (show ObjOk X.prog X.w H s.heap a (.ext (excN a C)) from I.hok a _ e)
  obtain ⟨cd, rs, h1, h2, h3⟩ := c.cls
  refine set_exc I.kIn ho rfl rfl rfl h1 h2 h3 c.sa c.no fun h' tk' dx hx nd ns keep => ?_
  have nda : dx ≠ a := fun z => by rw [z, ho] at nd; cases nd
  have hdn : H dx = none := by
    cases q : H dx with
    | none => rfl
    | some o =>
      obtain ⟨u, hu⟩ := (I.hok dx o q).there
      rw [nd] at hu; cases hu
  refine h _ dx hdn nda ?_
  have I1 : Inv X pins σ (upd H a (.ext (excW a C dx))) { s with heap := h', toks := tk' } := by
    refine I.write (x := a) (e := a) (by rw [e]; exact True.intro) (.inl rfl) (fun b q hb z => keep b q hb z) ⟨_, hx⟩ ?_
    exact ⟨⟨vs, sl, hx⟩, ⟨_, hx⟩, fun h1 h2 ⟨vs, sl, z⟩ k => ⟨vs, sl, k _ z⟩⟩
  have hndd : upd H a (.ext (excW a C dx)) dx = none := by rw [upd_ne nda]; exact hdn
  have there : ∀ b o, s.heap.get? b = some o → b ≠ dx := fun b o z q => by rw [q, nd] at z; cases z
  refine I1.track hndd ?_ ?_ ?_ ?_ ?_ ?_ ?_
  · cases q : X.s₀.heap.get? dx with
    | none => rfl
    | some o =>
      exfalso
      obtain ⟨o1, z⟩ := I.base.there dx o q (by rw [hex]; simp)
      exact there dx o1 z rfl
  · obtain ⟨m, ⟨o, es, ep, z, _⟩, _⟩ := I.loc
    exact fun q => there _ _ z q.symm
  · intro x c' hc q
    obtain ⟨v, o, z, _⟩ := I.cell x c' hc
    exact there _ _ z q
  · intro p hp q
    exact there _ _ (I.pin p hp).1 q
  · refine ⟨_, ns, fun g => ?_⟩
    show RelO (([(f, y)] : List (Str × V)).lookup g) (if g = f then some u else none)
    by_cases q : g = f
    · subst q
      simp [List.lookup]
      exact ry
    · rw [if_neg q]
      have : (g == f) = false := by simpa using q
      simp [List.lookup, this]
      trivial
  · obtain ⟨o, es, ep, z, _⟩ := ns
    exact ⟨o, z⟩
  · exact fun h1 h2 ⟨mA, n1, n2⟩ k => ⟨mA, n1.at k, n2⟩
noncomputable def sFldX (K : PySem.W.Frag) (ta tv : TE) (f : Str) : TS := fun D σ H => tv σ H fun y H1 => ta σ H1 fun x H2 => ∃ a C, x = .ref a ∧ H2 a = some (.ext (excN a C)) ∧ ExK K C f ∧
  ∀ dx, H2 dx = none → dx ≠ a → D.nx σ (upd (upd H2 a (.ext (excW a C dx))) dx (.ext (xdP dx [(f, y)])))
theorem ps_fldX {o value : Expr} {f : Str} {pos pos' : Pos} {ta tv : TE} (hex : X.ex = []) (ha : PE X o ta) (hv : PE X value tv) (hs : swapsWith value (some (.Attribute o f pos')) pos.line X.env = pure false) : PS X (.Assign [.Attribute o f pos'] value pos) (sFldX X.K ta tv f) := by
  intro pins s σ H D I h
  refine plainObj_wpAny_Assign_Attribute (thn (hv pins s σ H _ I h) fun u s1 ⟨y, H1, I1, ry, q⟩ => thn (ha pins s1 σ H1 _ I1 q) fun ov s2 zz => ?_) hs
  obtain ⟨x, H2, I2, rx, a, C, ex, ea, c, q2⟩ := zz
  subst ex
  obtain rfl : ov = Value.ref a := rx
  exact setattr_exc hex I2 ea c ry fun s3 dx n1 n2 I3 => ⟨σ, _, I3, q2 dx n1 n2⟩
end
end L2

set_option Elab.async false
set_option linter.all false
set_option maxRecDepth 100000
set_option maxHeartbeats 4000000
namespace L2
open PySem PySem.Spec PyProof.Rows
section
variable {M : Model} {A : Around} {E : Value → Shared → Prop} {s : Shared} {env : Env}
variable {nm q : Str} {C N : Addr} {bs bm : List Value} {hdct : Bool} {sn : List Str} {sub : List Value} {ab : Bool} {col : Option Bool} {dd : Option Addr} {k0 k1 k2 k3 k5 : Option Value} {newId : String}
theorem raiseStmt_dict {x : Sem Value} {Q : Flow → Shared → Prop} (hbase : bm.contains (.type "BaseException") = true) (hh : A.handled = none)
    (h : wpAny M A x (fun v s₁ => ∃ e t dx sl, v = .ref e ∧ s₁.heap.get? C = some (excClassObj nm q C N bs bm hdct sn sub ab col dd k0 k1 k2 k3 k5 newId) ∧
      s₁.heap.get? e = some { cls := .ref C, dict := dx, data := .fields #[.ref t, .none, .none, .none, .bool false, .none], slots := sl } ∧ E (.ref e) s₁) E s) :
    wpAny M A (raiseStmt env (some x) none) Q E s := by
  have hcB : (Value.ref C :: bm).contains (.type "BaseException") = true := by rw [List.contains_cons, hbase, Bool.or_true]
  unfold raiseStmt
  refine wpAny_bind (wpAny_mono h (fun v s₁ h₁ => ?_) fun _ _ x => x)
  obtain ⟨e, t, dx, sl, rfl, hC, he, hE⟩ := h₁
  obtain ⟨hp, g, d, tk, os⟩ := s₁
  repeat (first | with_reducible refine wpAny_loadPart_at he ?_ | with_reducible refine wpAny_loadPart_at hC ?_ | (with_reducible refine wpAny_isSubtype_exc hC ?_; rw [hcB]) | wp_step)
  exact wpAny_raiseNew_none hh hE
end
section
variable {prog : Program} {w : World} {A : Around} {E : Value → Shared → Prop} {s : Shared} {env : Env}
variable {nm q : Str} {C N : Addr} {bs bm bmB : List Value} {hdct : Bool} {sn : List Str} {sub : List Value} {ab : Bool} {col : Option Bool} {dd : Option Addr} {k0 k1 k2 k3 k5 : Option Value} {B newId initId : String}
theorem Raise_call_init (F : ExcBaseFacts B newId initId bmB) {mN : Str → Option Value} {x : Str} {np cpos pos : Pos} {args : List Expr} {fI : Addr} {oI : Obj} {Q : Flow → Shared → Prop}
    (hbase : bm.contains (.type "BaseException") = true) (hh : A.handled = none) (hplain : (backTo cpos (starEach args env)).any (·.1) = false) (hi : mN "__init__" = some (.ref fI)) (hfc : oI.cls = .type "function")
    (h : wpAny (model prog w) A (eval (.Name x np) env) (fun f s₁ => f = .ref C ∧ wpAny (model prog w) A (evalArgs (.ref C) true (backTo cpos (starEach args env)) [])
      (fun a s₂ => a.kw = [] ∧ a.pos.length ≤ sizeLine ∧ s₂.heap.get? C = some (excClassObj nm q C N bs bm hdct sn sub ab col dd k0 k1 k2 k3 k5 newId) ∧ s₂.heap.Ns N mN ∧ OwnTail s₂.heap bmB bm ∧ s₂.heap.get? fI = some oI ∧
        ∀ h' e, Heap.MadeExcOf s₂.heap h' e (.ref C) a.pos →
          wpAny (model prog w) (A.under (.builtin "type.__call__" ⟨.ref C :: a.pos, []⟩)) (call (.ref fI) (.ref e :: a.pos)) (fun r s' => r = .none ∧ s'.heap.get? C = some (excClassObj nm q C N bs bm hdct sn sub ab col dd k0 k1 k2 k3 k5 newId) ∧
            (∃ t dx sl, s'.heap.get? e = some { cls := .ref C, dict := dx, data := .fields #[.ref t, .none, .none, .none, .bool false, .none], slots := sl }) ∧ E (.ref e) s') E { s₂ with heap := h' }) E s₁) E s) :
    wpAny (model prog w) A (exec (.Raise (some (.Call (.Name x np) args [] cpos)) none pos) env) Q E s := by
  rw [arm_exec_Raise]
  refine wpAny_bind (wpAny_standAt (raiseStmt_dict (C := C) (nm := nm) (q := q) (N := N) (bs := bs) (bm := bm) (hdct := hdct) (sn := sn) (sub := sub) (ab := ab) (col := col) (dd := dd) (k0 := k0) (k1 := k1) (k2 := k2) (k3 := k3) (k5 := k5) (newId := newId) hbase hh ?_))
  refine wpAny_bind (wpAny_mono (wpAny_Call_ofName (wpAny_mono h (fun f s₁ h₁ => ?_) fun _ _ x => x)) (fun v s₃ h₃ => wpAny_bind (wpAny_standAt (wpAny_pure h₃))) fun _ _ x => x)
  obtain ⟨rfl, h₁⟩ := h₁
  unfold callWith
  refine wpAny_bind (wpAny_holding (wpAny_mono h₁ (fun a s₂ h₂ => wpAny_bind (wpAny_standAt ?_)) fun _ _ x => x))
  obtain ⟨apos, akw⟩ := a
  obtain ⟨hkw, hlen, hC, hn, T, hfI, h₂⟩ := h₂
  obtain rfl : akw = [] := hkw
  obtain ⟨hp, g, d, tk, os⟩ := s₂
  simp only [hplain]
  refine wpAny_bind (wpAny_keeperOf_exc hC ?_)
  refine wpAny_bind (wpAny_call_exc_initT (hrest := hlen) F T hC hn hi hfI hfc fun h' e hm => wpAny_mono (h₂ h' e hm) (fun r s' hr => ⟨hr.1, wpAny_bind (wpAny_holding (wpAny_point (wpAny_pure ?_)))⟩) fun _ _ x => x)
  obtain ⟨_, hC', ⟨t, dx, sl, he⟩, hE⟩ := hr
  exact ⟨e, t, dx, sl, rfl, hC', he, hE⟩
end
end L2

set_option Elab.async false
set_option linter.all false
set_option maxRecDepth 100000
set_option maxHeartbeats 4000000
namespace L2
open PySem PySem.Spec PyProof.Rows
noncomputable def LeavesX (X : Cx) (E : XK) : Prop := ∀ (pins : List (Addr × Obj)) (σ : St) (H : Hp) (s : Shared) (ex C dx : Addr), Inv X pins σ H s → X.s₀.heap.get? ex = none → H ex = some (.ext (excW ex C dx)) → E (.ref C) (some dx) (hid ex H) → X.xe (.ref ex) s
section
variable {P : Program} {w : World} {K : PySem.W.Frag} {mg : Str → Option Value} {base : Heap} {N : List Str} {qual : Str} {scope : Scope} {f : Addr} {cd : Value} {A : Around} {outer : List Env} {s : Shared} {H : Hp} {E : XK}
theorem leaves3 : LeavesX (cxOf (CX2 P w) P w K mg base N qual scope f cd A outer s H E) E := by
  intro pins σ H1 s1 ex C dx I hx0 hxt hE
  have hx0 : s.heap.get? ex = none := hx0
  obtain ⟨⟨t0, xsl, hox⟩, _, _⟩ := (show ObjOk P w H1 s1.heap ex (.ext (excW ex C dx)) from I.hok ex _ hxt)
  show wpAny (model P w) (A.deeper (envOfC qual scope s.heap.objs.size f cd)) (leaving (envOfC qual scope s.heap.objs.size f cd) (.ref ex)) _ _ s1
  have hst : (cxOf (CX2 P w) P w K mg base N qual scope f cd A outer s H E).stack = envOfC qual scope s.heap.objs.size f cd :: outer := rfl
  have hin : ∀ env ∈ (envOfC qual scope s.heap.objs.size f cd :: outer), ∀ b, env.frame = some b → b ∈ frs (envOfC qual scope s.heap.objs.size f cd :: outer) := fun env he b hb => List.mem_filterMap.mpr ⟨env, he, hb⟩
  have hFun : s1.heap.FunFrames base (envOfC qual scope s.heap.objs.size f cd :: outer) := I.stack
  have hB : (PySem.W.hideAll s1.heap (ex :: frs (envOfC qual scope s.heap.objs.size f cd :: outer))).StaysIn s1.heap := fun b o q => PySem.W.of_hideAll _ q
  have getB : ∀ b o, s1.heap.get? b = some o → b ∉ frs (envOfC qual scope s.heap.objs.size f cd :: outer) → b ≠ ex → (PySem.W.hideAll s1.heap (ex :: frs (envOfC qual scope s.heap.objs.size f cd :: outer))).get? b = some o := fun b o e n nx => PySem.W.hideAll_get _ e fun z => (List.mem_cons.mp z).elim nx n
  have sub : ∀ b, b ∈ frs (envOfC qual scope s.heap.objs.size f cd :: outer) → b = s.heap.objs.size ∨ b ∈ frs outer := fun b hb => List.mem_cons.mp (I.stkSub b hb)
  have sup : ∀ b, b ∈ frs outer → b ∈ frs (envOfC qual scope s.heap.objs.size f cd :: outer) := fun b hb => by
    unfold frs at hb ⊢
    rw [List.filterMap_cons]
    split
    · exact hb
    · exact List.mem_cons_of_mem _ hb
  have frFree : ∀ b, b ∈ frs (envOfC qual scope s.heap.objs.size f cd :: outer) → H1 b = none := fun b hb => I.stkFree b hb
  have nxf : ex ∉ frs (envOfC qual scope s.heap.objs.size f cd :: outer) := fun z => by rw [frFree ex z] at hxt; cases hxt
  refine leaving_firstD (A := A.deeper (envOfC qual scope s.heap.objs.size f cd)) (L := s.heap.objs.size) (base := PySem.W.hideAll s1.heap (ex :: frs (envOfC qual scope s.heap.objs.size f cd :: outer))) I.ok.frames
    (PySem.W.funFrames_hide hFun fun env he b hb => List.mem_cons_of_mem _ (hin env he b hb)) rfl hox hB (PySem.W.hideAll_none _ List.mem_cons_self) rfl (by rfl) (a0 := .ref t0) (by rfl) fun h'' hL hD => ?_
  obtain ⟨k1, ⟨_, _, k2⟩, k3, up⟩ := hL
  have f1 : FlyD (PySem.W.hideAll s1.heap (ex :: frs (envOfC qual scope s.heap.objs.size f cd :: outer))) outer ex (.ref C) (.ref t0) (some dx) h'' := ⟨⟨k1, PySem.W.hideAll_none _ List.mem_cons_self, k2, k3⟩, hD⟩
  have nx1 : ∀ b o, s.heap.get? b = some o → H b = none → b ≠ ex := fun b o e n z => by
    have q := I.base.free b o e n (fun z => absurd (show b ∈ ([] : List Addr) from z) (by simp))
    rw [z, hxt] at q; cases q
  have old : ∀ b o, s.heap.get? b = some o → b ∉ frs outer → b ∉ frs (envOfC qual scope s.heap.objs.size f cd :: outer) := fun b o e nb hb => by
    rcases sub b hb with z | z
    · exact absurd (Heap.lt_size e) (by rw [z]; exact Nat.lt_irrefl _)
    · exact nb z
  have nf : ∀ b ∈ frs (envOfC qual scope s.heap.objs.size f cd :: outer), ∀ o, s1.heap.get? b = some o → ∀ vs, o.data ≠ .fields vs := fun b hb o e => by
    obtain ⟨_, o', e', d⟩ := hFun.mem hb
    rw [e] at e'; cases e'
    exact d
  have hide0 : ∀ b, H1 b = none → hid ex H1 b = none := fun b z => by unfold hid; split <;> first | rfl | exact z
  refine ⟨ex, C, some dx, hid ex H1, _, _, rfl, I.os, I.bare, ⟨⟨fun b o e n hb hx => ?_, fun b o e n hb hx => ?_, fun b o e n hx => hide0 b (I.base.free b o e n hx), fun b o e hx => ?_, fun b xs e => ?_, fun b ob u e => ?_, fun b ps e => ?_⟩, fun a o e => ?_, f1, fun b o e hb hw => ?_, fun b hb => hide0 b (frFree b (sup b hb))⟩, hE⟩
  · exact f1.1.1 b o (getB b o (I.base.keep b o e n hb hx) (old b o e hb) (nx1 b o e n))
  · obtain ⟨sl, e1⟩ := I.base.slot b o e n hb hx
    obtain ⟨sl', e2⟩ := up b _ e1 (nf b (sup b hb) _ e1)
    exact ⟨sl', e2⟩
  · obtain ⟨o1, e1⟩ := I.base.there b o e hx
    by_cases hb : b ∈ frs (envOfC qual scope s.heap.objs.size f cd :: outer)
    · obtain ⟨sl', e2⟩ := up b _ e1 (nf b hb _ e1)
      exact ⟨_, e2⟩
    · by_cases nb : b = ex
      · obtain ⟨oe, z, _⟩ := hD
        exact ⟨oe, nb ▸ z⟩
      · exact ⟨o1, f1.1.1 b o1 (getB b o1 e1 hb nb)⟩
  · have q := I.base.tups b xs e
    exact hid_ne q fun z => by rw [z, hxt] at q; cases q
  · have q := I.base.frzs b ob u e
    exact hid_ne q fun z => by rw [z, hxt] at q; cases q
  · obtain ⟨more, q⟩ := I.base.tbls b ps e
    exact ⟨more, hid_ne q fun z => by rw [z, hxt] at q; cases q⟩
  · have nae : a ≠ ex := fun z => by
      unfold hid at e
      rw [if_pos z] at e; cases e
    have e' : H1 a = some o := hid_same ex H1 a o e
    refine (I.hok a o e').stay (fun b u hb q => ?_) (fun c q => hid_ne q fun z => by rw [z, hxt] at q; cases q) fun c xs q => hid_ne q fun z => by rw [z, hxt] at q; cases q
    have hn : H1 b ≠ none := by
      rcases hb with z | z
      · rw [z, e']; simp
      · rw [z]; simp
    refine f1.1.1 b u (getB b u q (fun z => hn (frFree b z)) fun z => ?_)
    rcases hb with w | w
    · exact nae (w ▸ z)
    · rw [z, hxt] at w; cases w
  · have : ∃ o1, s1.heap.get? b = some o1 ∧ b ∉ frs (envOfC qual scope s.heap.objs.size f cd :: outer) ∧ b ≠ ex := by
      rcases hw with ⟨o', e'⟩ | hw
      · obtain ⟨o1, e1⟩ := I.base.there b o' e' (fun z => absurd (show b ∈ ([] : List Addr) from z) (by simp))
        exact ⟨o1, e1, old b o' e' hb, fun z => by rw [z, hx0] at e'; cases e'⟩
      · cases q : H1 b with
        | none => exact absurd (hide0 b q) hw
        | some u =>
          obtain ⟨o1, e1⟩ := (I.hok b u q).there
          exact ⟨o1, e1, fun z => hw (hide0 b (frFree b z)), fun z => hw (by unfold hid; rw [if_pos z])⟩
    obtain ⟨o1, e1, nb, nx⟩ := this
    have e2 := getB b o1 e1 nb nx
    have e3 := f1.1.1 b o1 e2
    rw [e] at e3; cases e3
    exact e2
end
end L2

set_option Elab.async false
set_option linter.all false
set_option maxRecDepth 100000
set_option maxHeartbeats 4000000
namespace L2
open PySem PySem.Spec PyProof.Rows
noncomputable def excInI (K : PySem.W.Frag) (C fI : Addr) : Bool := match K.lookup C with
  | some ⟨.type "type", _, .cls cd, sl⟩ => (match cd.mro, sl.toList with
    | .ref C' :: bm, [_, _, _, _, some (.builtin n), _] => C' == C && n == "ValueError.__new__" && !cd.hasDel && PySem.W.tailIn K bmV bm && PySem.W.nsOkIn K cd.ns && PySem.W.nsIn K cd.ns "__init__" == some (some (.ref fI)) && (K.lookup fI).any (fun o => o.cls == .type "function")
    | _, _ => false)
  | _ => false
theorem ns_some_of {K : PySem.W.Frag} {h : Heap} {N : Addr} {mN : Str → Option Value} {n : Str} {v : Value} (X : K.In h) (G : h.Ns N mN) (e : PySem.W.nsIn K N n = some (some v)) : mN n = some v := by
  obtain ⟨o, es, ep, ho, hd, _, hf⟩ := G
  unfold PySem.W.nsIn at e
  split at e
  · rename_i c d es' n' sl q
    have := X _ _ q
    rw [ho] at this
    cases this
    cases hd
    split at e
    · rename_i en he
      cases e
      rw [← hf]
      unfold nsFind findBy
      rw [← Array.find?_toList, he]
      rfl
    · split at e <;> cases e
  · cases e
theorem exc_of_inI {K : PySem.W.Frag} {h : Heap} {C fI : Addr} (X : K.In h) (q : excInI K C fI = true) :
    ∃ bm N nm q bs hdct sn sub ab col dd k0 k1 k2 k3 k5 mN oI, K.lookup C = some (excClassObj nm q C N bs bm hdct sn sub ab col dd k0 k1 k2 k3 k5 "ValueError.__new__") ∧ h.Ns N mN ∧ mN "__init__" = some (.ref fI) ∧ OwnTail h bmV bm ∧ K.lookup fI = some oI ∧ oI.cls = .type "function" := by
  unfold excInI at q
  split at q
  · rename_i dd cd sl ho
    split at q
    · rename_i C' bm k0 k1 k2 k3 n k5 hm hs
      simp only [Bool.and_eq_true, beq_iff_eq, Bool.not_eq_true'] at q
      obtain ⟨⟨⟨⟨⟨⟨rfl, rfl⟩, hdel⟩, ht⟩, hok⟩, hni⟩, hf⟩ := q
      obtain ⟨nm, bs, mro, ns, qn, hd, sn, sub, ab, col, del⟩ := cd
      dsimp only at hm hdel hok hni
      subst hm hdel
      have hsl : sl = #[k0, k1, k2, k3, some (.builtin "ValueError.__new__"), k5] := by
        obtain ⟨l⟩ := sl
        simp only at hs
        rw [hs]
      subst hsl
      obtain ⟨oI, hoI, hc⟩ := PySem.W.any_some hf
      have hN : h.Ns ns (h.nsMap ns) := .of_isNs (PySem.W.isNs_of_in X hok)
      exact ⟨bm, ns, nm, qn, bs, hd, sn, sub, ab, col, dd, k0, k1, k2, k3, k5, _, oI, ho, hN, ns_some_of X hN hni, PySem.W.tail_of_in X ht, hoI, beq_iff_eq.mp hc⟩
    · cases q
  · cases q
noncomputable def spInit (K : PySem.W.Frag) (f : Str) : Sp := fun vs H Q _ => ∃ (a C : Addr) (y : V), vs = [.ref a, y] ∧ H a = some (.ext (excN a C)) ∧ ExK K C f ∧
  ∀ dx, H dx = none → dx ≠ a → Q .non (upd (upd H a (.ext (excW a C dx))) dx (.ext (xdP dx [(f, y)])))
noncomputable def tRaiseI (C : Addr) (f : Str) (E : XK) (t : TA) : TS := fun _ σ H => t σ H fun vs H1 => ∃ y, vs = [y] ∧ ∀ ex dx, H1 ex = none → H1 dx = none → dx ≠ ex → E (.ref C) (some dx) (hid ex (upd (upd (upd H1 ex (.ext (excN ex C))) ex (.ext (excW ex C dx))) dx (.ext (xdP dx [(f, y)]))))
theorem ps_raiseI {X : Cx} {C fI : Addr} {fdI : FuncData} {E : XK} {x f : Str} {np cpos pos : Pos} {e : Expr} {t : TA} {k : Nat} {pn : Str} (hc : excInI X.K C fI = true) (hcalm : X.calm = true) (hexX : X.ex = []) (c : ExK X.K C f) (hx : LeavesX X E) (hg : Gl X x) (hm : X.mg x = some (.ref C))
    (FI : FnOk X.prog X.w X.K X.mg X.base CX0 k fI fdI ["self", pn] (spInit X.K f)) (hr : Room (k + 1) X.A) (hb : Binds X.K fdI ["self", pn] []) (ha : PA X [e] t)
    (hdb : (x == ("__debug__" : Str)) = false := by decide) (he : starEach [e] X.env = [(false, eval e X.env)] := by rfl) :
    PS X (.Raise (some (.Call (.Name x np) [e] [] cpos)) none pos) (tRaiseI C f E t) := by
  intro pins s σ H D I h
  obtain ⟨tl, N, nm, q, bs, hdct, sn, sub, ab, col, dd, k0, k1, k2, k3, k5, mN, oI, hC, hN, hni, T, hfI, hfc⟩ := exc_of_inI I.mod.kin hc
  refine Raise_call_init (C := C) (nm := nm) (q := q) (N := N) (bs := bs) (bm := tl) (hdct := hdct) (sn := sn) (sub := sub) (ab := ab) (col := col) (dd := dd) (k0 := k0) (k1 := k1) (k2 := k2) (k3 := k3) (k5 := k5) (oI := oI) (fI := fI)
    PySem.F.excBase_ValueError (mN := mN) (T.hasType PySem.F.excBase_ValueError.hasBase) (I.ok.hd hcalm) (by rw [he]; rfl) hni hfc (ld_glob I hg hm ⟨rfl, ?_⟩ hdb)
  have hh := ha cpos pins s σ H _ I h
  rw [he] at hh ⊢
  refine Calls.evalArgs_plain (wpAny_mono hh (fun us s2 hap => ?_) fun _ _ y => y)
  obtain ⟨vs, H2, I2, r2, y, ey, q2⟩ := hap
  subst ey
  obtain ⟨u, rfl, ry⟩ : ∃ u, us = [u] ∧ RelV y u := by
    cases r2 with
    | cons a b => cases b; exact ⟨_, rfl, a⟩
  refine ⟨rfl, by show 1 ≤ sizeLine; decide, I2.kIn _ _ hC, hN.keeps I2.bk, T.keeps I2.bk, I2.kIn _ _ hfI, fun h' ex hmk => ?_⟩
  obtain ⟨t0, hx1, _, _⟩ := hmk.there
  have hxn : H2 ex = none := by
    cases z : H2 ex with
    | none => rfl
    | some o =>
      obtain ⟨w, hw⟩ := (I2.hok ex o z).there
      rw [hmk.new] at hw; cases hw
  have hx0 : X.s₀.heap.get? ex = none := by
    cases z : X.s₀.heap.get? ex with
    | none => rfl
    | some o =>
      obtain ⟨o1, w⟩ := I2.base.there ex o z (by rw [hexX]; simp)
      rw [hmk.new] at w; cases w
  have there : ∀ b o, s2.heap.get? b = some o → b ≠ ex := fun b o z w => by rw [w, hmk.new] at z; cases z
  have I2' : Inv X pins σ H2 { s2 with heap := h' } := I2.kept (t' := s2.toks) fun b o z => hmk.keeps b o z
  have I3 : Inv X pins σ (upd H2 ex (.ext (excN ex C))) { s2 with heap := h' } := by
    refine I2'.track hxn hx0 ?_ ?_ ?_ ⟨t0, _, hx1⟩ ⟨_, hx1⟩ fun h1 h2 ⟨t, sl, z⟩ k => ⟨t, sl, k _ z⟩
    · obtain ⟨m, ⟨o, es, ep, z, _⟩, _⟩ := I2.loc
      exact fun w => there _ _ z w.symm
    · intro x c' hc w
      obtain ⟨v, o, z, _⟩ := I2.cell x c' hc
      exact there _ _ z w
    · intro p hp w
      exact there _ _ (I2.pin p hp).1 w
  refine wpAny_call (codeAny_mono (FI.run _ X.stack _ _ ⟨[.ref ex, u], []⟩ [.ref ex, u] [.ref ex, y] (fun v H' => v = .non ∧ ∃ dx, H2 dx = none ∧ dx ≠ ex ∧ H' = upd (upd (upd H2 ex (.ext (excN ex C))) ex (.ext (excW ex C dx))) dx (.ext (xdP dx [(f, y)]))) E (hr.make C [u] [])
    (I3.env0.make C [u] []) (hb _ [.ref ex, u] I3.kIn rfl) (.cons rfl (.cons ry .nil)) ⟨ex, C, y, rfl, upd_same, c, fun dx n1 n2 => ⟨rfl, dx, by rw [upd_ne n2] at n1; exact n1, n2, rfl⟩⟩) fun r s' hq' => ?_)
  cases r with
  | error e => exact False.elim hq'
  | ok fl =>
    cases fl with
    | ret u' =>
      obtain ⟨v, H', I4, rv, ev, dx, n1, n2, rfl⟩ := I3.after hq'
      subst ev
      have hxe : upd (upd (upd H2 ex (.ext (excN ex C))) ex (.ext (excW ex C dx))) dx (.ext (xdP dx [(f, y)])) ex = some (.ext (excW ex C dx)) := by rw [upd_ne n2.symm, upd_same]
      obtain ⟨⟨t1, sl1, hx2⟩, _, _⟩ := (show ObjOk X.prog X.w _ s'.heap ex (.ext (excW ex C dx)) from I4.hok ex _ hxe)
      exact ⟨rv, I4.kIn _ _ hC, ⟨t1, some dx, sl1, hx2⟩, hx pins σ _ s' ex C dx I4 hx0 hxe (q2 ex dx hxn n1 n2)⟩
    | next => exact False.elim hq'
    | brk => exact False.elim hq'
    | cont => exact False.elim hq'
end L2

set_option Elab.async false
set_option linter.all false
set_option maxRecDepth 100000
set_option maxHeartbeats 4000000
namespace L2
open PySem PySem.Spec PyProof.Rows
section
variable {M : Model} {A : Around} {E : Value → Shared → Prop} {s : Shared}
theorem entryD {base : Heap} {env : Env} {outer : List Env} {L e : Addr} {oe : Obj} {vs : Array Value} {head a0 : Value} {hadNext : Bool} {Q : Unit → Shared → Prop}
    (hfr : A.frames = some (env :: outer)) (hl : s.heap.FunFrames base (env :: outer)) (hf : env.frame = some L)
    (he : s.heap.get? e = some oe) (hkb : base.StaysIn s.heap) (hen : base.get? e = none) (hd : oe.data = .fields vs) (hsz : 1 < vs.size) (h0 : vs[0]? = some a0)
    (h : ∀ h', Heap.NotedW base (env :: outer) e oe.cls a0 (rawInt L) s.heap h' → DictAt h' e oe.dict → Q () { s with heap := h' }) :
    wpAny M A (do let a ← frameOf env; let pl ← entryPlaceOf L hadNext; let b ← EntryCells.newEntry head a .none (rawInt L) .none pl; setField (.ref e) 1 b) Q E s := by
  have out : e ∉ (env :: outer).filterMap (·.frame) := fun hm => by
    obtain ⟨_, o, ho, hnf⟩ := hl.mem hm
    rw [he] at ho
    cases ho
    exact hnf vs hd
  refine wpAny_bind (wpAny_frameOf_fun hfr hl hf fun g sg => wpAny_bind (wpAny_entryPlaceOf fun pl hpl => ?_))
  unfold EntryCells.newEntry newFields
  refine wpAny_bind (wpAny_newObj_type ?_ (hpl.sizeOk5 _ _ _ _ _))
  generalize ht : ({ cls := .type "traceback", dict := none, data := .fields ([head, .ref L, .none, rawInt L, .none] ++ (if pl.isEmpty then List.replicate 6 Value.none else pl)).toArray } : Obj) = tb
  have ge : g.get? e = some oe := (sg.2.1 e out).trans he
  have gb : base.StaysIn g := fun b o q => (sg.2.1 b fun hm => by rw [(hl.mem hm).1] at q; cases q).trans (hkb b o q)
  have ge2 : (g.push tb).get? e = some oe := Heap.get?_push_of_some tb ge
  have ne : g.objs.size ≠ e := Nat.ne_of_gt (Heap.lt_size ge)
  have hd3 := Obj.data_mapFields hd (·.setIfInBounds 1 (Value.ref g.objs.size))
  have ge3 := Heap.get?_update_self (Obj.mapFields (·.setIfInBounds 1 (Value.ref g.objs.size))) ge2 (Obj.isFreed_of_fields hd3)
  have gt3 : ((g.push tb).update e (Obj.mapFields (·.setIfInBounds 1 (Value.ref g.objs.size)))).get? g.objs.size = some tb := (Heap.get?_update_other _ _ (Ne.symm ne)).trans (Heap.get?_push_size g (by rw [← ht]; rfl))
  have keep : ∀ b o, b ≠ e → g.get? b = some o → ((g.push tb).update e (Obj.mapFields (·.setIfInBounds 1 (Value.ref g.objs.size)))).get? b = some o := fun b o hbe hb => (Heap.get?_update_other _ _ (Ne.symm hbe)).trans (Heap.get?_push_of_some _ hb)
  have nrc : ∀ b o, s.heap.get? b = some o → (∀ vs, o.data ≠ .fields vs) → b ≠ e := fun b o hb hnf q => by
    rw [q, he] at hb
    cases hb
    exact hnf vs hd
  refine wpAny_setField ge2 hd hsz (h _ ⟨fun b o q => keep b o (fun z => by rw [z, hen] at q; cases q) (gb b o q), hl.of_keeps fun b o hb hnf => ?_, ?_, fun b o hb hnf => ?_⟩ ⟨_, ge3, dict_mapFields _ _⟩)
  · obtain ⟨sl, hs⟩ := sg.2.2 b o hb
    exact ⟨_, keep b _ (nrc b o hb hnf) hs, rfl⟩
  · refine ⟨_, _, g.objs.size, tb, _, ge3, ⟨Obj.cls_mapFields _ _, by rw [Array.getElem?_setIfInBounds_ne (by decide)]; exact h0⟩, hd3, by simp [hsz], gb.fresh, ne, gt3, by rw [← ht], by simp⟩
  · obtain ⟨sl, hs⟩ := sg.2.2 b o hb
    exact ⟨sl, keep b _ (nrc b o hb hnf) hs⟩
theorem looks_onD {base : Heap} {env : Env} {outer : List Env} {L e : Addr} {cls a0 : Value} {dd : Option Addr} {Q : Unit → Shared → Prop}
    (hfr : A.frames = some (env :: outer)) (hf : env.frame = some L) (fly : FlyD base (env :: outer) e cls a0 dd s.heap)
    (hQ : ∀ h', Heap.HeldW base (env :: outer) e cls a0 L h' → DictAt h' e dd → s.heap.UpToSlots h' → Q () { s with heap := h' }) : wpAny M A (noteFrame (.ref e) env) Q E s := by
  obtain ⟨⟨hkb, hen, hl, oe, vs, T, oT, ts, he, ⟨hcls, h0⟩, hd, h1, hnT, hTe, hT, hdT, h3⟩, oe', he', hdd⟩ := fly
  rw [he] at he'
  cases he'
  subst hcls hdd
  unfold noteFrame
  simp only [hf]
  refine wpAny_bind (wpAny_field he hd h1 ?_)
  rw [if_pos (show (Value.ref T != Value.none) = true from by simp)]
  refine wpAny_bind (wpAny_field hT hdT h3 ?_)
  rw [if_neg (show ¬ ((Value.none == rawInt L) = true) from by simp [rawInt])]
  refine wpAny_bind (wpAny_setField hT hdT (Array.getElem?_eq_some_iff.mp h3).1 ?_)
  have same : ∀ b, b ≠ T → (s.heap.update T (Obj.mapFields (·.setIfInBounds 3 Value.none))).get? b = s.heap.get? b := fun b hb => Heap.get?_update_other _ _ (Ne.symm hb)
  have nT : ∀ b o, s.heap.get? b = some o → (∀ vs, o.data ≠ .fields vs) → b ≠ T := fun b o hb hnf q => by
    rw [q, hT] at hb
    cases hb
    exact hnf ts hdT
  refine entryD hfr (hl.of_keeps fun b o hb hnf => ⟨o, (same b (nT b o hb hnf)).trans hb, rfl⟩) hf ((same e (Ne.symm hTe)).trans he)
    (fun b o q => (same b fun z => by rw [z, hnT] at q; cases q).trans (hkb b o q)) hen hd (Array.getElem?_eq_some_iff.mp h1).1 h0 fun h' n d => ?_
  obtain ⟨x1, x2, x3, x4⟩ := n
  exact hQ h' ⟨x1, hen, x2, x3⟩ d fun b o hb hnf => x4 b o ((same b (nT b o hb hnf)).trans hb) hnf
theorem flight_noneD {base : Heap} {l : List Env} {e : Addr} {cls a0 fl : Value} {dd : Option Addr} {Q : Unit → Shared → Prop} (hkb : base.StaysIn s.heap) (hen : base.get? e = none) (hl : s.heap.FunFrames base l) (ht : s.heap.TracedAtW base e cls a0 fl) (hD : DictAt s.heap e dd)
    (h : ∀ h', FlyD base l e cls a0 dd h' → s.heap.UpToSlots h' → Q () { s with heap := h' }) : wpAny M A (setFlight (.ref e) none) Q E s := by
  obtain ⟨oe, vs, T, oT, ts, he, hcls, hd, h1, hnT, hTe, hT, hdT, h3⟩ := ht
  obtain ⟨oe', he', hdd⟩ := hD
  rw [he] at he'
  cases he'
  have lt3 : 3 < ts.size := (Array.getElem?_eq_some_iff.mp h3).1
  unfold setFlight
  refine wpAny_bind (wpAny_field he hd h1 ?_)
  rw [if_pos (show (Value.ref T != Value.none) = true from by simp)]
  refine wpAny_setField hT hdT lt3 (h _ ?_ ?_)
  · have same : ∀ b, b ≠ T → (s.heap.update T (Obj.mapFields (·.setIfInBounds 3 ((none : Option Addr).elim Value.none fun f => rawInt f)))).get? b = s.heap.get? b := fun b hb => Heap.get?_update_other _ _ (Ne.symm hb)
    refine ⟨⟨fun b o q => (same b fun z => by rw [z, hnT] at q; cases q).trans (hkb b o q), hen, hl.of_keeps fun b o hb hnf => ⟨o, (same b fun z => ?_).trans hb, rfl⟩, oe, vs, T, _, _, (same e (Ne.symm hTe)).trans he, hcls, hd, h1, hnT, hTe, Heap.get?_update_self _ hT (Obj.isFreed_of_fields (Obj.data_mapFields hdT _)), Obj.data_mapFields hdT _, by simp [lt3]⟩, oe, (same e (Ne.symm hTe)).trans he, hdd⟩
    rw [z, hT] at hb
    cases hb
    exact hnf ts hdT
  · intro b o hb hnf
    refine ⟨o.slots, (Heap.get?_update_other _ _ fun z => ?_).trans hb⟩
    rw [← z, hT] at hb
    cases hb
    exact hnf ts hdT
theorem landsD {base : Heap} {l : List Env} {e L : Addr} {cls a0 : Value} {dd : Option Addr} {Q : Unit → Shared → Prop} (hh : Heap.HeldW base l e cls a0 L s.heap) (hD : DictAt s.heap e dd)
    (hQ : ∀ h', FlyD base l e cls a0 dd h' → s.heap.UpToSlots h' → Q () { s with heap := h' }) : wpAny M A (setFlight (.ref e) none) Q E s :=
  flight_noneD hh.1 hh.2.1 hh.2.2.1 hh.2.2.2 hD hQ
theorem lands_againD {base : Heap} {l : List Env} {e : Addr} {cls a0 : Value} {dd : Option Addr} {Q : Unit → Shared → Prop} (fl : FlyD base l e cls a0 dd s.heap)
    (hQ : ∀ h', FlyD base l e cls a0 dd h' → s.heap.UpToSlots h' → Q () { s with heap := h' }) : wpAny M A (setFlight (.ref e) none) Q E s :=
  flight_noneD fl.1.1 fl.1.2.1 fl.1.2.2.1 fl.1.2.2.2.at fl.2 hQ
end
end L2

set_option Elab.async false
set_option linter.all false
set_option maxRecDepth 100000
set_option maxHeartbeats 4000000
namespace L2
open PySem PySem.Spec PyProof.Rows
theorem Fun.ok2 {P : Program} {w : World} {K : PySem.W.Frag} {mg : Str → Option Value} {base : Heap} {x qual : Str} {st : Stmt} {f : Addr} {fd : FuncData} {N ps : List Str} {k : Nat} {sp : Sp} (F : Fun K x qual st f fd) (S : FnScope N ps (defScope st)) (len : ∀ vs H Q E, sp vs H Q E → vs.length = ps.length)
    (hbody : ∀ (cdv : Value) (A : Around) (outer : List Env) (s : Shared) (H : Hp) (vs : List V) (Q : VK) (E : XK), Room k (A.deeper (envOfC qual (defScope st) s.heap.objs.size f cdv)) → sp vs H Q E →
      ∃ t, PSs (cxOf (CX2 P w) P w K mg base N qual (defScope st) f cdv A outer s H E) (defBody st) t ∧ t { nx := fun _ H' => Q .non H', rt := Q } (start N vs) H) : FnOk P w K mg base (CX2 P w) (k + 1) f fd ps sp := by
  obtain ⟨oc, od, kV, doc, pm, an, cdv, ct, osl, rfl, lk, hcd⟩ := F.ex
  exact fn_of lk hcd S len fun A outer s H vs Q E hr hsp => hbody cdv A outer s H vs Q E hr hsp
theorem ps_raise2 {X : Cx} {C : Addr} {E : XK} {x : Str} {np cpos pos : Pos} {e : Expr} {es : List Expr} {t : TA} (hc : PySem.W.excIn X.K C bmV "ValueError.__new__" = true) (hcalm : X.calm = true) (hx : LeavesD X E) (hg : Gl X x) (hm : X.mg x = some (.ref C))
    (ha : PA X (e :: es) t) (hdb : (x == ("__debug__" : Str)) = false := by decide) (he : starEach (e :: es) X.env = (false, eval e X.env) :: starEach es X.env := by rfl) (hpl : (backTo cpos (starEach es X.env)).any (·.1) = false := by rfl) :
    PS X (.Raise (some (.Call (.Name x np) (e :: es) [] cpos)) none pos) (tRaise C E t) := by
  have hx' : Leaves X E := hx
  exact ps_raise hc hcalm hx' hg hm ha hdb he hpl
noncomputable def excP2 (ex C : Addr) (dd : Option Addr) (h : Heap) : Prop := ∃ o vs, h.get? ex = some o ∧ o.cls = .ref C ∧ o.data = .fields vs ∧ o.dict = dd
noncomputable def ExcO2 (ex C : Addr) (dd : Option Addr) : HO := .ext (excP2 ex C dd)
noncomputable def Cx.tryD (X : Cx) (pn : List (Addr × Obj)) (R : Addr → Option Addr → St → Hp → Prop) : Cx := X.re pn X.A X.calm fun e s1 =>
  ∃ σ Hc sc, Inv (X.re pn X.A X.calm fun _ _ => True) [] σ Hc sc ∧ CX2 X.prog X.w X.stack Hc sc (fun c dd H1 => ∃ C, c = .ref C ∧ R C dd σ H1) e s1
section
variable {X : Cx} {pn : List (Addr × Obj)} {R : Addr → Option Addr → St → Hp → Prop} {k : Nat} {f : Addr} {fd : FuncData} {ps : List Str} {sp : Sp} {dvs : List V} {ds : List Value} {x : Str} {p pos : Pos} {e : Expr} {es : List Expr} {t : TA}
noncomputable def tCallD (sp : Sp) (dvs : List V) (R : Addr → Option Addr → St → Hp → Prop) (t : TA) : TE := fun σ H Q => t σ H fun vs H1 => sp (vs ++ dvs) H1 Q fun c dd H' => ∃ C, c = .ref C ∧ R C dd σ H'
theorem pe_callD (F : FnOk X.prog X.w X.K X.mg X.base (CX2 X.prog X.w) k f fd ps sp) (hr : Room k X.A) (hg : Gl X x) (hm : X.mg x = some (.ref f)) (hk : PySem.W.keepIn X.K (.ref f) = true) (hb : Binds X.K fd ps ds) (hd : Vals dvs ds)
    (ha : PA (X.tryD pn R) (e :: es) t) (hdb : (x == ("__debug__" : Str)) = false := by decide) (he : starEach (e :: es) X.env = (false, eval e X.env) :: starEach es X.env := by rfl) (hpl : (backTo pos (starEach es X.env)).any (·.1) = false := by rfl) :
    PE (X.tryD pn R) (.Call (.Name x p) (e :: es) [] pos) (tCallD sp dvs R t) := by
  intro pins s σ H Q I h
  refine wpAny_Call_Name_kw (ld_glob I (show Gl (X.tryD pn R) x from hg) hm ?_ hdb)
  refine PySem.W.callWith_K (h₀ := X.base) I.ok.mod.kin hk (thn (ha pos pins s σ H _ I h) fun us s1 hap => ?_) he hpl
  obtain ⟨vs, H1, I1, r, q⟩ := hap
  refine ⟨I1.kIn, ?_⟩
  have r2 : Vals (vs ++ dvs) (us ++ ds) := r.append hd
  have hl : (us ++ ds).length = ps.length := by rw [← r2.length]; exact F.len _ _ _ _ q
  refine wpAny_call (codeAny_mono (F.run X.A X.stack s1 H1 ⟨us, []⟩ (us ++ ds) (vs ++ dvs) Q _ hr I1.env0 (hb s1 us I1.kIn hl) r2 q) fun r s' hq => ?_)
  cases r with
  | error e =>
    have I1' := I1.as (X := X.tryD pn R) (pins' := []) (pn := pn) (A := X.A) (c := X.calm) (E := fun _ _ => True) I1.ok.hd I1.ok.frames (fun p hp => List.mem_append.mpr (.inl (show p ∈ pn from by simpa using hp)))
    exact ⟨σ, H1, s1, I1', hq⟩
  | ok fl =>
    cases fl with
    | ret u => exact I1.after hq
    | next => exact False.elim hq
    | brk => exact False.elim hq
    | cont => exact False.elim hq
end
noncomputable abbrev THd := Addr → Option Addr → Ends → St → Hp → Prop
structure Landed (X : Cx) (pins : List (Addr × Obj)) (ex c : Addr) (dd : Option Addr) (σ1 : St) (H1 : Hp) (B : Heap) (a0 : Value) (s1 s5 : Shared) : Prop where
  step : ∀ (h5 : Heap) (tk : Nat), B.StaysIn h5 → s1.heap.UpToSlots h5 → Inv (X.re (X.pn ++ pins) X.A X.calm fun _ _ => True) [] σ1 H1 { s1 with heap := h5, toks := tk }
  fly : FlyD B (X.env :: X.outer) ex (.ref c) a0 dd s5.heap
  up : s1.heap.UpToSlots s5.heap
  as : s5 = { s1 with heap := s5.heap }
  own : ∀ h5, B.StaysIn h5 → s1.heap.UpToSlots h5 → ∀ o, h5.get? ex = some o → ex ∉ frs (X.env :: X.outer) → H1 ex = none ∧ X.s₀.heap.get? ex = none ∧ ∀ p ∈ (X.pn ++ pins) ++ [], p.1 ≠ ex
noncomputable def PH (X : Cx) (hs : List ExceptHandler) (th : THd) : Prop := ∀ (pins : List (Addr × Obj)) (ex c : Addr) (dd : Option Addr) (σ1 : St) (H1 : Hp) (B : Heap) (a0 : Value) (s1 s5 : Shared) (D : Ends), X.Ok → Landed X pins ex c dd σ1 H1 B a0 s1 s5 → th c dd D σ1 H1 →
  wpAny (model X.prog X.w) X.A (handleBy (.ref ex) X.env hs) (SP X pins D) X.xe s5
theorem ph_nil {X : Cx} : PH X [] fun _ _ _ _ _ => False := fun _ _ _ _ _ _ _ _ _ _ _ _ _ h => h.elim
section
variable {X : Cx} {pos np hpos : Pos} {b0 : Stmt} {suite : List Stmt} {n x : Str} {i : Nat} {Cc : Addr} {th : TS} {rest : THd} {hs : List ExceptHandler}
noncomputable def tHd (K : PySem.W.Frag) (i : Nat) (Cc : Addr) (th : TS) (rest : THd) : THd := fun C dd D σ H => ∃ b, PySem.W.exmOne K (.ref C) (.ref Cc) = some b ∧ if b = true then
  ∀ ex, H ex = none → th { nx := fun σ2 H2 => D.nx (σ2.set i none) H2, rt := D.rt, bk := fun σ2 H2 => D.bk (σ2.set i none) H2, ct := fun σ2 H2 => D.ct (σ2.set i none) H2 } (σ.set i (some (.ref ex))) (upd H ex (ExcO2 ex C dd))
  else rest C dd D σ H
theorem ph_as (hst : X.stack = X.env :: X.outer) (hfr : X.env.frame = some X.env.locals) (hN : X.N.Nodup) (hi : X.N[i]? = some n) (hl : X.env.scope.names.lookup n = some .local) (hg : Gl X x) (hm : X.mg x = some (.ref Cc))
    (hh : ∀ pn ex, PSs (X.suite pn ex) (b0 :: suite) th) (hr : PH X hs rest) (hdb : (x == ("__debug__" : Str)) = false := by decide) :
    PH X (.ExceptHandler (some (.Name x np)) (some n) (b0 :: suite) hpos :: hs) (tHd X.K i Cc th rest) := by
  intro pins ex c dd σ1 H1 B a0 s1 s5 D ok L h
  obtain ⟨b, hx, h⟩ := h
  have hsubs' : ∀ p ∈ X.pn ++ pins, p ∈ X.pn ++ pins ++ [] := fun p hp => by simpa using hp
  obtain ⟨h5, g5, d5, t5, o5⟩ := s5
  have es := L.as
  have fl5 := L.fly
  have I5 := L.step h5 s1.toks fl5.1.1 L.up
  have I5S : Inv (X.suite (X.pn ++ pins) ex) [] σ1 H1 { s1 with heap := h5 } := Inv.as (X := X.re (X.pn ++ pins) X.A X.calm fun _ _ => True) I5 (fun z => absurd z (by decide)) ok.frames (fun p hp => hp)
  have LT : PySem.W.Looks (model X.prog X.w) h5 (typeOf (.ref ex)) (.ref c) := by
    obtain ⟨ob, hob, hobc⟩ := fl5.1.there
    rw [← hobc]
    exact (PySem.W.Looks.ld hob).andThen .now
  rw [es]
  refine wpAny_handleBy_cons (codeAny_handlers_test ?_) (by intro q; cases q)
  refine ld_glob (X := X.suite (X.pn ++ pins) ex) I5S (show Gl (X.suite (X.pn ++ pins) ex) x from hg) hm ?_ hdb
  refine (PySem.W.exm_one (I5S.kIn) LT hx).here ?_
  cases b with
  | false =>
    refine hr pins ex c dd σ1 H1 B a0 s1 _ D ok ⟨L.step, fl5, L.up, rfl, L.own⟩ ?_
    exact h
  | true =>
    have hth : ∀ ex, H1 ex = none → th { nx := fun σ2 H2 => D.nx (σ2.set i none) H2, rt := D.rt, bk := fun σ2 H2 => D.bk (σ2.set i none) H2, ct := fun σ2 H2 => D.ct (σ2.set i none) H2 } (σ1.set i (some (.ref ex))) (upd H1 ex (ExcO2 ex c dd)) := h
    refine codeAny_handlers_suite_as (lands_againD fl5 fun h6 fl6 up6 => ?_)
    have up16 := L.up.trans up6
    have I6 := L.step h6 s1.toks fl6.1.1 up16
    have I6S : Inv (X.suite (X.pn ++ pins) ex) [] σ1 H1 { s1 with heap := h6 } := Inv.as (X := X.re (X.pn ++ pins) X.A X.calm fun _ _ => True) I6 (fun z => absurd z (by decide)) ok.frames (fun p hp => hp)
    refine store_ok2 (X := X.suite (X.pn ++ pins) ex) I6S hN hi (.inl hl) (show RelV (.ref ex) (.ref ex) from rfl) (fun s7 I7 zz => ?_) (.inr hl)
    obtain ⟨a7, sb7, ha7⟩ := zz
    have I7' : Inv (X.suite (X.pn ++ pins) ex) [] (σ1.set i (some (.ref ex))) H1 s7 := I7
    obtain ⟨⟨f1, f2, f3, oe, vs, T, oT, ts, he, hce, hde, _⟩, oe2, he2, hdd⟩ := id fl6
    rw [he] at he2
    cases he2
    have notFr : ex ∉ frs (X.env :: X.outer) := fun z => by
      obtain ⟨_, o', e', d⟩ := f3.mem z
      rw [he] at e'; cases e'
      exact d vs hde
    obtain ⟨hexH, hex0, pinNe⟩ := L.own h6 f1 up16 oe he notFr
    have hexL : ex ≠ X.env.locals := fun z => notFr (by
      unfold frs
      rw [List.filterMap_cons, hfr, z]
      exact List.mem_cons_self)
    have cellNe : ∀ y cc, X.env.cells.lookup y = some cc → cc ≠ ex := fun y cc e z => by
      obtain ⟨v, o, ho, hd⟩ := I6.cell y cc e
      have ho' : h6.get? cc = some o := ho
      rw [z, he] at ho'; cases ho'
      rw [hde] at hd; cases hd
    have ne7 : ex ≠ a7 := by
      rcases ha7 with z | z
      · rw [z]; exact hexL
      · exact fun q => cellNe n a7 z q.symm
    have he7 : s7.heap.get? ex = some oe := (sb7.2 ex ne7).trans he
    have I8 := I7'.track (a := ex) (φ := excP2 ex c dd) hexH hex0 hexL cellNe pinNe ⟨oe, vs, he7, hce.1, hde, hdd⟩ ⟨oe, he7⟩ (fun g1 g2 ⟨o, ws, q1, q2, q3, q4⟩ k => ⟨o, ws, k o q1, q2, q3, q4⟩)
    have hgo := hh (X.pn ++ pins) ex [] s7 _ _ _ I8 (hth ex hexH)
    refine wpAny_mono hgo (fun fl s9 q9 => ?_) fun _ _ z => z.elim
    have goes : ∀ {σ' : St} {H' : Hp} {Q : Unit → Shared → Prop}, Inv (X.suite (X.pn ++ pins) ex) [] σ' H' s9 → (∀ s10, Inv X pins (σ'.set i none) H' s10 → Q () s10) →
        wpAny (model X.prog X.w) X.A (do bindName X.env n .none; unbindBehindTheSuite X.env n hpos) Q X.xe s9 := fun {σ' H' Q} J k => by
      have JX : Inv X pins σ' H' s9 := J.back ok hsubs'
      obtain ⟨m, hns, hlk⟩ := JX.loc
      refine wpAny_nameGoes_keeps hl hns (by rw [ok.kind]; rfl) fun h' v hn' hs' => ?_
      exact k _ (JX.unbind hN hi hl hlk hn' hs')
    cases fl with
    | next =>
      obtain ⟨σ', H', J, q⟩ := q9
      exact goes J fun s10 I10 => ⟨_, H', I10, q⟩
    | brk =>
      obtain ⟨σ', H', J, q⟩ := q9
      exact goes J fun s10 I10 => ⟨_, H', I10, q⟩
    | cont =>
      obtain ⟨σ', H', J, q⟩ := q9
      exact goes J fun s10 I10 => ⟨_, H', I10, q⟩
    | ret u =>
      obtain ⟨v, σ', H', J, r, q⟩ := q9
      exact goes J fun s10 I10 => ⟨v, _, H', I10, r, q⟩
end
section
variable {X : Cx} {pos : Pos} {body : List Stmt} {h0 : ExceptHandler} {hs : List ExceptHandler} {tb : (Addr → Option Addr → St → Hp → Prop) → TS} {th : THd}
noncomputable def tTryD (tb : (Addr → Option Addr → St → Hp → Prop) → TS) (th : THd) : TS := fun D σ H => ∃ R : Addr → Option Addr → St → Hp → Prop, tb R D σ H ∧ ∀ C dd σ1 H1, R C dd σ1 H1 → th C dd D σ1 H1
theorem ps_tryD (hex : X.ex = []) (hst : X.stack = X.env :: X.outer) (hfr : X.env.frame = some X.env.locals) (hb : ∀ pn R, PSs (X.tryD pn R) body (tb R)) (hh : PH X (h0 :: hs) th) :
    PS X (.Try body (h0 :: hs) [] [] pos) (tTryD tb th) := by
  intro pins s σ H D I h
  obtain ⟨R, hbd, hcx⟩ := h
  have hsubs : ∀ p ∈ X.pn ++ pins ++ [], p ∈ X.pn ++ pins := fun p hp => by simpa using hp
  have hsubs' : ∀ p ∈ X.pn ++ pins, p ∈ X.pn ++ pins ++ [] := fun p hp => by simpa using hp
  have I0 : Inv (X.tryD (X.pn ++ pins) R) [] σ H s := I.as I.ok.hd I.ok.frames hsubs
  refine wpAny_Try_except (wpAny_mono (hb (X.pn ++ pins) R [] s σ H D I0 hbd) (fun fl s1 q => ?_) fun e s1 q => ?_)
  · have toX : ∀ {σ' : St} {H' : Hp}, Inv (X.tryD (X.pn ++ pins) R) [] σ' H' s1 → Inv X pins σ' H' s1 := fun J => J.back I.ok hsubs'
    cases fl with
    | next =>
      obtain ⟨σ', H', J, q⟩ := q
      exact wpAny_execs_nil ⟨σ', H', toX J, q⟩
    | brk =>
      obtain ⟨σ', H', J, q⟩ := q
      exact ⟨σ', H', toX J, q⟩
    | cont =>
      obtain ⟨σ', H', J, q⟩ := q
      exact ⟨σ', H', toX J, q⟩
    | ret u =>
      obtain ⟨v, σ', H', J, r, q⟩ := q
      exact ⟨v, σ', H', toX J, r, q⟩
  · obtain ⟨σ1, Hc, sc, Ic, ex, c, dd, H1, B, a0, rfl, hos, hbare, F, C, hC, hR⟩ := q
    cases hC
    have hth := hcx c dd σ1 H1 hR
    have F' : FlownD X.prog X.w (X.env :: X.outer) Hc sc.heap H1 ex c dd B a0 s1.heap := by rw [← hst]; exact F
    have hfrm : X.A.frames = some (X.env :: X.outer) := by rw [← hst]; exact I.ok.frames
    have step : ∀ (h5 : Heap) (tk : Nat), B.StaysIn h5 → s1.heap.UpToSlots h5 → Inv (X.re (X.pn ++ pins) X.A X.calm fun _ _ => True) [] σ1 H1 { s1 with heap := h5, toks := tk } := fun h5 tk st up => by
      obtain ⟨un, hok, _⟩ := F'.move st up
      refine Ic.call' (ch := []) hos ?_ hok hbare (fun b z => absurd z (by simp))
      show Un (frs X.stack) [] Hc H1 sc.heap h5
      rw [hst]
      exact un
    have own : ∀ h5, B.StaysIn h5 → s1.heap.UpToSlots h5 → ∀ o, h5.get? ex = some o → ex ∉ frs (X.env :: X.outer) → H1 ex = none ∧ X.s₀.heap.get? ex = none ∧ ∀ p ∈ (X.pn ++ pins) ++ [], p.1 ≠ ex := fun h5 st up oe he notFr => by
      have inB := (F'.move st up).2.2
      have f2 := F'.fly.1.2.1
      have hexH : H1 ex = none := by
        cases q : H1 ex with
        | none => rfl
        | some u =>
          have z := inB ex oe he notFr (.inr (by rw [q]; simp))
          rw [f2] at z; cases z
      have hexc : sc.heap.get? ex = none := by
        cases q : sc.heap.get? ex with
        | none => rfl
        | some u =>
          have z := inB ex oe he notFr (.inl ⟨u, q⟩)
          rw [f2] at z; cases z
      refine ⟨hexH, ?_, fun p hp z => ?_⟩
      · cases q : X.s₀.heap.get? ex with
        | none => rfl
        | some u =>
          obtain ⟨o1, e1⟩ := Ic.base.there ex u q (fun z => by
            have z' : ex ∈ X.ex := z
            rw [hex] at z'
            cases z')
          rw [hexc] at e1; cases e1
      · have := (Ic.pin p hp).1
        rw [z, hexc] at this; cases this
    refine looks_onD (L := X.env.locals) hfrm hfr F'.fly fun h4 held d4 up4 => ?_
    refine landsD held d4 fun h5 fl5 up5 => ?_
    exact hh pins ex c dd σ1 H1 B a0 s1 _ D I.ok ⟨step, fl5, up4.trans up5, rfl, own⟩ hth
end
end L2

set_option Elab.async false
set_option linter.all false
set_option maxRecDepth 100000
set_option maxHeartbeats 4000000
namespace L2
open PySem PySem.Spec PyProof.Rows
section
variable {prog : Program} {w : World} {A : Around} {E : Value → Shared → Prop} {K : PySem.W.Frag} {C a : Addr} {h : Heap} {g : Array GenState} {d : Drawn} {t : Nat} {os : OsState} {ox : Obj} {od : Option Obj} {name : Str} {v : Value}
open PySem.W in
theorem excf_entry {tk : Tok} {Q : Fin → Shared → Prop} (X : K.In h) (I : InstAt h a ox C od) (hf : findObj K C od name = some (.value v)) (hq : Q (.done (.ret v)) ⟨h, g, d, t, os⟩) :
    wpAny (model prog w) A (Builtin.«object.__getattribute__» ⟨[.ref a, .str name tk], []⟩) Q E ⟨h, g, d, t, os⟩ := by
  have L0 := I.type (M := model prog w)
  have L1 := looks_find (M := model prog w) X I hf
  repeat (any_goals (first | assumption | (refine wpAny_bind (L0.at ?_)) | (refine wpAny_bind (L1.at ?_)) | wp_step))
open PySem.W in
theorem excf_call {tk : Tok} {vs : Array Value} {R : Result → Shared → Prop} (X : K.In h) (F : ExcF K C) (I : InstAt h a ox C od) (hd : ox.data = .fields vs) (hf : findObj K C od name = some (.value v)) (hq : R (.ok (.ret v)) ⟨h, g, d, t, os⟩) :
    codeAny (model prog w) A (.call (.builtin "BaseException.__getattribute__") ⟨[.ref a, .str name tk], []⟩) R ⟨h, g, d, t, os⟩ :=
  codeAny_call_builtin (by decide +kernel) PySem.F.entry_bexc_ga (exc_check X F ⟨ox, vs, I.at_, I.cls, hd⟩ (excf_entry X I hf hq))
open PySem.W in
theorem excf_attr {expr : Bool} {vs : Array Value} {Q : Value → Shared → Prop} (X : K.In h) (F : ExcF K C) (I : InstAt h a ox C od) (hd : ox.data = .fields vs) (hf : findObj K C od name = some (.value v)) (hh : handedIn v = true) (hq : Q v ⟨h, g, d, t + 1, os⟩) :
    wpAny (model prog w) A (getAttr (.ref a) name expr) Q E ⟨h, g, d, t, os⟩ := by
  have L0 := I.type (M := model prog w)
  have L1 := looks_findIn (M := model prog w) X F.ga
  have L2 := looks_findIn (M := model prog w) X F.gn
  have f3 : bindSpecial (.builtin "BaseException.__getattribute__") (.ref a) = pure (.builtin "BaseException.__getattribute__", [.ref a]) := PySem.F.excAttr_ValueError.ga.bind (.ref a)
  have hx2 : (Value.builtin "BaseException.__getattribute__" == Value.builtin "object.__getattribute__") = false := by decide +kernel
  have hx1 : (onTheHeap (Value.ref C) && Value.builtin "BaseException.__getattribute__" == Value.builtin "object.__getattribute__") = false := by rw [hx2]; rfl
  unfold getAttr getAttrBy
  refine wpAny_bind (wpAny_mkText (wpAny_holding (wpAny_bind (L0.at (wpAny_bind (L1.at ?_))))))
  repeat (any_goals (first | assumption | (refine wpAny_bind (L0.at ?_)) | (refine wpAny_bind (L1.at ?_)) | (refine wpAny_bind (L2.at ?_)) | wp_step))
  have hx3 : (expr && onTheHeap (Value.builtin "BaseException.__getattribute__")) = false := by rw [show onTheHeap (Value.builtin "BaseException.__getattribute__") = false from rfl, Bool.and_false]
  rw [hx3, if_neg (by decide)]
  unfold boundAndCalled
  repeat (any_goals (first | assumption | wp_step))
  refine excf_call X F I hd hf ?_
  dsimp only
  rw [handedOut_of hh]
  exact wpAny_pure hq
end
noncomputable def tFldE (K : PySem.W.Frag) (ta : TE) (f : Str) : TE := fun σ H Q => ta σ H fun x H1 => ∃ a C dx fs v, x = .ref a ∧ H1 a = some (ExcO2 a C (some dx)) ∧ H1 dx = some (.ext (xdP dx fs)) ∧ ExcF K C ∧ ExK K C f ∧ fs.lookup f = some v ∧ Q v H1
section
variable {X : Cx} {e : Expr} {f : Str} {pos : Pos} {ta : TE}
theorem pe_fldE (K : PySem.W.Frag) (hK : X.K = K) (he : PE X e ta) (hb : attributeBase e f X.env (eval e X.env) = eval e X.env := by rfl) : PE X (.Attribute e f pos) (tFldE K ta f) := by
  subst hK
  intro pins s σ H Q I h
  refine attr_of hb (thn (he pins s σ H _ I h) fun u s1 ap => ?_)
  obtain ⟨x, H1, I1, rx, a, C, dx, fs, v, rfl, ea, ed, F, c, l, q⟩ := ap
  obtain rfl : u = Value.ref a := rx
  obtain ⟨⟨o, vs, ho, hc, hd, hdd⟩, _, _⟩ := (show ObjOk X.prog X.w H1 s1.heap a (.ext (excP2 a C (some dx))) from I1.hok a _ ea)
  obtain ⟨⟨mA, hn, r⟩, _, _⟩ := (show ObjOk X.prog X.w H1 s1.heap dx (.ext (xdP dx fs)) from I1.hok dx _ ed)
  obtain ⟨od, hod, hl⟩ := lookIn_ns hn
  obtain ⟨u, hu, ru⟩ := RelO.some_of (v := v) (o := mA f) (by rw [← l]; exact r f)
  obtain ⟨cd, rs, hcl, _, hdict⟩ := c.cls
  have hin : PySem.W.InstAt s1.heap a o C (some od) := by
    refine ⟨ho, hc, ?_, ?_⟩
    · obtain ⟨c1, d1, dt, sl⟩ := o
      cases hd
      rfl
    · rw [hdd]
      exact hod
  obtain ⟨hp, g, d, tk, os⟩ := s1
  refine excf_attr I1.kIn F hin hd (PySem.W.findObj_own (by unfold PySem.W.hasDictIn; rw [hcl]; exact hdict) c.no rfl (by rw [hl, hu])) (handed_of ru) ?_
  exact ⟨v, H1, I1.tok _, ru, q⟩
theorem call_isexc2 (K : PySem.W.Frag) (hK : X.K = K) : CallR X (.builtin "isinstance") (fun xs H Q => ∃ a C dd c cv b, xs = [.ref a, c] ∧ H a = some (ExcO2 a C dd) ∧ ExcF K C ∧ clsV c = some cv ∧ PySem.W.kitOne K (.ref C) cv = some b ∧ Q (.bl b) H) := by
  subst hK
  intro pins s σ H xs us Q I r h
  obtain ⟨a, C, dd, c, cv, b, rfl, ha, F, hc, e, q⟩ := h
  obtain ⟨u, v, rfl, ru, rv⟩ := r.two
  have := clsV_rel rv hc
  subst this
  cases ru
  obtain ⟨⟨o, vs, p1, p2, p3, _⟩, _⟩ := (show ObjOk X.prog X.w H s.heap a (.ext (excP2 a C dd)) from I.hok a _ ha)
  exact PySem.W.kia_one (kitx_exc F) I.kIn ⟨o, vs, p1, p2, p3⟩ e (fun z => nomatch z) fun tk => ⟨.bl b, H, I.tok _, rfl, q⟩
end
end L2

set_option Elab.async false
set_option linter.all false
set_option maxRecDepth 100000
set_option maxHeartbeats 4000000
namespace L2
open PySem PySem.Spec PyProof.Rows
noncomputable def Itx (x : Str) : It := ⟨fun i _ => i < x.cps.size, fun i H v H' => H' = H ∧ ∃ c, x.cps[i]? = some c ∧ v = .str ⟨#[c]⟩, fun i _ => i = x.cps.size⟩
theorem turn_str {P : Program} {w : World} {K : PySem.W.Frag} {tg : Expr} (it : Addr) (x : Str) (tk0 : Tok) : Turn P w K tg (Itx x) [it] it (fun i h => h.IsStrIter it "str_ascii_iterator" x tk0 i) where
  mem := by simp
  obj := fun i h st b hb => by
    have e : b = it := by simpa using hb
    subst e
    obtain ⟨o, e, c, d⟩ := st
    exact ⟨o, e, fun v z => by rw [d] at z; cases z⟩
  keep := fun i h h' st k => by
    obtain ⟨o, e, r⟩ := st
    exact ⟨o, k it (by simp) o e, r⟩
  item := by
    intro X hP hw hK hc i pins s σ H E I hf st hg
    subst hP hw hK
    obtain ⟨f0, f1, f2, f3, f4, f5⟩ := hf it (by simp)
    have W := Walks.strAscii (prog := X.prog) (w := X.w) (I.ok.hd hc) it x tk0
    refine W.item i s _ _ hg st fun v h' tk hv st' kk => ?_
    obtain ⟨c, u, hcc, rfl⟩ := hv
    have I1 : Inv X pins σ H { s with heap := h', toks := tk } := I.turned (fun b o hb e => kk b o (by simpa using hb) e) f0 f1 f3 f4 f5
    obtain ⟨o, e, cl, d⟩ := id st'
    exact ⟨_, rfl, go_of (s := { s with heap := h', toks := tk }) e cl d (by decide) ⟨.str ⟨#[c]⟩, H, I1, ⟨u, rfl⟩, ⟨rfl, c, hcc, rfl⟩, st', fun b hb => (hf b hb).1⟩⟩
  done := by
    intro X hP hw hK hc i pins s σ H E I hf st hg
    subst hP hw hK
    obtain ⟨f0, f1, f2, f3, f4, f5⟩ := hf it (by simp)
    have W := Walks.strAscii (prog := X.prog) (w := X.w) (I.ok.hd hc) it x tk0
    have hg : i = x.cps.size := hg
    subst hg
    exact W.done s _ _ st fun h' tk kk => ⟨rfl, I.turned (fun b o hb e => kk b o (by simpa using hb) e) f0 f1 f3 f4 f5⟩
  self := fun _ _ _ _ _ st h => wpAny_pyIter_striter_ascii st h
noncomputable def iStr (tl : TE) : TI := fun σ H R => tl σ H fun v H1 => ∃ x, v = .str x ∧ x.cps.all (· < 128) = true ∧ R (Itx x) H1
theorem pi_str {X : Cx} {tg l : Expr} {tl : TE} (hl : PE X l tl) : PI X tg l (iStr tl) := by
  intro pins s σ H R I h
  refine thn (hl pins s σ H _ I h) fun v s1 ap => ?_
  obtain ⟨y, H1, I1, r1, x, rfl, ha, q⟩ := ap
  obtain ⟨tk, rfl⟩ := r1
  refine wpAny_pyIter_ascii ha ?_
  refine ⟨s1.heap.objs.size, [s1.heap.objs.size], _, _, H1, rfl, I1.kept (t' := s1.toks) fun b o e => Heap.get?_push_of_some _ e, turn_str _ x tk, ⟨_, Heap.get?_push_size _ rfl, rfl, rfl⟩, fun b hb => ?_, q⟩
  have e : b = s1.heap.objs.size := by simpa using hb
  subst e
  exact I1.fpOk (Nat.le_refl _) (I1.hok.fresh (Nat.le_refl _))
theorem go_str {x : Str} {H : Hp} {i : Nat} (hi : i < x.cps.size) : (Itx x).go i H ∧ ∀ v H3, (Itx x).yld i H v H3 → H3 = H ∧ v = .str ⟨#[x.cps.toList.getD i 0]⟩ :=
  ⟨hi, fun v H3 ⟨e, c, hc, y⟩ => ⟨e, by rw [y, List.getD_eq_getElem?_getD, Array.getElem?_toList, hc]; rfl⟩⟩
theorem st_str {x : Str} {H : Hp} : (Itx x).stop x.cps.size H := rfl
section
variable {X : Cx}
theorem op_le_str : OpR X (compareOp .LtE) (fun x y H Q => ∃ i j, x = .str i ∧ y = .str j ∧ Q (.bl (!decide (j.cps.toList < i.cps.toList))) H) := by
  intro pins s σ H x y v u Q I rx ry h
  obtain ⟨i, j, rfl, rfl, q⟩ := h
  obtain ⟨t, rfl⟩ := rx
  obtain ⟨t', rfl⟩ := ry
  exact PySem.P.le_str (fin_bl I q rfl)
theorem tChain_ss {ta tb tc : TE} {σ : St} {H : Hp} {Q : VK} {x y z : Nat} (ha : ∀ Q' : VK, Q' (.str ⟨#[x]⟩) H → ta σ H Q') (hb : ∀ Q' : VK, Q' (.str ⟨#[y]⟩) H → tb σ H Q') (hc : ∀ Q' : VK, Q' (.str ⟨#[z]⟩) H → tc σ H Q') (h : Q (.bl (decide (x ≤ y) && decide (y ≤ z))) H) :
    tChain (fun x y H Q => ∃ i j, x = .str i ∧ y = .str j ∧ Q (.bl (!decide (j.cps.toList < i.cps.toList))) H) (fun x y H Q => ∃ i j, x = .str i ∧ y = .str j ∧ Q (.bl (!decide (j.cps.toList < i.cps.toList))) H) ta tb tc σ H Q := by
  have e : ∀ a b : Nat, (!decide (([b] : List Nat) < [a])) = decide (a ≤ b) := fun a b => by
    rw [Bool.eq_iff_iff]
    simp [List.cons_lt_cons_iff]
  refine ha _ (hb _ ⟨_, _, rfl, rfl, _, rfl, ?_⟩)
  have e1 : (!decide ((⟨#[y]⟩ : Str).cps.toList < (⟨#[x]⟩ : Str).cps.toList)) = decide (x ≤ y) := e x y
  rw [e1]
  refine ite2b (fun q => hc _ ⟨_, _, rfl, rfl, ?_⟩) (fun q => ?_)
  · have e2 : (!decide ((⟨#[z]⟩ : Str).cps.toList < (⟨#[y]⟩ : Str).cps.toList)) = decide (y ≤ z) := e y z
    rw [e2]
    rw [q, Bool.true_and] at h
    exact h
  · rw [q, Bool.false_and] at h
    exact h
end
end L2
namespace L2
open PySem PySem.Spec PyProof.Rows
section
variable {X : Cx} {a b c d : Expr} {ta tb tc td : TE} {pos : Pos} {es : List Expr} {t : St → Hp → (Hp → Prop) → Prop} {e : Expr} {te : TE}
noncomputable def tChain3 (r r' r'' : R2) (ta tb tc td : TE) : TT := fun σ H Q => ta σ H fun x H1 => tb σ H1 fun y H2 => r x y H2 fun z H3 => ∃ k, z = .bl k ∧
  (if k = true then tc σ H3 fun w H4 => r' y w H4 fun z' H5 => ∃ k', z' = .bl k' ∧ (if k' = true then td σ H5 fun u H6 => r'' w u H6 fun z2 H7 => ∃ k2, z2 = .bl k2 ∧ Q k2 H7 else Q false H5) else Q false H3)
theorem pt_chain3 {op op' op'' : CmpOp} {r r' r'' : R2} (ho : OpR X (compareOp op) r) (ho' : OpR X (compareOp op') r') (ho'' : OpR X (compareOp op'') r'') (ha : PE X a ta) (hb : PE X b tb) (hc : PE X c tc) (hd : PE X d td)
    (hm : lastMarks [op, op', op''] [b, c, d] = false := by with_unfolding_all rfl) (he : evalEach [d] X.env = [eval d X.env] := by rfl) : PT X (.Compare a [op, op', op''] [b, c, d] pos) (tChain3 r r' r'' ta tb tc td) := by
  intro pins s σ H Q I h
  refine isTrue_chain (thn (ha pins s σ H _ I h) fun v s1 ⟨x, H1, I1, r1, q1⟩ => test_link (thn (hb pins s1 σ H1 _ I1 q1) fun u s2 ⟨y, H2, I2, r2, q2⟩ =>
    thn (ho pins s2 σ H2 x y v u _ I2 r1 r2 q2) fun d s3 ⟨z, H3, I3, r3, k, e, q3⟩ => ?_)) hm
  subst e
  cases r3
  refine wpAny_truthy_bool ?_
  cases k with
  | false => exact ite_ff ⟨H3, I3, q3⟩
  | true =>
    rw [he]
    refine ite_tt (test_link (thn (hc pins s3 σ H3 _ I3 q3) fun w' s4 ⟨z', H4, I4, r4, q4⟩ => thn (ho' pins s4 σ H4 y z' u w' _ I4 r2 r4 q4) fun d' s5 zz => ?_))
    obtain ⟨z2, H5, I5, r5, k2, e2, q5⟩ := zz
    subst e2
    cases r5
    refine wpAny_truthy_bool ?_
    cases k2 with
    | false => exact ite_ff ⟨H5, I5, q5⟩
    | true =>
      refine ite_tt (test_last (thn (hd pins s5 σ H5 _ I5 q5) fun w2 s6 ⟨z3, H6, I6, r6, q6⟩ => thn (ho'' pins s6 σ H6 z' z3 w' w2 _ I6 r4 r6 q6) fun d2 s7 zz => ?_))
      obtain ⟨z4, H7, I7, r7, k3, e3, q7⟩ := zz
      subst e3
      cases r7
      exact wpAny_truthy_bool ⟨H7, I7, q7⟩
noncomputable def tJTxt (te : TE) (t : St → Hp → (Hp → Prop) → Prop) : St → Hp → (Hp → Prop) → Prop := fun σ H Q => te σ H fun x H1 => ∃ i, x = .str i ∧ i.length ≤ 4000 ∧ t σ H1 Q
theorem pj_txt {p : Pos} (ha : PE X e te) (h : PJ X es t) (he : evalEach (.FormattedValue e (-1) none p :: es) X.env = eval (.FormattedValue e (-1) none p) X.env :: evalEach es X.env := by rfl) : PJ X (.FormattedValue e (-1) none p :: es) (tJTxt te t) := by
  intro out pins s σ H Q I hw hl
  rw [he]
  rw [List.length_cons] at hl
  refine joinParts_cons (FormattedValue_plain (thn (ha pins s σ H _ I hw) fun v s1 ap => ?_))
  obtain ⟨x, H1, I1, r1, i, rfl, h1, q⟩ := ap
  obtain ⟨tk, rfl⟩ := r1
  refine formatField_str (fun t' tk => ⟨by rw [app_len]; omega, ?_⟩) (by rw [sizeLine_eq]; omega)
  exact h _ pins _ σ H1 Q (I1.tok _) q (by rw [app_len]; omega)
end
end L2

set_option Elab.async false
set_option linter.all false
set_option maxRecDepth 100000
set_option maxHeartbeats 4000000
namespace L2
open PySem PySem.Spec PyProof.Rows
noncomputable def Tups (H : Hp) (ps : List Addr) (Ts : List (List Str)) : Prop := ps.length = Ts.length ∧ ∀ i, i < ps.length → H (ps.getD i 0) = some (.tup ((Ts.getD i []).map V.str))
end L2

set_option Elab.async false
set_option linter.all false
set_option maxRecDepth 100000
set_option maxHeartbeats 4000000
namespace SH
open PySem PySem.Spec PyProof.Rows L2
noncomputable def Cov (row : List Str) (Us : List (List Str)) (j : Nat) (Ts : List (List Str)) : Prop := ∀ i, i < j → ∀ x ∈ row, x ∉ Us.getD i [] → isPlotB row (srt (Us.getD i [] ++ [x])) = true → srt (Us.getD i [] ++ [x]) ∈ Ts
noncomputable def LayC (row : List Str) (n : Nat) (Us : List (List Str)) : Prop := ∀ T, T ∈ Us ↔ isPlotB row T = true ∧ T.length = n
noncomputable def UptoC (row : List Str) (n : Nat) (Us : List (List Str)) : Prop := ∀ T, T ∈ Us ↔ isPlotB row T = true ∧ T.length ≤ n
noncomputable def spPlotsC : Sp := fun vs H Q _ => ∃ (r : Addr) (row : List Str), vs = [.ref r] ∧ H r = some (.lst (row.map V.str)) ∧ Row2 row ∧ noThree row ∧ (dit row).length ≤ 14 ∧
  ∀ (l : Addr) (ps : List Addr) (Ts : List (List Str)) (H' : Hp), H l = none → H' l = some (.lst (ps.map V.ref)) → Tups H' ps Ts → ps.length ≤ 1000 → (∀ T, T ∈ Ts ↔ isPlotB row T = true) → Same H H' → Q (.ref l) H'
end SH

set_option Elab.async false
set_option linter.all false
set_option maxRecDepth 100000
set_option maxHeartbeats 4000000
namespace L2
open PySem PySem.Spec PyProof.Rows
end L2

set_option Elab.async false
set_option linter.all false
set_option maxRecDepth 100000
set_option maxHeartbeats 4000000
namespace L2
open PySem PySem.Spec PyProof.Rows
theorem tseq_split {t u : TS} {D : Ends} {σ : St} {H : Hp} (P : St → Hp → Prop) (h2 : ∀ σ' H', P σ' H' → u D σ' H') (h1 : ∀ nx, (∀ σ' H', P σ' H' → nx σ' H') → t { D with nx := nx } σ H) : tSeq t u D σ H := h1 (u D) h2
end L2
namespace SH
open PySem PySem.Spec PyProof.Rows L2
noncomputable def spOne : Sp := fun vs H Q _ => ∃ (dr sc l : Addr) (xs : List V), vs = [.ref dr, .ref l] ∧ DrawOk H dr sc ∧ H l = some (.lst xs) ∧ l ≠ dr ∧ 0 < xs.length ∧ xs.length ≤ 1000 ∧
  ∀ (i : Nat) (H' : Hp), i < xs.length → DrawOk H' dr sc → But dr H H' → Q (xs.getD i .non) H'
noncomputable def mostL (a b c : List Str) : List Str := srt ((a.filter fun x => decide (x ∈ b) || decide (x ∈ c)) ++ (b.filter fun x => decide (x ∈ c) && !decide (x ∈ a)))
noncomputable def spMost : Sp := fun vs H Q _ => ∃ (p q u : Addr) (a b c : List Str), vs = [.ref p, .ref q, .ref u] ∧ H p = some (.tup (a.map V.str)) ∧ H q = some (.tup (b.map V.str)) ∧ H u = some (.tup (c.map V.str)) ∧ a.length ≤ 24 ∧ b.length ≤ 24 ∧
  ∀ l H', H l = none → H' l = some (.tup ((mostL a b c).map V.str)) → Same H H' → Q (.ref l) H'
noncomputable abbrev NMo : List Str := ["_law_one_here", "_law_other", "_law_last", "_law_both"]
noncomputable abbrev NMo1 : List Str := ["_law_name", "_law_other", "_law_last"]
noncomputable abbrev NMo2 : List Str := ["_law_name", "_law_last", "_law_one_here"]
noncomputable def mostT (row a b c : List Str) : List Str := (dit row).filter fun x => decide (2 ≤ ([a, b, c].filter fun s => decide (x ∈ s)).length)
noncomputable def spThird (C : Addr) : Sp := fun vs H Q E => ∃ (r p q u : Addr) (row a b c : List Str), vs = [.ref r, .ref p, .ref q, .ref u] ∧ H r = some (.lst (row.map V.str)) ∧ Row2 row ∧ H p = some (.tup (a.map V.str)) ∧ H q = some (.tup (b.map V.str)) ∧ H u = some (.tup (c.map V.str)) ∧
  (∀ y ∈ a, okN y) ∧ (∀ y ∈ b, okN y) ∧ (∀ y ∈ c, okN y) ∧ a.length ≤ 24 ∧ b.length ≤ 24 ∧ c.length ≤ 24 ∧
  ((isPlotB row a = true ∧ isPlotB row b = true ∧ isPlotB row c = true) → ∀ l H', H l = none → H' l = some (.tup ((mostT row a b c).map V.str)) → Same H H' → Q (.ref l) H') ∧
  (¬ (isPlotB row a = true ∧ isPlotB row b = true ∧ isPlotB row c = true) → ∀ H', Same H H' → E (.ref C) none H')
noncomputable abbrev NTh : List Str := ["row", "one", "other", "last", "three", "asked"]
noncomputable abbrev NTh1 : List Str := ["name", "three"]
noncomputable abbrev NTh2 : List Str := ["plot", "name"]
end SH

set_option Elab.async false
set_option linter.all false
set_option maxRecDepth 100000
set_option maxHeartbeats 3200000
namespace L2
open PySem PySem.Spec PyProof.Rows PySem.Calls
noncomputable def it5 (mask : Nat) : Nat → Nat → Nat
  | 0, i => i
  | m + 1, i => it5 mask m ((i * 5 + 1) % (mask + 1))
noncomputable def Mask (mask : Nat) : Prop := mask = 7 ∨ mask = 15 ∨ mask = 31
section
variable {mask : Nat} {owner : Array (Option Nat)}
noncomputable abbrev Free (owner : Array (Option Nat)) (j : Nat) : Prop := owner.getD j (some 0) = none
noncomputable def liveL (owner : Array (Option Nat)) : List Nat := owner.toList.filterMap id
end
noncomputable def layF (mask : Nat) (acc : Option (Array (Option Nat) × Nat)) (h : Int) : Option (Array (Option Nat) × Nat) := do
  let (owner, k) ← acc
  let j ← SetTable.layClean.free mask owner (SetTable.turns mask) (SetTable.bits h % (mask + 1)) (SetTable.bits h)
  pure (owner.setIfInBounds j (some k), k + 1)
end L2

set_option Elab.async false
set_option linter.all false
set_option maxRecDepth 100000
set_option maxHeartbeats 3200000
namespace L2
open PySem PySem.Spec PyProof.Rows PySem.Calls
noncomputable def reord (es : Array (Int × Value)) (laid : Option (SetTable × Array Nat)) : Sem (Array (Int × Value) × SetTable) := do
  let some (t, order) := laid | unsupported "internal:set-table-without-room"
  let es' := order.filterMap (es[·]?)
  if es'.size != es.size then unsupported "internal:set-table-lost-an-element"
  pure (es', t)
noncomputable def mustLed (es : Array (Int × Value)) (t : SetTable) : Sem Unit := do
  if !t.led && es.size > 1 then unsupported "set:maker-not-led"
section
variable {P : Program} {w : World} {A : Around} {E : Value → Shared → Prop} {s : Shared} {a b c : Addr} {ks ls : List Str}
structure Nu (w : World) (h : Heap) (a : Addr) (n : Nat) : Prop where
  ex : ∃ o ep t, h.get? a = some o ∧ o.ExactSet ∧ o.data = .set #[] ep t ∧ t.place = #[] ∧ t.dummies = #[] ∧ Mask t.mask ∧ n ≤ t.mask ∧ t.led = !byTxt w ∧ t.plain = true
noncomputable def Wl (P : Program) (w : World) (wl : Array (Int × Value)) (ks : List Str) : Prop := ElemsOf (PySem.strKind P w) wl.toList ∧ ∃ zs, StrsAre (wl.toList.map (·.2)) zs ∧ zs.Perm ks
end
end L2

set_option Elab.async false
set_option linter.all false
set_option maxRecDepth 100000
set_option maxHeartbeats 3200000
namespace L2
open PySem PySem.Spec PyProof.Rows PySem.Calls
section
variable {P : Program} {w : World} {A : Around} {E : Value → Shared → Prop} {s : Shared} {a b c : Addr} {ks ls : List Str}
noncomputable def xor1 (ks : List Str) (x : Str) : List Str := if x ∈ ks then ks.erase x else ks ++ [x]
end
end L2

set_option Elab.async false
set_option linter.all false
set_option maxRecDepth 100000
set_option maxHeartbeats 3200000
namespace L2
open PySem PySem.Spec PyProof.Rows PySem.Calls
noncomputable def flipS (a : Addr) (h : Int) (x : Value) : Sem Unit := holding [x] do
  if !(← setDiscardHashed a x h) then
    let _ ← setAddHashed a x h
section
variable {P : Program} {w : World} {A : Around} {E : Value → Shared → Prop} {s : Shared} {a b c : Addr} {ks ls : List Str}
noncomputable def xorOf (i : String) (l : Addr) (r : Value) : Sem Value := do
  let result ← Builtin.Frozenset.newFrom i (← Builtin.Frozenset.baseOf l) r
  holding [result] (Builtin.Frozenset.symmetricDifferenceUpdate i (← Builtin.Frozenset.addrOf result) (.ref l))
  return result
end
section
variable {X : Cx}
end
end L2

set_option Elab.async false
set_option linter.all false
set_option maxRecDepth 100000
set_option maxHeartbeats 4000000
namespace SH
open PySem PySem.Spec PyProof.Rows L2
noncomputable def xorL (a b : List Str) : List Str := srt ((a.filter fun x => !decide (x ∈ b)) ++ (b.filter fun x => !decide (x ∈ a)))
noncomputable def spParting : Sp := fun vs H Q _ => ∃ (p q : Addr) (a b : List Str), vs = [.ref p, .ref q] ∧ H p = some (.tup (a.map V.str)) ∧ H q = some (.tup (b.map V.str)) ∧ a.Nodup ∧ b.Nodup ∧ a.length < 16 ∧ b.length < 16 ∧
  ∀ l H', H l = none → H' l = some (.lst ((xorL a b).map V.str)) → Same H H' → Q (.ref l) H'
noncomputable def spApart : Sp := fun vs H Q _ => ∃ (p q : Addr) (a b : List Str), vs = [.ref p, .ref q] ∧ H p = some (.tup (a.map V.str)) ∧ H q = some (.tup (b.map V.str)) ∧ a.length ≤ 24 ∧ b.length ≤ 24 ∧
  ∀ l H', H l = none → H' l = some (.lst ((xorL a b).map V.str)) → Same H H' → Q (.ref l) H'
noncomputable abbrev NAp : List Str := ["_law_one_here", "_law_other", "_law_mine"]
noncomputable abbrev NAp1 : List Str := ["_law_name", "_law_other"]
noncomputable abbrev NAp2 : List Str := ["_law_name", "_law_one_here"]
structure Two (H : Hp) (r p q : Addr) (row a b : List Str) : Prop where
  hr : H r = some (.lst (row.map V.str))
  r2 : Row2 row
  hd : (dit row).length ≤ 14
  hp : H p = some (.tup (a.map V.str))
  hq : H q = some (.tup (b.map V.str))
  oa : ∀ y ∈ a, okN y
  ob : ∀ y ∈ b, okN y
  la : a.length ≤ 24
  lb : b.length ≤ 24
noncomputable def spBtw (C : Addr) : Sp := fun vs H Q E => ∃ (r p q : Addr) (row a b : List Str), vs = [.ref r, .ref p, .ref q] ∧ Two H r p q row a b ∧
  ((isPlotB row a = true ∧ isPlotB row b = true) → ∀ l H', H l = none → H' l = some (.lst ((xorL a b).map V.str)) → Same H H' → Q (.ref l) H') ∧ (¬ (isPlotB row a = true ∧ isPlotB row b = true) → ∀ H', Same H H' → E (.ref C) none H')
noncomputable def spFar (C : Addr) : Sp := fun vs H Q E => ∃ (r p q : Addr) (row a b : List Str), vs = [.ref r, .ref p, .ref q] ∧ Two H r p q row a b ∧
  ((isPlotB row a = true ∧ isPlotB row b = true) → ∀ H', Same H H' → Q (.int (xorL a b).length) H') ∧ (¬ (isPlotB row a = true ∧ isPlotB row b = true) → ∀ H', Same H H' → E (.ref C) none H')
end SH

set_option Elab.async false
set_option linter.all false
set_option maxRecDepth 100000
set_option maxHeartbeats 4000000
namespace L2
open PySem PySem.Spec PyProof.Rows
noncomputable def tSset (K : PySem.W.Frag) (te : TE) : TE := fun σ H Q => te σ H fun v H1 => ∃ p ss, v = .ref p ∧ (SqL K H1 p (ss.map V.str) ∨ SqT K H1 p (ss.map V.str)) ∧ ss.length ≤ 60 ∧ ∀ l H', H1 l = none → H' l = some (.lst ((dit ss).map V.str)) → Same H1 H' → Q (.ref l) H'
theorem pe_sset {X : Cx} {e : Expr} {te : TE} {p1 p2 q1 q2 : Pos} (hc : X.calm = true) (hg1 : Gl X "sorted") (hm1 : X.mg "sorted" = none) (hg2 : Gl X "set") (hm2 : X.mg "set" = none) (hv : PE X e te)
    (h1 : starEach [.Call (.Name "set" p2) [e] [] q2] X.env = [(false, eval (.Call (.Name "set" p2) [e] [] q2) X.env)] := by rfl) (h2 : starEach [e] X.env = [(false, eval e X.env)] := by rfl)
    :
    PE X (.Call (.Name "sorted" p1) [.Call (.Name "set" p2) [e] [] q2] [] q1) (tSset X.K te) := by
  intro pins s σ H Q I h
  let Q0 : VK := fun v H1 => ∃ p ss, v = .ref p ∧ (SqL X.K H1 p (ss.map V.str) ∨ SqT X.K H1 p (ss.map V.str)) ∧ ss.length ≤ 60 ∧ ∀ l H', H1 l = none → H' l = some (.lst ((dit ss).map V.str)) → Same H1 H' → Q (.ref l) H'
  have hv' : PE X e (fun σ' H' Q' => te σ' H' Q0 ∧ ∀ v H1, Q0 v H1 → Q' v H1) := fun pins s σ H Q' I h => thn (hv pins s σ H Q0 I h.1) fun u s1 ⟨v, H1, I1, r1, q1⟩ => ⟨v, H1, I1, r1, h.2 v H1 q1⟩
  refine (pe_callB (call_sortedS hc) hg1 hm1 (by rfl) (pa_cons (pe_callTy (call_set hc) hg2 hm2 (by rfl) (pa_cons hv' pa_nil h2) (by decide) (by decide) h2) pa_nil h1) (by decide) (by decide) h1) pins s σ H Q I ⟨h, fun v H1 q0 => ?_⟩
  obtain ⟨p, ss, ev, hq, hl, k⟩ := q0
  refine ⟨p, ss, by rw [ev], hq, by unfold scanBound; omega, fun a na => ?_⟩
  have hdl := ddup_len ss
  refine ⟨a, ddup ss, rfl, upd_same, by omega, fun l ls nl hp hs => ?_⟩
  rw [srt_eq hp hs]
  have s1 : Same H1 (upd H1 a (SetO X.prog X.w a (ddup ss))) := (Same.refl H1).step na
  exact k l _ (s1.free nl) upd_same (s1.step nl)
end L2
namespace SH
open PySem PySem.Spec PyProof.Rows L2
theorem ltS_tri (x y : Str) : ltS x y ∨ x = y ∨ ltS y x := by
  by_cases e : x = y
  · exact .inr (.inl e)
  · rcases leS_total x y with h | h
    · exact .inl (ltS_of h e)
    · exact .inr (.inr (ltS_of h fun z => e z.symm))
noncomputable def xorR (a b : List Str) : List Str := (dit (a ++ b)).filter fun x => !(decide (x ∈ a) && decide (x ∈ b))
noncomputable def spPartL : Sp := fun vs H Q _ => ∃ (p q : Addr) (a b : List Str), vs = [.ref p, .ref q] ∧ H p = some (.lst (a.map V.str)) ∧ H q = some (.lst (b.map V.str)) ∧ a.length ≤ 60 ∧ b.length ≤ 60 ∧ (ddup a).length < 16 ∧ (ddup b).length < 16 ∧
  ∀ l H', H l = none → H' l = some (.lst ((xorR a b).map V.str)) → Same H H' → Q (.ref l) H'
structure First (a b : List Str) (x y : Str) : Prop where
  hx : x ∈ a
  hy : y ∈ a
  lt : ltS x y
  df : lieR a x y ≠ lieR b x y
  fst : ∀ x' y', x' ∈ a → y' ∈ a → ltS x' y' → lieR a x' y' ≠ lieR b x' y' → ltS x x' ∨ (x' = x ∧ (y' = y ∨ ltS y y'))
inductive Due (a b : List Str) : Option (List Str) → Prop
  | ditch (x : Str) (h : x ∈ xorR a b) (f : ∀ y ∈ xorR a b, y = x ∨ ltS x y) : Due a b (some [Str.ofString "ditch", x])
  | lie (x y : Str) (h : ∀ z, z ∈ a ↔ z ∈ b) (f : First a b x y) : Due a b (some [Str.ofString "lie", x, y])
  | none (h : ∀ z, z ∈ a ↔ z ∈ b) (f : ∀ x y, x ∈ a → y ∈ a → ltS x y → lieR a x y = lieR b x y) : Due a b none
structure Two2 (H : Hp) (p q : Addr) (a b : List Str) : Prop where
  hp : H p = some (.lst (a.map V.str))
  hq : H q = some (.lst (b.map V.str))
  ra : Row2 a
  rb : Row2 b
  la : a.length ≤ 28
  lb : b.length ≤ 28
  da : (ddup a).length < 16
  db : (ddup b).length < 16
noncomputable def DueAt (H : Hp) : Option (List Str) → V → Prop
  | none, v => v = .non
  | some ss, v => ∃ l, v = .ref l ∧ H l = some (.tup (ss.map V.str))
noncomputable def spUnl : Sp := fun vs H Q _ => ∃ (p q : Addr) (a b : List Str), vs = [.ref p, .ref q] ∧ Two2 H p q a b ∧ ∀ rr v H', Due a b rr → DueAt H' rr v → Same H H' → Q v H'
theorem getV {ss : List Str} {i : Nat} {x : V} (h : (ss.map V.str)[i]? = some x) : ∃ y, x = V.str y ∧ ss[i]? = some y := by
  rw [List.getElem?_map] at h
  cases q : ss[i]? with
  | none => rw [q] at h; cases h
  | some z =>
    rw [q] at h
    exact ⟨z, (Option.some.inj h).symm, rfl⟩
theorem before {l : List Str} {i : Nat} {x y : Str} (h : l.Pairwise ltS) (hx : l[i]? = some x) (hy : y ∈ l) (lt : ltS y x) : ∃ j, j < i ∧ l[j]? = some y := by
  obtain ⟨j, hj, e⟩ := List.mem_iff_getElem.mp hy
  obtain ⟨hi, e2⟩ := List.getElem?_eq_some_iff.mp hx
  refine ⟨j, ?_, by rw [List.getElem?_eq_getElem hj, e]⟩
  rcases Nat.lt_trichotomy j i with c | c | c
  · exact c
  · subst c
    rw [e] at e2
    exact absurd (e2 ▸ lt) (ltS_irrefl _)
  · have := List.pairwise_iff_getElem.mp h i j hi hj c
    rw [e, e2] at this
    exact absurd (ltS_trans lt this) (ltS_irrefl _)
noncomputable def spSwap : Sp := fun vs H Q _ => ∃ (dr sc r : Addr) (row : List Str), vs = [.ref dr, .ref r] ∧ DrawOk H dr sc ∧ H r = some (.lst (row.map V.str)) ∧ r ≠ dr ∧ row.length ≤ 60 ∧
  ∀ (l : Addr) (t : List Str) (H' : Hp), H l = none → H' l = some (.lst (t.map V.str)) → t.Perm row → DrawOk H' dr sc → But dr H H' → Q (.ref l) H'
noncomputable def spTwin : Sp := fun vs H Q _ => ∃ (dr sc r : Addr) (row : List Str), vs = [.ref dr, .ref r] ∧ DrawOk H dr sc ∧ H r = some (.lst (row.map V.str)) ∧ r ≠ dr ∧ row.length ≤ 60 ∧ (∀ y ∈ row, row.count y = 2) ∧
  ∀ (l : Addr) (t : List Str) (H' : Hp), H l = none → H' l = some (.lst (t.map V.str)) → t.Perm row → DrawOk H' dr sc → But dr H H' → Q (.ref l) H'
noncomputable abbrev NSw : List Str := ["_law_draw", "_law_row_here", "_law_told", "_law_at", "_law_one_here"]
noncomputable abbrev NTw : List Str := ["_law_draw", "_law_row_here", "_law_names_here", "_law_other", "_law_k", "_law_more"]
noncomputable abbrev NTw1 : List Str := ["_law_name", "_law_more"]
noncomputable abbrev NUn : List Str := ["row", "other", "strange", "names", "one", "last"]
noncomputable abbrev NDu : List Str := ["_law_row_here", "_law_other", "_law_names_here", "_law_name", "_law_where_here", "_law_there", "_law_at", "_law_last"]
end SH

set_option Elab.async false
set_option linter.all false
set_option maxRecDepth 100000
set_option maxHeartbeats 4000000
namespace L2
open PySem
noncomputable def clsBody (s : Stmt) : List Stmt := match s with
  | .ClassDef _ _ _ b _ _ _ _ _ _ _ => b
  | _ => []
end L2
namespace SH
open PySem PySem.Spec PyProof.Rows L2
noncomputable def isNameB (t : Str) : Bool := (decide (1 ≤ t.length) && decide (t.length ≤ 8)) && t.cps.toList.all fun c => decide (97 ≤ c) && decide (c ≤ 122)
structure Asc (t : Str) : Prop where
  asc : t.cps.all (· < 128) = true
  len : t.length ≤ 20
theorem Asc.okN {t : Str} (h : Asc t) : okN t := ⟨h.len, fun c hc => by
  have := h.asc
  rw [← Array.all_toList, List.all_eq_true] at this
  have := this c hc
  simp at this
  omega⟩
noncomputable def spIsName : Sp := fun vs H Q _ => ∃ t : Str, vs = [.str t] ∧ Asc t ∧ ∀ H', Same H H' → Q (.bl (isNameB t)) H'
noncomputable def spAskName (C : Addr) : Sp := fun vs H Q E => ∃ t : Str, vs = [.str t] ∧ Asc t ∧ (isNameB t = true → ∀ H', Same H H' → Q .non H') ∧ (isNameB t = false → ∀ H', Same H H' → E (.ref C) none H')
structure IsT (row : List Str) (x y z : Str) : Prop where
  hx : x ∈ row
  hy : y ∈ row
  hz : z ∈ row
  lxy : ltS x y
  lyz : ltS y z
  xy : lieR row x y = "cross"
  yz : lieR row y z = "cross"
  xz : lieR row x z = "cross"
structure First3 (row : List Str) (x y z : Str) : Prop where
  t : IsT row x y z
  fst : ∀ x' y' z', IsT row x' y' z' → ltS x x' ∨ (x' = x ∧ (ltS y y' ∨ (y' = y ∧ (z' = z ∨ ltS z z'))))
theorem First3.uniq {row : List Str} {x y z x' y' z' : Str} (f : First3 row x y z) (g : First3 row x' y' z') : x = x' ∧ y = y' ∧ z = z' := by
  have h1 := f.fst x' y' z' g.t
  have h2 := g.fst x y z f.t
  rcases h1 with h1 | ⟨e, h1⟩
  · rcases h2 with h2 | ⟨e, h2⟩
    · exact absurd (ltS_trans h1 h2) (ltS_irrefl _)
    · exact absurd (e ▸ h1) (ltS_irrefl _)
  · subst e
    rcases h2 with h2 | ⟨_, h2⟩
    · exact absurd h2 (ltS_irrefl _)
    · rcases h1 with h1 | ⟨e, h1⟩
      · rcases h2 with h2 | ⟨e, h2⟩
        · exact absurd (ltS_trans h1 h2) (ltS_irrefl _)
        · exact absurd (e ▸ h1) (ltS_irrefl _)
      · subst e
        rcases h2 with h2 | ⟨_, h2⟩
        · exact absurd h2 (ltS_irrefl _)
        · refine ⟨rfl, rfl, ?_⟩
          rcases h1 with h1 | h1
          · exact h1.symm
          · rcases h2 with h2 | h2
            · exact h2
            · exact absurd (ltS_trans h1 h2) (ltS_irrefl _)
noncomputable def noT (row : List Str) : Prop := ∀ x y z, ¬ IsT row x y z
theorem First3.not {row : List Str} {x y z : Str} (f : First3 row x y z) : ¬ noT row := fun h => h x y z f.t
theorem crs_mem2 {row : List Str} {a b : Str} : (a, b) ∈ crs row ↔ a ∈ row ∧ b ∈ row ∧ ltS a b ∧ lieR row a b = "cross" := by
  unfold crs
  rw [List.mem_flatMap]
  constructor
  · rintro ⟨x, hx, h⟩
    obtain ⟨y, hy, e⟩ := List.mem_map.mp h
    obtain ⟨h1, h2⟩ := List.mem_filter.mp hy
    cases e
    rw [Bool.and_eq_true, decide_eq_true_eq, decide_eq_true_eq] at h2
    exact ⟨dit_mem.mp hx, dit_mem.mp h1, h2.1, h2.2⟩
  · rintro ⟨h1, h2, h3, h4⟩
    refine ⟨a, dit_mem.mpr h1, List.mem_map.mpr ⟨b, List.mem_filter.mpr ⟨dit_mem.mpr h2, ?_⟩, rfl⟩⟩
    rw [decide_eq_true h3, decide_eq_true h4]
    rfl
noncomputable def ltP2 (p q : Str × Str) : Prop := ltS p.1 q.1 ∨ (p.1 = q.1 ∧ ltS p.2 q.2)
theorem crs_pw (row : List Str) : (crs row).Pairwise ltP2 := by
  unfold crs
  rw [List.pairwise_flatMap]
  refine ⟨fun x hx => ?_, ?_⟩
  · rw [List.pairwise_map]
    exact ((dit_lt row).filter _).imp fun h => .inr ⟨rfl, h⟩
  · refine (dit_lt row).imp fun {a b} h => ?_
    intro p hp q hq
    obtain ⟨y, _, rfl⟩ := List.mem_map.mp hp
    obtain ⟨z, _, rfl⟩ := List.mem_map.mp hq
    exact .inl h
theorem ltP2_irr (p : Str × Str) : ¬ ltP2 p p := fun h => by
  rcases h with h | h
  · exact ltS_irrefl _ h
  · exact ltS_irrefl _ h.2
theorem ltP2_tr {p q r : Str × Str} (h : ltP2 p q) (g : ltP2 q r) : ltP2 p r := by
  rcases h with h | ⟨e, h⟩ <;> rcases g with g | ⟨e', g⟩
  · exact .inl (ltS_trans h g)
  · exact .inl (e' ▸ h)
  · exact .inl (e ▸ g)
  · exact .inr ⟨e.trans e', ltS_trans h g⟩
theorem beforeP {l : List (Str × Str)} {i : Nat} {x y : Str × Str} (h : l.Pairwise ltP2) (hx : l[i]? = some x) (hy : y ∈ l) (lt : ltP2 y x) : ∃ j, j < i ∧ l[j]? = some y := by
  obtain ⟨j, hj, e⟩ := List.mem_iff_getElem.mp hy
  obtain ⟨hi, e2⟩ := List.getElem?_eq_some_iff.mp hx
  refine ⟨j, ?_, by rw [List.getElem?_eq_getElem hj, e]⟩
  rcases Nat.lt_trichotomy j i with c | c | c
  · exact c
  · subst c
    rw [e] at e2
    exact absurd (e2 ▸ lt) (ltP2_irr _)
  · have := List.pairwise_iff_getElem.mp h i j hi hj c
    rw [e, e2] at this
    exact absurd (ltP2_tr lt this) (ltP2_irr _)
theorem ltP2_tri (p q : Str × Str) : ltP2 p q ∨ p = q ∨ ltP2 q p := by
  obtain ⟨a, b⟩ := p
  obtain ⟨c, d⟩ := q
  rcases ltS_tri a c with h | h | h
  · exact .inl (.inl h)
  · subst h
    rcases ltS_tri b d with g | g | g
    · exact .inl (.inr ⟨rfl, g⟩)
    · exact .inr (.inl (by rw [g]))
    · exact .inr (.inr (.inr ⟨rfl, g⟩))
  · exact .inr (.inr (.inl h))
theorem getP {H : Hp} {l : Addr} {row : List Str} {xs : List V} {i : Nat} {v : V} (h : DAll (hid l H) ((crs row).map prD) xs) (hx : xs[i]? = some v) : ∃ (pp : Addr) (q : Str × Str), v = .ref pp ∧ H pp = some (.tup [.str q.1, .str q.2]) ∧ (crs row)[i]? = some q := by
  obtain ⟨hi, e⟩ := List.getElem?_eq_some_iff.mp hx
  have hl := dall_len h
  rw [List.length_map] at hl
  have hi' : i < (crs row).length := by omega
  obtain ⟨v1, hv, hd⟩ := dall_get (i := i) (d := prD ((crs row)[i])) h (by rw [List.getElem?_map, List.getElem?_eq_getElem hi']; rfl)
  rw [hx] at hv
  cases hv
  unfold prD DAt at hd
  obtain ⟨pp, ys, rfl, hpp, hys⟩ := hd
  obtain rfl := dall_strs_inv (ss := [((crs row)[i]).1, ((crs row)[i]).2]) hys
  exact ⟨pp, (crs row)[i], rfl, hid_same l H _ _ hpp, List.getElem?_eq_getElem hi'⟩
noncomputable def ThreeAt (H : Hp) (dx : Addr) (x y z : Str) : Prop := ∃ t, H dx = some (.ext (xdP dx [(Str.ofString "three", .ref t)])) ∧ H t = some (.tup [.str x, .str y, .str z])
noncomputable def spUnb (C : Addr) : Sp := fun vs H Q E => ∃ (r : Addr) (row : List Str), vs = [.ref r] ∧ H r = some (.lst (row.map V.str)) ∧ Row2 row ∧ row.length ≤ 32 ∧
  (noT row → ∀ H', Same H H' → Q .non H') ∧ (∀ x y z dx H', First3 row x y z → ThreeAt H' dx x y z → Same H H' → E (.ref C) (some dx) H')
noncomputable abbrev NUb : List Str := ["row", "pairs", "one", "other", "middle", "last"]
inductive PO
  | name | taken | full | place
  | barred (x y z : Str)
  | told
noncomputable def PutDue (row : List Str) (x : Str) (a b : Int) : PO → Prop
  | .name => isNameB x = false
  | .taken => isNameB x = true ∧ x ∈ row
  | .full => isNameB x = true ∧ x ∉ row ∧ 14 ≤ (dit row).length
  | .place => isNameB x = true ∧ x ∉ row ∧ (dit row).length < 14 ∧ ¬ (0 ≤ a ∧ a ≤ b ∧ b ≤ row.length)
  | .barred u v w => isNameB x = true ∧ x ∉ row ∧ (dit row).length < 14 ∧ (0 ≤ a ∧ a ≤ b ∧ b ≤ row.length) ∧ First3 (putR row x a.toNat b.toNat) u v w
  | .told => isNameB x = true ∧ x ∉ row ∧ (dit row).length < 14 ∧ (0 ≤ a ∧ a ≤ b ∧ b ≤ row.length) ∧ noT (putR row x a.toNat b.toNat)
theorem PutDue.uniq {row : List Str} {x : Str} {a b : Int} {o o' : PO} (h : PutDue row x a b o) (g : PutDue row x a b o') : o = o' := by
  cases o <;> cases o' <;> unfold PutDue at h g <;> first
    | rfl
    | (exfalso; simp_all; done)
    | (exfalso; obtain ⟨h1, h2, h3, h4⟩ := h; obtain ⟨g1, g2, g3⟩ := g; omega)
    | (exfalso; obtain ⟨h1, h2, h3⟩ := h; obtain ⟨g1, g2, g3, g4⟩ := g; omega)
    | (exfalso; obtain ⟨h1, h2, h3, h4⟩ := h; obtain ⟨g1, g2, g3, g4, g5⟩ := g; exact h4 g4)
    | (exfalso; obtain ⟨h1, h2, h3, h4, h5⟩ := h; obtain ⟨g1, g2, g3, g4⟩ := g; exact g4 h4)
    | (exfalso; exact h.2.2.2.2.not g.2.2.2.2)
    | (exfalso; exact g.2.2.2.2.not h.2.2.2.2)
    | (obtain ⟨e1, e2, e3⟩ := h.2.2.2.2.uniq g.2.2.2.2; rw [e1, e2, e3])
structure PutC where
  name : Addr
  taken : Addr
  full : Addr
  place : Addr
  barred : Addr
noncomputable def PutC.of (C : PutC) : PO → Addr
  | .name => C.name
  | .taken => C.taken
  | .full => C.full
  | .place => C.place
  | .barred .. => C.barred
  | .told => 0
noncomputable def plainO : PO → Bool
  | .barred .. => false
  | .told => false
  | _ => true
noncomputable def spPutIn (C : PutC) : Sp := fun vs H Q E => ∃ (r : Addr) (row : List Str) (x : Str) (a b : Int), vs = [.ref r, .str x, .int a, .int b] ∧ H r = some (.lst (row.map V.str)) ∧ Row2 row ∧ row.length ≤ 28 ∧ Asc x ∧ -1000 ≤ a ∧ a ≤ 1000 ∧ -1000 ≤ b ∧ b ≤ 1000 ∧
  (PutDue row x a b .told → ∀ l H', H l = none → H' l = some (.lst ((putR row x a.toNat b.toNat).map V.str)) → Same H H' → Q (.ref l) H') ∧
  (∀ o, plainO o = true → PutDue row x a b o → ∀ H', Same H H' → E (.ref (C.of o)) none H') ∧
  (∀ u v w, PutDue row x a b (.barred u v w) → ∀ dx H', ThreeAt H' dx u v w → Same H H' → E (.ref C.barred) (some dx) H')
noncomputable abbrev NPi : List Str := ["row", "name", "at", "to", "more"]
theorem row2_put {row : List Str} {x : Str} {a b : Nat} (R : Row2 row) (hx : okN x) (n : x ∉ row) (hl : row.length ≤ 28) (hab : a ≤ b) : Row2 (putR row x a b) ∧ (putR row x a b).length ≤ 30 := by
  have p := putR_perm row x a b hab
  have hlen : (putR row x a b).length ≤ 30 := by rw [p.length_eq]; show row.length + 1 + 1 ≤ 30; omega
  refine ⟨⟨fun y hy => ?_, fun y hy => ?_, by omega⟩, hlen⟩
  · rw [p.count_eq]
    by_cases e : y = x
    · subst e
      rw [List.count_cons_self, List.count_cons_self, List.count_eq_zero.mpr n]
    · have : y ∈ row := by
        have := p.mem_iff.mp hy
        simp at this
        rcases this with z | z
        · exact absurd z e
        · exact z
      rw [List.count_cons_of_ne (fun z => e z.symm), List.count_cons_of_ne (fun z => e z.symm)]
      exact R.two y this
  · have := p.mem_iff.mp hy
    simp at this
    rcases this with z | z
    · rw [z]; exact hx
    · exact R.ok y z
noncomputable abbrev lettersS : Str := "abcdefghijklmnopqrstuvwxyz"
theorem in_letters : ∀ c < 128, (!(Builtin.Str.occurrences lettersS ⟨#[c]⟩ 0 lettersS.length 1).isEmpty) = (decide (97 ≤ c) && decide (c ≤ 122)) := by decide +kernel
noncomputable def spThr : Sp := fun vs H Q _ => ∃ (r : Addr) (row : List Str), vs = [.ref r] ∧ H r = some (.lst (row.map V.str)) ∧ Row2 row ∧ row.length ≤ 32 ∧
  (noT row → ∀ H', Same H H' → Q .non H') ∧ ∀ x y z t H', First3 row x y z → H t = none → H' t = some (.tup [.str x, .str y, .str z]) → Same H H' → Q (.ref t) H'
noncomputable abbrev NLi : List Str := ["_law_text", "_law_letters"]
noncomputable abbrev NLi1 : List Str := ["_law_sign", "_law_letters"]
noncomputable abbrev NTr : List Str := ["_law_row_here", "_law_where_here", "_law_names_here", "_law_a", "_law_met", "_law_b", "_law_c"]
noncomputable abbrev NTr1 : List Str := ["_law_one", "_law_a", "_law_names_here", "_law_where_here"]
noncomputable def badNames : List Str := ["", "A", "abcdefghi", "a b", "a1", "-", "ababababababababab", "aB"]
theorem bad_ok : ∀ t ∈ badNames, t.cps.all (· < 128) = true ∧ t.length ≤ 20 ∧ isNameB t = false := by decide +kernel
noncomputable def spBad : Sp := fun vs H Q _ => ∃ (dr sc : Addr), vs = [.ref dr] ∧ DrawOk H dr sc ∧ ∀ (t : Str) (H' : Hp), t ∈ badNames → DrawOk H' dr sc → But dr H H' → Q (.str t) H'
noncomputable def wordO : PO → Str
  | .name => "name"
  | .taken => "taken"
  | .full => "full"
  | .place => "place"
  | .barred .. => "barred"
  | .told => "told"
noncomputable def thrD : PO → PyData
  | .barred x y z => .tuple [.str x, .str y, .str z]
  | _ => .none
noncomputable def poD (o : PO) : PyData := .tuple [.str (wordO o), thrD o]
noncomputable def spLDue : Sp := fun vs H Q _ => ∃ (r : Addr) (row : List Str) (x : Str) (a b : Int), vs = [.ref r, .str x, .int a, .int b] ∧ H r = some (.lst (row.map V.str)) ∧ Row2 row ∧ row.length ≤ 28 ∧ Asc x ∧ -1000 ≤ a ∧ a ≤ 1000 ∧ -1000 ≤ b ∧ b ≤ 1000 ∧
  ∀ o t v H', PutDue row x a b o → H' t = some (.tup [.str (wordO o), v]) → DAt H' (thrD o) v → Same H H' → Q (.ref t) H'
noncomputable def spSaid5 : Sp := fun vs H Q _ => ∃ (r : Addr) (row : List Str) (x : Str) (a b : Int) (o : PO), vs = [.ref r, .str x, .int a, .int b] ∧ H r = some (.lst (row.map V.str)) ∧ Row2 row ∧ row.length ≤ 28 ∧ Asc x ∧ -1000 ≤ a ∧ a ≤ 1000 ∧ -1000 ≤ b ∧ b ≤ 1000 ∧ PutDue row x a b o ∧ o ≠ .told ∧
  ∀ t v H', H' t = some (.tup [.str (wordO o), v]) → DAt H' (thrD o) v → Same H H' → Q (.ref t) H'
noncomputable abbrev NDl : List Str := ["_law_row_here", "_law_name", "_law_at", "_law_to", "_law_three_here"]
noncomputable abbrev NSa : List Str := ["_law_row_here", "_law_name", "_law_at", "_law_to", "_law_said_here", "e", "_law_kinds"]
end SH

set_option Elab.async false
set_option linter.all false
set_option maxRecDepth 100000
set_option maxHeartbeats 4000000
namespace SH
open PySem PySem.Spec PyProof.Rows L2
theorem ddup_half {a : List Str} (h : ∀ y ∈ a, a.count y = 2) : a.length = 2 * (ddup a).length := by
  have p : a.Perm (ddup a ++ ddup a) := by
    rw [List.perm_iff_count]
    intro y
    rw [List.count_append]
    by_cases hy : y ∈ a
    · rw [h y hy, (ddup_nd a).count, if_pos ((ddup_mem a y).mpr hy)]
    · rw [List.count_eq_zero.mpr hy, (ddup_nd a).count, if_neg (fun z => hy ((ddup_mem a y).mp z))]
  rw [p.length_eq, List.length_append]
  omega
theorem dit_half {row : List Str} (R : Row2 row) : row.length = 2 * (dit row).length := by
  have := ddup_half R.two
  unfold dit
  rw [(srt_perm _).length_eq]
  exact this
theorem putR_len {row : List Str} {x : Str} {a b : Nat} (hab : a ≤ b) : (putR row x a b).length = row.length + 2 := by
  rw [(putR_perm row x a b hab).length_eq]
  rfl
noncomputable def kindO : PO → Nat
  | .name => 0
  | .taken => 1
  | .full => 2
  | .place => 3
  | .barred .. => 4
  | .told => 5
structure PutK (K : PySem.W.Frag) (C : PutC) (S : Addr) : Prop where
  fn : ExcF K C.name
  ft : ExcF K C.taken
  ff : ExcF K C.full
  fp : ExcF K C.place
  fb : ExcF K C.barred
  kb : ExK K C.barred "three"
  eb : PySem.W.exmOne K (.ref C.barred) (.ref C.barred) = some true
  nb : ∀ o, plainO o = true → PySem.W.exmOne K (.ref (C.of o)) (.ref C.barred) = some false
  es : ∀ o, plainO o = true → PySem.W.exmOne K (.ref (C.of o)) (.ref S) = some true
  v : ∀ o, plainO o = true → PySem.W.kitOne K (.ref (C.of o)) (.type "ValueError") = some true
  kn : ∀ o, plainO o = true → PySem.W.kitOne K (.ref (C.of o)) (.ref C.name) = some (decide (kindO o = 0))
  kt : ∀ o, plainO o = true → PySem.W.kitOne K (.ref (C.of o)) (.ref C.taken) = some (decide (kindO o = 1))
  kf : ∀ o, plainO o = true → PySem.W.kitOne K (.ref (C.of o)) (.ref C.full) = some (decide (kindO o = 2))
  kp : ∀ o, plainO o = true → PySem.W.kitOne K (.ref (C.of o)) (.ref C.place) = some (decide (kindO o = 3))
theorem PutK.f {K : PySem.W.Frag} {C : PutC} {S : Addr} (k : PutK K C S) : ∀ o, plainO o = true → ExcF K (C.of o)
  | .name, _ => k.fn
  | .taken, _ => k.ft
  | .full, _ => k.ff
  | .place, _ => k.fp
theorem noT_of {row : List Str} (h : noThree row) : noT row := fun x y z t => h x t.hx y t.hy z t.hz t.xy t.xz t.yz
theorem put00 (row : List Str) (s : Str) : putR row s 0 0 = [s, s] ++ row := by simp [putR]
theorem noT_other {row : List Str} {s : Str} (R : Row2 row) (n : noThree row) (hs : s ∉ row) (ok : okN s) (l : row.length ≤ 28) : noT (putR row s 0 0) := by
  obtain ⟨R', _⟩ := row2_put (a := 0) (b := 0) R ok hs l (Nat.le_refl _)
  have sm : s ∈ putR row s 0 0 := by rw [put00]; simp
  have hp : plc (putR row s 0 0) s = [(pl (putR row s 0 0) s).1, (pl (putR row s 0 0) s).2] := pl_plc (R'.two s sm)
  have m0 : (0 : Int) ∈ plc (putR row s 0 0) s := plc_mem.mpr ⟨0, rfl, by rw [put00]; rfl⟩
  have m1 : (1 : Int) ∈ plc (putR row s 0 0) s := plc_mem.mpr ⟨1, rfl, by rw [put00]; rfl⟩
  rw [hp] at m0 m1
  have hlt := pl_lt (R'.two s sm)
  have hnn := pl_nn (R'.two s sm)
  simp only [List.mem_cons, List.not_mem_nil, or_false] at m0 m1
  have e0 : (pl (putR row s 0 0) s).1 = 0 := by omega
  have e1 : (pl (putR row s 0 0) s).2 = 1 := by omega
  have no : ∀ y ∈ putR row s 0 0, ¬ crossP (putR row s 0 0) s y := fun y hy c => by
    unfold crossP at c
    by_cases e : s = y
    · subst e
      rw [lieR_self] at c
      exact absurd c (by decide +kernel)
    · rw [lieR_word (R'.two s sm) (R'.two y hy), e0, e1, decide_eq_false e, word_cross, nIn2] at c
      rw [if_neg (by omega), if_neg (by omega)] at c
      cases c
  refine noT_of (noThree_put n R.two R'.two (fun y hy => ?_) (fun p hp => putR_filter (Nat.le_refl 0) hp) fun y hy z hz c _ => absurd c (no y hy))
  rw [put00] at hy
  simp at hy
  rcases hy with h | h
  · exact .inl h
  · exact .inr h
theorem names_asc14 : ∀ st < 26, ∀ late : Bool, ∀ x ∈ namesAt st late 14, x.cps.all (· < 128) = true ∧ x.length ≤ 20 := by decide +kernel
theorem str_asc14 : ∀ st < 26, ∀ late : Bool, ∀ y ∈ namesAt st late 14, (Txt.slice y none (some 7) ++ Str.ofString "q").cps.all (· < 128) = true ∧ (Txt.slice y none (some 7) ++ Str.ofString "q").length ≤ 20 ∧ isNameB (Txt.slice y none (some 7) ++ Str.ofString "q") = true := by decide +kernel
structure LR (st : Nat) (late : Bool) (a : List Str) : Prop where
  lt : st < 26
  sub : ∀ y ∈ a, y ∈ namesAt st late 14
  two : ∀ y ∈ a, a.count y = 2
  len : a.length ≤ 28
theorem LR.of {st n : Nat} {late : Bool} {row : List Str} (lt : st < 26) (hn : n ≤ 14) (hp : row.Perm (namesAt st late n ++ namesAt st late n)) : LR st late row :=
  ⟨lt, fun y hy => names_sub hn (by rcases List.mem_append.mp (hp.mem_iff.mp hy) with z | z <;> exact z), count_two (names_nd lt hn) hp, by
    rw [hp.length_eq, List.length_append]
    unfold namesAt
    rw [List.length_map, List.length_range]
    omega⟩
theorem LR.row2 {st : Nat} {late : Bool} {a : List Str} (g : LR st late a) : Row2 a := ⟨g.two, fun y hy => names_ok14 st g.lt late y (g.sub y hy), by have := g.len; omega⟩
theorem LR.asc {st : Nat} {late : Bool} {a : List Str} (g : LR st late a) {y : Str} (hy : y ∈ a) : Asc y := by
  obtain ⟨h1, h2⟩ := names_asc14 st g.lt late y (g.sub y hy)
  exact ⟨h1, h2⟩
theorem LR.str {st : Nat} {late : Bool} {a : List Str} (g : LR st late a) : Asc (strangerOf a) ∧ isNameB (strangerOf a) = true ∧ strangerOf a ∉ a := by
  cases a with
  | nil => exact ⟨⟨by decide +kernel, by decide +kernel⟩, by decide +kernel, by simp⟩
  | cons y r =>
    obtain ⟨h1, h2, h3⟩ := str_asc14 st g.lt late y (g.sub y List.mem_cons_self)
    obtain ⟨_, h4⟩ := stranger14 st g.lt late y (g.sub y List.mem_cons_self)
    exact ⟨⟨h1, h2⟩, h3, fun z => h4 (g.sub _ z)⟩
theorem pass2X {X : Cx} : Passes (CX2 X.prog X.w) X E0 := fun _ _ _ _ _ _ _ h => by
  obtain ⟨_, _, _, _, _, _, _, _, _, _, h⟩ := h
  exact h.elim
theorem wordO_told {o : PO} : wordO o = "told" ↔ o = .told := by
  constructor
  · intro h
    cases o <;> first | rfl | (exfalso; dsimp only [wordO] at h; revert h; decide +kernel)
  · intro h
    rw [h]
    rfl
end SH

set_option linter.all false
namespace SH
theorem mA {a n : Nat} (h : n ≤ 1000) : min a n ≤ 99999 := Nat.le_trans (Nat.min_le_right a n) (Nat.le_trans h (by decide))
theorem mB {a b n : Nat} (h : n ≤ 1000) : min a n + 1 + min (b - a) (n - a) ≤ 100000 := Nat.le_trans (Nat.add_le_add (Nat.add_le_add_right (Nat.le_trans (Nat.min_le_right _ _) h) 1) (Nat.le_trans (Nat.min_le_right _ _) (Nat.le_trans (Nat.sub_le _ _) h))) (by decide)
theorem mC {a b n : Nat} (h : n ≤ 1000) : min a n + (min (b - a) (n - a) + 1) ≤ 99999 := Nat.le_trans (Nat.add_le_add (Nat.le_trans (Nat.min_le_right _ _) h) (Nat.add_le_add_right (Nat.le_trans (Nat.min_le_right _ _) (Nat.le_trans (Nat.sub_le _ _) h)) 1)) (by decide)
theorem mD {a b n : Nat} (h : n ≤ 1000) : min a n + (min (b - a) (n - a) + 1 + 1) + (n - b) ≤ 100000 := Nat.le_trans (Nat.add_le_add (Nat.add_le_add (Nat.le_trans (Nat.min_le_right _ _) h) (Nat.add_le_add_right (Nat.add_le_add_right (Nat.le_trans (Nat.min_le_right _ _) (Nat.le_trans (Nat.sub_le _ _) h)) 1) 1)) (Nat.le_trans (Nat.sub_le _ _) h)) (by decide)
theorem rgl (n : Nat) : -2 ^ 62 ≤ (n : Int) := by omega
theorem rgu {n : Nat} (h : n ≤ 1000) : (n : Int) < 2 ^ 62 := by omega
theorem ltn {j i : Nat} (h : j < i + 1) (n : ¬ j = i) : j < i := Nat.lt_of_le_of_ne (Nat.le_of_lt_succ h) n
theorem pos1 (n : Nat) : (0 : Int) < (n : Int) + 1 := by omega
theorem pos5 (n : Nat) : (0 : Int) < (n : Int) + 5 := by omega
theorem le1 {n : Nat} (h : n ≤ 900) : (n : Int) + 1 ≤ 1000 := by omega
theorem le5 {n : Nat} (h : n ≤ 900) : (n : Int) + 5 ≤ 1000 := by omega
theorem z1 (i : Nat) : (0 : Int) + (i : Int) + 1 = ((i + 1 : Nat) : Int) := by omega
theorem back {a m : Nat} (h : a < m) : a + 1 + (m - (a + 1)) = m := by omega
theorem e18l (n : Nat) : -10 ^ 18 < (n : Int) := by omega
theorem e18u {n : Nat} (h : n ≤ 1000) : (n : Int) < 10 ^ 18 := by omega
theorem k18l {b : Int} (h : -1000 ≤ b) : -10 ^ 18 < b := by omega
theorem k18u {b : Int} (h : b ≤ 1000) : b < 10 ^ 18 := by omega
end SH

set_option Elab.async false
set_option linter.all false
set_option maxRecDepth 100000
set_option maxHeartbeats 4000000
namespace K5
open PySem PySem.Spec PyProof.Rows L2 SH
noncomputable def top (i : Nat) : Stmt := PySem.Challenge.pw_shoretold_k05_a_ditch_put_in.main.body.getD i (.Pass ⟨0, 0, 0, 0⟩)
noncomputable abbrev sInit : Stmt := (clsBody (top 7)).getD 0 (.Pass ⟨0, 0, 0, 0⟩)
noncomputable abbrev s_is_name : Stmt := top 11
noncomputable abbrev s_ask_name : Stmt := top 12
noncomputable abbrev sAsk : Stmt := top 13
noncomputable abbrev s_ask_unbarred : Stmt := top 14
noncomputable abbrev sDitches : Stmt := top 15
noncomputable abbrev sEnds : Stmt := top 16
noncomputable abbrev sSpans : Stmt := top 17
noncomputable abbrev sLieOf : Stmt := top 18
noncomputable abbrev sCross : Stmt := top 19
noncomputable abbrev s_put_in : Stmt := top 20
noncomputable abbrev sLeft : Stmt := top 21
noncomputable abbrev s__law_is_name : Stmt := top 23
noncomputable abbrev sWhere : Stmt := top 24
noncomputable abbrev sWord : Stmt := top 25
noncomputable abbrev s__law_three : Stmt := top 26
noncomputable abbrev sPut : Stmt := top 27
noncomputable abbrev sBegin : Stmt := top 28
noncomputable abbrev sPick : Stmt := top 29
noncomputable abbrev sBarred : Stmt := top 30
noncomputable abbrev sRow : Stmt := top 31
noncomputable abbrev sNames : Stmt := top 32
noncomputable abbrev sIsland : Stmt := top 33
noncomputable abbrev s__law_stranger : Stmt := top 34
noncomputable abbrev s__law_bad_name : Stmt := top 35
noncomputable abbrev sTexts : Stmt := top 36
noncomputable abbrev s__law_said : Stmt := top 37
noncomputable abbrev s__law_due : Stmt := top 38
noncomputable abbrev s_law : Stmt := top 39
section
variable {P : Program} {w : World} {K : PySem.W.Frag} {mg : Str → Option Value} {base : Heap}
theorem scInit : FnScope ["self", "three"] ["self", "three"] (defScope sInit) := ⟨rfl, rfl, rfl, by decide +kernel, rfl, by decide +kernel, by decide +kernel⟩
theorem ok_init {f : Addr} {fd : FuncData} (F : Fun K "__init__" "Barred.__init__" sInit f fd) : FnOk P w K mg base CX0 1 f fd ["self", "three"] (spInit K "three") := by
  refine F.ok scInit (fun vs H Q E h => ?_) (fun cdv A outer s H vs Q E hr h => ?_)
  · obtain ⟨a, C, y, rfl, _⟩ := h
    rfl
  · obtain ⟨a, C, y, rfl, ha, c, k⟩ := h
    refine ⟨_, pss_one (ps_fldX rfl (pv 0) (pv 1) (by rfl)), ?_⟩
    exact ⟨_, rfl, _, rfl, a, C, rfl, ha, c, k⟩
theorem scIsName : FnScope ["text"] ["text"] (defScope s_is_name) := ⟨rfl, rfl, rfl, by decide +kernel, rfl, by decide +kernel, by decide +kernel⟩
theorem ok_isname {f : Addr} {fd : FuncData} {tk : Tok} (F : Fun K "is_name" "is_name" s_is_name f fd) (T : Bl mg) (hL : mg "LONGEST_NAME" = some (.int 8 tk)) : FnOk P w K mg base CX0 1 f fd ["text"] spIsName := by
  refine F.ok scIsName (fun vs H Q E h => ?_) (fun cdv A outer s H vs Q E hr h => ?_)
  · obtain ⟨t, rfl, _⟩ := h
    rfl
  · obtain ⟨t, rfl, ha, k⟩ := h
    have hl := ha.len
    refine ⟨_, pss_cons (ps_if (pt_not (pt_chain op_le op_le pe_int (pe_callB call_len_str (by rfl) T.len boot_len (pa_cons (pv 0) pa_nil)) (pe_glob (v := .int 8) (by rfl) hL ⟨_, rfl⟩))) (pss_one (ps_ret pe_bl)) pss_nil)
      (pss_one (ps_ret (pe_callB (call_all rfl) (by rfl) T.all (by rfl) (pa_cons (pe_comp (N := ["sign"]) (cap := [none]) (CompScope.of (defScope s_is_name) ["text"] rfl rfl rfl (by decide +kernel)) rfl
        (pi_str (pv 0)) (fun _ _ _ => pg_name (i := 0) (show (["sign"] : List Str).Nodup by decide +kernel) rfl (Or.inl rfl) (Or.inr rfl)) (fun _ _ _ => pifs_nil) (fun _ _ _ => pe_chain op_le_str op_le_str pe_str (pv 0) pe_str)) pa_nil)))), ?_⟩
    have kk := k H (Same.refl H)
    refine ⟨_, rfl, t, rfl, by rw [sizeLine_eq]; omega, _, _, rfl, rfl, _, rfl, ?_⟩
    refine ite2b (fun q1 => ?_) (fun q1 => ?_)
    · refine ⟨_, _, rfl, rfl, _, rfl, ?_⟩
      refine ite2b (fun q2 => ?_) (fun q2 => ?_)
      · have e2 : decide (t.length ≤ 8) = false := by
          refine decide_eq_false fun z => ?_
          have : decide (((t.length : Nat) : Int) ≤ 8) = true := decide_eq_true (by omega)
          rw [this] at q2
          cases q2
        unfold isNameB at kk
        rw [e2, Bool.and_false, Bool.false_and] at kk
        exact kk
      · have e1 : decide (1 ≤ t.length) = true := decide_eq_true (by have := of_decide_eq_true q1; omega)
        have e2 : decide (t.length ≤ 8) = true := by
          refine decide_eq_true ?_
          have : decide (((t.length : Nat) : Int) ≤ 8) = true := by simpa using q2
          have := of_decide_eq_true this
          omega
        refine ⟨_, rfl, t, rfl, ha.asc, ?_⟩
        have hsz : t.cps.size = t.length := rfl
        refine blk_map (n := t.cps.size) (by rw [hsz, sizeLine_eq]; omega) (fun i => .str ⟨#[t.cps.toList.getD i 0]⟩) (fun i => .bl (decide (97 ≤ t.cps.toList.getD i 0) && decide (t.cps.toList.getD i 0 ≤ 122))) ?_ ?_ ?_ ?_
        · exact fun i H2 hi _ => go_str hi
        · exact fun H2 _ => st_str
        · intro i H2 Q' hi s2 k2
          refine tChain_ss (x := 97) (y := t.cps.toList.getD i 0) (z := 122) (fun Q' h => ?_) (fun Q' h => ⟨_, rfl, h⟩) (fun Q' h => ?_) (k2 H2 (Same.refl _))
          · exact (show Q' (.str (Str.ofString "a")) H2 from (show (⟨#[97]⟩ : Str) = Str.ofString "a" from by decide +kernel) ▸ h)
          · exact (show Q' (.str (Str.ofString "z")) H2 from (show (⟨#[122]⟩ : Str) = Str.ofString "z" from by decide +kernel) ▸ h)
        · intro D H2 nD s2 hD
          have hD' : H2 D = some (.lst (((List.range t.cps.size).map fun i => decide (97 ≤ t.cps.toList.getD i 0) && decide (t.cps.toList.getD i 0 ≤ 122)).map V.bl)) := by rw [hD, List.map_map]; rfl
          refine ⟨D, _, rfl, hD', ?_⟩
          have := k H2 s2
          unfold isNameB at this
          rw [e1, e2, Bool.true_and, Bool.true_and] at this
          have e3 : ((List.range t.cps.size).map fun i => decide (97 ≤ t.cps.toList.getD i 0) && decide (t.cps.toList.getD i 0 ≤ 122)).all id = t.cps.toList.all fun c => decide (97 ≤ c) && decide (c ≤ 122) := by
            rw [show t.cps.size = t.cps.toList.length from by simp]
            rw [List.all_map]
            have := all_range (0 : Nat) (fun c => decide (97 ≤ c) && decide (c ≤ 122)) t.cps.toList
            rw [List.all_map] at this
            exact this
          rw [← e3] at this
          exact this
    · have e1 : decide (1 ≤ t.length) = false := by
        refine decide_eq_false fun z => ?_
        have : decide ((1 : Int) ≤ ((t.length : Nat) : Int)) = true := decide_eq_true (by omega)
        rw [this] at q1
        cases q1
      unfold isNameB at kk
      rw [e1, Bool.false_and, Bool.false_and] at kk
      exact ⟨_, rfl, kk⟩
theorem scAskName : FnScope ["name"] ["name"] (defScope s_ask_name) := ⟨rfl, rfl, rfl, by decide +kernel, rfl, by decide +kernel, by decide +kernel⟩
theorem ok_askname {f C : Addr} {fd : FuncData} {tk : Tok} (F : Fun K "ask_name" "ask_name" s_ask_name f fd) (hC : mg "BadName" = some (.ref C)) (hc : PySem.W.excIn K C bmV "ValueError.__new__" = true) (hL : mg "LONGEST_NAME" = some (.int 8 tk))
    (FN : Fn P w K mg base CX0 1 "is_name" ["text"] spIsName) : FnOk P w K mg base (CX2 P w) 2 f fd ["name"] (spAskName C) := by
  refine F.ok2 scAskName (fun vs H Q E h => ?_) (fun cdv A outer s H vs Q E hr h => ?_)
  · obtain ⟨t, rfl, _⟩ := h
    rfl
  · obtain ⟨t, rfl, ha, kq, ke⟩ := h
    have hl := ha.len
    refine ⟨_, pss_one (ps_if (pt_not (pt_val (pe_fn FN hr (by rfl) pass0 (pa_cons (pv 0) pa_nil))))
      (pss_one (ps_raise2 (C := C) (E := E) hc rfl leaves2 (by rfl) hC (pa_cons (pe_join (pj_str (by decide +kernel) (pj_int (pe_glob (v := .int 8) (by rfl) hL ⟨_, rfl⟩) (pj_str (by decide +kernel) (pj_repr (pv 0) pj_nil))))) pa_nil))) pss_nil), ?_⟩
    refine ⟨_, rfl, t, rfl, ha, fun H1 s1 => ⟨_, rfl, ?_⟩⟩
    cases hn : isNameB t with
    | true => exact iteF (kq hn H1 s1)
    | false =>
      refine iteT ⟨8, rfl, by decide, by decide, _, rfl, t, rfl, by omega, (fun c h => Nat.lt_trans (ha.okN.2 c h) (by decide)), fun z => ?_⟩
      exact ⟨by show 1 ≤ sizeLine; decide, ke hn H1 s1⟩
theorem scAsk : FnScope ["row", "name"] ["row", "name"] (defScope sAsk) := ⟨rfl, rfl, rfl, by decide +kernel, rfl, by decide +kernel, by decide +kernel⟩
theorem ok_ask {f C : Addr} {fd : FuncData} (F : Fun K "ask_ditch" "ask_ditch" sAsk f fd) (hC : mg "NoDitch" = some (.ref C)) (hc : PySem.W.excIn K C bmV "ValueError.__new__" = true) :
    FnOk P w K mg base (CX1 P w) 1 f fd ["row", "name"] (spAsk C) := by
  refine F.ok1 scAsk (fun vs H Q E h => ?_) (fun cdv A outer s H vs Q E hr h => ?_)
  · obtain ⟨r, row, x, rfl, _⟩ := h
    rfl
  · obtain ⟨r, row, x, rfl, hR, ⟨hx1, hx2⟩, kq, ke⟩ := h
    refine ⟨_, pss_one (ps_if (pt_cmpR op_notIn_seq (pv 1) (pv 0) (by rfl))
      (pss_one (ps_raise (C := C) (E := E) hc rfl leaves1 (by rfl) hC (pa_cons (pe_join (pj_str (by decide +kernel) (pj_repr (pv 1) (pj_str (by decide +kernel) pj_nil)))) pa_nil))) pss_nil), ?_⟩
    refine ⟨_, rfl, _, rfl, r, _, rfl, .inl (SqL.of hR), rfl, flat_all row, _, rfl, ?_⟩
    rw [inV_str]
    by_cases hx : x ∈ row
    · refine iteNS hx ?_
      exact kq hx H (Same.refl H)
    · rw [decide_eq_false hx]
      refine iteT ?_
      refine ⟨_, rfl, x, rfl, by omega, (fun c h => Nat.lt_trans (hx2 c h) (by decide)), fun z => ?_⟩
      exact ⟨by show 1 ≤ sizeLine; decide, ke hx H (Same.refl H)⟩
theorem scUnb : FnScope NUb ["row"] (defScope s_ask_unbarred) := ⟨rfl, rfl, rfl, by decide +kernel, rfl, by decide +kernel, by decide +kernel⟩
theorem ok_unb {f C fI : Addr} {fd fdI : FuncData} {kI : Nat} (F : Fun K "ask_unbarred" "ask_unbarred" s_ask_unbarred f fd) (hC : mg "Barred" = some (.ref C)) (hc : excInI K C fI = true) (hk : ExK K C "three") (FI : FnOk P w K mg base CX0 1 fI fdI ["self", "three"] (spInit K "three")) (hb : Binds K fdI ["self", "three"] [])
    (FC : Fn P w K mg base CX0 4 "crossings" ["row"] spCrossings) : FnOk P w K mg base (CX2 P w) 5 f fd ["row"] (spUnb C) := by
  refine F.ok2 scUnb (fun vs H Q E h => ?_) (fun cdv A outer s H vs Q E hr h => ?_)
  · obtain ⟨r, row, rfl, _⟩ := h
    rfl
  · obtain ⟨r, row, rfl, hR, R2, hlen, kq, ke⟩ := h
    have hr2 : Room 2 _ := hr.mono (by decide)
    refine ⟨_, pss_cons (ps_set (i := 1) scUnb.nd rfl (Or.inl rfl) (pe_fn FC hr (by rfl) pass0 (pa_cons (pv 0) pa_nil)))
      (pss_one (ps_for PassesOwn.leaving rfl (pi_list (pv 1)) (pg_tup (n := 2) rfl (pgs_cons (pg_name (i := 2) scUnb.nd rfl (Or.inl rfl)) (pgs_cons (pg_name (i := 3) scUnb.nd rfl (Or.inl rfl)) pgs_nil)))
        (pss_one (ps_for PassesOwn.leaving rfl (pi_list (pv 1)) (pg_tup (n := 2) rfl (pgs_cons (pg_name (i := 4) scUnb.nd rfl (Or.inl rfl)) (pgs_cons (pg_name (i := 5) scUnb.nd rfl (Or.inl rfl)) pgs_nil)))
          (pss_one (ps_if (pw_and (pt_cmpR op_eq (pv 4) (pv 3) (nomark _)) (pw_and1 (pt_cmpR (op_inD (hu4 hr)) (pe_tup (pa_cons (pv 2) (pa_cons (pv 5) pa_nil))) (pv 1) (by rfl)))).pt
            (pss_one (ps_raiseI (C := C) (f := "three") (E := E) hc rfl rfl hk leaves3 (by rfl) hC FI hr2 hb (pa_cons (pe_tup (pa_cons (pv 2) (pa_cons (pv 3) (pa_cons (pv 5) pa_nil)))) pa_nil))) pss_nil)))))), ?_⟩
    refine ⟨_, rfl, r, row, rfl, hR, R2, fun l xs H1 nl hl hal s1 => ?_⟩
    have hpw := crs_pw row
    have hxl : xs.length = (crs row).length := by
      have := dall_len hal
      simpa using this
    have okr := R2.ok
    refine ⟨_, rfl, l, rfl, ⟨_, SqL.of hl⟩, ?_⟩
    refine for_list (K := K) (a := l) (xs := xs) (fun i σ H2 => ∃ v2 v3 v4 v5, σ = [some (.ref r), some (.ref l), v2, v3, v4, v5] ∧ Same H1 H2 ∧ ∀ j p q, j < i → (crs row)[j]? = some p → q ∈ crs row → q.1 = p.2 → (p.1, q.2) ∉ crs row) ?_ ?_ ?_ ?_
    · exact ⟨_, _, _, _, rfl, Same.refl _, fun j p q h => absurd h (Nat.not_lt_zero _)⟩
    · rintro i σ H2 _ ⟨v2, v3, v4, v5, rfl, s2, _⟩
      exact SqL.of (s2 _ _ hl)
    · rintro i v σ H2 hv ⟨v2, v3, v4, v5, rfl, s2, ho⟩
      obtain ⟨pp, p, rfl, hpp, hpi⟩ := getP hal hv
      have hpm := List.mem_of_getElem? hpi
      obtain ⟨px, py, plt, pcr⟩ := crs_mem2.mp (show (p.1, p.2) ∈ crs row from hpm)
      refine ⟨pp, _, rfl, SqT.of (s2 _ _ hpp), rfl, _, _, rfl, _, _, rfl, rfl, ?_⟩
      refine ⟨_, rfl, l, rfl, ⟨_, SqL.of (s2 _ _ hl)⟩, ?_⟩
      refine for_list (K := K) (a := l) (xs := xs) (fun i' σ H3 => ∃ v4 v5, σ = [some (.ref r), some (.ref l), some (.str p.1), some (.str p.2), v4, v5] ∧ Same H1 H3 ∧ ∀ j q, j < i' → (crs row)[j]? = some q → q.1 = p.2 → (p.1, q.2) ∉ crs row) ?_ ?_ ?_ ?_
      · exact ⟨_, _, rfl, s2, fun j q h => absurd h (Nat.not_lt_zero _)⟩
      · rintro i' σ H3 _ ⟨v4, v5, rfl, s3, _⟩
        exact SqL.of (s3 _ _ hl)
      · rintro i' v σ H3 hv' ⟨v4, v5, rfl, s3, hi⟩
        obtain ⟨qp, q, rfl, hqp, hqi⟩ := getP hal hv'
        have hqm := List.mem_of_getElem? hqi
        obtain ⟨qx, qy, qlt, qcr⟩ := crs_mem2.mp (show (q.1, q.2) ∈ crs row from hqm)
        refine ⟨qp, _, rfl, SqT.of (s3 _ _ hqp), rfl, _, _, rfl, _, _, rfl, rfl, ?_⟩
        refine ⟨_, rfl, _, rfl, rfl, _, rfl, ?_⟩
        rw [vstr_dec]
        refine ite2b (fun q1 => ?_) (fun q1 => ?_)
        · have e1 : q.1 = p.2 := of_decide_eq_true q1
          refine ⟨_, rfl, _, rfl, by show 2 ≤ sizeLine; decide, fun t nt => ?_⟩
          have s4 : Same H3 (upd H3 t (.tup [.str p.1, .str q.2])) := (Same.refl H3).step nt
          have ht4 : upd H3 t (.tup [.str p.1, .str q.2]) t = some (.tup [.str p.1, .str q.2]) := upd_same
          generalize upd H3 t (.tup [.str p.1, .str q.2]) = H4 at s4 ht4
          have s14 := s3.trans s4
          have pl : ∀ a b, a ∈ row → b ∈ row → plainD (prD (a, b)) = true := fun a b ha hb => prD_plain (okr a ha) (okr b hb)
          refine ⟨_, rfl, prD (p.1, q.2), (crs row).map prD, dat_tup ht4 (dall_strs [p.1, q.2]), dat_lst (s14 _ _ hl) (DAll.same ((hid_same l H1).trans s14) _ _ hal), plain_lay _ (pl _ _ px qy), plain_layAll _ (crs_plain okr), by show max 0 (max 0 0) + 1 ≤ 3; decide, _, rfl, ?_⟩
          have ein : (((crs row).map prD).any fun e => PyData.eqv e (prD (p.1, q.2))) = decide ((p.1, q.2) ∈ crs row) := by
            rw [List.any_map]
            by_cases hm : (p.1, q.2) ∈ crs row
            · rw [decide_eq_true hm, List.any_eq_true]
              exact ⟨_, hm, (eqv_iff _ _ (pl _ _ px qy) (pl _ _ px qy)).mpr rfl⟩
            · rw [decide_eq_false hm, List.any_eq_false]
              rintro ⟨a, b⟩ hab
              obtain ⟨ha, hb, _⟩ := crs_mem2.mp hab
              intro z
              exact hm (prD_inj _ _ ((eqv_iff _ _ (pl _ _ ha hb) (pl _ _ px qy)).mp z) ▸ hab)
          rw [ein]
          refine ite2b (fun q2 => ?_) (fun q2 => ?_)
          · have hpq := of_decide_eq_true q2
            obtain ⟨_, _, rlt, rcr⟩ := crs_mem2.mp hpq
            have f3 : First3 row p.1 p.2 q.2 := by
              refine ⟨⟨px, py, qy, plt, e1 ▸ qlt, pcr, e1 ▸ qcr, rcr⟩, fun x' y' z' t' => ?_⟩
              have m1 : (x', y') ∈ crs row := crs_mem2.mpr ⟨t'.hx, t'.hy, t'.lxy, t'.xy⟩
              have m2 : (y', z') ∈ crs row := crs_mem2.mpr ⟨t'.hy, t'.hz, t'.lyz, t'.yz⟩
              have m3 : (x', z') ∈ crs row := crs_mem2.mpr ⟨t'.hx, t'.hz, ltS_trans t'.lxy t'.lyz, t'.xz⟩
              rcases ltP2_tri p (x', y') with c | c | c
              · rcases c with c | ⟨c1, c2⟩
                · exact .inl c
                · exact .inr ⟨c1.symm, .inl c2⟩
              · refine .inr ⟨by rw [c], .inr ⟨by rw [c], ?_⟩⟩
                rcases ltS_tri q.2 z' with d | d | d
                · exact .inr d
                · exact .inl d.symm
                · exfalso
                  have ey : y' = p.2 := by rw [c]
                  have ex : x' = p.1 := by rw [c]
                  obtain ⟨j, hj, ej⟩ := beforeP hpw hqi m2 (.inr ⟨by rw [ey, e1], d⟩)
                  exact hi j (y', z') hj ej ey (ex ▸ m3)
              · exfalso
                obtain ⟨j, hj, ej⟩ := beforeP hpw hpi m1 c
                exact ho j (x', y') (y', z') hj ej m2 rfl m3
            refine ⟨_, rfl, _, rfl, _, rfl, by show 3 ≤ sizeLine; decide, fun t5 nt5 => ⟨_, rfl, fun ex dx nex ndx ne => ?_⟩⟩
            have s5 : Same H4 (upd H4 t5 (.tup [.str p.1, .str p.2, .str q.2])) := (Same.refl H4).step nt5
            have ht5 : upd H4 t5 (.tup [.str p.1, .str p.2, .str q.2]) t5 = some (.tup [.str p.1, .str p.2, .str q.2]) := upd_same
            generalize upd H4 t5 (.tup [.str p.1, .str p.2, .str q.2]) = H5 at s5 ht5 nex ndx
            have up : ∀ b u, H5 b = some u → hid ex (upd (upd (upd H5 ex (.ext (excN ex C))) ex (.ext (excW ex C dx))) dx (.ext (xdP dx [(Str.ofString "three", .ref t5)]))) b = some u := fun b u e => by
              unfold hid
              rw [if_neg (ne_of_none e nex), upd_ne (ne_of_none e ndx), upd_ne (ne_of_none e nex), upd_ne (ne_of_none e nex)]
              exact e
            refine ke p.1 p.2 q.2 dx _ f3 ⟨t5, ?_, up _ _ ht5⟩ fun b u e => up _ _ (s5 _ _ (s14 _ _ (s1 _ _ e)))
            unfold hid
            rw [if_neg ne]
            exact upd_same
          · refine ⟨_, _, rfl, s14, fun j z hj hz ez => ?_⟩
            by_cases e : j = i'
            · subst e
              rw [hqi] at hz
              rw [← Option.some.inj hz]
              exact of_decide_eq_false q2
            · exact hi j z (by omega) hz ez
        · refine ⟨_, _, rfl, s3, fun j z hj hz ez => ?_⟩
          by_cases e : j = i'
          · subst e
            rw [hqi] at hz
            rw [← Option.some.inj hz] at ez
            exact absurd ez (of_decide_eq_false q1)
          · exact hi j z (by omega) hz ez
      · rintro σ H3 ⟨v4, v5, rfl, s3, hi⟩
        refine ⟨_, _, _, _, rfl, s3, fun j p' q hj hp' hq eq => ?_⟩
        by_cases e : j = i
        · subst e
          rw [hpi] at hp'
          rw [← Option.some.inj hp'] at eq ⊢
          obtain ⟨m, hm, em⟩ := List.mem_iff_getElem.mp hq
          exact hi m q (by rw [hxl]; exact hm) (by rw [List.getElem?_eq_getElem hm, em]) eq
        · exact ho j p' q (by omega) hp' hq eq
    · rintro σ H2 ⟨v2, v3, v4, v5, rfl, s2, ho⟩
      refine kq (fun x y z t => ?_) H2 (s1.trans s2)
      have m1 : (x, y) ∈ crs row := crs_mem2.mpr ⟨t.hx, t.hy, t.lxy, t.xy⟩
      have m2 : (y, z) ∈ crs row := crs_mem2.mpr ⟨t.hy, t.hz, t.lyz, t.yz⟩
      have m3 : (x, z) ∈ crs row := crs_mem2.mpr ⟨t.hx, t.hz, ltS_trans t.lxy t.lyz, t.xz⟩
      obtain ⟨m, hm, em⟩ := List.mem_iff_getElem.mp m1
      exact ho m (x, y) (y, z) (by rw [hxl]; exact hm) (by rw [List.getElem?_eq_getElem hm, em]) m2 rfl m3
theorem scDitches : FnScope ["row"] ["row"] (defScope sDitches) := ⟨rfl, rfl, rfl, by decide +kernel, rfl, by decide +kernel, by decide +kernel⟩
theorem ok_ditches {f : Addr} {fd : FuncData} (F : Fun K "ditches" "ditches" sDitches f fd) (T : Bl mg) : FnOk P w K mg base CX0 1 f fd ["row"] spDitches := by
  refine F.ok scDitches (fun vs H Q E h => ?_) (fun cdv A outer s H vs Q E hr h => ?_)
  · obtain ⟨r, row, rfl, _⟩ := h
    rfl
  · obtain ⟨r, row, rfl, hR, hl, k⟩ := h
    refine ⟨_, pss_one (ps_ret (pe_callB (call_sortedS rfl) (by rfl) T.sorted (by rfl) (pa_cons (pe_callTy (call_set rfl) (by rfl) T.set (by rfl) (pa_cons (pv 0) pa_nil)) pa_nil))), ?_⟩
    refine ⟨_, rfl, r, row, rfl, .inl (SqL.of hR), by unfold scanBound; omega, fun a na => ?_⟩
    have hdl := ddup_len row
    refine ⟨a, ddup row, rfl, upd_same, by omega, fun l ls nl hp hs => ?_⟩
    have s1 : Same H (upd H a (SetO P w a (ddup row))) := (Same.refl H).step na
    refine k l _ (s1.free nl) ?_ (s1.step nl)
    rw [upd_same, srt_eq hp hs]
    rfl
theorem scEnds : FnScope NEn ["row", "name"] (defScope sEnds) := ⟨rfl, rfl, rfl, by decide +kernel, rfl, by decide +kernel, by decide +kernel⟩
theorem ok_ends {f C : Addr} {fd : FuncData} (F : Fun K "ends" "ends" sEnds f fd) (T : Bl mg) (FA : Fn P w K mg base (CX1 P w) 1 "ask_ditch" ["row", "name"] (spAsk C)) :
    FnOk P w K mg base (CX1 P w) 2 f fd ["row", "name"] (spEnds C) := by
  refine F.ok1 scEnds (fun vs H Q E h => ?_) (fun cdv A outer s H vs Q E hr h => ?_)
  · obtain ⟨r, row, x, rfl, _⟩ := h
    rfl
  · obtain ⟨r, row, x, rfl, hR, hx, hl, kq, ke⟩ := h
    refine ⟨_, pss_cons (ps_expr (pe_fn FA hr rfl pass1 (pa_cons (pv 0) (pa_cons (pv 1) pa_nil))))
      (pss_cons (ps_comp (i := 2) (N := NEc) (cap := [none, none, some 1]) (CompScope.of (defScope sEnds) NEn rfl rfl rfl (by decide +kernel)) rfl scEnds.nd rfl rfl
        (pi_enum (by rfl) T.enum (pa_cons (pv 0) pa_nil))
        (fun _ _ _ => pg_tupK K 2 rfl rfl (pgs_cons (pg_name (i := 0) (show NEc.Nodup by decide +kernel) rfl (Or.inl rfl) (Or.inr rfl)) (pgs_cons (pg_name (i := 1) (show NEc.Nodup by decide +kernel) rfl (Or.inl rfl) (Or.inr rfl)) pgs_nil)))
        (fun _ _ _ => pifs_one (pt_cmpR op_eq (pv 1) (pv 2) (nomark _))) (fun _ _ _ => pv 0))
      (pss_one (ps_ret (pe_tup (pa_cons (pe_ix ix_list (pv 2) pe_int (fun _ _ => rfl)) (pa_cons (pe_ix ix_list (pv 2) pe_int (fun _ _ => rfl)) pa_nil)))))), ?_⟩
    refine ⟨_, rfl, _, rfl, r, row, x, rfl, hR, hx, fun hin H1 s1 => ?_, ke⟩
    obtain ⟨a, b, hab, kq⟩ := kq hin
    refine ⟨_, rfl, r, rfl, ⟨_, SqL.of (s1 _ _ hR)⟩, ?_⟩
    refine blk_enum (K := K) (p := 0) (q := 1) (by decide) (SqL.of (s1 _ _ hR)) (by rw [List.length_map, sizeLine_eq]; omega) (fun i => decide (row.getD i Str.empty = x)) (fun i => .int i) ?_ ?_ ?_
    · intro i v H2 Q' hv s2 k
      obtain ⟨y, rfl, hy⟩ : ∃ y, v = V.str y ∧ row.getD i Str.empty = y := by
        rw [List.getElem?_map] at hv
        cases q : row[i]? with
        | none => rw [q] at hv; cases hv
        | some y => rw [q] at hv; exact ⟨y, (Option.some.inj hv).symm, by simp [List.getD, q]⟩
      refine ⟨_, rfl, _, rfl, rfl, _, rfl, ?_⟩
      have := k H2 (Same.refl _)
      rw [hy] at this
      have e : decide (V.str y = V.str x) = decide (y = x) := by
        by_cases z : y = x
        · rw [z]; simp
        · rw [decide_eq_false z, decide_eq_false (fun q => z (by injection q))]
      rw [e]
      exact this
    · intro i v H2 Q' hv hk s2 k
      exact ⟨_, rfl, k H2 (Same.refl _)⟩
    · intro D H2 nD s2 hD
      have hD' : H2 D = some (.lst [.int a, .int b]) := by
        rw [hD, List.length_map]
        have := congrArg (List.map V.int) ((plc_range row x).trans hab)
        rw [List.map_map] at this
        rw [show ((List.range row.length).filter fun i => decide (row.getD i Str.empty = x)).map (fun i : Nat => V.int (i : Int)) = _ from this]
        rfl
      refine ⟨_, rfl, _, _, _, _, rfl, rfl, SqL.of hD', rfl, _, rfl, _, _, _, _, rfl, rfl, SqL.of hD', rfl, by show 2 ≤ sizeLine; decide, fun p np => ?_⟩
      have s3 := s1.trans s2
      exact kq p _ (s3.free np) upd_same (s3.step np)
theorem scSpans : FnScope ["row"] ["row"] (defScope sSpans) := ⟨rfl, rfl, rfl, by decide +kernel, rfl, by decide +kernel, by decide +kernel⟩
theorem ok_spans {f C : Addr} {fd : FuncData} (F : Fun K "spans" "spans" sSpans f fd) (FD : Fn P w K mg base CX0 1 "ditches" ["row"] spDitches) (FE : Fn P w K mg base (CX1 P w) 2 "ends" ["row", "name"] (spEnds C)) :
    FnOk P w K mg base CX0 3 f fd ["row"] spSpans := by
  refine F.ok scSpans (fun vs H Q E h => ?_) (fun cdv A outer s H vs Q E hr h => ?_)
  · obtain ⟨r, row, rfl, _⟩ := h
    rfl
  · obtain ⟨r, row, rfl, hR, R2, k⟩ := h
    have hr1 : Room 1 _ := hr.mono (by decide)
    refine ⟨_, pss_one (ps_ret (pe_dcomp (N := NSp) (cap := [none, some 0]) (CompScope.of (defScope sSpans) ["row"] rfl rfl rfl (by decide +kernel)) rfl
      (pi_list (pe_fn FD hr1 (by rfl) pass0 (pa_cons (pv 0) pa_nil))) (fun _ _ _ => pg_name (i := 0) (show NSp.Nodup by decide +kernel) rfl (Or.inl rfl) (Or.inr rfl)) (fun _ _ _ => pifs_nil)
      (fun _ _ _ => pv 0) (fun _ _ _ => pe_fn (by exact FE) (by exact hr) (by rfl) passX (pa_cons (pv 1) (pa_cons (pv 0) pa_nil))))), ?_⟩
    have hl := R2.len
    refine ⟨_, rfl, r, row, rfl, hR, hl, fun di H1 ndi hdi s1 => ?_⟩
    refine ⟨di, rfl, ⟨_, SqL.of hdi⟩, fun D nD => ?_⟩
    have hn : ∀ i, i < (dit row).length → ((dit row).map V.str).getD i .non = .str ((dit row).getD i Str.empty) := fun i hi => getD_map V.str Str.empty _ hi
    have hR1 := s1 _ _ hR
    have hdl := dit_len row
    refine ⟨wN (dit row).length fun i σ2 H2 => (∃ v, σ2 = [v, some (.ref r)]) ∧ Same H1 H2 ∧ ∃ kvs, H2 D = some (.dK kvs) ∧ Spn H2 kvs row ((dit row).take i), ⟨(dit row).length, by simp, Nat.zero_le _, ⟨none, rfl⟩, (Same.refl H1).step nD, [], upd_same, ⟨rfl, fun x hx => by simp at hx⟩⟩, ?_⟩
    rintro i m σ1 H2 ⟨rfl, hi, ⟨v, rfl⟩, s2, kvs, hD, sp⟩
    by_cases hlt : i < (dit row).length
    · have hlt' : i < ((dit row).map V.str).length := by rw [List.length_map]; exact hlt
      obtain ⟨g1, g2⟩ := go_list (K := K) (SqL.of (s2 _ _ hdi)) hlt'
      refine .inr ⟨g1, fun x H3 y => ?_⟩
      obtain ⟨e1, e2⟩ := g2 x H3 y
      subst e1 e2
      rw [hn i hlt]
      generalize hx : (dit row).getD i Str.empty = x
      have hxd : x ∈ dit row := by rw [← hx]; exact mem_getD hlt
      have hxr := dit_mem.mp hxd
      have htk : (dit row).take (i + 1) = (dit row).take i ++ [x] := by
        rw [List.take_succ_eq_append_getElem hlt, ← hx]
        simp [List.getD, hlt]
      have hnx : x ∉ (dit row).take i := by
        have nd := dit_nd row
        have h2 : ((dit row).take (i + 1)).Nodup := nd.sublist (List.take_sublist ..)
        rw [htk] at h2
        exact fun z => (List.nodup_append.mp h2).2.2 x z x (by simp) rfl
      refine ⟨_, rfl, _, rfl, _, rfl, r, row, x, rfl, s2 _ _ hR1, R2.ok x hxr, by omega, fun _ => ⟨_, _, pl_plc (R2.two x hxr), fun l H4 nl hl4 s4 => ?_⟩, fun z => absurd hxr z⟩
      have hD4 := s4 _ _ hD
      have kl : kvs.length ≤ 60 := by
        have := sp.len
        rw [List.length_take] at this
        omega
      refine ⟨kvs, Sum.inr x, rfl, hD4, by rw [sizeLine_eq]; omega, ?_⟩
      refine wskip hlt ⟨⟨_, rfl⟩, fun b u e => ?_, _, upd_same, ?_⟩
      · rw [upd_ne (ne_of_none e nD)]
        exact s4 _ _ (s2 b u e)
      · rw [htk]
        refine sp.snoc hnx ?_ fun b xs e => ?_
        · rw [upd_ne (fun z => by rw [z, hD4] at hl4; cases hl4)]
          exact hl4
        · have e4 := s4 _ _ e
          rw [upd_ne (fun z => by rw [z, hD4] at e4; cases e4)]
          exact e4
    · have ei : i = (dit row).length := by omega
      subst ei
      refine .inl ⟨by have := st_list (K := K) (SqL.of (s2 _ _ hdi)); rwa [List.length_map] at this, ?_⟩
      rw [List.take_length] at sp
      exact k D kvs H2 (s1.free nD) hD sp (s1.trans s2)
theorem scLieOf : FnScope NLo ["here", "there"] (defScope sLieOf) := ⟨rfl, rfl, rfl, by decide +kernel, rfl, by decide +kernel, by decide +kernel⟩
theorem ok_lieof {f : Addr} {fd : FuncData} (F : Fun K "lie_of" "lie_of" sLieOf f fd) : FnOk P w K mg base CX0 2 f fd ["here", "there"] spLieOf := by
  refine F.ok scLieOf (fun vs H Q E h => ?_) (fun cdv A outer s H vs Q E hr h => ?_)
  · obtain ⟨p, q, a, b, c, e, rfl, _⟩ := h
    rfl
  · obtain ⟨p, q, a, b, c, e, rfl, hp, hq, l4, k⟩ := h
    refine ⟨_, pss_cons (ps_if (pt_cmpR (op_eqD (hu3 hr)) (pv 0) (pv 1) (nomark _)) (pss_one (ps_ret pe_str)) pss_nil)
      (pss_cons (ps_set (i := 2) scLieOf.nd rfl (Or.inl rfl) (pe_chain op_lt op_lt (pe_ix (ix_tupK K (by rfl)) (pv 1) pe_int (fun _ _ => rfl)) (pe_ix (ix_tupK K (by rfl)) (pv 0) pe_int (fun _ _ => rfl)) (pe_ix (ix_tupK K (by rfl)) (pv 1) pe_int (fun _ _ => rfl))))
      (pss_cons (ps_set (i := 3) scLieOf.nd rfl (Or.inl rfl) (pe_chain op_lt op_lt (pe_ix (ix_tupK K (by rfl)) (pv 1) pe_int (fun _ _ => rfl)) (pe_ix (ix_tupK K (by rfl)) (pv 0) pe_int (fun _ _ => rfl)) (pe_ix (ix_tupK K (by rfl)) (pv 1) pe_int (fun _ _ => rfl))))
      (pss_cons (ps_if (pt_cmpR op_ne (pv 2) (pv 3) (nomark _)) (pss_one (ps_ret pe_str)) pss_nil)
      (pss_cons (ps_if (pt_val (pv 2)) (pss_one (ps_ret pe_str)) pss_nil)
      (pss_one (ps_ret (pe_ifExp (pt_chain op_lt op_lt (pe_ix (ix_tupK K (by rfl)) (pv 0) pe_int (fun _ _ => rfl)) (pe_ix (ix_tupK K (by rfl)) (pv 1) pe_int (fun _ _ => rfl)) (pe_ix (ix_tupK K (by rfl)) (pv 0) pe_int (fun _ _ => rfl))) pe_str pe_str))))))), ?_⟩
    have d2 : ∀ {r : Addr} {x y : Int}, H r = some (.tup [.int x, .int y]) → DAt H (.tuple [.int x, .int y]) (.ref r) := fun {r x y} h => dat_tup h (dall_ints [x, y])
    refine ⟨_, rfl, _, rfl, .tuple [.int a, .int b], .tuple [.int c, .int e], d2 hp, d2 hq, rfl, rfl, (by show min (max 0 (max 0 0) + 1) (max 0 (max 0 0) + 1) ≤ 3; decide), _, rfl, ?_⟩
    have ee : PyData.eqv (.tuple [.int a, .int b]) (.tuple [.int c, .int e]) = decide (a = c ∧ b = e) := by
      rw [Bool.eq_iff_iff, eqv_iff _ _ rfl rfl]
      simp
    rw [ee]
    have kk := k H (Same.refl H)
    refine ite2b (fun h1 => ?_) (fun h1 => ?_)
    · unfold lieT at kk
      rw [if_pos (of_decide_eq_true h1)] at kk
      exact kk
    · have h1 := of_decide_eq_false h1
      dsimp only [tNext, tSeq, tAsg, gName]
      refine tChain_ii (x := c) (y := a) (z := e) (fun Q' h => ⟨_, rfl, q, _, _, _, rfl, rfl, SqT.of hq, rfl, h⟩) (fun Q' h => ⟨_, rfl, p, _, _, _, rfl, rfl, SqT.of hp, rfl, h⟩) (fun Q' h => ⟨_, rfl, q, _, _, _, rfl, rfl, SqT.of hq, rfl, h⟩) ?_
      refine tChain_ii (x := c) (y := b) (z := e) (fun Q' h => ⟨_, rfl, q, _, _, _, rfl, rfl, SqT.of hq, rfl, h⟩) (fun Q' h => ⟨_, rfl, p, _, _, _, rfl, rfl, SqT.of hp, rfl, h⟩) (fun Q' h => ⟨_, rfl, q, _, _, _, rfl, rfl, SqT.of hq, rfl, h⟩) ?_
      refine ⟨_, rfl, _, rfl, rfl, _, rfl, ?_⟩
      rw [dec_bl]
      refine ite2b (fun h2 => ?_) (fun h2 => ?_)
      · rw [lie_cr h1 (by simpa using h2)] at kk
        exact kk
      · refine ⟨_, rfl, _, rfl, ?_⟩
        refine ite2b (fun h3 => ?_) (fun h3 => ?_)
        · rw [lie_wi h1 (by simpa using h2) h3] at kk
          exact kk
        · rw [lie_out l4 h1 (by simpa using h2) h3] at kk
          dsimp only [tNext, tRet, tIf, tTest]
          refine tChain_ii (x := a) (y := c) (z := b) (fun Q' h => ⟨_, rfl, p, _, _, _, rfl, rfl, SqT.of hp, rfl, h⟩) (fun Q' h => ⟨_, rfl, q, _, _, _, rfl, rfl, SqT.of hq, rfl, h⟩) (fun Q' h => ⟨_, rfl, p, _, _, _, rfl, rfl, SqT.of hp, rfl, h⟩) ⟨_, rfl, ?_⟩
          refine ite2b (fun h4 => ?_) (fun h4 => ?_)
          · rw [if_pos h4] at kk
            exact kk
          · rw [if_neg (by rw [h4]; exact Bool.false_ne_true)] at kk
            exact kk
theorem scCross : FnScope NCr ["row"] (defScope sCross) := ⟨rfl, rfl, rfl, by decide +kernel, rfl, by decide +kernel, by decide +kernel⟩
theorem ok_crossings {f : Addr} {fd : FuncData} (F : Fun K "crossings" "crossings" sCross f fd) (FS : Fn P w K mg base CX0 3 "spans" ["row"] spSpans) (FO : Fn P w K mg base CX0 2 "lie_of" ["here", "there"] spLieOf) :
    FnOk P w K mg base CX0 4 f fd ["row"] spCrossings := by
  refine F.ok scCross (fun vs H Q E h => ?_) (fun cdv A outer s H vs Q E hr h => ?_)
  · obtain ⟨r, row, rfl, _⟩ := h
    rfl
  · obtain ⟨r, row, rfl, hR, R2, k⟩ := h
    have hu := hu_of hr
    have hr2 : Room 2 _ := hr.mono (by decide)
    refine ⟨_, pss_cons (ps_set (i := 1) scCross.nd rfl (Or.inr rfl) (pe_fn FS hr (by rfl) pass0 (pa_cons (pv 0) pa_nil)))
      (pss_one (ps_ret (pe_comp2 (N := NCc) (cap := [none, none, some 1]) (CompScope.of (defScope sCross) NCr rfl rfl rfl (by decide +kernel)) rfl
        (pi_dictR (pv 1)) (fun _ _ _ => pg_name (i := 0) (show NCc.Nodup by decide +kernel) rfl (Or.inl rfl) (Or.inr rfl)) (fun _ _ _ => pifs_nil)
        (fun _ _ _ => pi_dictR (pv 2)) (fun _ _ _ => pg_name (i := 1) (show NCc.Nodup by decide +kernel) rfl (Or.inl rfl) (Or.inr rfl))
        (fun _ _ _ => pifs_one (pw_and (pt_cmpR op_lt_str (pv 0) (pv 1) (nomark _)) (pw_and1 (pt_cmpR op_eq (pe_fn (by exact FO) (by exact hr2) (by rfl) pass0 (pa_cons (pe_dget hu (pv 2) (pv 0) (fun _ _ => rfl)) (pa_cons (pe_dget hu (pv 2) (pv 1) (fun _ _ => rfl)) pa_nil))) pe_str (nomark _)))).pt)
        (fun _ _ _ => pe_tup (pa_cons (pv 0) (pa_cons (pv 1) pa_nil)))))), ?_⟩
    have hl := R2.len
    have hdl := dit_len row
    refine ⟨_, rfl, r, row, rfl, hR, R2, fun d kvs H1 nd hd sp s1 => ?_⟩
    refine ⟨_, rfl, d, kvs, rfl, .inl ⟨hd, fun o D nD => ?_⟩⟩
    generalize hH2 : upd H1 d (.frz o (.dK kvs)) = H2 at nD
    have s2 : Same H H2 := fun b u e => by rw [← hH2, upd_ne (ne_of_none e nd)]; exact s1 b u e
    have hd2 : H2 d = some (.frz o (.dK kvs)) := by rw [← hH2]; exact upd_same
    have sp2 : Spn H2 kvs row (dit row) := ⟨sp.keys, fun x hx => by
      obtain ⟨l, h1, h2⟩ := sp.val x hx
      exact ⟨l, h1, by rw [← hH2, upd_ne (fun z => by rw [z, hd] at h2; cases h2)]; exact h2⟩⟩
    have kl := sp2.len
    have go : ∀ i H3, i < (dit row).length → Same H2 H3 → (Itd d o kvs).go i H3 ∧ ∀ x H4, (Itd d o kvs).yld i H3 x H4 → H4 = H3 ∧ x = .str ((dit row).getD i Str.empty) := fun i H3 hi s3 => by
      have := go_dict (kvs := kvs) (s3 _ _ hd2) (by omega : i < kvs.length)
      rw [sp2.at i hi] at this
      exact this
    have stp : ∀ H3, Same H2 H3 → (Itd d o kvs).stop (dit row).length H3 := fun H3 s3 => by
      have := st_dict (kvs := kvs) (s3 _ _ hd2)
      rwa [kl] at this
    let ns := dit row
    let ok : Nat → Nat → Bool := fun i j => decide (ltS (ns.getD i Str.empty) (ns.getD j Str.empty)) && decide (lieR row (ns.getD i Str.empty) (ns.getD j Str.empty) = "cross")
    let part : Nat → List PyData := fun i => ((List.range ns.length).filter (ok i)).map fun j => prD (ns.getD i Str.empty, ns.getD j Str.empty)
    have hpl : ∀ i, (part i).length ≤ 60 := fun i => by
      show (List.map _ _).length ≤ 60
      rw [List.length_map]
      refine Nat.le_trans (List.length_filter_le ..) ?_
      rw [List.length_range]
      show (dit row).length ≤ 60
      omega
    have hacc : ∀ i, ((List.range i).flatMap part).length ≤ 60 * i := fun i => by
      induction i with
      | zero => simp
      | succ i ih =>
        rw [List.range_succ, List.flatMap_append, List.length_append]
        have := hpl i
        simp only [List.flatMap_cons, List.flatMap_nil, List.append_nil]
        omega
    refine lp_acc (H0 := H2) (xs0 := []) (n := ns.length) (fun i => .str (ns.getD i Str.empty)) (fun i => (List.range i).flatMap part) nD ((Same.refl H2).step nD) upd_same dall_nil (fun σ1 => ∃ v0 v1, σ1 = [v0, v1, some (.ref d)]) ⟨none, none, rfl⟩ go stp ?_ ?_
    · rintro i σ1 xs H3 Q' hi ⟨v0, v1, rfl⟩ s3 hD hal kk
      have hxi := mem_getD hi
      refine ⟨_, rfl, d, kvs, rfl, .inr ⟨o, s3 _ _ hd2, ?_⟩⟩
      refine lp_deep (H0 := H2) (n := ns.length) (fun j => .str (ns.getD j Str.empty)) (ok i) (fun j => prD (ns.getD i Str.empty, ns.getD j Str.empty)) ((List.range i).flatMap part) nD s3 hD hal ?_ go stp ?_ ?_ ?_
      · have := hacc i
        have h2 : i < 60 := by have : i < (dit row).length := hi; omega
        have h3 : ns.length ≤ 60 := by show (dit row).length ≤ 60; omega
        rw [sizeLine_eq]
        omega
      · intro j H4 Q2 hj s4 k2
        have hxj := mem_getD hj
        refine ⟨_, rfl, _, rfl, _, _, rfl, rfl, _, rfl, ?_⟩
        refine ite2b (fun q1 => ?_) (fun q1 => ?_)
        · obtain ⟨l1, g1, t1⟩ := (sp2.mono s4).get (.inr ⟨o, s4 _ _ hd2⟩) hxi
          obtain ⟨l2, g2, t2⟩ := (sp2.mono s4).get (.inr ⟨o, s4 _ _ hd2⟩) hxj
          refine ⟨_, rfl, _, rfl, d, _, rfl, g1, _, rfl, _, rfl, d, _, rfl, g2, l1, l2, _, _, _, _, rfl, t1, t2, lie4 (R2.two _ (dit_mem.mp hxi)) (R2.two _ (dit_mem.mp hxj)), fun H5 s5 => ?_⟩
          refine ⟨rfl, _, rfl, ?_⟩
          rw [vstr_dec]
          have := k2 H5 s5
          have e1 : ok i j = decide (lieR row (ns.getD i Str.empty) (ns.getD j Str.empty) = "cross") := by
            show (decide _ && decide _) = _
            have q1' : decide (ltS (ns.getD i Str.empty) (ns.getD j Str.empty)) = true := q1
            rw [q1', Bool.true_and]
          rw [e1] at this
          exact this
        · have := k2 H4 (Same.refl _)
          have e1 : ok i j = false := by
            show (decide _ && decide _) = _
            have q1' : decide (ltS (ns.getD i Str.empty) (ns.getD j Str.empty)) = false := q1
            rw [q1', Bool.false_and]
          rw [e1] at this
          exact this
      · intro j xs' H4 Q2 hj hk s4 hD4 k2
        refine ⟨_, rfl, _, rfl, by show 2 ≤ sizeLine; decide, fun p np => ?_⟩
        exact k2 _ _ ((Same.refl H4).step np) (dat_new hD4 np (dall_strs [ns.getD i Str.empty, ns.getD j Str.empty]))
      · intro σ' H4 xs' e s4 hD4 hal4
        refine kk σ' H4 xs' ?_ s4 hD4 ?_
        · have l1 : σ'.length = 3 := by
            have := congrArg List.length (e none)
            simpa using this
          cases σ' with
          | nil => cases l1
          | cons w0 σ1 =>
            cases σ1 with
            | nil => cases l1
            | cons w1 σ2 =>
              cases σ2 with
              | nil => cases l1
              | cons w2 σ3 =>
                cases σ3 with
                | nil =>
                  have := e none
                  simp at this
                  exact ⟨w0, w1, by rw [this.2]⟩
                | cons _ _ => cases l1
        · rw [List.range_succ, List.flatMap_append, List.flatMap_cons, List.flatMap_nil, List.append_nil]
          exact hal4
    · intro σ' H3 xs s3 hD hal
      refine k D xs H3 (s2.free nD) hD ?_ (s2.trans s3)
      have e : (List.range ns.length).flatMap part = (crs row).map prD := by
        have e1 : crs row = (List.range ns.length).flatMap fun i => ((List.range ns.length).filter (ok i)).map fun j => (ns.getD i Str.empty, ns.getD j Str.empty) := by
          have em : dit row = (List.range ns.length).map fun i => ns.getD i Str.empty := by
            have := filt_range Str.empty (fun _ => true) (dit row)
            rw [List.filter_eq_self.mpr (fun _ _ => rfl), List.filter_eq_self.mpr (fun _ _ => rfl)] at this
            exact this.symm
          show (dit row).flatMap _ = _
          conv => lhs; rw [em]
          rw [List.flatMap_map]
          congr 1
          funext i
          have := filt_range Str.empty (fun y => decide (ltS (ns.getD i Str.empty) y) && decide (lieR row (ns.getD i Str.empty) y = "cross")) (dit row)
          rw [← em, ← this, List.map_map]
          rfl
        rw [e1, List.map_flatMap]
        congr 1
        funext i
        rw [List.map_map]
        rfl
      rw [← e]
      exact hal
theorem scPutIn : FnScope NPi ["row", "name", "at", "to"] (defScope s_put_in) := ⟨rfl, rfl, rfl, by decide +kernel, rfl, by decide +kernel, by decide +kernel⟩
theorem ok_putin {f : Addr} {fd : FuncData} {tk : Tok} {C : PutC} (F : Fun K "put_in" "put_in" s_put_in f fd) (T : Bl mg) (hCt : mg "Taken" = some (.ref C.taken)) (hct : PySem.W.excIn K C.taken bmV "ValueError.__new__" = true) (hCf : mg "Full" = some (.ref C.full)) (hcf : PySem.W.excIn K C.full bmV "ValueError.__new__" = true)
    (hCp : mg "NoPlace" = some (.ref C.place)) (hcp : PySem.W.excIn K C.place bmV "ValueError.__new__" = true) (hM : mg "MOST_DITCHES" = some (.int 14 tk)) (FN : Fn P w K mg base (CX2 P w) 2 "ask_name" ["name"] (spAskName C.name)) (FD : Fn P w K mg base CX0 1 "ditches" ["row"] spDitches)
    (FU : Fn P w K mg base (CX2 P w) 5 "ask_unbarred" ["row"] (spUnb C.barred)) : FnOk P w K mg base (CX2 P w) 6 f fd ["row", "name", "at", "to"] (spPutIn C) := by
  refine F.ok2 scPutIn (fun vs H Q E h => ?_) (fun cdv A outer s H vs Q E hr h => ?_)
  · obtain ⟨r, row, x, a, b, rfl, _⟩ := h
    rfl
  · obtain ⟨r, row, x, a, b, rfl, hR, R2, hlen, ha, a0, a1, b0, b1, kt, kp, kb⟩ := h
    have hr1 : Room 1 _ := hr.mono (by decide)
    have hr2 : Room 2 _ := hr.mono (by decide)
    have xl := ha.len
    refine ⟨_, pss_cons (ps_expr (pe_fn FN hr2 (by rfl) pass2 (pa_cons (pv 1) pa_nil)))
      (pss_cons (ps_if (pt_cmpR op_in_seq (pv 1) (pv 0) (by rfl)) (pss_one (ps_raise2 (C := C.taken) (E := E) hct rfl leaves2 (by rfl) hCt (pa_cons (pe_join (pj_str (by decide +kernel) (pj_txt (pv 1) pj_nil))) pa_nil))) pss_nil)
      (pss_cons (ps_if (pt_cmpR op_ge (pe_callB call_len_seq (by rfl) T.len boot_len (pa_cons (pe_fn FD hr1 (by rfl) pass0 (pa_cons (pv 0) pa_nil)) pa_nil)) (pe_glob (v := .int 14) (by rfl) hM ⟨_, rfl⟩) (nomark _))
        (pss_one (ps_raise2 (C := C.full) (E := E) hcf rfl leaves2 (by rfl) hCf (pa_cons (pe_join (pj_str (by decide +kernel) (pj_int (pe_glob (v := .int 14) (by rfl) hM ⟨_, rfl⟩) (pj_str (by decide +kernel) pj_nil)))) pa_nil))) pss_nil)
      (pss_cons (ps_if (pt_not (pt_chain3 op_le op_le op_le pe_int (pv 2) (pv 3) (pe_callB call_len_seq (by rfl) T.len boot_len (pa_cons (pv 0) pa_nil))))
        (pss_one (ps_raise2 (C := C.place) (E := E) hcp rfl leaves2 (by rfl) hCp (pa_cons (pe_join (pj_str (by decide +kernel) (pj_int (pv 2) (pj_str (by decide +kernel) (pj_int (pv 3) (pj_str (by decide +kernel) (pj_int (pe_callB call_len_seq (by rfl) T.len boot_len (pa_cons (pv 0) pa_nil)) (pj_str (by decide +kernel) pj_nil)))))))) pa_nil))) pss_nil)
      (pss_cons (ps_set (i := 4) scPutIn.nd rfl (Or.inl rfl) (pe_op op_cat (pe_op op_cat (pe_op op_cat (pe_op op_cat (pe_slice sl_list (pv 0) po_none (po_some (pv 2))) (pe_lst (pa_cons (pv 1) pa_nil))) (pe_slice sl_list (pv 0) (po_some (pv 2)) (po_some (pv 3)))) (pe_lst (pa_cons (pv 1) pa_nil))) (pe_slice sl_list (pv 0) (po_some (pv 3)) po_none)))
      (pss_cons (ps_expr (pe_fn FU hr (by rfl) pass2 (pa_cons (pv 4) pa_nil)))
      (pss_one (ps_ret (pv 4)))))))), ?_⟩
    have hl' : ((row.map V.str).length : Int) = row.length := by rw [List.length_map]
    refine ⟨_, rfl, x, rfl, ha, fun hn H1 s1 => ?_, fun hn H1 s1 => kp .name rfl hn H1 s1⟩
    have hR1 := s1 _ _ hR
    refine ⟨_, rfl, _, rfl, r, _, rfl, .inl (SqL.of hR1), rfl, flat_all row, _, rfl, ?_⟩
    rw [if_neg (by decide), inV_str]
    refine ite2b (fun q1 => ?_) (fun q1 => ?_)
    · exact ⟨_, rfl, x, rfl, Nat.le_trans xl (by decide), fun z => ⟨by show 1 ≤ sizeLine; decide, kp .taken rfl ⟨hn, of_decide_eq_true q1⟩ H1 s1⟩⟩
    have nx := of_decide_eq_false q1
    refine ⟨_, rfl, r, row, rfl, hR1, Nat.le_trans hlen (by decide), fun l2 H2 nl2 hl2 s2 => ?_⟩
    have s12 := s1.trans s2
    refine ⟨l2, _, rfl, .inl (SqL.of hl2), _, _, rfl, rfl, _, rfl, ?_⟩
    rw [List.length_map]
    refine ite2b (fun q2 => ?_) (fun q2 => ?_)
    · exact ⟨14, rfl, by decide, by decide, fun z => ⟨by show 1 ≤ sizeLine; decide, kp .full rfl ⟨hn, nx, by have := of_decide_eq_true q2; omega⟩ H2 s12⟩⟩
    have nf : (dit row).length < 14 := by have := of_decide_eq_false q2; omega
    have hR2 := s12 _ _ hR
    have bad : ¬ (0 ≤ a ∧ a ≤ b ∧ b ≤ row.length) → tJoin (tJStr (tJInt (tVar 2) (tJStr (tJInt (tVar 3) (tJStr (tJInt (tCB (fun xs H Q => ∃ p ys, xs = [.ref p] ∧ (SqL K H p ys ∨ SqT K H p ys) ∧ Q (.int ys.length) H) (tCons (tVar 0) tNil)) (tJStr tJNil))))))) [some (.ref r), some (.str x), some (.int a), some (.int b), none] H2 fun x H1 => [x].length ≤ sizeLine ∧ E (.ref C.place) none H1 := fun hb => by
      refine ⟨_, rfl, _, rfl, k18l a0, k18u a1, _, rfl, _, rfl, k18l b0, k18u b1, _, rfl, r, _, rfl, .inl (SqL.of hR2), _, rfl, by rw [hl']; exact e18l _, by rw [hl']; exact e18u (Nat.le_trans hlen (by decide)), fun z => ?_⟩
      exact ⟨by show 1 ≤ sizeLine; decide, kp .place rfl ⟨hn, nx, nf, hb⟩ H2 s12⟩
    refine ⟨_, rfl, _, _, rfl, rfl, _, rfl, ?_⟩
    refine ite2b (fun q3 => ?_) (fun q3 => ?_)
    rotate_left
    · exact bad fun z => absurd z.1 (of_decide_eq_false q3)
    refine ⟨_, rfl, _, _, rfl, rfl, _, rfl, ?_⟩
    refine ite2b (fun q4 => ?_) (fun q4 => ?_)
    rotate_left
    · exact bad fun z => absurd z.2.1 (of_decide_eq_false q4)
    refine ⟨_, rfl, r, _, rfl, .inl (SqL.of hR2), _, _, rfl, rfl, _, rfl, ?_⟩
    rw [hl']
    cases q5 : decide (b ≤ (row.length : Int)) with
    | false => exact bad fun z => absurd z.2.2 (of_decide_eq_false q5)
    | true =>
      have p0 : 0 ≤ a := of_decide_eq_true q3
      have p1 : a ≤ b := of_decide_eq_true q4
      have p2 : b ≤ row.length := of_decide_eq_true q5
      have place : 0 ≤ a ∧ a ≤ b ∧ b ≤ row.length := ⟨p0, p1, p2⟩
      obtain ⟨a, rfl⟩ := Int.eq_ofNat_of_zero_le p0
      obtain ⟨b, rfl⟩ := Int.eq_ofNat_of_zero_le (Int.le_trans p0 p1)
      rw [Int.toNat_natCast, Int.toNat_natCast] at kt
      have hab : a ≤ b := Int.ofNat_le.mp p1
      have hb : b ≤ row.length := Int.ofNat_le.mp p2
      clear bad
      refine iteF ?_
      have h24 : ∀ n, n ≤ 100000 → n ≤ sizeLine := fun n h => Nat.le_trans h (by decide)
      have h1000 : row.length ≤ 1000 := Nat.le_trans hlen (by decide)
      refine ⟨_, rfl, _, rfl, _, rfl, r, _, rfl, SqL.of hR2, fun p1 n1 => ?_⟩
      rw [cut_to _ _ _ (Nat.le_trans hab hb)]
      refine ⟨_, rfl, by show 1 ≤ sizeLine; decide, fun p2 n2 => ?_⟩
      refine ⟨p1, p2, _, _, rfl, rfl, ku upd_same n2, upd_same, h24 _ (by simp; exact mA h1000), fun p3 n3 => ?_⟩
      refine ⟨_, rfl, _, rfl, _, rfl, _, rfl, _, rfl, r, _, rfl, SqL.of (ku (ku (ku hR2 n1) n2) n3), fun p4 n4 => ?_⟩
      rw [cut_in _ _ _ _ hab hb]
      refine ⟨p3, p4, _, _, rfl, rfl, ku upd_same n4, upd_same, h24 _ (by simp; exact mB h1000), fun p5 n5 => ?_⟩
      refine ⟨_, rfl, by show 1 ≤ sizeLine; decide, fun p6 n6 => ?_⟩
      refine ⟨p5, p6, _, _, rfl, rfl, ku upd_same n6, upd_same, h24 _ (by simp; exact mC h1000), fun p7 n7 => ?_⟩
      refine ⟨_, rfl, _, rfl, _, rfl, r, _, rfl, SqL.of (ku (ku (ku (ku (ku (ku (ku hR2 n1) n2) n3) n4) n5) n6) n7), fun p8 n8 => ?_⟩
      rw [cut_of _ _ _ hb]
      refine ⟨p7, p8, _, _, rfl, rfl, ku upd_same n8, upd_same, h24 _ (by simp; exact mD h1000), fun p9 n9 => ?_⟩
      have s8 := ((((((((Same.refl H2).go n1 n2).go n2 n3).go n3 n4).go n4 n5).go n5 n6).go n6 n7).go n7 n8).go n8 n9
      have n9' := s8.free n9
      generalize hG : upd _ p9 _ = G9
      have h9 : G9 p9 = some (.lst ((putR row x a b).map V.str)) := by
        rw [← hG]
        refine upd_same.trans ?_
        unfold putR
        simp
      have s9 : Same H2 G9 := by rw [← hG]; exact s8.step n9
      clear hG s8 n1 n2 n3 n4 n5 n6 n7 n8 n9
      obtain ⟨Rm, lm⟩ := row2_put R2 ha.okN nx hlen hab
      have s09 := s12.trans s9
      refine ⟨_, rfl, p9, putR row x a b, rfl, h9, Rm, by omega, fun hno H' s' => ?_, fun u v w dx H' f3 at' s' => ?_⟩
      · exact ⟨_, rfl, kt ⟨hn, nx, nf, place, by simpa using hno⟩ p9 H' (s12.free n9') (s' _ _ h9) (s09.trans s')⟩
      · exact kb u v w ⟨hn, nx, nf, place, by simpa using f3⟩ dx H' at' (s09.trans s')
theorem scLeft : FnScope ["row", "name"] ["row", "name"] (defScope sLeft) := ⟨rfl, rfl, rfl, by decide +kernel, rfl, by decide +kernel, by decide +kernel⟩
theorem ok_left {f C : Addr} {fd : FuncData} (F : Fun K "left_out" "left_out" sLeft f fd) (FA : Fn P w K mg base (CX1 P w) 1 "ask_ditch" ["row", "name"] (spAsk C)) :
    FnOk P w K mg base (CX1 P w) 2 f fd ["row", "name"] (spLeft C) := by
  refine F.ok1 scLeft (fun vs H Q E h => ?_) (fun cdv A outer s H vs Q E hr h => ?_)
  · obtain ⟨r, row, x, rfl, _⟩ := h
    rfl
  · obtain ⟨r, row, x, rfl, hR, hx, hl, kq, ke⟩ := h
    refine ⟨_, pss_cons (ps_expr (pe_fn FA hr rfl pass1 (pa_cons (pv 0) (pa_cons (pv 1) pa_nil))))
      (pss_one (ps_ret (pe_comp (N := NLc) (cap := [none, some 1]) (CompScope.of (defScope sLeft) ["row", "name"] rfl rfl rfl (by decide +kernel)) rfl
        (pi_list (pv 0)) (fun _ _ _ => pg_name (i := 0) (show NLc.Nodup by decide +kernel) rfl (Or.inl rfl) (Or.inr rfl))
        (fun _ _ _ => pifs_one (pt_cmpR op_ne (pv 0) (pv 1) (nomark _))) (fun _ _ _ => pv 0)))), ?_⟩
    refine ⟨_, rfl, _, rfl, r, row, x, rfl, hR, hx, fun hin H1 s1 => ?_, ke⟩
    refine ⟨_, rfl, r, rfl, ⟨_, SqL.of (s1 _ _ hR)⟩, ?_⟩
    have at' : ∀ i, i < row.length → (row.map V.str).getD i .non = .str (row.getD i Str.empty) := fun i hi => by simp [List.getD, hi]
    refine blk_pure (n := (row.map V.str).length) (by rw [List.length_map, sizeLine_eq]; omega) (fun i => (row.map V.str).getD i .non) (fun i => decide (row.getD i Str.empty ≠ x)) (fun i => .str (row.getD i Str.empty)) ?_ ?_ ?_ ?_ ?_
    · intro i H2 hi s2
      exact go_list (SqL.of (s2 _ _ (s1 _ _ hR))) hi
    · intro H2 s2
      exact st_list (SqL.of (s2 _ _ (s1 _ _ hR)))
    · intro i H2 Q' hi s2 k
      rw [List.length_map] at hi
      rw [at' i hi]
      refine ⟨_, rfl, _, rfl, rfl, _, rfl, ?_⟩
      have := k H2 (Same.refl _)
      have e : (!decide (V.str (row.getD i Str.empty) = V.str x)) = decide (row.getD i Str.empty ≠ x) := by
        by_cases z : row.getD i Str.empty = x
        · rw [z]; simp
        · rw [decide_eq_true z, decide_eq_false (fun q => z (by injection q))]; rfl
      rw [e]
      exact this
    · intro i H2 Q' hi hk s2 k
      rw [List.length_map] at hi
      rw [at' i hi]
      exact ⟨_, rfl, k H2 (Same.refl _)⟩
    · intro D H2 nD s2 hD
      have s3 := s1.trans s2
      refine kq hin D H2 (s1.free nD) ?_ s3
      rw [hD, List.length_map, ← filt_range Str.empty (fun y => decide (y ≠ x)) row, List.map_map]
      rfl
theorem scLIs : FnScope NLi ["_law_text"] (defScope s__law_is_name) := ⟨rfl, rfl, rfl, by decide +kernel, rfl, by decide +kernel, by decide +kernel⟩
theorem ok_lisname {f : Addr} {fd : FuncData} (F : Fun K "_law_is_name" "_law_is_name" s__law_is_name f fd) (T : Bl mg) : FnOk P w K mg base CX0 1 f fd ["_law_text"] spIsName := by
  refine F.ok scLIs (fun vs H Q E h => ?_) (fun cdv A outer s H vs Q E hr h => ?_)
  · obtain ⟨t, rfl, _⟩ := h
    rfl
  · obtain ⟨t, rfl, ha, k⟩ := h
    have hl := ha.len
    refine ⟨_, pss_cons (ps_set (i := 1) scLIs.nd rfl (Or.inr rfl) pe_str)
      (pss_one (ps_ret (pe_and (pe_chain op_lt op_lt pe_int (pe_callB call_len_str (by rfl) T.len boot_len (pa_cons (pv 0) pa_nil)) pe_int) (pe_one (pe_callB (call_all rfl) (by rfl) T.all (by rfl) (pa_cons (pe_comp (N := NLi1) (cap := [none, some 1]) (CompScope.of (defScope s__law_is_name) NLi rfl rfl rfl (by decide +kernel)) rfl
        (pi_str (pv 0)) (fun _ _ _ => pg_name (i := 0) (show NLi1.Nodup by decide +kernel) rfl (Or.inl rfl) (Or.inr rfl)) (fun _ _ _ => pifs_nil) (fun _ _ _ => pe_cmpR op_in_str (pv 0) (pv 1) (by rfl))) pa_nil)))))), ?_⟩
    have kk := k H (Same.refl H)
    dsimp only [tSeq, tAsg, gName, tRet, tAndV, tC]
    refine tChain_ii (x := 0) (y := (t.length : Int)) (z := 9) (fun Q' h => h) (fun Q' h => ⟨_, rfl, t, rfl, by rw [sizeLine_eq]; omega, h⟩) (fun Q' h => h) ⟨_, rfl, ?_⟩
    have e0 : (decide ((0 : Int) < (t.length : Int)) && decide ((t.length : Int) < 9)) = (decide (1 ≤ t.length) && decide (t.length ≤ 8)) := by
      rw [Bool.eq_iff_iff]
      simp only [Bool.and_eq_true, decide_eq_true_eq]
      omega
    rw [e0]
    refine ite2b (fun q1 => ?_) (fun q1 => ?_)
    rotate_left
    · unfold isNameB at kk
      rw [q1, Bool.false_and] at kk
      exact kk
    refine ⟨_, rfl, t, rfl, ha.asc, ?_⟩
    have hsz : t.cps.size = t.length := rfl
    refine blk_map (n := t.cps.size) (by rw [hsz, sizeLine_eq]; omega) (fun i => .str ⟨#[t.cps.toList.getD i 0]⟩) (fun i => .bl (decide (97 ≤ t.cps.toList.getD i 0) && decide (t.cps.toList.getD i 0 ≤ 122))) ?_ ?_ ?_ ?_
    · exact fun i H2 hi _ => go_str hi
    · exact fun H2 _ => st_str
    · intro i H2 Q' hi s2 k2
      have hc : t.cps.toList.getD i 0 < 128 := by
        have h1 := ha.asc
        rw [← Array.all_toList, List.all_eq_true] at h1
        have hi' : i < t.cps.toList.length := by simpa using hi
        have := h1 (t.cps.toList.getD i 0) (by rw [List.getD_eq_getElem?_getD, List.getElem?_eq_getElem hi']; exact List.getElem_mem hi')
        simpa using this
      refine ⟨_, rfl, _, rfl, _, _, rfl, rfl, ?_⟩
      have := k2 H2 (Same.refl _)
      rw [← in_letters _ hc] at this
      exact this
    · intro D H2 nD s2 hD
      have hD' : H2 D = some (.lst (((List.range t.cps.size).map fun i => decide (97 ≤ t.cps.toList.getD i 0) && decide (t.cps.toList.getD i 0 ≤ 122)).map V.bl)) := by rw [hD, List.map_map]; rfl
      refine ⟨D, _, rfl, hD', ?_⟩
      have := k H2 s2
      unfold isNameB at this
      rw [q1, Bool.true_and] at this
      have e3 : ((List.range t.cps.size).map fun i => decide (97 ≤ t.cps.toList.getD i 0) && decide (t.cps.toList.getD i 0 ≤ 122)).all id = t.cps.toList.all fun c => decide (97 ≤ c) && decide (c ≤ 122) := by
        rw [show t.cps.size = t.cps.toList.length from by simp]
        rw [List.all_map]
        have := all_range (0 : Nat) (fun c => decide (97 ≤ c) && decide (c ≤ 122)) t.cps.toList
        rw [List.all_map] at this
        exact this
      rw [← e3] at this
      exact this
theorem scWhere : FnScope NWh ["_law_row_here"] (defScope sWhere) := ⟨rfl, rfl, rfl, by decide +kernel, rfl, by decide +kernel, by decide +kernel⟩
theorem ok_where {f : Addr} {fd : FuncData} (F : Fun K "_law_where" "_law_where" sWhere f fd) (T : Bl mg) : FnOk P w K mg base CX0 1 f fd ["_law_row_here"] spWhere := by
  refine F.ok scWhere (fun vs H Q E h => ?_) (fun cdv A outer s H vs Q E hr h => ?_)
  · obtain ⟨r, row, rfl, _⟩ := h
    rfl
  · obtain ⟨r, row, rfl, hR, hl, k⟩ := h
    have hu := hu_of hr
    refine ⟨_, pss_cons (ps_set (i := 1) scWhere.nd rfl (Or.inl rfl) pe_dnewK)
      (pss_cons (ps_for PassesOwn.never rfl (pi_range1 rfl T.range (pa_cons (pe_callB call_len_seq (by rfl) T.len boot_len (pa_cons (pv 0) pa_nil)) pa_nil)) (pg_name (i := 2) scWhere.nd rfl (Or.inl rfl))
        (pss_one (ps_dput hu (pv 1) (pe_ix ix_list (pv 0) (pv 2) (fun _ _ => rfl))
          (pe_op op_cat (pe_dget2 hu (pv 1) (pe_ix ix_list (pv 0) (pv 2) (fun _ _ => rfl)) (pe_lst pa_nil) ⟨rfl, rfl, rfl, rfl⟩) (pe_lst (pa_cons (pv 2) pa_nil))) rfl)))
      (pss_one (ps_ret (pv 1)))), ?_⟩
    intro d nd
    have s0 : Same H (upd H d (.dK [])) := (Same.refl H).step nd
    refine ⟨_, rfl, r, _, rfl, .inl (SqL.of (s0 _ _ hR)), ((row.map V.str).length : Int), rfl, rgl _, by rw [List.length_map]; exact rgu (by first | exact Nat.le_trans (m := @OfNat.ofNat Nat _ _) (by assumption) (by decide) | omega), ?_⟩
    have hn : ((row.map V.str).length : Int).toNat = row.length := by rw [List.length_map]; simp
    rw [hn]
    refine for_range (lo := 0) (n := row.length) (fun i σ H2 => ∃ kvs v, σ = [some (.ref r), some (.ref d), v] ∧ Same H H2 ∧ H2 d = some (.dK kvs) ∧ Wh H2 kvs (row.take i)) ?_ ?_ ?_
    · exact ⟨[], none, rfl, s0, upd_same, ⟨fun k hk => by simp at hk, fun x hx => by simp at hx, fun _ _ => rfl, by simp, by simp⟩⟩
    · rintro i σ H2 hi ⟨kvs, v, rfl, s2, hd, wh⟩
      have hat : (row.map V.str)[i]? = some (.str (row[i]'hi)) := by rw [List.getElem?_map, List.getElem?_eq_getElem hi]; rfl
      have hat' : atI (row.map V.str) (0 + (i : Int)) = some (.str (row[i]'hi)) := by rw [Int.zero_add]; exact atI_nat hat
      have tk : row.take (i + 1) = row.take i ++ [row[i]'hi] := by rw [List.take_succ_eq_append_getElem hi]
      have kl := wh.len
      rw [List.length_take] at kl
      have ll : (plc (row.take i) (row[i]'hi)).length ≤ 1000 := by
        rw [plc_len]
        have := List.count_le_length (a := row[i]'hi) (l := row.take i)
        rw [List.length_take] at this
        omega
      have h24 : ∀ n, n ≤ 100000 → n ≤ sizeLine := fun n h => Nat.le_trans h (by decide)
      refine ⟨_, rfl, d, rfl, .inl ⟨kvs, .inl hd⟩, _, rfl, _, rfl, r, _, _, _, rfl, rfl, SqL.of (s2 _ _ hR), hat', by show 0 ≤ sizeLine; decide, fun p1 n1 => ?_⟩
      refine ⟨_, DGet.k (k := Sum.inr (row[i]'hi)) (ku hd n1), ?_⟩
      obtain ⟨q, xs, e1, hq, hxs⟩ : ∃ q xs, (valV kvs (Sum.inr (row[i]'hi) : Key)).getD (V.ref p1) = V.ref q ∧ upd H2 p1 (.lst []) q = some (.lst (xs.map V.int)) ∧ plc (row.take i) (row[i]'hi) = xs := by
        by_cases hx : row[i]'hi ∈ row.take i
        · obtain ⟨l, e1, e2⟩ := wh.val _ hx
          exact ⟨l, _, by rw [e1]; rfl, ku e2 n1, rfl⟩
        · refine ⟨p1, [], by rw [wh.none _ hx]; rfl, upd_same, ?_⟩
          have : (plc (row.take i) (row[i]'hi)).length = 0 := by rw [plc_len]; exact List.count_eq_zero.mpr hx
          exact List.length_eq_zero_iff.mp this
      have hlx : xs.length ≤ 1000 := by rw [← hxs]; exact ll
      rw [e1]
      refine ⟨_, rfl, by show 1 ≤ sizeLine; decide, fun p2 n2 => ?_⟩
      refine ⟨q, p2, _, _, rfl, rfl, ku hq n2, upd_same, h24 _ (by simp; omega), fun p3 n3 => ?_⟩
      refine ⟨_, rfl, _, rfl, _, rfl, r, _, _, _, rfl, rfl, SqL.of (ku (ku (ku (s2 _ _ hR) n1) n2) n3), hat', ?_⟩
      have hd2 := ku (u := .lst [V.int (0 + (i : Int))]) (ku (u := .lst []) hd n1) n2
      have hd3 := ku (u := .lst (xs.map V.int ++ [V.int (0 + (i : Int))])) hd2 n3
      refine ⟨d, _, rfl, DPut.k (k := Sum.inr (row[i]'hi)) hd3 (by rw [sizeLine_eq]; omega), _, _, rfl, ?_, upd_same, ?_⟩
      · have s3 := ((s2.go n1 n2).go n2 n3).step (o := .lst (xs.map V.int ++ [V.int (0 + (i : Int))])) n3
        exact s3.upd nd
      · rw [tk]
        refine wh.snoc _ p3 ?_ fun b ys e => ?_
        · have ne : p3 ≠ d := (ne_of_none hd2 n3).symm
          rw [upd_ne ne, upd_same, plc_snoc, if_pos rfl, hxs, List.map_append, List.length_take, Nat.min_eq_left (Nat.le_of_lt hi)]
          simp
        · have ne : b ≠ d := fun z => by rw [z, hd] at e; cases e
          rw [upd_ne ne]
          exact ku (ku (ku e n1) n2) n3
    · rintro σ H2 ⟨kvs, v, rfl, s2, hd, wh⟩
      rw [List.take_length] at wh
      exact ⟨_, rfl, k d kvs H2 nd hd wh s2⟩
theorem scWord : FnScope NWo ["_law_where_here", "_law_one", "_law_other"] (defScope sWord) := ⟨rfl, rfl, rfl, by decide +kernel, rfl, by decide +kernel, by decide +kernel⟩
theorem ok_word {f : Addr} {fd : FuncData} (F : Fun K "_law_word" "_law_word" sWord f fd) (T : Bl mg) : FnOk P w K mg base CX0 1 f fd ["_law_where_here", "_law_one", "_law_other"] spWord := by
  refine F.ok scWord (fun vs H Q E h => ?_) (fun cdv A outer s H vs Q E hr h => ?_)
  · obtain ⟨d, l1, l2, kvs, x, y, a, b, c, e, rfl, _⟩ := h
    rfl
  · obtain ⟨d, l1, l2, kvs, x, y, a, b, c, e, rfl, hd, v1, v2, h1, h2, k⟩ := h
    have hu := hu_of hr
    refine ⟨_, pss_cons (ps_asg (pe_dget hu (pv 0) (pv 1) (fun _ _ => rfl)) (pg_tupL rfl (pgs_cons (pg_name (i := 3) scWord.nd rfl (Or.inr rfl)) (pgs_cons (pg_name (i := 4) scWord.nd rfl (Or.inr rfl)) pgs_nil))))
      (pss_cons (ps_comp (i := 5) (N := ["_law_at", "_law_high", "_law_low"]) (cap := [none, some 4, some 3]) (CompScope.of (defScope sWord) NWo rfl rfl rfl (by decide +kernel)) rfl scWord.nd rfl rfl
          (pi_list (pe_dget hu (pv 0) (pv 2) (fun _ _ => rfl))) (fun _ _ _ => pg_name (i := 0) (show (["_law_at", "_law_high", "_law_low"] : List Str).Nodup by decide +kernel) rfl (Or.inl rfl) (Or.inr rfl))
          (fun _ _ _ => pifs_one (pw_and (pt_cmpR op_lt (pv 2) (pv 0) (nomark _)) (pw_and1 (pt_cmpR op_lt (pv 0) (pv 1) (nomark _)))).pt) (fun _ _ _ => pv 0))
      (pss_cons (ps_if (pw_or (pt_cmpR op_eq (pv 1) (pv 2) (nomark _)) (pw_or1 (pt_cmpR op_gt (pe_callB call_len_seq (by rfl) T.len boot_len (pa_cons (pv 5) pa_nil)) pe_int (nomark _)))).pt
        (pss_one (ps_ret (pe_ix ix_tup (pe_tup (pa_cons pe_str (pa_cons pe_str (pa_cons pe_str pa_nil)))) (pe_callB call_len_seq (by rfl) T.len boot_len (pa_cons (pv 5) pa_nil)) (fun _ _ => rfl)))) pss_nil)
      (pss_one (ps_ret (pe_ifExp (pw_and (pt_cmpR op_lt (pe_ix ix_list (pe_dget hu (pv 0) (pv 2) (fun _ _ => rfl)) pe_int (fun _ _ => rfl)) (pv 3) (nomark _)) (pw_and1 (pt_cmpR op_lt (pv 4) (pe_ix ix_list (pe_dget hu (pv 0) (pv 2) (fun _ _ => rfl)) pe_int (fun _ _ => rfl)) (nomark _)))).pt pe_str pe_str))))), ?_⟩
    refine ⟨_, rfl, _, rfl, d, _, rfl, DGet.rd hd v1, l1, _, rfl, SqL.of h1, rfl, ?_⟩
    refine ⟨_, _, rfl, _, _, rfl, rfl, ?_⟩
    refine ⟨_, rfl, _, rfl, d, _, rfl, DGet.rd hd v2, l2, rfl, ⟨_, SqL.of h2⟩, ?_⟩
    refine blk_n (n := 2) (fun i => ([V.int c, V.int e] : List V).getD i .non) (fun D i σ2 H2 => ∃ v, σ2 = [v, some (.int b), some (.int a)] ∧ Same H H2 ∧ H2 D = some (.lst ((inn a b (([c, e] : List Int).take i)).map V.int))) ?_ ?_ ?_ ?_ ?_
    · intro D hD
      exact ⟨none, rfl, (Same.refl H).step hD, upd_same⟩
    · rintro D i σ2 H2 hD hi ⟨v, rfl, s2, hl⟩
      exact go_list (SqL.of (s2 _ _ h2)) hi
    · rintro D σ2 H2 hD ⟨v, rfl, s2, hl⟩
      exact st_list (SqL.of (s2 _ _ h2))
    · rintro D i σ2 H2 hD hi ⟨v, rfl, s2, hl⟩
      obtain ⟨t, ht1, ht2⟩ : ∃ t, ([V.int c, V.int e] : List V).getD i .non = .int t ∧ ([c, e] : List Int).take (i + 1) = ([c, e] : List Int).take i ++ [t] := by
        match i, hi with
        | 0, _ => exact ⟨c, rfl, rfl⟩
        | 1, _ => exact ⟨e, rfl, rfl⟩
      rw [ht1]
      have hil : (inn a b (([c, e] : List Int).take i)).length ≤ 2 := Nat.le_trans (inn_le ..) (by rw [List.length_take]; simp; omega)
      refine ⟨_, rfl, _, rfl, _, _, rfl, rfl, _, rfl, ?_⟩
      refine ite2b (fun q1 => ?_) (fun q1 => iteF (wskip hi ⟨_, rfl, s2, ?_⟩))
      · refine ⟨_, rfl, _, rfl, _, _, rfl, rfl, _, rfl, ?_⟩
        refine ite2b (fun q2 => ?_) (fun q2 => wskip hi ⟨_, rfl, s2, ?_⟩)
        · refine ⟨_, rfl, wput hi hl (by rw [List.length_map, sizeLine_eq]; omega) ⟨_, rfl, ?_, ?_⟩⟩
          · intro b' o e'
            rw [upd_ne (ne_of_none e' hD)]
            exact s2 b' o e'
          · rw [upd_same, ht2]
            unfold inn
            rw [List.filter_append, List.map_append, List.filter_cons, if_pos (by rw [q1, q2]; rfl)]
            rfl
        · rw [hl, ht2]
          unfold inn
          rw [List.filter_append, List.filter_cons, if_neg (by rw [q1, q2]; decide)]
          simp
      · rw [hl, ht2]
        unfold inn
        rw [List.filter_append, List.filter_cons, if_neg (by rw [q1]; simp)]
        simp
    · rintro D σ2 H2 hD ⟨v, rfl, s2, hl⟩
      have hl' : H2 D = some (.lst ((inn a b [c, e]).map V.int)) := hl
      have hil : (inn a b [c, e]).length ≤ 2 := inn_le ..
      have three : ∀ p, H2 p = none → atI ([V.str "same", V.str "cross", V.str "around"] : List V) (((inn a b [c, e]).map V.int).length : Int) = some (.str (words3.getD (inn a b [c, e]).length "apart")) := fun p _ => by
        rw [List.length_map]
        generalize (inn a b [c, e]).length = n at hil
        match n, hil with
        | 0, _ => rfl
        | 1, _ => rfl
        | 2, _ => rfl
      have ret3 : (decide (x = y) || decide (0 < (inn a b [c, e]).length)) = true → ∀ p, H2 p = none → ∀ H', Same H H' → Q (.str (words3.getD (inn a b [c, e]).length "apart")) H' := fun hc p _ H' s' => by
        have := k H' s'
        unfold wordT at this
        rw [if_pos hc] at this
        exact this
      refine ⟨_, rfl, _, rfl, rfl, _, rfl, ?_⟩
      refine ite2b (fun q1 => ?_) (fun q1 => ?_)
      · refine iteT ⟨by show 3 ≤ sizeLine; decide, fun p hp => ?_⟩
        refine ⟨_, rfl, D, _, rfl, .inl (SqL.of (ku hl' hp)), p, _, _, _, rfl, rfl, SqT.of upd_same, three p hp, ?_⟩
        refine ret3 ?_ p hp _ (s2.step hp)
        have q1' : decide (x = y) = true := by
          have := of_decide_eq_true q1
          injection this with this
          exact decide_eq_true this
        rw [q1']
        rfl
      · refine ⟨_, rfl, D, _, rfl, .inl (SqL.of hl'), _, _, rfl, rfl, _, rfl, ?_⟩
        have q1' : decide (x = y) = false := by
          have := of_decide_eq_false q1
          exact decide_eq_false fun z => this (by rw [z])
        refine ite2b (fun q2 => ?_) (fun q2 => ?_)
        · have q2' : 0 < (inn a b [c, e]).length := by
            have := of_decide_eq_true q2
            rw [List.length_map] at this
            omega
          refine ⟨by show 3 ≤ sizeLine; decide, fun p hp => ?_⟩
          refine ⟨_, rfl, D, _, rfl, .inl (SqL.of (ku hl' hp)), p, _, _, _, rfl, rfl, SqT.of upd_same, three p hp, ?_⟩
          exact ret3 (by rw [decide_eq_true q2', Bool.or_true]) p hp _ (s2.step hp)
        · have q2' : ¬ 0 < (inn a b [c, e]).length := by
            have := of_decide_eq_false q2
            rw [List.length_map] at this
            omega
          have last : ∀ z : Str, (if c < a ∧ b < e then ("within" : Str) else "apart") = z → Q (.str z) H2 := fun z hz => by
            have := k H2 s2
            unfold wordT at this
            rw [if_neg (by rw [q1', decide_eq_false q2']; decide), hz] at this
            exact this
          refine ⟨_, rfl, _, rfl, d, _, rfl, DGet.rd (Rd.same hd s2) v2, l2, _, _, _, rfl, rfl, SqL.of (s2 _ _ h2), rfl, _, rfl, _, _, rfl, rfl, _, rfl, ?_⟩
          refine ite2b (fun q3 => ?_) (fun q3 => ?_)
          · refine ⟨_, rfl, _, rfl, _, rfl, d, _, rfl, DGet.rd (Rd.same hd s2) v2, l2, _, _, _, rfl, rfl, SqL.of (s2 _ _ h2), rfl, _, _, rfl, rfl, _, rfl, ?_⟩
            refine ite2b (fun q4 => ?_) (fun q4 => ?_)
            · exact last _ (if_pos ⟨of_decide_eq_true q3, of_decide_eq_true q4⟩)
            · exact last _ (if_neg fun z => of_decide_eq_false q4 z.2)
          · exact iteF (last _ (if_neg fun z => of_decide_eq_false q3 z.1))
theorem scThr : FnScope NTr ["_law_row_here"] (defScope s__law_three) := ⟨rfl, rfl, rfl, by decide +kernel, rfl, by decide +kernel, by decide +kernel⟩
theorem ok_thr {f : Addr} {fd : FuncData} (F : Fun K "_law_three" "_law_three" s__law_three f fd) (T : Bl mg) (FW : Fn P w K mg base CX0 1 "_law_where" ["_law_row_here"] spWhere)
    (FO : Fn P w K mg base CX0 1 "_law_word" ["_law_where_here", "_law_one", "_law_other"] spWord) : FnOk P w K mg base CX0 2 f fd ["_law_row_here"] spThr := by
  refine F.ok scThr (fun vs H Q E h => ?_) (fun cdv A outer s H vs Q E hr h => ?_)
  · obtain ⟨r, row, rfl, _⟩ := h
    rfl
  · obtain ⟨r, row, rfl, hR, R2, hlen, kn, kt⟩ := h
    refine ⟨_, pss_cons (ps_set (i := 1) scThr.nd rfl (Or.inr rfl) (pe_fn FW hr (by rfl) pass0 (pa_cons (pv 0) pa_nil)))
      (pss_cons (ps_set (i := 2) scThr.nd rfl (Or.inr rfl) (pe_callB (call_sortedD rfl) (by rfl) T.sorted (by rfl) (pa_cons (pv 1) pa_nil)))
      (pss_cons (ps_for PassesOwn.never rfl (pi_range1 rfl T.range (pa_cons (pe_callB call_len_seq (by rfl) T.len boot_len (pa_cons (pv 2) pa_nil)) pa_nil)) (pg_name (i := 3) scThr.nd rfl (Or.inr rfl))
        (pss_cons (ps_comp (i := 4) (N := NTr1) (cap := [none, some 3, some 2, some 1]) (CompScope.of (defScope s__law_three) NTr rfl rfl rfl (by decide +kernel)) rfl scThr.nd rfl rfl
          (pi_list (pe_slice sl_list (pv 2) (po_some (pe_op op_add (pv 3) pe_int)) po_none)) (fun _ _ _ => pg_name (i := 0) (show NTr1.Nodup by decide +kernel) rfl (Or.inl rfl) (Or.inr rfl))
          (fun _ _ _ => pifs_one (pt_cmpR op_eq (pe_fn (by exact FO) (by exact hr) (by rfl) pass0 (pa_cons (pv 3) (pa_cons (pe_ix (ix_listK K (by rfl)) (pv 2) (pv 1) (fun _ _ => rfl)) (pa_cons (pv 0) pa_nil)))) pe_str (nomark _))) (fun _ _ _ => pv 0))
        (pss_one (ps_for PassesOwn.never rfl (pi_range1 rfl T.range (pa_cons (pe_callB call_len_seq (by rfl) T.len boot_len (pa_cons (pv 4) pa_nil)) pa_nil)) (pg_name (i := 5) scThr.nd rfl (Or.inl rfl))
          (pss_one (ps_for PassesOwn.never rfl (pi_range2 rfl T.range (pa_cons (pe_op op_add (pv 5) pe_int) (pa_cons (pe_callB call_len_seq (by rfl) T.len boot_len (pa_cons (pv 4) pa_nil)) pa_nil))) (pg_name (i := 6) scThr.nd rfl (Or.inl rfl))
            (pss_one (ps_if (pt_cmpR op_eq (pe_fn FO hr (by rfl) pass0 (pa_cons (pv 1) (pa_cons (pe_ix ix_list (pv 4) (pv 5) (fun _ _ => rfl)) (pa_cons (pe_ix ix_list (pv 4) (pv 6) (fun _ _ => rfl)) pa_nil)))) pe_str (nomark _))
              (pss_one (ps_ret (pe_tup (pa_cons (pe_ix ix_list (pv 2) (pv 3) (fun _ _ => rfl)) (pa_cons (pe_ix ix_list (pv 4) (pv 5) (fun _ _ => rfl)) (pa_cons (pe_ix ix_list (pv 4) (pv 6) (fun _ _ => rfl)) pa_nil)))))) pss_nil))))))))
      (pss_one (ps_ret pe_non)))), ?_⟩
    have hdl := dit_len row
    refine ⟨_, rfl, r, row, rfl, hR, Nat.le_trans hlen (by decide), fun d kvs H1 nd hd wh s1 => ?_⟩
    obtain ⟨ss, hss, hsn, hsm⟩ := wh.names
    have hsl : ss.length ≤ 60 := by
      have h1 := congrArg List.length hss
      rw [List.length_map, List.length_map] at h1
      have := wh.len
      omega
    refine ⟨_, rfl, d, kvs, ss, rfl, .inl hd, hss, Nat.lt_of_le_of_lt hsl (by decide), fun sn ls nsn hp1 hs1 => ?_⟩
    rw [dit_eq hp1 hs1 hsn hsm]
    have s2 : Same H1 (upd H1 sn (.lst ((dit row).map V.str))) := (Same.refl H1).step nsn
    have hsn2 : upd H1 sn (.lst ((dit row).map V.str)) sn = some (.lst ((dit row).map V.str)) := upd_same
    generalize upd H1 sn (.lst ((dit row).map V.str)) = H2 at s2 hsn2
    have s02 := s1.trans s2
    have hlt := dit_lt row
    have hmem : ∀ z, z ∈ dit row ↔ z ∈ row := fun z => dit_mem
    have hdl' : (dit row).length ≤ 32 := Nat.le_trans hdl hlen
    generalize dit row = ns at hsn2 hlt hmem hdl'
    have two := R2.two
    have ask : ∀ {H' : Hp} {x y : Str} {Q' : VK}, Same H2 H' → x ∈ row → y ∈ row → (∀ H'', Same H' H'' → Q' (.str (lieR row x y)) H'') → spWord [.ref d, .str x, .str y] H' Q' E0 := fun {H' x y Q'} s' hx hy k => by
      obtain ⟨l1, e1, g1⟩ := wh.pl hx (two x hx)
      obtain ⟨l2, e2, g2⟩ := wh.pl hy (two y hy)
      have s1' := s2.trans s'
      refine ⟨d, l1, l2, kvs, x, y, _, _, _, _, rfl, .inl (s1' _ _ hd), e1, e2, s1' _ _ g1, s1' _ _ g2, fun H'' s'' => ?_⟩
      rw [← lieR_word (two x hx) (two y hy)]
      exact k H'' s''
    refine ⟨_, rfl, sn, _, rfl, .inl (SqL.of hsn2), ((ns.map V.str).length : Int), rfl, rgl _, by rw [List.length_map]; exact rgu (Nat.le_trans hdl' (by decide)), ?_⟩
    have hn : ((ns.map V.str).length : Int).toNat = ns.length := by rw [List.length_map]; simp
    rw [hn]
    refine for_range (lo := 0) (n := ns.length) (fun i σ H3 => ∃ v3 v4 v5 v6, σ = [some (.ref r), some (.ref d), some (.ref sn), v3, v4, v5, v6] ∧ Same H2 H3 ∧ ∀ j x y z, j < i → ns[j]? = some x → ¬ IsT row x y z) ?_ ?_ ?_
    · exact ⟨_, _, _, _, rfl, Same.refl _, fun j x y z h => absurd h (Nat.not_lt_zero _)⟩
    · rintro i σ H3 hi ⟨v3, v4, v5, v6, rfl, s3, ho⟩
      have hx1 : ns[i]? = some (ns[i]'hi) := List.getElem?_eq_getElem hi
      have hxn : (ns[i]'hi) ∈ ns := List.getElem_mem hi
      generalize ns[i]'hi = x at hx1 hxn
      have hxr := (hmem x).mp hxn
      have hat : atI (ns.map V.str) (0 + (i : Int)) = some (.str x) := by
        rw [Int.zero_add]
        exact atI_nat (by rw [List.getElem?_map, hx1]; rfl)
      have hs3 := s3 _ _ hsn2
      refine ⟨_, rfl, _, rfl, _, _, rfl, rfl, _, rfl, sn, _, rfl, SqL.of hs3, fun c nc => ?_⟩
      have e0 := z1 i
      rw [e0, cut_of _ _ _ hi]
      have s4 : Same H3 (upd H3 c (.lst ((ns.drop (i + 1)).map V.str))) := (Same.refl H3).step nc
      have hc4 : upd H3 c (.lst ((ns.drop (i + 1)).map V.str)) c = some (.lst ((ns.drop (i + 1)).map V.str)) := upd_same
      generalize upd H3 c (.lst ((ns.drop (i + 1)).map V.str)) = H4 at s4 hc4
      have hts : ∀ y ∈ ns.drop (i + 1), y ∈ row := fun y hy => (hmem y).mp (List.mem_of_mem_drop hy)
      have s24 := s3.trans s4
      refine ⟨c, rfl, ⟨_, SqL.of hc4⟩, ?_⟩
      refine blk_pure (n := (ns.drop (i + 1)).length) (by rw [List.length_drop]; exact Nat.lt_of_le_of_lt (Nat.le_trans (Nat.sub_le ..) hdl') (by decide)) (fun j => .str ((ns.drop (i + 1)).getD j Str.empty)) (fun j => decide (lieR row x ((ns.drop (i + 1)).getD j Str.empty) = "cross")) (fun j => .str ((ns.drop (i + 1)).getD j Str.empty)) ?_ ?_ ?_ ?_ ?_
      · intro j H5 hj s5
        have := go_list (K := K) (SqL.of (s5 _ _ hc4)) (show j < ((ns.drop (i + 1)).map V.str).length by rw [List.length_map]; exact hj)
        rwa [getD_map V.str Str.empty _ hj] at this
      · intro H5 s5
        have := st_list (K := K) (SqL.of (s5 _ _ hc4))
        rwa [List.length_map] at this
      · intro j H5 Q' hj s5 kk
        have hyr := hts _ (mem_getD hj)
        refine ⟨_, rfl, _, rfl, _, rfl, sn, _, _, _, rfl, rfl, SqL.of (s5 _ _ (s4 _ _ hs3)), hat, _, rfl, ?_⟩
        dsimp only [tNil, List.cons_append, List.nil_append]
        refine ask (s24.trans s5) hxr hyr fun H6 s6 => ⟨rfl, _, rfl, ?_⟩
        rw [vstr_dec]
        exact kk H6 s6
      · exact fun j H5 Q' hj _ s5 kk => ⟨_, rfl, kk H5 (Same.refl _)⟩
      · intro D H5 nD s5 hD
        have hD' : H5 D = some (.lst (((ns.drop (i + 1)).filter fun y => decide (lieR row x y = "cross")).map V.str)) := by
          rw [hD, ← filt_range Str.empty (fun y => decide (lieR row x y = "cross")) (ns.drop (i + 1)), List.map_map]
          rfl
        have Mlt : ((ns.drop (i + 1)).filter fun y => decide (lieR row x y = "cross")).Pairwise ltS := (hlt.sublist (List.drop_sublist ..)).filter _
        have Mmem : ∀ y, y ∈ (ns.drop (i + 1)).filter (fun y => decide (lieR row x y = "cross")) ↔ y ∈ row ∧ ltS x y ∧ lieR row x y = "cross" := fun y => by
          rw [List.mem_filter, decide_eq_true_eq]
          constructor
          · rintro ⟨h1, h2⟩
            refine ⟨hts y h1, ?_, h2⟩
            obtain ⟨j, hj, ej⟩ := List.mem_iff_getElem.mp h1
            rw [List.getElem_drop] at ej
            rw [List.length_drop] at hj
            obtain ⟨q1, q2⟩ := List.getElem?_eq_some_iff.mp hx1
            have := List.pairwise_iff_getElem.mp hlt i (i + 1 + j) q1 (by omega) (Nat.lt_of_lt_of_le (Nat.lt_succ_self i) (Nat.le_add_right _ _))
            rwa [q2, ej] at this
          · rintro ⟨h1, h2, h3⟩
            refine ⟨?_, h3⟩
            obtain ⟨j, hj, ej⟩ := List.mem_iff_getElem.mp ((hmem y).mpr h1)
            obtain ⟨q1, q2⟩ := List.getElem?_eq_some_iff.mp hx1
            have hij : i < j := by
              rcases Nat.lt_trichotomy i j with z | z | z
              · exact z
              · subst z
                rw [ej] at q2
                exact absurd (q2 ▸ h2) (ltS_irrefl _)
              · have := List.pairwise_iff_getElem.mp hlt j i hj q1 z
                rw [ej, q2] at this
                exact absurd (ltS_trans h2 this) (ltS_irrefl _)
            refine List.mem_iff_getElem.mpr ⟨j - (i + 1), by rw [List.length_drop]; omega, ?_⟩
            rw [List.getElem_drop]
            have : i + 1 + (j - (i + 1)) = j := back hij
            simp only [this]
            exact ej
        have Mlen : ((ns.drop (i + 1)).filter fun y => decide (lieR row x y = "cross")).length ≤ 32 := Nat.le_trans (List.length_filter_le ..) (by rw [List.length_drop]; exact Nat.le_trans (Nat.sub_le ..) hdl')
        generalize ((ns.drop (i + 1)).filter fun y => decide (lieR row x y = "cross")) = M at hD' Mlt Mmem Mlen
        have s25 := s24.trans s5
        clear hD hc4
        refine ⟨_, rfl, D, _, rfl, .inl (SqL.of hD'), ((M.map V.str).length : Int), rfl, rgl _, by rw [List.length_map]; exact rgu (Nat.le_trans Mlen (by decide)), ?_⟩
        have hn2 : ((M.map V.str).length : Int).toNat = M.length := by rw [List.length_map]; simp
        rw [hn2]
        refine for_range (lo := 0) (n := M.length) (fun b σ H6 => ∃ v5 v6, σ = [some (.ref r), some (.ref d), some (.ref sn), some (.int (0 + (i : Int))), some (.ref D), v5, v6] ∧ Same H5 H6 ∧ ∀ j y z, j < b → M[j]? = some y → z ∈ M → ltS y z → lieR row y z ≠ "cross") ?_ ?_ ?_
        · exact ⟨_, _, rfl, Same.refl _, fun j y z h => absurd h (Nat.not_lt_zero _)⟩
        · rintro b σ H6 hb ⟨v5, v6, rfl, s6, hm⟩
          have hy1 : M[b]? = some (M[b]'hb) := List.getElem?_eq_getElem hb
          have hyM : (M[b]'hb) ∈ M := List.getElem_mem hb
          generalize M[b]'hb = y at hy1 hyM
          obtain ⟨hyr, hxy, cxy⟩ := (Mmem y).mp hyM
          have haty : atI (M.map V.str) (0 + (b : Int)) = some (.str y) := by
            rw [Int.zero_add]
            exact atI_nat (by rw [List.getElem?_map, hy1]; rfl)
          refine ⟨_, rfl, _, _, rfl, rfl, _, rfl, D, _, rfl, .inl (SqL.of (s6 _ _ hD')), _, _, rfl, ⟨by omega, by omega, by rw [List.length_map]; omega, by rw [List.length_map]; omega⟩, ?_⟩
          have hn3 : (((M.map V.str).length : Int) - (0 + (b : Int) + 1)).toNat = M.length - (b + 1) := by rw [List.length_map]; omega
          rw [hn3]
          refine for_range (lo := 0 + (b : Int) + 1) (n := M.length - (b + 1)) (fun c σ H7 => ∃ v6, σ = [some (.ref r), some (.ref d), some (.ref sn), some (.int (0 + (i : Int))), some (.ref D), some (.int (0 + (b : Int))), v6] ∧ Same H5 H7 ∧ ∀ j z, j < c → M[b + 1 + j]? = some z → lieR row y z ≠ "cross") ?_ ?_ ?_
          · exact ⟨_, rfl, s6, fun j z h => absurd h (Nat.not_lt_zero _)⟩
          · rintro c σ H7 hc ⟨v6, rfl, s7, hin⟩
            have hlt' : b + 1 + c < M.length := by omega
            have hz1 : M[b + 1 + c]? = some (M[b + 1 + c]'hlt') := List.getElem?_eq_getElem hlt'
            have hzM : (M[b + 1 + c]'hlt') ∈ M := List.getElem_mem hlt'
            generalize M[b + 1 + c]'hlt' = z at hz1 hzM
            obtain ⟨hzr, hxz, cxz⟩ := (Mmem z).mp hzM
            have hatz : atI (M.map V.str) (0 + (b : Int) + 1 + (c : Int)) = some (.str z) := by
              rw [show (0 : Int) + (b : Int) + 1 + (c : Int) = ((b + 1 + c : Nat) : Int) by omega]
              exact atI_nat (by rw [List.getElem?_map, hz1]; rfl)
            have hyz : ltS y z := by
              obtain ⟨q1, q2⟩ := List.getElem?_eq_some_iff.mp hy1
              obtain ⟨q3, q4⟩ := List.getElem?_eq_some_iff.mp hz1
              have := List.pairwise_iff_getElem.mp Mlt b (b + 1 + c) q1 q3 (Nat.lt_of_lt_of_le (Nat.lt_succ_self b) (Nat.le_add_right _ _))
              rwa [q2, q4] at this
            have hD7 := s7 _ _ hD'
            have s27 := s25.trans s7
            refine ⟨_, rfl, _, rfl, _, rfl, D, _, _, _, rfl, rfl, SqL.of hD7, haty, _, rfl, _, rfl, D, _, _, _, rfl, rfl, SqL.of hD7, hatz, ?_⟩
            dsimp only [tNil, List.cons_append, List.nil_append]
            refine ask s27 hyr hzr fun H8 s8 => ⟨rfl, _, rfl, ?_⟩
            rw [vstr_dec]
            have s28 := s27.trans s8
            refine ite2b (fun q => ?_) (fun q => ?_)
            · have cyz := of_decide_eq_true q
              have hs8 := s28 _ _ hsn2
              have hD8 := s8 _ _ hD7
              refine ⟨_, rfl, _, rfl, sn, _, _, _, rfl, rfl, SqL.of hs8, hat, _, rfl, _, rfl, D, _, _, _, rfl, rfl, SqL.of hD8, haty, _, rfl, _, rfl, D, _, _, _, rfl, rfl, SqL.of hD8, hatz, by show 3 ≤ sizeLine; decide, fun t nt => ?_⟩
              refine kt x y z t _ ⟨⟨hxr, hyr, hzr, hxy, hyz, cxy, cyz, cxz⟩, fun x' y' z' t' => ?_⟩ ((s02.trans s28).free nt) upd_same ((s02.trans s28).step nt)
              rcases ltS_tri x x' with e | e | e
              · exact .inl e
              · refine .inr ⟨e.symm, ?_⟩
                subst e
                have my : y' ∈ M := (Mmem y').mpr ⟨t'.hy, t'.lxy, t'.xy⟩
                have mz : z' ∈ M := (Mmem z').mpr ⟨t'.hz, ltS_trans t'.lxy t'.lyz, t'.xz⟩
                rcases ltS_tri y y' with e | e | e
                · exact .inl e
                · refine .inr ⟨e.symm, ?_⟩
                  subst e
                  rcases ltS_tri z z' with e | e | e
                  · exact .inr e
                  · exact .inl e.symm
                  · exfalso
                    obtain ⟨m, hm1, em⟩ := before Mlt hz1 mz e
                    have hgt : b < m := by
                      rcases Nat.lt_trichotomy b m with w1 | w1 | w1
                      · exact w1
                      · subst w1
                        rw [hy1] at em
                        exact absurd (Option.some.inj em ▸ t'.lyz) (ltS_irrefl _)
                      · obtain ⟨q1, q2⟩ := List.getElem?_eq_some_iff.mp hy1
                        obtain ⟨q3, q4⟩ := List.getElem?_eq_some_iff.mp em
                        have := List.pairwise_iff_getElem.mp Mlt m b q3 q1 w1
                        rw [q2, q4] at this
                        exact absurd (ltS_trans t'.lyz this) (ltS_irrefl _)
                    exact hin (m - (b + 1)) z' (by omega) (by rw [back hgt]; exact em) t'.yz
                · exfalso
                  obtain ⟨m, hm1, em⟩ := before Mlt hy1 my e
                  exact hm m y' z' hm1 em mz t'.lyz t'.yz
              · exfalso
                obtain ⟨m, hm1, em⟩ := before hlt hx1 ((hmem x').mpr t'.hx) e
                exact ho m x' y' z' hm1 em t'
            · refine ⟨_, rfl, s7.trans s8, fun j z' hj hz' => ?_⟩
              by_cases e : j = c
              · subst e
                rw [hz1] at hz'
                rw [← Option.some.inj hz']
                exact of_decide_eq_false q
              · exact hin j z' (ltn hj e) hz'
          · rintro σ H7 ⟨v6, rfl, s7, hin⟩
            refine ⟨_, _, rfl, s7, fun j y' z hj hy' hz hl => ?_⟩
            by_cases e : j = b
            · subst e
              rw [hy1] at hy'
              rw [← Option.some.inj hy'] at hl ⊢
              obtain ⟨m, hm1, em⟩ := List.mem_iff_getElem.mp hz
              have hgt : j < m := by
                rcases Nat.lt_trichotomy j m with w1 | w1 | w1
                · exact w1
                · subst w1
                  rw [List.getElem?_eq_getElem hm1, em] at hy1
                  exact absurd (Option.some.inj hy1 ▸ hl) (ltS_irrefl _)
                · obtain ⟨q1, q2⟩ := List.getElem?_eq_some_iff.mp hy1
                  have := List.pairwise_iff_getElem.mp Mlt m j hm1 q1 w1
                  rw [q2, em] at this
                  exact absurd (ltS_trans hl this) (ltS_irrefl _)
              exact hin (m - (j + 1)) z (by omega) (by rw [back hgt, List.getElem?_eq_getElem hm1, em])
            · exact hm j y' z (ltn hj e) hy' hz hl
        · rintro σ H6 ⟨v5, v6, rfl, s6, hm⟩
          refine ⟨_, _, _, _, rfl, s25.trans s6, fun j x' y z hj hx' t => ?_⟩
          by_cases e : j = i
          · subst e
            rw [hx1] at hx'
            have ex := Option.some.inj hx'
            subst ex
            have my : y ∈ M := (Mmem y).mpr ⟨t.hy, t.lxy, t.xy⟩
            have mz : z ∈ M := (Mmem z).mpr ⟨t.hz, ltS_trans t.lxy t.lyz, t.xz⟩
            obtain ⟨m, hm1, em⟩ := List.mem_iff_getElem.mp my
            exact hm m y z hm1 (by rw [List.getElem?_eq_getElem hm1, em]) mz t.lyz t.yz
          · exact ho j x' y z (ltn hj e) hx' t
    · rintro σ H3 ⟨v3, v4, v5, v6, rfl, s3, ho⟩
      refine kn (fun x y z t => ?_) H3 (s02.trans s3)
      obtain ⟨m, hm1, em⟩ := List.mem_iff_getElem.mp ((hmem x).mpr t.hx)
      exact ho m x y z hm1 (by rw [List.getElem?_eq_getElem hm1, em]) t
theorem scPut : FnScope NPut ["_law_row_here", "_law_name", "_law_at", "_law_to"] (defScope sPut) := ⟨rfl, rfl, rfl, by decide +kernel, rfl, by decide +kernel, by decide +kernel⟩
theorem ok_put {f : Addr} {fd : FuncData} (F : Fun K "_law_put" "_law_put" sPut f fd) : FnOk P w K mg base CX0 1 f fd ["_law_row_here", "_law_name", "_law_at", "_law_to"] spPut := by
  refine F.ok scPut (fun vs H Q E h => ?_) (fun cdv A outer s H vs Q E hr h => ?_)
  · obtain ⟨r, row, x, a, b, rfl, _⟩ := h
    rfl
  · obtain ⟨r, row, x, a, b, rfl, hR, hl, hab, hb, k⟩ := h
    refine ⟨_, pss_cons (ps_set (i := 4) scPut.nd rfl (Or.inl rfl) (pe_op op_cat (pe_op op_cat (pe_slice sl_list (pv 0) po_none (po_some (pv 2))) (pe_lst (pa_cons (pv 1) pa_nil))) (pe_slice sl_list (pv 0) (po_some (pv 2)) (po_some (pv 3)))))
      (pss_one (ps_ret (pe_op op_cat (pe_op op_cat (pv 4) (pe_lst (pa_cons (pv 1) pa_nil))) (pe_slice sl_list (pv 0) (po_some (pv 3)) po_none)))), ?_⟩
    have h24 : ∀ n, n ≤ 100000 → n ≤ sizeLine := fun n h => Nat.le_trans h (by decide)
    refine ⟨_, rfl, _, rfl, _, rfl, r, _, rfl, SqL.of hR, fun p1 n1 => ?_⟩
    rw [cut_to _ _ _ (Nat.le_trans hab hb)]
    refine ⟨_, rfl, by show 1 ≤ sizeLine; decide, fun p2 n2 => ?_⟩
    refine ⟨p1, p2, _, _, rfl, rfl, ku upd_same n2, upd_same, h24 _ (by simp; exact mA hl), fun p3 n3 => ?_⟩
    refine ⟨_, rfl, _, rfl, _, rfl, _, rfl, _, rfl, r, _, rfl, SqL.of (ku (ku (ku hR n1) n2) n3), fun p4 n4 => ?_⟩
    rw [cut_in _ _ _ _ hab hb]
    refine ⟨p3, p4, _, _, rfl, rfl, ku upd_same n4, upd_same, h24 _ (by simp; exact mB hl), fun p5 n5 => ?_⟩
    refine ⟨_, rfl, _, rfl, by show 1 ≤ sizeLine; decide, fun p6 n6 => ?_⟩
    refine ⟨p5, p6, _, _, rfl, rfl, ku upd_same n6, upd_same, h24 _ (by simp; exact mC hl), fun p7 n7 => ?_⟩
    refine ⟨_, rfl, _, rfl, _, rfl, r, _, rfl, SqL.of (ku (ku (ku (ku (ku (ku (ku hR n1) n2) n3) n4) n5) n6) n7), fun p8 n8 => ?_⟩
    rw [cut_of _ _ _ hb]
    refine ⟨p7, p8, _, _, rfl, rfl, ku upd_same n8, upd_same, h24 _ (by simp; exact mD hl), fun p9 n9 => ?_⟩
    have s8 := ((((((((Same.refl H).go n1 n2).go n2 n3).go n3 n4).go n4 n5).go n5 n6).go n6 n7).go n7 n8).go n8 n9
    refine k p9 _ (s8.free n9) (upd_same.trans ?_) (s8.step n9)
    unfold putR
    simp
theorem scBegin : FnScope ["_law_script"] ["_law_script"] (defScope sBegin) := ⟨rfl, rfl, rfl, by decide +kernel, rfl, by decide +kernel, by decide +kernel⟩
theorem ok_begin {f : Addr} {fd : FuncData} (F : Fun K "_law_begin" "_law_begin" sBegin f fd) (T : Bl mg) : FnOk P w K mg base CX0 1 f fd ["_law_script"] (spBegin K) := by
  refine F.ok scBegin (fun vs H Q E h => ?_) (fun cdv A outer s H vs Q E hr h => ?_)
  · obtain ⟨a, ns, rfl, _⟩ := h
    rfl
  · obtain ⟨a, ns, rfl, hS, hl, k⟩ := h
    refine ⟨_, pss_one (ps_ret (pe_lst (pa_cons (pe_callTy call_list_of rfl T.list boot_list (pa_cons (pe_slice sl_list (pv 0) po_none (po_some pe_int)) pa_nil)) (pa_cons pe_int (pa_cons pe_int (pa_cons pe_int (pa_cons pe_int pa_nil))))))), ?_⟩
    refine ⟨_, rfl, _, rfl, a, _, rfl, hS, fun p hp => ?_⟩
    have cut : cutV (ns.map V.int) none (some 63) = ns.map V.int := by
      unfold cutV
      rw [HT.sIx_none, List.drop_zero, show (some (63 : Int)) = some ((63 : Nat) : Int) from rfl, HT.sIx_nat]
      exact List.take_of_length_le (by rw [List.length_map]; omega)
    rw [cut]
    refine ⟨p, _, rfl, .inl (SqL.of upd_same), fun q hq => ?_⟩
    refine ⟨by show 5 ≤ sizeLine; decide, fun dr hdr => ?_⟩
    have npq : p ≠ q := ne_of_none (o := .lst (ns.map V.int)) upd_same hq
    have nqd : q ≠ dr := ne_of_none (o := .lst (ns.map V.int)) upd_same hdr
    have hqH : H q = none := by rw [upd_ne npq.symm] at hq; exact hq
    have hpd : p ≠ dr := ne_of_none (H := upd (upd H p (.lst (ns.map V.int))) q (.lst (ns.map V.int))) (o := .lst (ns.map V.int)) (by rw [upd_ne npq, upd_same]) hdr
    have hdH : H dr = none := by rw [upd_ne nqd.symm, upd_ne hpd.symm] at hdr; exact hdr
    refine k dr q _ hdH hqH ⟨⟨ns, 0, 0, 1, 0, upd_same, by rw [upd_ne nqd, upd_same], Nat.zero_le _, hl, by decide, by decide⟩⟩ ((((Same.refl H).upd hp).upd hqH).upd hdH)
theorem scPick : FnScope NP ["_law_draw", "_law_many"] (defScope sPick) := ⟨rfl, rfl, rfl, by decide +kernel, rfl, by decide +kernel, by decide +kernel⟩
theorem ok_pick {f : Addr} {fd : FuncData} (F : Fun K "_law_pick" "_law_pick" sPick f fd) (T : Bl mg) : FnOk P w K mg base CX0 1 f fd ["_law_draw", "_law_many"] spPick := by
  refine F.ok scPick (fun vs H Q E h => ?_) (fun cdv A outer s H vs Q E hr h => ?_)
  · obtain ⟨dr, sc, n, rfl, _⟩ := h
    rfl
  · obtain ⟨dr, sc, n, rfl, hn0, hn1, ⟨ns, p, c, m, k, hd, hs, hp, hl, hm0, hm1⟩, kk⟩ := h
    have nds : dr ≠ sc := by
      intro e
      subst e
      rw [hd] at hs
      cases ns with
      | nil => cases hs
      | cons a r => cases hs
    refine cons_split (fun σ' H' => ∃ x y p c m, σ' = [some (.ref dr), some (.int n), x, y] ∧ H' dr = some (.lst [.ref sc, .int (p : Nat), .int c, .int m, .int k]) ∧ p ≤ ns.length ∧ 0 ≤ m ∧ m < 1000000007 ∧ ∀ b o, H b = some o → b ≠ dr → H' b = some o) ?_ ?_
    · -- the rest
      refine ⟨_, pss_cons (ps_if (pt_cmpR op_ge (pe_ix ix_list (pv 0) pe_int (fun _ _ => rfl)) (pv 1) (nomark _))
          (pss_cons (ps_set (i := 3) scPick.nd rfl (Or.inl rfl) (pe_op op_mod (pe_ix ix_list (pv 0) pe_int (fun _ _ => rfl)) (pv 1)))
          (pss_cons (ps_asg (pe_op op_fdiv (pe_ix ix_list (pv 0) pe_int (fun _ _ => rfl)) (pv 1)) (pg_sub (pv 0) pe_int set_list))
          (pss_one (ps_ret (pv 3))))) pss_nil)
        (pss_cons (ps_asg (pe_op op_add (pe_ix ix_list (pv 0) pe_int (fun _ _ => rfl)) pe_int) (pg_sub (pv 0) pe_int set_list))
        (pss_cons (ps_asg (pe_op op_mod (pe_op op_add (pe_op op_add (pe_op op_pow (pe_ix ix_list (pv 0) pe_int (fun _ _ => rfl)) pe_int) (pe_op op_mul pe_int (pe_ix ix_list (pv 0) pe_int (fun _ _ => rfl)))) pe_int) pe_int) (pg_sub (pv 0) pe_int set_list))
        (pss_one (ps_ret (pe_op op_mod (pe_op op_fdiv (pe_ix ix_list (pv 0) pe_int (fun _ _ => rfl)) pe_int) (pv 1)))))), ?_⟩
      rintro σ' H' ⟨x, y, p, c, m, rfl, hd', hp', hm0', hm1', kp⟩
      refine ⟨_, rfl, dr, _, _, _, rfl, rfl, SqL.of hd', rfl, _, rfl, _, _, rfl, rfl, _, rfl, ?_⟩
      refine ite2b (fun hc => ?_) (fun hc => ?_)
      · -- got
        refine ⟨_, rfl, dr, _, _, _, rfl, rfl, SqL.of hd', rfl, _, rfl, _, _, rfl, rfl, hn0, ?_⟩
        refine ⟨_, rfl, dr, _, _, _, rfl, rfl, SqL.of hd', rfl, _, rfl, _, _, rfl, rfl, ⟨hn0, by omega⟩, ?_⟩
        refine ⟨_, rfl, dr, _, _, 2, rfl, rfl, hd', rfl, ?_⟩
        refine ⟨_, rfl, ?_⟩
        refine kk _ _ (Int.emod_nonneg _ (by omega)) (Int.emod_lt_of_pos _ hn0) ⟨⟨ns, p, c / n, m, k, upd_same, ?_, hp', hl, hm0', hm1'⟩⟩ fun b o e hb => by rw [upd_ne hb]; exact kp b o e hb
        rw [upd_ne nds.symm]
        exact kp _ _ hs nds.symm
      · refine ⟨_, rfl, dr, _, _, _, rfl, rfl, SqL.of hd', rfl, _, _, rfl, rfl, ?_⟩
        refine ⟨_, rfl, dr, _, _, 4, rfl, rfl, hd', rfl, ?_⟩
        refine ⟨_, rfl, dr, _, _, _, rfl, rfl, SqL.of upd_same, rfl, _, _, rfl, rfl, cpow3 hm0' hm1', ?_⟩
        refine ⟨_, rfl, dr, _, _, _, rfl, rfl, SqL.of upd_same, rfl, _, _, rfl, rfl, .inl ⟨by decide, by decide⟩, _, _, rfl, rfl, _, _, rfl, rfl, _, _, rfl, rfl, (by show (0 : Int) < 1000000007; decide), ?_⟩
        refine ⟨_, rfl, dr, _, _, 3, rfl, rfl, upd_same, rfl, ?_⟩
        refine ⟨_, rfl, dr, _, _, _, rfl, rfl, SqL.of upd_same, rfl, _, _, rfl, rfl, ⟨by decide, by decide⟩, _, rfl, _, _, rfl, rfl, hn0, ?_⟩
        refine kk _ _ (Int.emod_nonneg _ (by omega)) (Int.emod_lt_of_pos _ hn0) ⟨⟨ns, p, c, _, k + 1, upd_same, ?_, hp', hl, Int.emod_nonneg _ (by decide), Int.emod_lt_of_pos _ (by decide)⟩⟩ fun b o e hb => by rw [upd_ne hb, upd_ne hb]; exact kp b o e hb
        rw [upd_ne nds.symm, upd_ne nds.symm]
        exact kp _ _ hs nds.symm
    · intro nx hnx
      refine ⟨_, ps_if (pw_and (pt_cmpR op_lt (pe_ix ix_list (pv 0) pe_int (fun _ _ => rfl)) (pv 1) (nomark _)) (pw_and1 (pt_cmpR op_lt (pe_ix ix_list (pv 0) pe_int (fun _ _ => rfl)) (pe_callB call_len_seq (by rfl) T.len boot_len (pa_cons (pe_ix ix_list (pv 0) pe_int (fun _ _ => rfl)) pa_nil)) (nomark _)))).pt
          (pss_cons (ps_set (i := 2) scPick.nd rfl (Or.inl rfl) (pe_ix ix_list (pe_ix ix_list (pv 0) pe_int (fun _ _ => rfl)) (pe_ix ix_list (pv 0) pe_int (fun _ _ => rfl)) (fun _ _ => rfl)))
          (pss_cons (ps_asg (pe_op op_add (pe_ix ix_list (pv 0) pe_int (fun _ _ => rfl)) pe_int) (pg_sub (pv 0) pe_int set_list))
          (pss_cons (ps_asg pe_int (pg_sub (pv 0) pe_int set_list))
          (pss_one (ps_if (pt_cmpR op_ge (pv 2) (pe_op op_pow pe_int pe_int) (nomark _))
            (pss_one (ps_asg (pv 2) (pg_sub (pv 0) pe_int set_list)))
            (pss_one (ps_asg (pe_op op_mod (pe_op op_add (pe_ix ix_list (pv 0) pe_int (fun _ _ => rfl)) (pv 2)) pe_int) (pg_sub (pv 0) pe_int set_list)))))))) pss_nil, ?_⟩
      refine ⟨_, rfl, dr, _, _, _, rfl, rfl, SqL.of hd, rfl, _, rfl, _, _, rfl, rfl, _, rfl, ?_⟩
      have skip : nx [some (.ref dr), some (.int n), none, none] H := hnx _ _ ⟨none, none, p, c, m, rfl, hd, hp, hm0, hm1, fun b o e _ => e⟩
      refine ite2b (fun _ => ?_) (fun _ => iteF skip)
      refine ⟨_, rfl, dr, _, _, _, rfl, rfl, SqL.of hd, rfl, _, rfl, dr, _, _, _, rfl, rfl, SqL.of hd, rfl, sc, _, rfl, .inl (SqL.of hs), _, _, rfl, rfl, _, rfl, ?_⟩
      refine ite2b (fun hlt => ?_) (fun _ => skip)
      have hlt' : (p : Int) < ((ns.map V.int).length : Nat) := of_decide_eq_true hlt
      rw [List.length_map] at hlt'
      have hpl : p < ns.length := by omega
      have hat : (ns.map V.int)[p]? = some (.int (ns[p]'hpl)) := by rw [List.getElem?_map, List.getElem?_eq_getElem hpl]; rfl
      refine ⟨_, rfl, dr, _, _, _, rfl, rfl, SqL.of hd, rfl, _, rfl, dr, _, _, _, rfl, rfl, SqL.of hd, rfl, sc, _, _, _, rfl, rfl, SqL.of hs, atI_nat hat, ?_⟩
      refine ⟨_, rfl, dr, _, _, _, rfl, rfl, SqL.of hd, rfl, _, _, rfl, rfl, ?_⟩
      refine ⟨_, rfl, dr, _, _, 1, rfl, rfl, hd, rfl, ?_⟩
      refine ⟨_, rfl, dr, _, _, 2, rfl, rfl, upd_same, rfl, ?_⟩
      refine ⟨_, rfl, _, _, rfl, rfl, ⟨by decide, by decide, by decide⟩, _, _, rfl, rfl, _, rfl, ?_⟩
      refine ite2b (fun _ => ?_) (fun _ => ?_)
      · refine ⟨_, rfl, _, rfl, dr, _, _, 2, rfl, rfl, upd_same, rfl, ?_⟩
        refine hnx _ _ ⟨_, none, p + 1, _, m, rfl, upd_same, hpl, hm0, hm1, fun b o e hb => by rw [upd_ne hb, upd_ne hb, upd_ne hb]; exact e⟩
      · refine ⟨_, rfl, dr, _, _, _, rfl, rfl, SqL.of upd_same, rfl, _, rfl, _, _, rfl, rfl, _, _, rfl, rfl, (by show (0 : Int) < 1000000007; decide), ?_⟩
        refine ⟨_, rfl, dr, _, _, 3, rfl, rfl, upd_same, rfl, ?_⟩
        refine hnx _ _ ⟨_, none, p + 1, _, _, rfl, upd_same, hpl, Int.emod_nonneg _ (by decide), Int.emod_lt_of_pos _ (by decide), fun b o e hb => by rw [upd_ne hb, upd_ne hb, upd_ne hb]; exact e⟩
theorem scBarred : FnScope NBa ["_law_row_here", "_law_name"] (defScope sBarred) := ⟨rfl, rfl, rfl, by decide +kernel, rfl, by decide +kernel, by decide +kernel⟩
theorem ok_barred {f : Addr} {fd : FuncData} (F : Fun K "_law_barred" "_law_barred" sBarred f fd) (T : Bl mg) (FW : Fn P w K mg base CX0 1 "_law_where" ["_law_row_here"] spWhere)
    (FO : Fn P w K mg base CX0 1 "_law_word" ["_law_where_here", "_law_one", "_law_other"] spWord) : FnOk P w K mg base CX0 2 f fd ["_law_row_here", "_law_name"] spBarredN := by
  refine F.ok scBarred (fun vs H Q E h => ?_) (fun cdv A outer s H vs Q E hr h => ?_)
  · obtain ⟨r, row, x, rfl, _⟩ := h
    rfl
  · obtain ⟨r, row, x, rfl, hR, hl, h2, hx, k⟩ := h
    have hu := hu_of hr
    refine ⟨_, pss_cons (ps_set (i := 2) scBarred.nd rfl (Or.inr rfl) (pe_fn FW hr rfl pass0 (pa_cons (pv 0) pa_nil)))
      (pss_cons (ps_comp (i := 3) (N := NBc) (cap := [none, some 1, some 2]) (CompScope.of (defScope sBarred) NBa rfl rfl rfl (by decide +kernel)) rfl scBarred.nd rfl rfl
          (pi_dict (pv 2)) (fun _ _ _ => pg_name (i := 0) (show NBc.Nodup by decide +kernel) rfl (Or.inl rfl) (Or.inr rfl))
          (fun _ _ _ => pifs_one (pt_cmpR op_eq (pe_fn FO hr rfl pass0 (pa_cons (pv 2) (pa_cons (pv 1) (pa_cons (pv 0) pa_nil)))) pe_str (nomark _))) (fun _ _ _ => pv 0))
      (pss_cons (ps_for PassesOwn.never rfl (pi_range1 rfl T.range (pa_cons (pe_callB call_len_seq (by rfl) T.len boot_len (pa_cons (pv 3) pa_nil)) pa_nil)) (pg_name (i := 4) scBarred.nd rfl (Or.inl rfl))
        (pss_one (ps_for PassesOwn.never rfl (pi_list (pe_slice sl_list (pv 3) (po_some (pe_op op_add (pv 4) pe_int)) po_none)) (pg_name (i := 5) scBarred.nd rfl (Or.inl rfl))
          (pss_one (ps_if (pt_cmpR op_eq (pe_fn FO hr rfl pass0 (pa_cons (pv 2) (pa_cons (pe_ix ix_list (pv 3) (pv 4) (fun _ _ => rfl)) (pa_cons (pv 5) pa_nil)))) pe_str (nomark _)) (pss_one (ps_ret pe_bl)) pss_nil)))))
      (pss_one (ps_ret pe_bl)))), ?_⟩
    refine ⟨_, rfl, r, row, rfl, hR, hl, fun d kvs H1 nd hd wh s1 => ?_⟩
    refine ⟨_, rfl, d, kvs, rfl, hd, fun o => ?_⟩
    generalize hH2 : upd H1 d (.frz o (.dK kvs)) = H2
    have s2 : Same H H2 := fun b u e => by rw [← hH2, upd_ne (ne_of_none e nd)]; exact s1 b u e
    have hd2 : H2 d = some (.frz o (.dK kvs)) := by rw [← hH2]; exact upd_same
    have wh2 : Wh H2 kvs row := ⟨wh.keys, fun y hy => let ⟨l, e1, e2⟩ := wh.val y hy; ⟨l, e1, by rw [← hH2, upd_ne (fun z => by rw [z, hd] at e2; cases e2)]; exact e2⟩, wh.none, wh.nd, wh.len⟩
    have hkl := wh.len
    refine blk_n (n := kvs.length) (fun i => (kvs.map fun p => kV p.1).getD i .non) (fun D i σ2 H3 => ∃ (v : Option V) (ms : List Str), σ2 = [v, some (.str x), some (.ref d)] ∧ Same H2 H3 ∧ H3 D = some (.lst (ms.map V.str)) ∧ (∀ m ∈ ms, m ∈ row) ∧ ms.length ≤ i ∧ ∀ (j : Nat) (y : Str), j < i → (kvs.map fun p => kV p.1).getD j .non = .str y → crossP row x y → y ∈ ms) ?_ ?_ ?_ ?_ ?_
    · intro D hD
      exact ⟨none, [], rfl, (Same.refl H2).step hD, upd_same, by simp, Nat.le_refl _, fun j y h => absurd h (Nat.not_lt_zero _)⟩
    · rintro D i σ2 H3 hD hi ⟨v, ms, rfl, s3, hm, hin, hml, hall⟩
      exact go_dict (s3 _ _ hd2) hi
    · rintro D σ2 H3 hD ⟨v, ms, rfl, s3, hm, hin, hml, hall⟩
      exact st_dict (s3 _ _ hd2)
    · rintro D i σ2 H3 hD hi ⟨v, ms, rfl, s3, hm, hin, hml, hall⟩
      obtain ⟨y, hy1, hy2⟩ : ∃ y, (kvs.map fun p => kV p.1).getD i .non = .str y ∧ y ∈ row := by
        obtain ⟨y, e1, e2⟩ := wh.keys (kvs[i]'hi).1 (List.mem_map.mpr ⟨kvs[i]'hi, List.getElem_mem hi, rfl⟩)
        refine ⟨y, ?_, e2⟩
        simp only [List.getD, List.getElem?_map, List.getElem?_eq_getElem hi, Option.map_some, Option.getD_some]
        rw [e1]
        rfl
      rw [hy1]
      obtain ⟨l1, e1, g1⟩ := wh2.pl hx (h2 x hx)
      obtain ⟨l2, e2, g2⟩ := wh2.pl hy2 (h2 y hy2)
      refine ⟨_, rfl, _, rfl, _, rfl, d, l1, l2, kvs, x, y, _, _, _, _, rfl, .inr ⟨o, s3 _ _ hd2⟩, e1, e2, s3 _ _ g1, s3 _ _ g2, fun H4 s4 => ?_⟩
      have s24 := s3.trans s4
      refine ⟨rfl, _, rfl, ?_⟩
      rw [← lieR_word (h2 x hx) (h2 y hy2)]
      refine ite2b (fun hc => ?_) (fun hc => wskip hi ⟨_, ms, rfl, s24, s4 _ _ hm, hin, by omega, fun j z hj hz kz => ?_⟩)
      rotate_left
      · by_cases ej : j = i
        · subst ej
          rw [hy1] at hz
          injection hz with hz
          subst hz
          exact absurd (by rw [show lieR row x y = "cross" from kz]) (ne_of_dec hc)
        · exact hall j z (by first | exact ltn (by assumption) (by assumption) | omega) hz kz
      refine ⟨_, rfl, wput hi (s4 _ _ hm) (by rw [List.length_map, sizeLine_eq]; omega) ⟨_, ms ++ [y], rfl, ?_, by rw [upd_same, List.map_append]; rfl, ?_, by rw [List.length_append, List.length_singleton]; omega, fun j z hj hz kz => ?_⟩⟩
      · intro b u e
        rw [upd_ne (ne_of_none e hD)]
        exact s24 b u e
      · intro m hm
        rcases List.mem_append.mp hm with z | z
        · exact hin m z
        · rw [List.mem_singleton.mp z]; exact hy2
      · by_cases ej : j = i
        · subst ej
          rw [hy1] at hz
          injection hz with hz
          subst hz
          simp
        · exact List.mem_append_left _ (hall j z (by first | exact ltn (by assumption) (by assumption) | omega) hz kz)
    · rintro D σ2 H3 hD ⟨v, ms, rfl, s3, hm, hin, hml, hall⟩
      refine ⟨_, rfl, D, _, rfl, .inl (SqL.of hm), ((ms.map V.str).length : Int), rfl, rgl _, by rw [List.length_map]; exact rgu (by first | exact Nat.le_trans (m := @OfNat.ofNat Nat _ _) (by assumption) (by decide) | omega), ?_⟩
      have hn : ((ms.map V.str).length : Int).toNat = ms.length := by rw [List.length_map]; simp
      rw [hn]
      refine for_range (lo := 0) (n := ms.length) (fun i σ H4 => ∃ v1 v2, σ = [some (.ref r), some (.str x), some (.ref d), some (.ref D), v1, v2] ∧ Same H3 H4 ∧ ∀ (p q : Nat) (y z : Str), p < i → p < q → ms[p]? = some y → ms[q]? = some z → ¬ crossP row y z) ?_ ?_ ?_
      · exact ⟨none, none, rfl, Same.refl _, fun p q y z h => absurd h (Nat.not_lt_zero _)⟩
      · rintro i σ H4 hi ⟨v1, v2, rfl, s4, ho⟩
        refine ⟨_, rfl, _, rfl, _, _, rfl, rfl, _, rfl, D, _, rfl, SqL.of (s4 _ _ hm), fun p np => ?_⟩
        have e0 := z1 i
        rw [e0, cut_of _ _ _ (by omega)]
        have s5 : Same H3 (upd H4 p (.lst ((ms.drop (i + 1)).map V.str))) := s4.step np
        refine ⟨p, rfl, ⟨_, SqL.of upd_same⟩, ?_⟩
        refine for_list (K := K) (a := p) (xs := (ms.drop (i + 1)).map V.str) (fun j σ H5 => ∃ v2, σ = [some (.ref r), some (.str x), some (.ref d), some (.ref D), some (.int (0 + (i : Int))), v2] ∧ Same (upd H4 p (.lst ((ms.drop (i + 1)).map V.str))) H5 ∧ ∀ (q : Nat) (z : Str), q < j → ms[i + 1 + q]? = some z → ¬ crossP row (ms[i]'hi) z) ?_ ?_ ?_ ?_
        · exact ⟨_, rfl, Same.refl _, fun q z h => absurd h (Nat.not_lt_zero _)⟩
        · rintro j σ H5 _ ⟨v2, rfl, s6, hi2⟩
          exact SqL.of (s6 _ _ upd_same)
        · rintro j y σ H5 hj ⟨v2, rfl, s6, hi2⟩
          obtain ⟨z, rfl, hz, hzj⟩ : ∃ z, y = V.str z ∧ z ∈ ms ∧ ms[i + 1 + j]? = some z := by
            rw [List.getElem?_map] at hj
            cases q : (ms.drop (i + 1))[j]? with
            | none => rw [q] at hj; cases hj
            | some z =>
              rw [q] at hj
              exact ⟨z, (Option.some.inj hj).symm, List.mem_of_mem_drop (List.mem_of_getElem? q), by rw [← q, List.getElem?_drop]⟩
          have s36 := s5.trans s6
          have hat : (ms.map V.str)[i]? = some (.str (ms[i]'hi)) := by rw [List.getElem?_map, List.getElem?_eq_getElem hi]; rfl
          have hat' : atI (ms.map V.str) (0 + (i : Int)) = some (.str (ms[i]'hi)) := by rw [Int.zero_add]; exact atI_nat hat
          obtain ⟨l1, e1, g1⟩ := wh2.pl (hin _ (List.getElem_mem hi)) (h2 _ (hin _ (List.getElem_mem hi)))
          obtain ⟨l2, e2, g2⟩ := wh2.pl (hin _ hz) (h2 _ (hin _ hz))
          have s26 := s3.trans s36
          refine ⟨_, rfl, _, rfl, _, rfl, D, _, _, _, rfl, rfl, SqL.of (s36 _ _ hm), hat', _, rfl, d, l1, l2, kvs, _, z, _, _, _, _, rfl, .inr ⟨o, s26 _ _ hd2⟩, e1, e2, s26 _ _ g1, s26 _ _ g2, fun H6 s7 => ?_⟩
          refine ⟨rfl, _, rfl, ?_⟩
          rw [← lieR_word (h2 _ (hin _ (List.getElem_mem hi))) (h2 _ (hin _ hz))]
          refine ite2b (fun _ => ?_) (fun hc => ?_)
          · exact k true H6 (fun e => by cases e) ((s2.trans s3).trans (s36.trans s7))
          · refine ⟨_, rfl, s6.trans s7, fun q u hq hu => ?_⟩
            by_cases eq : q = j
            · subst eq
              rw [hzj] at hu
              have hu := Option.some.inj hu
              subst hu
              exact fun kz => absurd (by rw [show lieR row (ms[i]'hi) z = "cross" from kz]) (ne_of_dec hc)
            · exact hi2 q u (by first | exact ltn (by assumption) (by assumption) | omega) hu
        · rintro σ H5 ⟨v2, rfl, s6, hi2⟩
          refine ⟨_, _, rfl, s5.trans s6, fun p q y z hp hpq hy hz => ?_⟩
          by_cases ep : p = i
          · subst ep
            rw [List.getElem?_eq_getElem hi] at hy
            rw [← Option.some.inj hy]
            refine hi2 (q - (p + 1)) z ?_ (by rw [show p + 1 + (q - (p + 1)) = q by first | exact back (by assumption) | omega]; exact hz)
            have := (List.getElem?_eq_some_iff.mp hz).1
            rw [List.length_map, List.length_drop]
            omega
          · exact ho p q y z (by first | exact ltn (by assumption) (by assumption) | omega) hpq hy hz
      · rintro σ H4 ⟨v1, v2, rfl, s4, ho⟩
        refine k false H4 (fun _ y hy z hz k1 k2 k3 => ?_) ((s2.trans s3).trans s4)
        have mem : ∀ u ∈ row, crossP row x u → u ∈ ms := fun u hu ku => by
          obtain ⟨l, e, _⟩ := wh.val u hu
          obtain ⟨j, hj, ej⟩ := List.mem_iff_getElem.mp (valV_in e)
          rw [List.length_map] at hj
          refine hall j u hj ?_ ku
          rw [List.getElem_map] at ej
          simp only [List.getD, List.getElem?_map, List.getElem?_eq_getElem hj, Option.map_some, Option.getD_some]
          rw [ej]
          rfl
        obtain ⟨p, hp, ep⟩ := List.mem_iff_getElem.mp (mem y hy k1)
        obtain ⟨q, hq, eq⟩ := List.mem_iff_getElem.mp (mem z hz k2)
        have ep' : ms[p]? = some y := by rw [List.getElem?_eq_getElem hp, ep]
        have eq' : ms[q]? = some z := by rw [List.getElem?_eq_getElem hq, eq]
        rcases Nat.lt_trichotomy p q with h | h | h
        · exact ho p q y z hp h ep' eq' k3
        · subst h
          rw [ep'] at eq'
          have e := Option.some.inj eq'
          subst e
          exact cross_irr (h2 y hy) k3
        · exact ho q p z y hq h eq' ep' (cross_symm (h2 y hy) (h2 z hz) k3)
theorem scRow : FnScope NRo ["_law_draw", "_law_names_here"] (defScope sRow) := ⟨rfl, rfl, rfl, by decide +kernel, rfl, by decide +kernel, by decide +kernel⟩
theorem ok_row {f : Addr} {fd : FuncData} (F : Fun K "_law_row" "_law_row" sRow f fd) (T : Bl mg) (FP : FnPick P w K mg base) (FPut : Fn P w K mg base CX0 1 "_law_put" ["_law_row_here", "_law_name", "_law_at", "_law_to"] spPut)
    (FB : Fn P w K mg base CX0 2 "_law_barred" ["_law_row_here", "_law_name"] spBarredN) : FnOk P w K mg base CX0 3 f fd ["_law_draw", "_law_names_here"] spRowN := by
  refine F.ok scRow (fun vs H Q E h => ?_) (fun cdv A outer s H vs Q E hr h => ?_)
  · obtain ⟨dr, sc, nl, ns, rfl, _⟩ := h
    rfl
  · obtain ⟨dr, sc, nl, ns, rfl, dk, hN, nnd, hnd, hnl, k⟩ := h
    have hr1 : Room 1 _ := hr.mono (by decide)
    have h24 : ∀ m, m ≤ 100000 → m ≤ sizeLine := fun m h => Nat.le_trans h (by decide)
    refine ⟨_, pss_cons (ps_if (pt_cmpR op_eq (pe_fn FP hr1 rfl pass0 (pa_cons (pv 0) (pa_cons pe_int pa_nil))) pe_int (nomark _))
        (pss_cons (ps_set (i := 2) scRow.nd rfl (Or.inl rfl) (pe_fn FP hr1 rfl pass0 (pa_cons (pv 0) (pa_cons (pe_op op_add (pe_callB call_len_seq (by rfl) T.len boot_len (pa_cons (pv 1) pa_nil)) pe_int) pa_nil))))
        (pss_one (ps_ret (pe_op op_cat (pe_op op_cat (pv 1) (pe_rev (pe_slice sl_list (pv 1) po_none (po_some (pv 2))))) (pe_rev (pe_slice sl_list (pv 1) (po_some (pv 2)) po_none)))))) pss_nil)
      (pss_cons (ps_set (i := 3) scRow.nd rfl (Or.inl rfl) (pe_lst pa_nil))
      (pss_cons (ps_for PassesOwn.never rfl (pi_list (pv 1)) (pg_name (i := 4) scRow.nd rfl (Or.inl rfl))
        (pss_cons (ps_set (i := 5) scRow.nd rfl (Or.inl rfl) (pe_fn FP hr1 rfl pass0 (pa_cons (pv 0) (pa_cons (pe_op op_add (pe_callB call_len_seq (by rfl) T.len boot_len (pa_cons (pv 3) pa_nil)) pe_int) pa_nil))))
        (pss_cons (ps_set (i := 6) scRow.nd rfl (Or.inl rfl) (pe_op op_add (pv 5) (pe_fn FP hr1 rfl pass0 (pa_cons (pv 0) (pa_cons (pe_op op_sub (pe_op op_add (pe_callB call_len_seq (by rfl) T.len boot_len (pa_cons (pv 3) pa_nil)) pe_int) (pv 5)) pa_nil)))))
        (pss_cons (ps_set (i := 7) scRow.nd rfl (Or.inl rfl) (pe_fn FPut hr1 rfl pass0 (pa_cons (pv 3) (pa_cons (pv 4) (pa_cons (pv 5) (pa_cons (pv 6) pa_nil))))))
        (pss_cons (ps_if (pt_val (pe_fn FB hr rfl pass0 (pa_cons (pv 7) (pa_cons (pv 4) pa_nil))))
          (pss_one (ps_set (i := 7) scRow.nd rfl (Or.inl rfl) (pe_op op_cat (pe_op op_cat (pe_slice sl_list (pv 3) po_none (po_some (pv 5))) (pe_lst (pa_cons (pv 4) (pa_cons (pv 4) pa_nil)))) (pe_slice sl_list (pv 3) (po_some (pv 5)) po_none)))) pss_nil)
        (pss_one (ps_set (i := 3) scRow.nd rfl (Or.inl rfl) (pv 7))))))))
      (pss_one (ps_ret (pv 3))))), ?_⟩
    refine ⟨_, rfl, dr, sc, 4, rfl, by decide, by decide, dk, fun r1 H1 _ _ d1 b1 => ?_⟩
    refine ⟨rfl, _, rfl, ?_⟩
    have b1 : But dr H H1 := b1
    have hN1 := b1 _ _ hN nnd
    refine ite2b (fun _ => ?_) (fun _ => ?_)
    · -- the grid
      refine ⟨_, rfl, _, rfl, nl, _, rfl, .inl (SqL.of hN1), _, _, rfl, rfl, dr, sc, _, rfl, pos1 _, by rw [List.length_map]; omega, d1, fun c H2 c0 c1 d2 b2 => ?_⟩
      obtain ⟨c, rfl⟩ := Int.eq_ofNat_of_zero_le c0
      rw [List.length_map] at c1
      have hc : c ≤ ns.length := by omega
      have b12 := But.trans b1 b2
      have hN2 := b2 _ _ hN1 nnd
      obtain ⟨xs, hdr⟩ := d2.at
      refine ⟨_, rfl, _, rfl, _, rfl, _, rfl, nl, _, rfl, SqL.of hN2, fun p1 n1 => ?_⟩
      rw [cut_to _ _ _ hc]
      refine ⟨p1, _, rfl, SqL.of upd_same, fun p2 n2 => ?_⟩
      refine ⟨nl, p2, _, _, rfl, rfl, ku (ku hN2 n1) n2, upd_same, h24 _ (by simp; omega), fun p3 n3 => ?_⟩
      refine ⟨_, rfl, _, rfl, _, rfl, nl, _, rfl, SqL.of (ku (ku (ku hN2 n1) n2) n3), fun p4 n4 => ?_⟩
      rw [cut_of _ _ _ hc]
      refine ⟨p4, _, rfl, SqL.of upd_same, fun p5 n5 => ?_⟩
      refine ⟨p3, p5, _, _, rfl, rfl, ku (ku upd_same n4) n5, upd_same, h24 _ (by simp; omega), fun p6 n6 => ?_⟩
      have s5 := (((((Same.refl H2).go n1 n2).go n2 n3).go n3 n4).go n4 n5).go n5 n6
      have f6 := s5.free n6
      have hpm : (ns ++ (ns.take c).reverse ++ (ns.drop c).reverse).Perm (ns ++ ns) := by
        rw [List.append_assoc]
        refine List.Perm.append_left ns ?_
        refine ((List.reverse_perm _).append (List.reverse_perm _)).trans ?_
        rw [List.take_append_drop]
      refine k p6 (ns ++ (ns.take c).reverse ++ (ns.drop c).reverse) _ (b12.free hdr f6) (upd_same.trans (by simp)) hpm (noThree_grid hnd c fun z hz => count_two hnd hpm z ?_) (d2.same (s5.step n6)) (b12.same (s5.step n6))
      exact hpm.mem_iff.mpr (List.mem_append_left _ hz)
    · -- dug one by one
      refine ⟨by show 0 ≤ sizeLine; decide, fun p np => ?_⟩
      obtain ⟨xs1, hdr1⟩ := d1.at
      have s0 : Same H1 (upd H1 p (.lst [])) := (Same.refl H1).step np
      refine ⟨_, rfl, nl, rfl, ⟨_, SqL.of (s0 _ _ hN1)⟩, ?_⟩
      refine for_list (K := K) (a := nl) (xs := ns.map V.str) (fun i σ H2 => ∃ (v2 v4 v5 v6 v7 : Option V) (q : Addr) (row : List Str), σ = [some (.ref dr), some (.ref nl), v2, some (.ref q), v4, v5, v6, v7] ∧ H2 q = some (.lst (row.map V.str)) ∧ H q = none ∧ q ≠ dr ∧ row.Perm (ns.take i ++ ns.take i) ∧ noThree row ∧ DrawOk H2 dr sc ∧ But dr H H2) ?_ ?_ ?_ ?_
      · exact ⟨_, _, _, _, _, p, [], rfl, upd_same, b1.free hdr1 np, (ne_of_none hdr1 np).symm, by simp, noThree_nil, d1.same s0, b1.same s0⟩
      · rintro i σ H2 _ ⟨v2, v4, v5, v6, v7, q, row, rfl, hq, nq, nqd, hp, hno, d2, b2⟩
        exact SqL.of (b2 _ _ hN nnd)
      · rintro i y σ H2 hi ⟨v2, v4, v5, v6, v7, q, row, rfl, hq, nq, nqd, hp, hno, d2, b2⟩
        have hil : i < ns.length := by
          have := (List.getElem?_eq_some_iff.mp hi).1
          rwa [List.length_map] at this
        obtain ⟨x, rfl, hx⟩ : ∃ x, y = V.str x ∧ ns[i]? = some x := by
          rw [List.getElem?_map] at hi
          cases z : ns[i]? with
          | none => rw [z] at hi; cases hi
          | some x => rw [z] at hi; exact ⟨x, (Option.some.inj hi).symm, rfl⟩
        have tk : ns.take (i + 1) = ns.take i ++ [x] := by
          rw [List.take_succ_eq_append_getElem hil]
          rw [List.getElem?_eq_getElem hil] at hx
          rw [Option.some.inj hx]
        have hrl : row.length ≤ 28 := by
          have := hp.length_eq
          rw [List.length_append, List.length_take] at this
          omega
        have ndT : (ns.take i ++ [x]).Nodup := by rw [← tk]; exact hnd.sublist (List.take_sublist ..)
        refine ⟨_, rfl, _, rfl, q, _, rfl, .inl (SqL.of hq), _, _, rfl, rfl, dr, sc, _, rfl, pos1 _, by rw [List.length_map]; omega, d2, fun a H3 a0 a1 d3 b3 => ?_⟩
        obtain ⟨a, rfl⟩ := Int.eq_ofNat_of_zero_le a0
        rw [List.length_map] at a1
        have hq3 := b3 _ _ hq nqd
        refine ⟨_, rfl, _, rfl, _, rfl, q, _, rfl, .inl (SqL.of hq3), _, _, rfl, rfl, _, rfl, _, _, rfl, rfl, dr, sc, _, rfl, by rw [List.length_map]; omega, by rw [List.length_map]; omega, d3, fun c H4 c0 c1 d4 b4 => ?_⟩
        obtain ⟨c, rfl⟩ := Int.eq_ofNat_of_zero_le c0
        rw [List.length_map] at c1
        refine ⟨_, _, rfl, rfl, ?_⟩
        have eac : (a : Int) + (c : Int) = ((a + c : Nat) : Int) := by omega
        dsimp only
        rw [eac]
        have hac : a + c ≤ row.length := by omega
        have hq4 := b4 _ _ hq3 nqd
        have b24 := But.trans b2 (But.trans b3 b4)
        obtain ⟨xs4, hdr4⟩ := d4.at
        refine ⟨_, rfl, _, rfl, _, rfl, _, rfl, q, row, x, a, a + c, rfl, hq4, by omega, Nat.le_add_right a c, hac, fun l H5 nl5 hl5 s5 => ?_⟩
        have d5 := d4.same s5
        have b25 := b24.same s5
        have nlH := b24.free hdr4 nl5
        have nld : l ≠ dr := (ne_of_none hdr4 nl5).symm
        have hperm : (putR row x a (a + c)).Perm ((ns.take i ++ [x]) ++ (ns.take i ++ [x])) := perm_more hp (putR_perm row x a (a + c) (Nat.le_add_right a c))
        have hll : (putR row x a (a + c)).length ≤ 1000 := by
          have := hperm.length_eq
          rw [List.length_append, List.length_append, List.length_take, List.length_singleton] at this
          omega
        refine ⟨_, rfl, _, rfl, l, _, x, rfl, hl5, hll, count_two ndT hperm, hperm.mem_iff.mpr (by simp), fun bb H6 hbb s6 => ?_⟩
        have d6 := d5.same s6
        have b26 := b25.same s6
        refine ⟨bb, rfl, ?_⟩
        have two0 : ∀ y ∈ row, row.count y = 2 := count_two (hnd.sublist (List.take_sublist ..)) hp
        refine ite2b (fun _ => ?_) (fun hbf => ?_)
        · have hq6 := s6 _ _ (s5 _ _ hq4)
          refine ⟨_, rfl, _, rfl, _, rfl, q, _, rfl, SqL.of hq6, fun p1 n1 => ?_⟩
          rw [cut_to _ _ _ (Nat.le_trans (Nat.le_add_right a c) hac)]
          refine ⟨_, rfl, _, rfl, by show 2 ≤ sizeLine; decide, fun p2 n2 => ?_⟩
          refine ⟨p1, p2, _, _, rfl, rfl, ku upd_same n2, upd_same, h24 _ (by simp; omega), fun p3 n3 => ?_⟩
          refine ⟨_, rfl, _, rfl, _, rfl, q, _, rfl, SqL.of (ku (ku (ku hq6 n1) n2) n3), fun p4 n4 => ?_⟩
          rw [cut_of _ _ _ (Nat.le_trans (Nat.le_add_right a c) hac)]
          refine ⟨p3, p4, _, _, rfl, rfl, ku upd_same n4, upd_same, h24 _ (by simp; omega), fun p5 n5 => ?_⟩
          have s4' := ((((Same.refl H6).go n1 n2).go n2 n3).go n3 n4).go n4 n5
          have f5 := s4'.free n5
          obtain ⟨xs6, hdr6⟩ := d6.at
          have pN : (row.take a ++ [x, x] ++ row.drop a).Perm (x :: x :: row) := by
            have e : row.take a ++ [x, x] ++ row.drop a = row.take a ++ x :: x :: row.drop a := by simp
            rw [e]
            refine List.perm_middle.trans (List.Perm.cons x (List.perm_middle.trans (List.Perm.cons x ?_)))
            rw [List.take_append_drop]
          have pM := perm_more hp pN
          have twoN := count_two ndT pM
          refine ⟨_, rfl, _, _, _, _, _, p5, row.take a ++ [x, x] ++ row.drop a, rfl, upd_same.trans (by simp), b26.free hdr6 f5, (ne_of_none hdr6 f5).symm, by rw [tk]; exact pM, ?_, d6.same (s4'.step n5), b26.same (s4'.step n5)⟩
          refine noThree_put (x := x) hno two0 twoN (fun y hy => ?_) (fun p hp => near_filter hp) (fun y hy z hz ky => absurd ky (near_not (twoN x (by simp)) (twoN y hy)))
          have := pN.mem_iff.mp hy
          simp only [List.mem_cons] at this
          rcases this with h | h | h
          · exact .inl h
          · exact .inl h
          · exact .inr h
        · refine ⟨_, rfl, _, _, _, _, _, l, _, rfl, s6 _ _ hl5, nlH, nld, by rw [tk]; exact hperm, ?_, d6, b26⟩
          refine noThree_put (x := x) hno two0 (count_two ndT hperm) (fun y hy => ?_) (fun p hp => putR_filter (Nat.le_add_right a c) hp) (hbb hbf)
          have := (putR_perm row x a (a + c) (Nat.le_add_right a c)).mem_iff.mp hy
          simp only [List.mem_cons] at this
          rcases this with h | h | h
          · exact .inl h
          · exact .inl h
          · exact .inr h
      · rintro σ H2 ⟨v2, v4, v5, v6, v7, q, row, rfl, hq, nq, nqd, hp, hno, d2, b2⟩
        rw [List.length_map, List.take_length] at hp
        exact ⟨_, rfl, k q row H2 nq hq hp hno d2 b2⟩
theorem scNames : FnScope NNa ["_law_draw", "_law_many"] (defScope sNames) := ⟨rfl, rfl, rfl, by decide +kernel, rfl, by decide +kernel, by decide +kernel⟩
theorem ok_names {f : Addr} {fd : FuncData} (F : Fun K "_law_names" "_law_names" sNames f fd) (T : Bl mg) (FP : FnPick P w K mg base) : FnOk P w K mg base CX0 2 f fd ["_law_draw", "_law_many"] spNames := by
  refine F.ok scNames (fun vs H Q E h => ?_) (fun cdv A outer s H vs Q E hr h => ?_)
  · obtain ⟨dr, sc, n, rfl, _⟩ := h
    rfl
  · obtain ⟨dr, sc, n, rfl, hn, dk, k⟩ := h
    refine ⟨_, pss_cons (ps_set (i := 2) scNames.nd rfl (Or.inl rfl) pe_str)
      (pss_cons (ps_set (i := 3) scNames.nd rfl (Or.inl rfl) (pe_fn FP hr rfl pass0 (pa_cons (pv 0) (pa_cons pe_int pa_nil))))
      (pss_cons (ps_set (i := 4) scNames.nd rfl (Or.inl rfl) (pe_cmpR op_eq (pe_fn FP hr rfl pass0 (pa_cons (pv 0) (pa_cons pe_int pa_nil))) pe_int (nomark _)))
      (pss_cons (ps_set (i := 5) scNames.nd rfl (Or.inl rfl) (pe_lst pa_nil))
      (pss_cons (ps_for PassesOwn.never rfl (pi_range1 rfl T.range (pa_cons (pv 1) pa_nil)) (pg_name (i := 6) scNames.nd rfl (Or.inl rfl))
        (pss_cons (ps_set (i := 7) scNames.nd rfl (Or.inl rfl) (pe_ix ix_str (pv 2) (pe_op op_mod (pe_op op_add (pv 3) (pv 6)) pe_int) (fun _ _ => rfl)))
        (pss_cons (ps_set (i := 8) scNames.nd rfl (Or.inl rfl) (pe_op op_mul_str pe_str (pe_op op_mod (pe_op op_add (pv 3) (pe_op op_mul (pv 6) (pv 6))) pe_int)))
        (pss_one (ps_expr (pe_bm PySem.F.plainAttrs_list PySem.F.slot_list_append PySem.F.type_list_append mt_append (pv 5)
          (pa_cons (pe_ifExp (pt_val (pv 4)) (pe_op op_add_str (pe_op op_add_str (pv 8) (pv 7)) pe_str) (pe_op op_add_str (pv 7) (pv 8))) pa_nil)))))))
      (pss_one (ps_ret (pv 5))))))), ?_⟩
    refine ⟨_, rfl, dr, sc, 26, rfl, by decide, by decide, dk, fun r1 H1 r10 r11 d1 b1 => ?_⟩
    refine ⟨_, rfl, dr, sc, 2, rfl, by decide, by decide, d1, fun r2 H2 r20 r21 d2 b2 => ?_⟩
    refine ⟨rfl, ?_⟩
    refine ⟨by show 0 ≤ sizeLine; decide, fun l nl => ?_⟩
    obtain ⟨st, rfl⟩ := Int.eq_ofNat_of_zero_le r10
    have hst : st < 26 := by omega
    generalize hlt : decide (V.int r2 = V.int 1) = late
    have b12 : But dr H H2 := But.trans b1 b2
    obtain ⟨xs, hdr⟩ := d2.at
    have nlH : H l = none := b12.free hdr nl
    obtain ⟨nld, nls⟩ := d2.ne nl
    refine ⟨_, rfl, (n : Int), rfl, rgl _, rgu (Nat.le_trans hn (by decide)), ?_⟩
    rw [Int.toNat_natCast]
    refine for_range (lo := 0) (n := n) (fun i σ H3 => ∃ v1 v2 v3, σ = [some (.ref dr), some (.int n), some (.str baseS), some (.int st), some (.bl late), some (.ref l), v1, v2, v3] ∧ H3 l = some (.lst ((namesAt st late i).map V.str)) ∧ DrawOk H3 dr sc ∧ But dr H H3) ?_ ?_ ?_
    · exact ⟨none, none, none, rfl, upd_same, d2.upd nld nls, b12.upd nlH⟩
    · rintro i σ H3 hi ⟨v1, v2, v3, rfl, hl3, d3, b3⟩
      have e26 : ((st : Int) + (0 + (i : Int))) % 26 = (((st + i) % 26 : Nat) : Int) := by omega
      have h26 : (st + i) % 26 < 26 := Nat.mod_lt _ (by decide)
      have eii : ((0 : Int) + (i : Int)) * (0 + (i : Int)) = ((i * i : Nat) : Int) := by rw [Int.zero_add]; exact (Int.natCast_mul i i).symm
      have h7 : (st + i * i) % 7 < 7 := Nat.mod_lt _ (by decide)
      have e7 : ((st : Int) + ((i * i : Nat) : Int)) % 7 = (((st + i * i) % 7 : Nat) : Int) := by
        generalize i * i = j
        omega
      refine ⟨_, rfl, _, rfl, _, rfl, _, _, rfl, rfl, _, _, rfl, rfl, (by show (0 : Int) < 26; decide), _, _, _, rfl, rfl, (by show 26 ≤ sizeLine; decide), by rw [e26]; exact sign_at h26, ?_⟩
      refine ⟨_, rfl, _, rfl, _, rfl, _, _, rfl, rfl, .inl ⟨by omega, by omega⟩, _, _, rfl, rfl, _, _, rfl, rfl, (by show (0 : Int) < 7; decide), ?_⟩
      have e77 : ((st : Int) + ((0 : Int) + (i : Int)) * (0 + (i : Int))) % 7 = (((st + i * i) % 7 : Nat) : Int) := by rw [eii, e7]
      refine ⟨_, _, rfl, rfl, by rw [e77]; omega, by rw [e77]; omega, by show 1 ≤ 1000; decide, ?_⟩
      rw [e77, Int.toNat_natCast]
      have hrl : (repS "m" ((st + i * i) % 7)).length ≤ 6 := by
        rw [repS_len]
        have : (Str.ofString "m").length = 1 := rfl
        rw [this]
        omega
      have hsl : (signOf ((st + i) % 26)).length = 1 := rfl
      have hnl : (namesAt st late i).length = i := by unfold namesAt; simp
      have hsnoc : namesAt st late (i + 1) = namesAt st late i ++ [nameOf st late i] := by unfold namesAt; rw [List.range_succ, List.map_append]; rfl
      have h24 : ∀ m, m ≤ 100000 → m ≤ sizeLine := fun m h => Nat.le_trans h (by decide)
      have fin : ∀ z : Str, nameOf st late i = z → rAppend (.ref l) [.str z] H3 fun _ H4 => ∃ v1 v2 v3, [some (V.ref dr), some (.int n), some (.str baseS), some (.int st), some (.bl late), some (.ref l), some (.int (0 + (i : Int))), some (.str (signOf ((st + i) % 26))), some (.str (repS "m" ((st + i * i) % 7)))] = [some (.ref dr), some (.int n), some (.str baseS), some (.int st), some (.bl late), some (.ref l), v1, v2, v3] ∧ H4 l = some (.lst ((namesAt st late (i + 1)).map V.str)) ∧ DrawOk H4 dr sc ∧ But dr H H4 := fun z hz => by
        refine ⟨l, _, _, rfl, rfl, hl3, by rw [List.length_map, hnl, sizeLine_eq]; omega, _, _, _, rfl, ?_, d3.upd nld nls, b3.upd nlH⟩
        rw [upd_same, hsnoc, List.map_append, ← hz]
        rfl
      refine ⟨_, rfl, .inl ⟨rfl, _, SqL.of hl3⟩, _, rfl, late, rfl, ?_⟩
      refine ite2b (fun hL => ?_) (fun hL => ?_)
      · refine ⟨_, rfl, _, rfl, _, _, rfl, rfl, h24 _ (by show (repS "m" ((st + i * i) % 7)).length + 1 ≤ 100000; omega), _, _, rfl, rfl, h24 _ ?_, fin _ (by unfold nameOf; rw [if_pos hL]; rfl)⟩
        rw [app_len]
        show (repS "m" ((st + i * i) % 7)).length + 1 + 1 ≤ 100000
        omega
      · exact ⟨_, rfl, _, rfl, _, _, rfl, rfl, h24 _ (by show 1 + (repS "m" ((st + i * i) % 7)).length ≤ 100000; omega), fin _ (by unfold nameOf; rw [if_neg (by rw [hL]; decide)]; rfl)⟩
    · rintro σ H3 ⟨v1, v2, v3, rfl, hl3, d3, b3⟩
      exact ⟨_, rfl, k l st late H3 nlH hst hl3 nls d3 b3⟩
theorem scIsland : FnScope NIs ["_law_draw", "_law_most"] (defScope sIsland) := ⟨rfl, rfl, rfl, by decide +kernel, rfl, by decide +kernel, by decide +kernel⟩
theorem ok_island {f : Addr} {fd : FuncData} (F : Fun K "_law_island" "_law_island" sIsland f fd) (T : Bl mg) (FP : FnPick P w K mg base) (FN : Fn P w K mg base CX0 2 "_law_names" ["_law_draw", "_law_many"] spNames)
    (FR : Fn P w K mg base CX0 3 "_law_row" ["_law_draw", "_law_names_here"] spRowN) : FnOk P w K mg base CX0 4 f fd ["_law_draw", "_law_most"] spIslandN := by
  refine F.ok scIsland (fun vs H Q E h => ?_) (fun cdv A outer s H vs Q E hr h => ?_)
  · obtain ⟨dr, sc, m, rfl, _⟩ := h
    rfl
  · obtain ⟨dr, sc, m, rfl, hm, dk, k⟩ := h
    have hr1 : Room 1 _ := hr.mono (by decide)
    have hr2 : Room 2 _ := hr.mono (by decide)
    refine ⟨_, pss_cons (ps_set (i := 2) scIsland.nd rfl (Or.inl rfl) (pe_op op_add pe_int (pe_fn FP hr1 rfl pass0 (pa_cons (pv 0) (pa_cons pe_int pa_nil)))))
      (pss_cons (ps_set (i := 3) scIsland.nd rfl (Or.inl rfl) (pe_ix ix_tup (pe_tup (pa_cons (pe_fn FP hr1 rfl pass0 (pa_cons (pv 0) (pa_cons pe_int pa_nil))) (pa_cons (pv 2) (pa_cons (pe_fn FP hr1 rfl pass0 (pa_cons (pv 0) (pa_cons (pe_op op_add (pv 1) pe_int) pa_nil))) pa_nil))))
        (pe_fn FP hr1 rfl pass0 (pa_cons (pv 0) (pa_cons pe_int pa_nil))) (fun _ _ => rfl)))
      (pss_one (ps_ret (pe_fn FR hr rfl pass0 (pa_cons (pv 0) (pa_cons (pe_fn FN hr2 rfl pass0 (pa_cons (pv 0) (pa_cons (pe_callB (call_min2 rfl) (by rfl) T.min boot_min (pa_cons (pv 3) (pa_cons (pv 1) pa_nil))) pa_nil))) pa_nil)))))), ?_⟩
    refine ⟨_, rfl, dr, sc, 5, rfl, by decide, by decide, dk, fun r1 H1 r10 _ d1 b1 => ⟨_, _, rfl, rfl, ?_⟩⟩
    refine ⟨_, rfl, dr, sc, 5, rfl, by decide, by decide, d1, fun r2 H2 r20 _ d2 b2 => ?_⟩
    refine ⟨_, rfl, _, rfl, _, rfl, _, _, rfl, rfl, dr, sc, _, rfl, by omega, by omega, d2, fun r3 H3 r30 _ d3 b3 => ?_⟩
    have b1 : But dr H H1 := b1
    have b13 : But dr H H3 := But.trans b1 (But.trans b2 b3)
    refine ⟨by show 3 ≤ sizeLine; decide, fun p np => ?_⟩
    obtain ⟨ne1, ne2⟩ := d3.ne np
    obtain ⟨xs3, hdr3⟩ := d3.at
    have npH := b13.free hdr3 np
    refine ⟨_, rfl, dr, sc, 3, rfl, by decide, by decide, d3.upd ne1 ne2, fun r4 H4 r40 r41 d4 b4 => ?_⟩
    have b4 : But dr (L2.upd H3 p (.tup [.int r2, .int (2 + r1), .int r3])) H4 := b4
    have hp4 := b4 p _ upd_same ne1
    have b14 : But dr H H4 := But.trans (b13.upd npH) b4
    obtain ⟨mm, hmm0, hmm⟩ : ∃ mm : Int, 0 ≤ mm ∧ atI ([.int r2, .int (2 + r1), .int r3] : List V) r4 = some (.int mm) := by
      obtain ⟨i, rfl⟩ := Int.eq_ofNat_of_zero_le r40
      have hi : i < 3 := by omega
      match i, hi with
      | 0, _ => exact ⟨r2, r20, rfl⟩
      | 1, _ => exact ⟨2 + r1, by omega, rfl⟩
      | 2, _ => exact ⟨r3, r30, rfl⟩
    refine ⟨p, _, _, _, rfl, rfl, SqT.of hp4, hmm, ?_⟩
    obtain ⟨n, hn, hnm⟩ : ∃ n : Nat, (if (m : Int) < mm then (m : Int) else mm) = (n : Int) ∧ n ≤ m := by
      obtain ⟨j, rfl⟩ := Int.eq_ofNat_of_zero_le hmm0
      by_cases hj : (m : Int) < (j : Int)
      · exact ⟨m, if_pos hj, Nat.le_refl _⟩
      · exact ⟨j, if_neg hj, by omega⟩
    refine ⟨_, rfl, _, rfl, _, rfl, _, rfl, _, _, rfl, ?_⟩
    rw [hn]
    refine ⟨dr, sc, n, rfl, by omega, d4, fun l st late H5 nl hst hl5 nls d5 b5 => ?_⟩
    obtain ⟨xs4, hdr4⟩ := d4.at
    have nld : l ≠ dr := (ne_of_none hdr4 nl).symm
    have b15 := But.trans b14 b5
    refine ⟨dr, sc, l, _, rfl, d5, hl5, nld, names_nd hst (by omega), by unfold namesAt; simp; omega, fun l2 row H6 nl2 hl6 hp hno d6 b6 => ?_⟩
    obtain ⟨xs5, hdr5⟩ := d5.at
    exact k l2 row n st late H6 (b15.free hdr5 nl2) hnm hst hl6 hp hno d6 (But.trans b15 b6)
theorem scStranger : FnScope ["_law_row_here"] ["_law_row_here"] (defScope s__law_stranger) := ⟨rfl, rfl, rfl, by decide +kernel, rfl, by decide +kernel, by decide +kernel⟩
theorem ok_stranger {f : Addr} {fd : FuncData} (F : Fun K "_law_stranger" "_law_stranger" s__law_stranger f fd) : FnOk P w K mg base CX0 1 f fd ["_law_row_here"] spStranger := by
  refine F.ok scStranger (fun vs H Q E h => ?_) (fun cdv A outer s H vs Q E hr h => ?_)
  · obtain ⟨r, row, rfl, _⟩ := h
    rfl
  · obtain ⟨r, row, rfl, hR, hl, k⟩ := h
    have hu := hu_of hr
    refine ⟨_, pss_one (ps_ret (pe_ifExp (pt_cmpR (op_neL (Nat.lt_of_succ_lt hu)) (pv 0) (pe_lst pa_nil) (nomark _))
      (pe_op op_add_str (pe_slice sl_str (pe_ix ix_list (pv 0) pe_int (fun _ _ => rfl)) po_none (po_some pe_int)) pe_str) pe_str)), ?_⟩
    refine ⟨_, rfl, by show 0 ≤ sizeLine; decide, fun p np => ?_⟩
    have s1 : Same H (upd H p (.lst [])) := (Same.refl H).step np
    refine ⟨r, p, _, _, rfl, rfl, SqL.of (s1 _ _ hR), SqL.of upd_same, flatS row, by simp, _, rfl, ?_⟩
    have e : eqVL (row.map V.str) [] = decide (row = []) := eqVL_str row []
    rw [e]
    cases row with
    | nil => exact k _ s1
    | cons y r' =>
      refine iteT ?_
      refine ⟨_, rfl, r, _, _, _, rfl, rfl, SqL.of (s1 _ _ hR), (show atI ((y :: r').map V.str) ((0 : Nat) : Int) = some (.str y) from atI_nat rfl), _, rfl, y, rfl, rfl, ⟨_, rfl⟩, by have := hl y List.mem_cons_self; omega, ?_⟩
      refine ⟨_, _, rfl, rfl, ?_, k _ s1⟩
      have h1 := Txt.slice_le y none (some 7)
      have h2 := hl y List.mem_cons_self
      have h3 : (Str.ofString "q").length = 1 := rfl
      rw [sizeLine_eq, h3]
      omega
theorem pa_bad {X : Cx} {a b c d e f g h : Str} {j1 j2 j3 j4 j5 j6 j7 j8 j9} {p1 p2 p3 p4 p5 p6 p7 p8 p9 p10} {n : Int} : PA X [.Constant (.str a) j1 p1, .Constant (.str b) j2 p2, .Constant (.str c) j3 p3, .Constant (.str d) j4 p4, .Constant (.str e) j5 p5, .Constant (.str f) j6 p6, .BinOp (.Constant (.str g) j7 p7) .Mult (.Constant (.int n) j8 p8) p9, .Constant (.str h) j9 p10]
    (fun _ H Q => 0 ≤ n ∧ n ≤ 1000 ∧ g.length ≤ 1000 ∧ Q [.str a, .str b, .str c, .str d, .str e, .str f, .str (repS g n.toNat), .str h] H) := by
  have hg : PA X [.BinOp (.Constant (.str g) j7 p7) .Mult (.Constant (.int n) j8 p8) p9, .Constant (.str h) j9 p10] _ := pa_cons (pe_op op_mul_str pe_str pe_int) (pa_cons pe_str pa_nil)
  intro pos pins s σ H Q I hq
  refine (pa_cons pe_str (pa_cons pe_str (pa_cons pe_str (pa_cons pe_str (pa_cons pe_str (pa_cons pe_str hg)))))) pos pins s σ H Q I ?_
  exact ⟨_, _, rfl, rfl, hq.1, hq.2.1, hq.2.2.1, hq.2.2.2⟩
theorem scBad : FnScope ["_law_draw"] ["_law_draw"] (defScope s__law_bad_name) := ⟨rfl, rfl, rfl, by decide +kernel, rfl, by decide +kernel, by decide +kernel⟩
theorem rep_ab : repS (Str.ofString "ab") (9 : Int).toNat = Str.ofString "ababababababababab" := by decide +kernel
theorem body_bad : defBody s__law_bad_name = [Stmt.Return
      (some
        ((Expr.List
              [Expr.Constant (Const.str (Str.ofString "")) 0 { line := 156, col := 12, endLine := 156, endCol := 14 },
                Expr.Constant (Const.str (Str.ofString "A")) 0 { line := 156, col := 16, endLine := 156, endCol := 19 },
                Expr.Constant (Const.str (Str.ofString "abcdefghi")) 0
                  { line := 156, col := 21, endLine := 156, endCol := 32 },
                Expr.Constant (Const.str (Str.ofString "a b")) 0
                  { line := 156, col := 34, endLine := 156, endCol := 39 },
                Expr.Constant (Const.str (Str.ofString "a1")) 0
                  { line := 156, col := 41, endLine := 156, endCol := 45 },
                Expr.Constant (Const.str (Str.ofString "-")) 0 { line := 156, col := 47, endLine := 156, endCol := 50 },
                (Expr.Constant (Const.str (Str.ofString "ab")) 0
                      { line := 156, col := 52, endLine := 156, endCol := 56 }).BinOp
                  Operator.Mult (Expr.Constant (Const.int 9) 0 { line := 156, col := 59, endLine := 156, endCol := 60 })
                  { line := 156, col := 52, endLine := 156, endCol := 60 },
                Expr.Constant (Const.str (Str.ofString "aB")) 0
                  { line := 156, col := 62, endLine := 156, endCol := 66 }]
              { line := 156, col := 11, endLine := 156, endCol := 67 }).Subscript
          ((Expr.Name (Str.ofString "_law_pick") { line := 156, col := 68, endLine := 156, endCol := 77 }).Call
            [Expr.Name (Str.ofString "_law_draw") { line := 156, col := 78, endLine := 156, endCol := 87 },
              Expr.Constant (Const.int 8) 0 { line := 156, col := 89, endLine := 156, endCol := 90 }]
            [] { line := 156, col := 68, endLine := 156, endCol := 91 })
          { line := 156, col := 11, endLine := 156, endCol := 92 }))
      { line := 156, col := 4, endLine := 156, endCol := 92 }] := by rfl
theorem ok_bad {f : Addr} {fd : FuncData} (F : Fun K "_law_bad_name" "_law_bad_name" s__law_bad_name f fd) (FP : FnPick P w K mg base) : FnOk P w K mg base CX0 2 f fd ["_law_draw"] spBad := by
  refine F.ok scBad (fun vs H Q E h => ?_) (fun cdv A outer s H vs Q E hr h => ?_)
  · obtain ⟨dr, sc, rfl, _⟩ := h
    rfl
  · obtain ⟨dr, sc, rfl, d0, k⟩ := h
    rw [body_bad]
    with_reducible refine' ⟨_, pss_one (ps_ret (pe_ix ix_list (pe_lst ?h1) ?h2 ?h3)), ?g⟩
    case h1 => with_reducible exact pa_bad
    case h2 => exact pe_fn FP hr (by rfl) pass0 (pa_cons (pv 0) (pa_cons pe_int pa_nil))
    case h3 => exact fun _ _ => rfl
    have l2 : (Str.ofString "ab").length ≤ 1000 := by decide +kernel
    refine ⟨by decide, by decide, l2, ?_⟩
    rw [rep_ab]
    refine ⟨by show 8 ≤ sizeLine; decide, fun l nl => ?_⟩
    have s1 : Same H (upd H l (.lst (badNames.map V.str))) := (Same.refl H).step nl
    have hl : upd H l (.lst (badNames.map V.str)) l = some (.lst (badNames.map V.str)) := upd_same
    show tCall _ _ _ _ _ (upd H l (.lst (badNames.map V.str))) _
    generalize upd H l (.lst (badNames.map V.str)) = H1 at s1 hl
    obtain ⟨nld, nls⟩ := d0.ne nl
    refine ⟨_, rfl, dr, sc, 8, rfl, by decide, by decide, d0.same s1, fun i H2 i0 i1 d2 b2 => ?_⟩
    obtain ⟨i, rfl⟩ := Int.eq_ofNat_of_zero_le i0
    have hi : i < badNames.length := by show i < 8; omega
    refine ⟨l, _, _, .str (badNames[i]'hi), rfl, rfl, SqL.of (b2 _ _ hl nld), atI_nat (by rw [List.getElem?_map, List.getElem?_eq_getElem hi]; rfl), ?_⟩
    exact k _ H2 (List.getElem_mem hi) d2 fun b o e hb => b2 _ _ (s1 _ _ e) hb
theorem scTexts : FnScope ["_law_found"] ["_law_found"] (defScope sTexts) := ⟨rfl, rfl, rfl, by decide +kernel, rfl, by decide +kernel, by decide +kernel⟩
theorem ok_texts {f : Addr} {fd : FuncData} (F : Fun K "_law_texts" "_law_texts" sTexts f fd) (T : Bl mg) : FnOk P w K mg base CX0 1 f fd ["_law_found"] spTexts := by
  refine F.ok scTexts (fun vs H Q E h => ?_) (fun cdv A outer s H vs Q E hr h => ?_)
  · obtain ⟨a, row, rfl, _⟩ := h
    rfl
  · obtain ⟨a, row, rfl, hR, hl, k⟩ := h
    refine ⟨_, pss_one (ps_ret (pe_and (pe_callB call_isinst (by rfl) T.isi boot_isinstance (pa_cons (pv 0) (pa_cons (pe_bltn (v := .ty "list") (by rfl) T.list boot_list rfl) pa_nil)))
      (pe_one (pe_callB (call_all rfl) (by rfl) T.all (by rfl) (pa_cons (pe_comp (N := ["_law_one"]) (cap := [none]) (CompScope.of (defScope sTexts) ["_law_found"] rfl rfl rfl (by decide +kernel)) rfl
        (pi_list (pv 0)) (fun _ _ _ => pg_name (i := 0) (show (["_law_one"] : List Str).Nodup by decide +kernel) rfl (Or.inl rfl) (Or.inr rfl)) (fun _ _ _ => pifs_nil)
        (fun _ _ _ => pe_callB (call_isinstK K rfl) (by rfl) T.isi boot_isinstance (pa_cons (pv 0) (pa_cons (pe_bltn (v := .ty "str") (by rfl) T.str boot_str rfl) pa_nil)))) pa_nil))))), ?_⟩
    refine ⟨_, rfl, _, _, _, _, true, rfl, .lst hR, rfl, kit_same K "list", true, rfl, iteT ?_⟩
    refine ⟨_, rfl, a, rfl, ⟨_, SqL.of hR⟩, ?_⟩
    refine blk_n1 (n := (row.map V.str).length) (fun i => (row.map V.str).getD i .non) (fun D i σ2 H2 => ∃ v : Option V, σ2 = [v] ∧ Same H H2 ∧ H2 D = some (.lst ((List.replicate i true).map V.bl))) ?_ ?_ ?_ ?_ ?_
    · intro D hD
      exact ⟨none, rfl, (Same.refl H).step hD, upd_same⟩
    · rintro D i σ2 H2 hD hi ⟨v, rfl, s2, hb⟩
      exact go_list (SqL.of (s2 _ _ hR)) hi
    · rintro D σ2 H2 hD ⟨v, rfl, s2, hb⟩
      exact st_list (SqL.of (s2 _ _ hR))
    · rintro D i σ2 H2 hD hi ⟨v, rfl, s2, hb⟩
      have hi' : i < row.length := by rwa [List.length_map] at hi
      have e : (row.map V.str).getD i .non = .str (row[i]'hi') := by simp [List.getD, hi']
      rw [e]
      refine ⟨_, rfl, _, _, _, _, true, rfl, .str _, rfl, kit_same K "str", ?_⟩
      refine wput hi hb (by rw [List.length_map, List.length_replicate, sizeLine_eq]; omega) ⟨_, rfl, fun b u e' => ?_, ?_⟩
      · rw [upd_ne (ne_of_none e' hD)]
        exact s2 b u e'
      · rw [upd_same, List.replicate_succ', List.map_append]
        rfl
    · rintro D σ2 H2 hD ⟨v, rfl, s2, hb⟩
      refine ⟨D, _, rfl, hb, ?_⟩
      have e : (List.replicate (row.map V.str).length true).all id = true := by
        rw [List.all_eq_true]
        intro b hb
        rw [(List.mem_replicate.mp hb).2]
        rfl
      rw [e]
      exact k H2 s2
theorem scSaid : FnScope NSa ["_law_row_here", "_law_name", "_law_at", "_law_to"] (defScope s__law_said) := ⟨rfl, rfl, rfl, by decide +kernel, rfl, by decide +kernel, by decide +kernel⟩
theorem ok_said {f S fa : Addr} {fd fda : FuncData} {C : PutC} (F : Fun K "_law_said" "_law_said" s__law_said f fd) (T : Bl mg) (hS : mg "ShoreError" = some (.ref S)) (hB : mg "Barred" = some (.ref C.barred)) (hN : mg "BadName" = some (.ref C.name)) (hT : mg "Taken" = some (.ref C.taken)) (hF : mg "Full" = some (.ref C.full)) (hP : mg "NoPlace" = some (.ref C.place))
    (hma : mg "put_in" = some (.ref fa)) (hka : PySem.W.keepIn K (.ref fa) = true) (hba : Binds K fda ["row", "name", "at", "to"] []) (FA : FnOk P w K mg base (CX2 P w) 6 fa fda ["row", "name", "at", "to"] (spPutIn C)) (k5 : PutK K C S) :
    FnOk P w K mg base CX0 7 f fd ["_law_row_here", "_law_name", "_law_at", "_law_to"] spSaid5 := by
  refine F.ok scSaid (fun vs H Q E h => ?_) (fun cdv A outer s H vs Q E hr h => ?_)
  · obtain ⟨r, row, x, a, b, o, rfl, _⟩ := h
    rfl
  · obtain ⟨r, row, x, a, b, o, rfl, hR, R2, hlen, ha, a0, a1, b0, b1, due, not, k⟩ := h
    refine ⟨_, pss_cons (ps_set (i := 4) scSaid.nd rfl (Or.inl rfl) (pe_tup (pa_cons pe_str (pa_cons pe_non pa_nil))))
      (pss_cons (ps_tryD rfl rfl rfl
          (fun pn R => pss_one (ps_expr (pe_callD FA hr (by rfl) hma hka hba .nil (pa_cons (pv 0) (pa_cons (pv 1) (pa_cons (pv 2) (pa_cons (pv 3) pa_nil)))))))
          (ph_as (i := 5) (Cc := C.barred) rfl rfl scSaid.nd rfl rfl (by rfl) hB
            (fun pn ex => pss_one (ps_set (i := 4) scSaid.nd rfl (Or.inl rfl) (pe_tup (pa_cons pe_str (pa_cons (pe_fldE K rfl (pv 5)) pa_nil)))))
          (ph_as (i := 5) (Cc := S) rfl rfl scSaid.nd rfl rfl (by rfl) hS
            (fun pn ex => pss_cons (ps_set (i := 6) scSaid.nd rfl (Or.inl rfl) (pe_lst (pa_cons (pe_callB (call_isexc2 K rfl) (by rfl) T.isi boot_isinstance (pa_cons (pv 5) (pa_cons (pe_glob (v := .ref C.name) (by rfl) hN rfl) pa_nil)))
                (pa_cons (pe_callB (call_isexc2 K rfl) (by rfl) T.isi boot_isinstance (pa_cons (pv 5) (pa_cons (pe_glob (v := .ref C.taken) (by rfl) hT rfl) pa_nil)))
                (pa_cons (pe_callB (call_isexc2 K rfl) (by rfl) T.isi boot_isinstance (pa_cons (pv 5) (pa_cons (pe_glob (v := .ref C.full) (by rfl) hF rfl) pa_nil))) pa_nil)))))
              (pss_cons (ps_expr (pe_bmK K (by rfl) PySem.F.plainAttrs_list PySem.F.slot_list_append PySem.F.type_list_append mt_append (pv 6) (pa_cons (pe_callB (call_isexc2 K rfl) (by rfl) T.isi boot_isinstance (pa_cons (pv 5) (pa_cons (pe_glob (v := .ref C.place) (by rfl) hP rfl) pa_nil))) pa_nil)))
              (pss_cons (ps_set (i := 4) scSaid.nd rfl (Or.inl rfl) (pe_tup (pa_cons pe_str (pa_cons pe_non pa_nil))))
              (pss_one (ps_if (pw_and (pt_cmpR op_eq (pe_bmK K (by rfl) PySem.F.plainAttrs_list PySem.F.slot_list_count PySem.F.type_list_count mt_count (pv 6) (pa_cons pe_bl pa_nil)) pe_int (nomark _))
                  (pw_and1 (pt_val (pe_callB (call_isexc2 K rfl) (by rfl) T.isi boot_isinstance (pa_cons (pv 5) (pa_cons (pe_bltn (v := .ty "ValueError") (by rfl) T.val (by rfl) rfl) pa_nil)))))).pt
                (pss_one (ps_set (i := 4) scSaid.nd rfl (Or.inl rfl) (pe_tup (pa_cons (pe_ix (ix_tupK K (by rfl)) (pe_tup (pa_cons pe_str (pa_cons pe_str (pa_cons pe_str (pa_cons pe_str pa_nil))))) (pe_bmK K (by rfl) PySem.F.plainAttrs_list PySem.F.slot_list_index PySem.F.type_list_index mt_index (pv 6) (pa_cons pe_bl pa_nil)) (fun _ _ => rfl)) (pa_cons pe_non pa_nil))))) pss_nil)))))
          ph_nil)))
      (pss_one (ps_ret (pv 4)))), ?_⟩
    have two : ∀ u v : V, [u, v].length ≤ sizeLine := fun _ _ => by show 2 ≤ sizeLine; decide
    refine ⟨two _ _, fun t0 nt0 => ?_⟩
    have s0 : Same H (upd H t0 (.tup [.str "told", .non])) := (Same.refl H).step nt0
    show tSeq _ _ _ _ (upd H t0 (.tup [.str "told", .non]))
    generalize upd H t0 (.tup [.str "told", .non]) = H0 at s0
    refine ⟨fun C1 dd σ1 H1 => σ1 = [some (.ref r), some (.str x), some (.int a), some (.int b), some (.ref t0), none, none] ∧ Same H0 H1 ∧ ((plainO o = true ∧ C1 = C.of o ∧ dd = none) ∨ (∃ u v w dx, o = .barred u v w ∧ C1 = C.barred ∧ dd = some dx ∧ ThreeAt H1 dx u v w)), ?_, ?_⟩
    · refine ⟨_, rfl, _, rfl, _, rfl, _, rfl, r, row, x, a, b, rfl, s0 _ _ hR, R2, hlen, ha, a0, a1, b0, b1, fun z => absurd (due.uniq z) not, fun o' p' z H' s' => ?_, fun u v w z dx H' t' s' => ?_⟩
      · rw [← due.uniq z] at p' ⊢
        exact ⟨_, rfl, rfl, s', .inl ⟨p', rfl, rfl⟩⟩
      · exact ⟨_, rfl, rfl, s', .inr ⟨u, v, w, dx, due.uniq z, rfl, rfl, t'⟩⟩
    · rintro C1 dd σ1 H1 ⟨rfl, s1, ⟨pl, rfl, rfl⟩ | ⟨u, v, w, dx, rfl, rfl, rfl, t'⟩⟩
      · refine ⟨false, k5.nb o pl, iteF ?_⟩
        refine ⟨true, k5.es o pl, iteT fun ex hex => ?_⟩
        have fo := k5.f o pl
        have en := k5.kn o pl
        have et := k5.kt o pl
        have ef := k5.kf o pl
        have ep := k5.kp o pl
        have ev := k5.v o pl
        have hX : upd H1 ex (ExcO2 ex (C.of o) none) ex = some (ExcO2 ex (C.of o) none) := upd_same
        have s2 : Same H1 (upd H1 ex (ExcO2 ex (C.of o) none)) := (Same.refl H1).step hex
        generalize upd H1 ex (ExcO2 ex (C.of o) none) = H2 at hX s2
        refine ⟨_, rfl, ex, _, _, _, _, _, rfl, hX, fo, rfl, en, ?_⟩
        refine ⟨_, rfl, ex, _, _, _, _, _, rfl, hX, fo, rfl, et, ?_⟩
        refine ⟨_, rfl, ex, _, _, _, _, _, rfl, hX, fo, rfl, ef, by show 3 ≤ sizeLine; decide, fun l nl => ?_⟩
        refine ⟨_, rfl, .inl ⟨rfl, _, SqL.of upd_same⟩, _, rfl, ex, _, _, _, _, _, rfl, ku hX nl, fo, rfl, ep, l, _, _, rfl, rfl, upd_same, by show 3 < sizeLine; decide, ?_⟩
        have s3 : Same H2 (upd (upd H2 l (.lst [.bl (decide (kindO o = 0)), .bl (decide (kindO o = 1)), .bl (decide (kindO o = 2))])) l (.lst [.bl (decide (kindO o = 0)), .bl (decide (kindO o = 1)), .bl (decide (kindO o = 2)), .bl (decide (kindO o = 3))])) := fun b o' e => by
          have : b ≠ l := fun z => by rw [z, nl] at e; cases e
          rw [upd_ne this, upd_ne this]
          exact e
        have hl3 : (upd (upd H2 l (.lst [.bl (decide (kindO o = 0)), .bl (decide (kindO o = 1)), .bl (decide (kindO o = 2))])) l (.lst [.bl (decide (kindO o = 0)), .bl (decide (kindO o = 1)), .bl (decide (kindO o = 2)), .bl (decide (kindO o = 3))])) l = some (.lst [.bl (decide (kindO o = 0)), .bl (decide (kindO o = 1)), .bl (decide (kindO o = 2)), .bl (decide (kindO o = 3))]) := upd_same
        show tSeq _ _ _ _ (upd (upd H2 l (.lst [.bl (decide (kindO o = 0)), .bl (decide (kindO o = 1)), .bl (decide (kindO o = 2))])) l (.lst [.bl (decide (kindO o = 0)), .bl (decide (kindO o = 1)), .bl (decide (kindO o = 2)), .bl (decide (kindO o = 3))]))
        generalize upd (upd H2 l (.lst [.bl (decide (kindO o = 0)), .bl (decide (kindO o = 1)), .bl (decide (kindO o = 2))])) l (.lst [.bl (decide (kindO o = 0)), .bl (decide (kindO o = 1)), .bl (decide (kindO o = 2)), .bl (decide (kindO o = 3))]) = H3 at s3 hl3
        have hX3 := s3 _ _ hX
        refine ⟨two _ _, fun t1 nt1 => ?_⟩
        have s4 : Same H3 (upd H3 t1 (.tup [.str "else", .non])) := (Same.refl H3).step nt1
        dsimp only [gName]
        generalize upd H3 t1 (.tup [.str "else", .non]) = H4 at s4
        have hX4 := s4 _ _ hX3
        have hl4 := s4 _ _ hl3
        have s04 := (s0.trans s1).trans ((s2.trans s3).trans s4)
        clear en et ef ep
        cases o with
        | name =>
          refine ⟨_, rfl, .inl ⟨rfl, _, SqL.of hl4⟩, l, _, _, rfl, rfl, hl4, rfl, rfl, rfl, _, rfl, ?_⟩
          refine iteT ?_
          refine ⟨_, rfl, ex, _, _, _, _, _, rfl, hX4, fo, rfl, ev, true, rfl, iteT ?_⟩
          refine ⟨by show 4 ≤ sizeLine; decide, fun t nt => ?_⟩
          refine ⟨_, rfl, .inl ⟨rfl, _, SqL.of (ku hl4 nt)⟩, l, _, _, 0, rfl, rfl, ku hl4 nt, rfl, rfl, by show 4 ≤ 1000; decide, ⟨_, rfl, rfl⟩, fun m z hm hz => ?_, ?_⟩
          · rcases m with _ | _ | _ | m <;> first | omega | (cases Option.some.inj hz; rfl)
          refine ⟨t, _, _, _, rfl, rfl, SqT.of upd_same, rfl, two _ _, fun t2 nt2 => ?_⟩
          exact ⟨_, rfl, k t2 .non _ upd_same (by unfold thrD DAt; rfl) ((s04.step nt).step nt2)⟩
        | taken =>
          refine ⟨_, rfl, .inl ⟨rfl, _, SqL.of hl4⟩, l, _, _, rfl, rfl, hl4, rfl, rfl, rfl, _, rfl, ?_⟩
          refine iteT ?_
          refine ⟨_, rfl, ex, _, _, _, _, _, rfl, hX4, fo, rfl, ev, true, rfl, iteT ?_⟩
          refine ⟨by show 4 ≤ sizeLine; decide, fun t nt => ?_⟩
          refine ⟨_, rfl, .inl ⟨rfl, _, SqL.of (ku hl4 nt)⟩, l, _, _, 1, rfl, rfl, ku hl4 nt, rfl, rfl, by show 4 ≤ 1000; decide, ⟨_, rfl, rfl⟩, fun m z hm hz => ?_, ?_⟩
          · rcases m with _ | _ | _ | m <;> first | omega | (cases Option.some.inj hz; rfl)
          refine ⟨t, _, _, _, rfl, rfl, SqT.of upd_same, rfl, two _ _, fun t2 nt2 => ?_⟩
          exact ⟨_, rfl, k t2 .non _ upd_same (by unfold thrD DAt; rfl) ((s04.step nt).step nt2)⟩
        | full =>
          refine ⟨_, rfl, .inl ⟨rfl, _, SqL.of hl4⟩, l, _, _, rfl, rfl, hl4, rfl, rfl, rfl, _, rfl, ?_⟩
          refine iteT ?_
          refine ⟨_, rfl, ex, _, _, _, _, _, rfl, hX4, fo, rfl, ev, true, rfl, iteT ?_⟩
          refine ⟨by show 4 ≤ sizeLine; decide, fun t nt => ?_⟩
          refine ⟨_, rfl, .inl ⟨rfl, _, SqL.of (ku hl4 nt)⟩, l, _, _, 2, rfl, rfl, ku hl4 nt, rfl, rfl, by show 4 ≤ 1000; decide, ⟨_, rfl, rfl⟩, fun m z hm hz => ?_, ?_⟩
          · rcases m with _ | _ | _ | m <;> first | omega | (cases Option.some.inj hz; rfl)
          refine ⟨t, _, _, _, rfl, rfl, SqT.of upd_same, rfl, two _ _, fun t2 nt2 => ?_⟩
          exact ⟨_, rfl, k t2 .non _ upd_same (by unfold thrD DAt; rfl) ((s04.step nt).step nt2)⟩
        | place =>
          refine ⟨_, rfl, .inl ⟨rfl, _, SqL.of hl4⟩, l, _, _, rfl, rfl, hl4, rfl, rfl, rfl, _, rfl, ?_⟩
          refine iteT ?_
          refine ⟨_, rfl, ex, _, _, _, _, _, rfl, hX4, fo, rfl, ev, true, rfl, iteT ?_⟩
          refine ⟨by show 4 ≤ sizeLine; decide, fun t nt => ?_⟩
          refine ⟨_, rfl, .inl ⟨rfl, _, SqL.of (ku hl4 nt)⟩, l, _, _, 3, rfl, rfl, ku hl4 nt, rfl, rfl, by show 4 ≤ 1000; decide, ⟨_, rfl, rfl⟩, fun m z hm hz => ?_, ?_⟩
          · rcases m with _ | _ | _ | m <;> first | omega | (cases Option.some.inj hz; rfl)
          refine ⟨t, _, _, _, rfl, rfl, SqT.of upd_same, rfl, two _ _, fun t2 nt2 => ?_⟩
          exact ⟨_, rfl, k t2 .non _ upd_same (by unfold thrD DAt; rfl) ((s04.step nt).step nt2)⟩
        | barred => cases pl
        | told => cases pl
      · refine ⟨true, k5.eb, iteT fun ex hex => ?_⟩
        obtain ⟨tt, hdx, htt⟩ := t'
        have dne : dx ≠ ex := fun z => by rw [z, hex] at hdx; cases hdx
        refine ⟨_, rfl, ex, _, dx, _, _, rfl, upd_same, ku hdx hex, k5.fb, k5.kb, rfl, two _ _, fun t2 nt2 => ?_⟩
        refine ⟨_, rfl, k t2 (.ref tt) _ upd_same (dat_tups (ss := [u, v, w]) (ku (ku htt hex) nt2)) (((s0.trans s1).step hex).step nt2)⟩
theorem scLDue : FnScope NDl ["_law_row_here", "_law_name", "_law_at", "_law_to"] (defScope s__law_due) := ⟨rfl, rfl, rfl, by decide +kernel, rfl, by decide +kernel, by decide +kernel⟩
theorem ok_ldue {f : Addr} {fd : FuncData} (F : Fun K "_law_due" "_law_due" s__law_due f fd) (T : Bl mg) (FI : Fn P w K mg base CX0 1 "_law_is_name" ["_law_text"] spIsName) (FT : Fn P w K mg base CX0 2 "_law_three" ["_law_row_here"] spThr)
    (FP : Fn P w K mg base CX0 1 "_law_put" ["_law_row_here", "_law_name", "_law_at", "_law_to"] spPut) : FnOk P w K mg base CX0 3 f fd ["_law_row_here", "_law_name", "_law_at", "_law_to"] spLDue := by
  refine F.ok scLDue (fun vs H Q E h => ?_) (fun cdv A outer s H vs Q E hr h => ?_)
  · obtain ⟨r, row, x, a, b, rfl, _⟩ := h
    rfl
  · obtain ⟨r, row, x, a, b, rfl, hR, R2, hlen, ha, a0, a1, b0, b1, k⟩ := h
    have hr1 : Room 1 _ := hr.mono (by decide)
    refine ⟨_, pss_cons (ps_if (pt_not (pt_val (pe_fn FI hr1 (by rfl) pass0 (pa_cons (pv 1) pa_nil)))) (pss_one (ps_ret (pe_tup (pa_cons pe_str (pa_cons pe_non pa_nil))))) pss_nil)
      (pss_cons (ps_if (pt_cmpR op_in_seq (pv 1) (pv 0) (by rfl)) (pss_one (ps_ret (pe_tup (pa_cons pe_str (pa_cons pe_non pa_nil))))) pss_nil)
      (pss_cons (ps_if (pt_cmpR op_ge (pe_callB call_len_seq (by rfl) T.len boot_len (pa_cons (pv 0) pa_nil)) pe_int (nomark _)) (pss_one (ps_ret (pe_tup (pa_cons pe_str (pa_cons pe_non pa_nil))))) pss_nil)
      (pss_cons (ps_if (pw_or (pt_cmpR op_lt (pv 2) pe_int (nomark _)) (pw_or (pt_cmpR op_lt (pv 3) (pv 2) (nomark _)) (pw_or1 (pt_cmpR op_gt (pv 3) (pe_callB call_len_seq (by rfl) T.len boot_len (pa_cons (pv 0) pa_nil)) (nomark _))))).pt (pss_one (ps_ret (pe_tup (pa_cons pe_str (pa_cons pe_non pa_nil))))) pss_nil)
      (pss_cons (ps_set (i := 4) scLDue.nd rfl (Or.inl rfl) (pe_fn FT hr (by rfl) pass0 (pa_cons (pe_fn FP hr1 (by rfl) pass0 (pa_cons (pv 0) (pa_cons (pv 1) (pa_cons (pv 2) (pa_cons (pv 3) pa_nil))))) pa_nil)))
      (pss_one (ps_ret (pe_ifExp (pt_cmpR op_isN (pv 4) pe_non (nomark _)) (pe_tup (pa_cons pe_str (pa_cons pe_non pa_nil))) (pe_tup (pa_cons pe_str (pa_cons (pv 4) pa_nil)))))))))), ?_⟩
    have hl' : ((row.map V.str).length : Int) = row.length := by rw [List.length_map]
    have half := dit_half R2
    have two : ∀ v : V, [V.str "told", v].length ≤ sizeLine := fun _ => by show 2 ≤ sizeLine; decide
    have giveN : ∀ {H' : Hp} (o : PO), Same H H' → PutDue row x a b o → thrD o = .none → ∀ t, H' t = none → Q (.ref t) (upd H' t (.tup [.str (wordO o), .non])) := fun {H'} o s' due hn t nt =>
      k o t .non _ due upd_same (by rw [hn]; unfold DAt; rfl) (s'.step nt)
    refine ⟨_, rfl, x, rfl, ha, fun H1 s1 => ⟨_, rfl, ?_⟩⟩
    cases hn : isNameB x with
    | false => exact ⟨two _, fun t nt => giveN .name s1 hn rfl t nt⟩
    | true =>
    have hR1 := s1 _ _ hR
    refine ⟨_, rfl, _, rfl, r, _, rfl, .inl (SqL.of hR1), rfl, flat_all row, _, rfl, ?_⟩
    rw [if_neg (by decide), inV_str]
    refine ite2b (fun q1 => ?_) (fun q1 => ?_)
    · exact ⟨two _, fun t nt => giveN .taken s1 ⟨hn, of_decide_eq_true q1⟩ rfl t nt⟩
    have nx := of_decide_eq_false q1
    refine ⟨_, rfl, r, _, rfl, .inl (SqL.of hR1), _, _, rfl, rfl, _, rfl, ?_⟩
    rw [hl']
    refine ite2b (fun q2 => ?_) (fun q2 => ?_)
    · exact ⟨two _, fun t nt => giveN .full s1 ⟨hn, nx, by have := of_decide_eq_true q2; omega⟩ rfl t nt⟩
    have nf : (dit row).length < 14 := by have := of_decide_eq_false q2; omega
    have bad : ¬ (0 ≤ a ∧ a ≤ b ∧ b ≤ row.length) → tRet (tTup (tCons (tC (.str "place")) (tCons (tC .non) tNil))) { nx := fun _ H' => Q .non H', rt := Q } [some (.ref r), some (.str x), some (.int a), some (.int b), none] H1 := fun hb =>
      ⟨two _, fun t nt => giveN .place s1 ⟨hn, nx, nf, hb⟩ rfl t nt⟩
    refine ⟨_, rfl, _, _, rfl, rfl, _, rfl, ?_⟩
    refine ite2b (fun q3 => ?_) (fun q3 => ?_)
    · exact bad fun z => by first | exact absurd (of_decide_eq_true q3) (Int.not_lt.mpr z.1) | (have := of_decide_eq_true q3; omega)
    refine ⟨_, rfl, _, rfl, _, _, rfl, rfl, _, rfl, ?_⟩
    refine ite2b (fun q4 => ?_) (fun q4 => ?_)
    · exact bad fun z => by first | exact absurd (of_decide_eq_true q4) (Int.not_lt.mpr z.2.1) | (have := of_decide_eq_true q4; omega)
    refine ⟨_, rfl, _, rfl, r, _, rfl, .inl (SqL.of hR1), _, _, rfl, rfl, _, rfl, ?_⟩
    rw [hl']
    refine ite2b (fun q5 => ?_) (fun q5 => ?_)
    · exact bad fun z => by first | exact absurd (of_decide_eq_true q5) (Int.not_lt.mpr z.2.2) | (have := of_decide_eq_true q5; omega)
    have p0 : 0 ≤ a := by first | exact Int.not_lt.mp (of_decide_eq_false q3) | (have := of_decide_eq_false q3; omega)
    have p1 : a ≤ b := by first | exact Int.not_lt.mp (of_decide_eq_false q4) | (have := of_decide_eq_false q4; omega)
    have p2 : b ≤ row.length := by first | exact Int.not_lt.mp (of_decide_eq_false q5) | (have := of_decide_eq_false q5; omega)
    have place : 0 ≤ a ∧ a ≤ b ∧ b ≤ row.length := ⟨p0, p1, p2⟩
    obtain ⟨a, rfl⟩ := Int.eq_ofNat_of_zero_le p0
    obtain ⟨b, rfl⟩ := Int.eq_ofNat_of_zero_le (Int.le_trans p0 p1)
    have hab : a ≤ b := by first | exact Int.ofNat_le.mp p1 | omega
    refine ⟨_, rfl, _, rfl, _, rfl, _, rfl, ?_⟩
    dsimp only [tNil, List.cons_append, List.nil_append]
    refine ⟨r, row, x, a, b, rfl, hR1, by first | exact Nat.le_trans hlen (by decide) | omega, hab, by first | exact Int.ofNat_le.mp p2 | omega, fun l H2 nl hl s2 => ?_⟩
    obtain ⟨R2p, _⟩ := row2_put R2 ha.okN nx hlen hab
    have pl := putR_len (row := row) (x := x) hab
    refine ⟨l, _, rfl, hl, R2p, by omega, fun nt H3 s3 => ?_, fun u v w t H3 ft nt ht s3 => ?_⟩
    · have s03 := (s1.trans s2).trans s3
      refine ⟨_, rfl, rfl, _, rfl, ?_⟩
      exact ⟨two _, fun t nt' => giveN .told s03 ⟨hn, nx, nf, place, nt⟩ rfl t nt'⟩
    · have s03 := (s1.trans s2).trans s3
      refine ⟨_, rfl, rfl, _, rfl, ?_⟩
      refine ⟨_, rfl, by show 2 ≤ sizeLine; decide, fun t' nt' => ?_⟩
      exact k (.barred u v w) t' (.ref t) _ ⟨hn, nx, nf, place, ft⟩ upd_same (dat_tups (ss := [u, v, w]) (ku ht nt')) (s03.step nt')
end
end K5

set_option Elab.async false
set_option linter.all false
set_option maxRecDepth 100000
set_option maxHeartbeats 4000000
namespace L2
open PySem PySem.Spec PyProof.Rows
noncomputable def mroB (K : PySem.W.Frag) (C S : Addr) : Bool := (PySem.W.clsIn K C).any fun cd => cd.hasDict && cd.mro == Value.ref C :: Value.ref S :: valTail
structure InitAt (K : PySem.W.Frag) (x q : Str) (st : Stmt) (f : Str) (C fI S : Addr) : Prop where
  a : PySem.W.nsIn K mainGlobals x = some (some (.ref C))
  m : ∃ fd, Fun K "__init__" q st fI fd
  e : excInI K C fI = true
  ga : PySem.W.findIn K (.ref C) "__getattribute__" = some (some (.builtin "BaseException.__getattribute__"))
  gn : PySem.W.findIn K (.ref C) "__getattr__" = some none
  cl : PySem.W.findIn K (.ref C) "__class__" = some (some (.builtin "object.__class__"))
  sb : PySem.W.subIn K (.ref C) (.type "BaseException") = some true
  so : PySem.W.subIn K (.ref C) (.type "object") = some true
  ss : PySem.W.subIn K (.ref C) (.ref C) = some true
  ic : PySem.W.isClsIn K C = true
  ty : PySem.W.typeIn K (.ref C) = some (.type "type")
  sa : PySem.W.findIn K (.ref C) "__setattr__" = some (some (.builtin "object.__setattr__"))
  no : PySem.W.findIn K (.ref C) f = some none
  mr : mroB K C S = true
section
variable {K : PySem.W.Frag} {x q f : Str} {st : Stmt} {C fI S : Addr}
theorem InitAt.of {oc : Value} {od an : Option Addr} {osl : Array (Option Value)} {kV doc pm cdv ct : Value} (a : PySem.W.nsIn K mainGlobals x = some (some (.ref C))) (i : PySem.W.findIn K (.ref C) "__init__" = some (some (.ref fI)))
    (l : K.lookup fI = some ⟨oc, od, .func (PySem.W.fnOf "__init__" q (defArgs st) (defBody st) (defScope st) .none kV doc pm an cdv ct), osl⟩) (c : PySem.W.codeIn K cdv q = true) (k : PySem.W.keepIn K (.ref fI) = true) (e : excInI K C fI = true)
    (ga : PySem.W.findIn K (.ref C) "__getattribute__" = some (some (.builtin "BaseException.__getattribute__"))) (gn : PySem.W.findIn K (.ref C) "__getattr__" = some none) (cl : PySem.W.findIn K (.ref C) "__class__" = some (some (.builtin "object.__class__")))
    (sb : PySem.W.subIn K (.ref C) (.type "BaseException") = some true) (so : PySem.W.subIn K (.ref C) (.type "object") = some true) (ss : PySem.W.subIn K (.ref C) (.ref C) = some true) (ic : PySem.W.isClsIn K C = true) (ty : PySem.W.typeIn K (.ref C) = some (.type "type"))
    (sa : PySem.W.findIn K (.ref C) "__setattr__" = some (some (.builtin "object.__setattr__"))) (no : PySem.W.findIn K (.ref C) f = some none) (mr : mroB K C S = true) : InitAt K x q st f C fI S :=
  ⟨a, ⟨_, fun_mk l c k⟩, e, ga, gn, cl, sb, so, ss, ic, ty, sa, no, mr⟩
theorem InitAt.ef (E : InitAt K x q st f C fI S) : ExcF K C := ⟨E.ga, E.gn, E.cl, E.sb, E.so, E.ic⟩
theorem InitAt.k (E : InitAt K x q st f C fI S) : ExK K C f := by
  refine ⟨?_, E.sa, E.no⟩
  have h := E.mr
  unfold mroB at h
  cases hc : PySem.W.clsIn K C with
  | none => rw [hc] at h; cases h
  | some cd =>
    rw [hc] at h
    have h' : (cd.hasDict && cd.mro == Value.ref C :: Value.ref S :: valTail) = true := h
    rw [Bool.and_eq_true, beq_iff_eq] at h'
    exact ⟨cd, [C, S], rfl, h'.2, h'.1⟩
end
theorem kit_self (K : PySem.W.Frag) (C : Addr) : PySem.W.kitOne K (.ref C) (.ref C) = some true := by
  unfold PySem.W.kitOne
  rw [if_pos (beq_self_eq_true _)]
end L2
namespace SH
open PySem PySem.Spec PyProof.Rows L2
theorem PutK.of {K : PySem.W.Frag} {C : PutC} {S fI : Addr} {st : Stmt} {xn xt xf xp xb qb : Str} (n : ExcAt K xn C.name) (t : ExcAt K xt C.taken) (f : ExcAt K xf C.full) (p : ExcAt K xp C.place) (b : InitAt K xb qb st "three" C.barred fI S)
    (ic : PySem.W.isClsIn K S = true) (ty : PySem.W.typeIn K (.ref S) = some (.type "type")) (sS : PySem.W.subIn K (.ref S) (.type "BaseException") = some true)
    (s1 : PySem.W.subIn K (.ref C.name) (.ref S) = some true) (s2 : PySem.W.subIn K (.ref C.taken) (.ref S) = some true) (s3 : PySem.W.subIn K (.ref C.full) (.ref S) = some true) (s4 : PySem.W.subIn K (.ref C.place) (.ref S) = some true)
    (b1 : PySem.W.subIn K (.ref C.name) (.ref C.barred) = some false) (b2 : PySem.W.subIn K (.ref C.taken) (.ref C.barred) = some false) (b3 : PySem.W.subIn K (.ref C.full) (.ref C.barred) = some false) (b4 : PySem.W.subIn K (.ref C.place) (.ref C.barred) = some false)
    (nt : PySem.W.subIn K (.ref C.name) (.ref C.taken) = some false) (nf : PySem.W.subIn K (.ref C.name) (.ref C.full) = some false) (np : PySem.W.subIn K (.ref C.name) (.ref C.place) = some false)
    (tn : PySem.W.subIn K (.ref C.taken) (.ref C.name) = some false) (tf : PySem.W.subIn K (.ref C.taken) (.ref C.full) = some false) (tp : PySem.W.subIn K (.ref C.taken) (.ref C.place) = some false)
    (fn : PySem.W.subIn K (.ref C.full) (.ref C.name) = some false) (ft : PySem.W.subIn K (.ref C.full) (.ref C.taken) = some false) (fp : PySem.W.subIn K (.ref C.full) (.ref C.place) = some false)
    (pn : PySem.W.subIn K (.ref C.place) (.ref C.name) = some false) (pt : PySem.W.subIn K (.ref C.place) (.ref C.taken) = some false) (pf : PySem.W.subIn K (.ref C.place) (.ref C.full) = some false)
    (d1 : C.name ≠ C.taken) (d2 : C.name ≠ C.full) (d3 : C.name ≠ C.place) (d4 : C.taken ≠ C.full) (d5 : C.taken ≠ C.place) (d6 : C.full ≠ C.place) : PutK K C S where
  fn := n.f
  ft := t.f
  ff := f.f
  fp := p.f
  fb := b.ef
  kb := b.k
  eb := exm_of b.sb b.sb b.ic b.ty b.ss
  nb := fun o h => match o, h with
    | .name, _ => exm_of n.sb b.sb b.ic b.ty b1
    | .taken, _ => exm_of t.sb b.sb b.ic b.ty b2
    | .full, _ => exm_of f.sb b.sb b.ic b.ty b3
    | .place, _ => exm_of p.sb b.sb b.ic b.ty b4
  es := fun o h => match o, h with
    | .name, _ => exm_of n.sb sS ic ty s1
    | .taken, _ => exm_of t.sb sS ic ty s2
    | .full, _ => exm_of f.sb sS ic ty s3
    | .place, _ => exm_of p.sb sS ic ty s4
  v := fun o h => match o, h with
    | .name, _ => n.val
    | .taken, _ => t.val
    | .full, _ => f.val
    | .place, _ => p.val
  kn := fun o h => match o, h with
    | .name, _ => kit_self _ _
    | .taken, _ => kit_of d1.symm n.ic n.ty tn
    | .full, _ => kit_of d2.symm n.ic n.ty fn
    | .place, _ => kit_of d3.symm n.ic n.ty pn
  kt := fun o h => match o, h with
    | .name, _ => kit_of d1 t.ic t.ty nt
    | .taken, _ => kit_self _ _
    | .full, _ => kit_of d4.symm t.ic t.ty ft
    | .place, _ => kit_of d5.symm t.ic t.ty pt
  kf := fun o h => match o, h with
    | .name, _ => kit_of d2 f.ic f.ty nf
    | .taken, _ => kit_of d4 f.ic f.ty tf
    | .full, _ => kit_self _ _
    | .place, _ => kit_of d6.symm f.ic f.ty pf
  kp := fun o h => match o, h with
    | .name, _ => kit_of d3 p.ic p.ty np
    | .taken, _ => kit_of d5 p.ic p.ty tp
    | .full, _ => kit_of d6 p.ic p.ty fp
    | .place, _ => kit_self _ _
end SH

set_option Elab.async false
set_option linter.all false
set_option maxRecDepth 100000
set_option maxHeartbeats 8000000
namespace K5
open PySem PySem.Spec PyProof.Rows L2 SH
noncomputable def spLaw (K : PySem.W.Frag) : Sp := fun vs H Q _ => ∃ (a : Addr) (ns : List Int), vs = [.ref a] ∧ SqL K H a (ns.map V.int) ∧ ns.length ≤ 63 ∧ ∀ H', Q (.bl true) H'
theorem eqv_lst {a : List Str} (ha : ∀ y ∈ a, okN y) : PyData.eqv (.list (a.map PyData.str)) (.list (a.map PyData.str)) = true := (eqv_iff _ _ (lst_plain ha) (lst_plain ha)).mpr rfl
theorem depth_lst (a : List Str) (d : PyData) : min (PyData.list (a.map PyData.str)).depth d.depth ≤ 3 := by
  show min (PyData.depthAll (a.map PyData.str) + 1) _ ≤ 3
  rw [depth_strs]
  omega
theorem po_ok {row : List Str} {x : Str} {a b : Int} {o : PO} (due : PutDue row x a b o) (R2 : Row2 row) (hx : okN x) (hl : row.length ≤ 28) : plainD (poD o) = true ∧ (poD o).depth ≤ 3 := by
  cases o with
  | barred u v w =>
    obtain ⟨_, nx, _, ⟨p0, p1, p2⟩, ft⟩ := due
    obtain ⟨R', _⟩ := row2_put (a := a.toNat) (b := b.toNat) R2 hx nx hl (by omega)
    have ok : ∀ y ∈ [u, v, w], okN y := fun y hy => by
      simp at hy
      rcases hy with e | e | e
      · rw [e]; exact R'.ok _ ft.t.hx
      · rw [e]; exact R'.ok _ ft.t.hy
      · rw [e]; exact R'.ok _ ft.t.hz
    have h1 : plainD (.tuple ([u, v, w].map PyData.str)) = true := tup_plain ok
    constructor
    · show (plainD (.str "barred") && (plainD (.tuple ([u, v, w].map PyData.str)) && true)) = true
      rw [h1]
      decide +kernel
    · show (2 : Nat) ≤ 3
      decide
  | _ => exact ⟨by decide +kernel, by decide⟩
theorem po_at {H : Hp} {o : PO} {t : Addr} {v : V} (ht : H t = some (.tup [.str (wordO o), v])) (hv : DAt H (thrD o) v) : DAt H (poD o) (.ref t) :=
  dat_tup ht (dall_cons (by unfold DAt; rfl) (dall_cons hv dall_nil))
section
variable {P : Program} {w : World} {K : PySem.W.Frag} {mg : Str → Option Value} {base : Heap}
noncomputable abbrev NLw : List Str := ["_law_script", "_law_draw", "_law_row_here", "_law_name", "_law_way", "_law_at", "_law_to", "_law_kept", "_law_due_here", "_law_found", "_law_one", "_law_other"]
noncomputable abbrev NL1 : List Str := ["_law_other", "_law_one"]
theorem scLaw : FnScope NLw ["_law_script"] (defScope s_law) := ⟨rfl, rfl, rfl, by decide +kernel, rfl, by decide +kernel, by decide +kernel⟩
theorem ok_law {f : Addr} {fd : FuncData} {C : PutC} {ND : Addr} (F : Fun K "law" "law" s_law f fd) (B : Bl mg) (FB : Fn P w K mg base CX0 1 "_law_begin" ["_law_script"] (spBegin K)) (FP : FnPick P w K mg base)
    (FI : Fn P w K mg base CX0 4 "_law_island" ["_law_draw", "_law_most"] spIslandN) (FR : Fn P w K mg base CX0 3 "_law_row" ["_law_draw", "_law_names_here"] spRowN) (FN : Fn P w K mg base CX0 2 "_law_names" ["_law_draw", "_law_many"] spNames)
    (FS : Fn P w K mg base CX0 1 "_law_stranger" ["_law_row_here"] spStranger) (FBd : Fn P w K mg base CX0 2 "_law_bad_name" ["_law_draw"] spBad) (FT : Fn P w K mg base CX0 1 "_law_texts" ["_law_found"] spTexts)
    (FD : Fn P w K mg base CX0 3 "_law_due" ["_law_row_here", "_law_name", "_law_at", "_law_to"] spLDue) (FSd : Fn P w K mg base CX0 7 "_law_said" ["_law_row_here", "_law_name", "_law_at", "_law_to"] spSaid5)
    (FPi : Fn P w K mg base (CX2 P w) 6 "put_in" ["row", "name", "at", "to"] (spPutIn C)) (FLp : Fn P w K mg base CX0 1 "_law_put" ["_law_row_here", "_law_name", "_law_at", "_law_to"] spPut)
    (FL : Fn P w K mg base (CX1 P w) 2 "left_out" ["row", "name"] (spLeft ND)) :
    FnOk P w K mg base CX0 8 f fd ["_law_script"] (spLaw K) := by
  refine F.ok scLaw (fun vs H Q E h => ?_) (fun cdv A outer s H vs Q E hr h => ?_)
  · obtain ⟨a, ns, rfl, _⟩ := h
    rfl
  · obtain ⟨a, ns, rfl, hS, hlen, k⟩ := h
    have hr1 : Room 1 _ := hr.mono (by decide)
    have hr2 : Room 2 _ := hr.mono (by decide)
    have hr3 : Room 3 _ := hr.mono (by decide)
    have hr4 : Room 4 _ := hr.mono (by decide)
    have hr6 : Room 6 _ := hr.mono (by decide)
    refine ⟨_, pss_cons (ps_set (i := 1) scLaw.nd rfl (Or.inl rfl) (pe_fn FB hr1 (by rfl) pass0 (pa_cons (pv 0) pa_nil)))
      (pss_cons (ps_set (i := 2) scLaw.nd rfl (Or.inl rfl) (pe_fn FI hr4 (by rfl) pass0 (pa_cons (pv 1) (pa_cons pe_int pa_nil))))
      (pss_cons (ps_if (pt_cmpR op_eq (pe_fn FP hr1 (by rfl) pass0 (pa_cons (pv 1) (pa_cons pe_int pa_nil))) pe_int (nomark _))
        (pss_one (ps_set (i := 2) scLaw.nd rfl (Or.inl rfl) (pe_fn FR hr3 (by rfl) pass0 (pa_cons (pv 1) (pa_cons (pe_fn FN hr2 (by rfl) pass0 (pa_cons (pv 1) (pa_cons (pe_op op_add pe_int (pe_fn FP hr1 (by rfl) pass0 (pa_cons (pv 1) (pa_cons pe_int pa_nil)))) pa_nil))) pa_nil))))) pss_nil)
      (pss_cons (ps_set (i := 3) scLaw.nd rfl (Or.inl rfl) (pe_fn FS hr1 (by rfl) pass0 (pa_cons (pv 2) pa_nil)))
      (pss_cons (ps_set (i := 4) scLaw.nd rfl (Or.inl rfl) (pe_fn FP hr1 (by rfl) pass0 (pa_cons (pv 1) (pa_cons pe_int pa_nil))))
      (pss_cons (ps_if (pt_cmpR op_eq (pv 4) pe_int (nomark _)) (pss_one (ps_set (i := 3) scLaw.nd rfl (Or.inl rfl) (pe_fn FBd hr2 (by rfl) pass0 (pa_cons (pv 1) pa_nil)))) pss_nil)
      (pss_cons (ps_if (pw_and (pt_cmpR op_eq (pv 4) pe_int (nomark _)) (pw_and1 (pt_cmpR (op_neD (hu3 hr)) (pv 2) (pe_lst pa_nil) (nomark _)))).pt
        (pss_one (ps_set (i := 3) scLaw.nd rfl (Or.inl rfl) (pe_ix ix_list (pv 2) (pe_fn FP hr1 (by rfl) pass0 (pa_cons (pv 1) (pa_cons (pe_callB call_len_seq (by rfl) B.len boot_len (pa_cons (pv 2) pa_nil)) pa_nil))) (fun _ _ => rfl)))) pss_nil)
      (pss_cons (ps_set (i := 5) scLaw.nd rfl (Or.inl rfl) (pe_fn FP hr1 (by rfl) pass0 (pa_cons (pv 1) (pa_cons (pe_op op_add (pe_callB call_len_seq (by rfl) B.len boot_len (pa_cons (pv 2) pa_nil)) pe_int) pa_nil))))
      (pss_cons (ps_set (i := 6) scLaw.nd rfl (Or.inl rfl) (pe_op op_add (pv 5) (pe_fn FP hr1 (by rfl) pass0 (pa_cons (pv 1) (pa_cons (pe_op op_sub (pe_op op_add (pe_callB call_len_seq (by rfl) B.len boot_len (pa_cons (pv 2) pa_nil)) pe_int) (pv 5)) pa_nil)))))
      (pss_cons (ps_if (pt_cmpR op_eq (pe_fn FP hr1 (by rfl) pass0 (pa_cons (pv 1) (pa_cons pe_int pa_nil))) pe_int (nomark _))
        (pss_cons (ps_set (i := 5) scLaw.nd rfl (Or.inl rfl) (pe_op op_sub (pe_fn FP hr1 (by rfl) pass0 (pa_cons (pv 1) (pa_cons (pe_op op_add (pe_callB call_len_seq (by rfl) B.len boot_len (pa_cons (pv 2) pa_nil)) pe_int) pa_nil))) pe_int))
        (pss_one (ps_set (i := 6) scLaw.nd rfl (Or.inl rfl) (pe_op op_sub (pe_fn FP hr1 (by rfl) pass0 (pa_cons (pv 1) (pa_cons (pe_op op_add (pe_callB call_len_seq (by rfl) B.len boot_len (pa_cons (pv 2) pa_nil)) pe_int) pa_nil))) pe_int)))) pss_nil)
      (pss_cons (ps_set (i := 7) scLaw.nd rfl (Or.inl rfl) (pe_callTy call_list_of (by rfl) B.list (by rfl) (pa_cons (pv 2) pa_nil)))
      (pss_cons (ps_set (i := 8) scLaw.nd rfl (Or.inl rfl) (pe_fn FD hr3 (by rfl) pass0 (pa_cons (pv 2) (pa_cons (pv 3) (pa_cons (pv 5) (pa_cons (pv 6) pa_nil))))))
      (pss_cons (ps_if (pt_cmpR op_ne (pe_ix ix_tup (pv 8) pe_int (fun _ _ => rfl)) pe_str (nomark _))
        (pss_one (ps_ret (pe_and (pe_cmpR (op_eqD (hu3 hr)) (pe_fn FSd hr (by rfl) pass0 (pa_cons (pv 2) (pa_cons (pv 3) (pa_cons (pv 5) (pa_cons (pv 6) pa_nil))))) (pv 8) (nomark _)) (pe_one (pe_cmpR (op_eqD (hu3 hr)) (pv 2) (pv 7) (nomark _)))))) pss_nil)
      (pss_cons (ps_set (i := 9) scLaw.nd rfl (Or.inl rfl) (pe_fn FPi hr6 (by rfl) pass2X (pa_cons (pv 2) (pa_cons (pv 3) (pa_cons (pv 5) (pa_cons (pv 6) pa_nil))))))
      (pss_cons (ps_if (pw_or (pt_not (pt_val (pe_fn FT hr1 (by rfl) pass0 (pa_cons (pv 9) pa_nil)))) (pw_or1 (pt_cmpR (op_neD (hu3 hr)) (pv 9) (pe_fn FLp hr1 (by rfl) pass0 (pa_cons (pv 7) (pa_cons (pv 3) (pa_cons (pv 5) (pa_cons (pv 6) pa_nil))))) (nomark _)))).pt (pss_one (ps_ret pe_bl)) pss_nil)
      (pss_cons (ps_for PassesOwn.never rfl (pi_list (pe_sset rfl (by rfl) B.sorted (by rfl) B.set (pv 9))) (pg_name (i := 10) scLaw.nd rfl (Or.inr rfl))
        (pss_one (ps_if (pt_cmpR (op_neD (hu3 hr)) (pe_fn FL hr2 (by rfl) passX (pa_cons (pv 9) (pa_cons (pv 10) pa_nil)))
            (pe_comp (N := NL1) (cap := [none, some 10]) (CompScope.of (defScope s_law) NLw rfl rfl rfl (by decide +kernel)) rfl
              (pi_list (pv 9)) (fun _ _ _ => pg_name (i := 0) (show NL1.Nodup by decide +kernel) rfl (Or.inl rfl) (Or.inr rfl)) (fun _ _ _ => pifs_one (pt_cmpR op_ne (pv 0) (pv 1) (nomark _))) (fun _ _ _ => pv 0)) (nomark _)) (pss_one (ps_ret pe_bl)) pss_nil)))
      (pss_cons (ps_set (i := 11) scLaw.nd rfl (Or.inl rfl) (pe_fn FI hr4 (by rfl) pass0 (pa_cons (pv 1) (pa_cons pe_int pa_nil))))
      (pss_cons (ps_if (pt_cmpR (op_neD (hu3 hr)) (pe_fn FPi hr6 (by rfl) pass2X (pa_cons (pv 11) (pa_cons (pe_fn FS hr1 (by rfl) pass0 (pa_cons (pv 11) pa_nil)) (pa_cons pe_int (pa_cons pe_int pa_nil)))))
          (pe_op op_cat (pe_op op_rep (pe_lst (pa_cons (pe_fn FS hr1 (by rfl) pass0 (pa_cons (pv 11) pa_nil)) pa_nil)) pe_int) (pv 11)) (nomark _)) (pss_one (ps_ret pe_bl)) pss_nil)
      (pss_one (ps_ret (pe_and (pe_cmpR (op_eqD (hu3 hr)) (pe_fn FL hr2 (by rfl) passX (pa_cons (pv 9) (pa_cons (pv 3) pa_nil))) (pv 7) (nomark _)) (pe_and (pe_cmpR (op_eqD (hu3 hr)) (pv 2) (pv 7) (nomark _))
        (pe_one (pe_cmpR (op_eqD (hu3 hr)) (pe_fn FPi hr6 (by rfl) pass2X (pa_cons (pv 2) (pa_cons (pv 3) (pa_cons (pv 5) (pa_cons (pv 6) pa_nil))))) (pv 9) (nomark _)))))))))))))))))))))))), ?_⟩
    refine ⟨_, rfl, a, ns, rfl, hS, hlen, fun dr sc H1 ndr nsc d1 s1 => ?_⟩
    refine ⟨_, rfl, dr, sc, 14, rfl, by decide, d1, fun r row n st late H2 nr hn hst hr2' hp _ d2 b2 => ?_⟩
    have nrd : r ≠ dr := (d1.ne nr).1
    have g0 := LR.of hst hn hp
    dsimp only [gName]
    refine tseq_split (t := tIfS _ _ _) (fun σ' H' => ∃ (r : Addr) (row : List Str) (st : Nat) (late : Bool), σ' = [some (.ref a), some (.ref dr), some (.ref r), none, none, none, none, none, none, none, none, none] ∧ H' r = some (.lst (row.map V.str)) ∧ r ≠ dr ∧ LR st late row ∧ DrawOk H' dr sc) ?_ ?_
    rotate_left
    · intro nx hnx
      refine ⟨_, rfl, dr, sc, 4, rfl, by decide, by decide, d2, fun q H3 _ _ d3 b3 => ⟨rfl, _, rfl, ?_⟩⟩
      have hR3 := b3 _ _ hr2' nrd
      refine ite2b (fun _ => ?_) (fun _ => hnx _ _ ⟨r, row, st, late, rfl, hR3, nrd, g0, d3⟩)
      refine ⟨_, rfl, _, rfl, _, rfl, dr, sc, 2, rfl, by decide, by decide, d3, fun i H4 i0 i1 d4 b4 => ?_⟩
      obtain ⟨i, rfl⟩ := Int.eq_ofNat_of_zero_le i0
      refine ⟨_, _, rfl, rfl, ?_⟩
      have e13 : (13 : Int) + (i : Int) = ((13 + i : Nat) : Int) := by omega
      dsimp only [tNil, List.cons_append, List.nil_append]
      rw [e13]
      refine ⟨dr, sc, 13 + i, rfl, by omega, d4, fun l5 st5 late5 H5 nl5 hst5 hl5 nls5 d5 b5 => ?_⟩
      refine ⟨dr, sc, l5, _, rfl, d5, hl5, (d4.ne nl5).1, names_nd hst5 (by omega), by unfold namesAt; rw [List.length_map, List.length_range]; omega, fun l6 row6 H6 nl6 hl6 p6 _ d6 b6 => ?_⟩
      exact hnx _ _ ⟨l6, row6, st5, late5, rfl, hl6, (d5.ne nl6).1, LR.of hst5 (by omega) p6, d6⟩
    rintro σ' H3 ⟨r, row, st, late, rfl, hR3, nrd, g, d3⟩
    have gl := g.len
    have R2 := g.row2
    have hl' : ((row.map V.str).length : Int) = row.length := by rw [List.length_map]
    refine ⟨_, rfl, r, row, rfl, hR3, fun y hy => (R2.ok y hy).1, fun H4 s4 => ?_⟩
    refine ⟨_, rfl, dr, sc, 6, rfl, by decide, by decide, d3.same s4, fun wy H5 _ _ d5 b5 => ?_⟩
    have hR5 := b5 _ _ (s4 _ _ hR3) nrd
    obtain ⟨ga, _, _⟩ := g.str
    dsimp only [gName]
    refine tseq_split (t := tIfS _ _ _) (fun σ' H' => ∃ x : Str, σ' = [some (.ref a), some (.ref dr), some (.ref r), some (.str x), some (.int wy), none, none, none, none, none, none, none] ∧ H' r = some (.lst (row.map V.str)) ∧ Asc x ∧ DrawOk H' dr sc) ?_ ?_
    rotate_left
    · intro nx hnx
      refine ⟨_, rfl, rfl, _, rfl, ?_⟩
      refine ite2b (fun _ => ?_) (fun _ => hnx _ _ ⟨_, rfl, hR5, ga, d5⟩)
      refine ⟨_, rfl, dr, sc, rfl, d5, fun t H6 ht d6 b6 => ?_⟩
      obtain ⟨h1, h2, _⟩ := bad_ok t ht
      exact hnx _ _ ⟨t, rfl, b6 _ _ hR5 nrd, ⟨h1, h2⟩, d6⟩
    rintro σ' H6 ⟨x6, rfl, hR6, ax6, d6⟩
    refine tseq_split (t := tIfS _ _ _) (fun σ' H' => ∃ x : Str, σ' = [some (.ref a), some (.ref dr), some (.ref r), some (.str x), some (.int wy), none, none, none, none, none, none, none] ∧ H' r = some (.lst (row.map V.str)) ∧ Asc x ∧ DrawOk H' dr sc) ?_ ?_
    rotate_left
    · intro nx hnx
      refine ⟨_, rfl, rfl, _, rfl, ?_⟩
      refine ite2b (fun _ => ?_) (fun _ => hnx _ _ ⟨_, rfl, hR6, ax6, d6⟩)
      refine ⟨_, rfl, Nat.zero_le _, fun e0 ne0 => ?_⟩
      have s7 : Same H6 (upd H6 e0 (.lst [])) := (Same.refl H6).step ne0
      have he0 : upd H6 e0 (.lst []) e0 = some (.lst []) := upd_same
      generalize upd H6 e0 (.lst []) = H7 at s7 he0
      have d7 := d6.same s7
      have hR7 := s7 _ _ hR6
      refine ⟨.list (row.map PyData.str), .list (([] : List Str).map PyData.str), dat_lst hR7 (dall_strs row), dat_lst he0 (dall_strs []), plain_lay _ (lst_plain R2.ok), plain_lay _ (lst_plain (by simp)), depth_lst _ _, _, rfl, ?_⟩
      refine ite2b (fun q1 => ?_) (fun q1 => hnx _ _ ⟨_, rfl, hR7, ax6, d7⟩)
      have hne : row ≠ [] := fun z => by
        rw [z] at q1
        revert q1
        decide
      have hpos := List.length_pos_iff.mpr hne
      refine ⟨_, rfl, _, rfl, _, rfl, r, _, rfl, .inl (SqL.of hR7), dr, sc, ((row.map V.str).length : Int), rfl, by omega, by omega, d7, fun i H8 i0 i1 d8 b8 => ?_⟩
      rw [hl'] at i1
      obtain ⟨i, rfl⟩ := Int.eq_ofNat_of_zero_le i0
      have hi : i < row.length := by omega
      refine ⟨r, _, _, .str (row[i]'hi), rfl, rfl, SqL.of (b8 _ _ hR7 nrd), atI_nat (by rw [List.getElem?_map, List.getElem?_eq_getElem hi]; rfl), ?_⟩
      exact hnx _ _ ⟨_, rfl, b8 _ _ hR7 nrd, g.asc (List.getElem_mem hi), d8⟩
    rintro σ' H7 ⟨x, rfl, hR7, ax, d7⟩
    clear hR3 hR5 hR6 d3 d5 d6 d2 d1 ga ax6 hr2' hp g0
    refine ⟨_, rfl, _, rfl, r, _, rfl, .inl (SqL.of hR7), _, _, rfl, rfl, dr, sc, _, rfl, by first | exact pos1 _ | omega, by first | (rw [hl']; exact le1 (Nat.le_trans gl (by decide))) | omega, d7, fun at8 H8 a0 a1 d8 b8 => ?_⟩
    have hR8 := b8 _ _ hR7 nrd
    refine ⟨_, rfl, _, rfl, _, rfl, r, _, rfl, .inl (SqL.of hR8), _, _, rfl, rfl, _, rfl, _, _, rfl, rfl, dr, sc, _, rfl, by omega, by omega, d8, fun i9 H9 c0 c1 d9 b9 => ?_⟩
    have hR9 := b9 _ _ hR8 nrd
    refine ⟨_, _, rfl, rfl, ?_⟩
    dsimp only [gName]
    refine tseq_split (t := tIfS _ _ _) (fun σ' H' => ∃ p q : Int, σ' = [some (.ref a), some (.ref dr), some (.ref r), some (.str x), some (.int wy), some (.int p), some (.int q), none, none, none, none, none] ∧ -1000 ≤ p ∧ p ≤ 1000 ∧ -1000 ≤ q ∧ q ≤ 1000 ∧ H' r = some (.lst (row.map V.str)) ∧ DrawOk H' dr sc) ?_ ?_
    rotate_left
    · intro nx hnx
      refine ⟨_, rfl, dr, sc, 4, rfl, by decide, by decide, d9, fun _ HA _ _ dA bA => ⟨rfl, _, rfl, ?_⟩⟩
      have hRA := bA _ _ hR9 nrd
      refine ite2b (fun _ => ?_) (fun _ => hnx _ _ ⟨_, _, rfl, by omega, by omega, by omega, by omega, hRA, dA⟩)
      refine ⟨_, rfl, _, rfl, r, _, rfl, .inl (SqL.of hRA), _, _, rfl, rfl, dr, sc, _, rfl, by first | exact pos5 _ | omega, by first | (rw [hl']; exact le5 (Nat.le_trans gl (by decide))) | omega, dA, fun p HB p0 p1 dB bB => ?_⟩
      have hRB := bB _ _ hRA nrd
      refine ⟨_, _, rfl, rfl, ?_⟩
      refine ⟨_, rfl, _, rfl, r, _, rfl, .inl (SqL.of hRB), _, _, rfl, rfl, dr, sc, _, rfl, by first | exact pos5 _ | omega, by first | (rw [hl']; exact le5 (Nat.le_trans gl (by decide))) | omega, dB, fun q HC q0 q1 dC bC => ?_⟩
      have hRC := bC _ _ hRB nrd
      exact ⟨_, _, rfl, rfl, hnx _ _ ⟨_, _, rfl, by omega, by omega, by omega, by omega, hRC, dC⟩⟩
    rintro σ' HA ⟨p, q, rfl, p0, p1, q0, q1, hRA, dA⟩
    clear hR7 hR8 hR9 d7 d8 d9 a0 a1 c0 c1
    refine ⟨_, rfl, r, _, rfl, .inl (SqL.of hRA), fun kp nkp => ?_⟩
    have sB : Same HA (upd HA kp (.lst (row.map V.str))) := (Same.refl HA).step nkp
    have hkB : upd HA kp (.lst (row.map V.str)) kp = some (.lst (row.map V.str)) := upd_same
    dsimp only [gName]
    generalize upd HA kp (.lst (row.map V.str)) = HB at sB hkB
    refine ⟨_, rfl, _, rfl, _, rfl, _, rfl, r, row, x, p, q, rfl, sB _ _ hRA, R2, gl, ax, p0, p1, q0, q1, fun o t v HC due ht hv sC => ?_⟩
    obtain ⟨pp, pd⟩ := po_ok due R2 ax.okN gl
    have hRC := sC _ _ (sB _ _ hRA)
    have hkC := sC _ _ hkB
    refine ⟨_, rfl, t, _, _, .str (wordO o), rfl, rfl, SqT.of ht, rfl, rfl, _, rfl, ?_⟩
    rw [vstr_dec]
    refine ite2b (fun e => ?_) (fun e => ?_)
    · have ne : o ≠ .told := fun z => by
        rw [z] at e
        revert e
        decide +kernel
      refine ⟨_, rfl, _, rfl, _, rfl, _, rfl, r, row, x, p, q, o, rfl, hRC, R2, gl, ax, p0, p1, q0, q1, due, ne, fun t2 v2 HD ht2 hv2 sD => ?_⟩
      refine ⟨_, rfl, poD o, poD o, po_at ht2 hv2, po_at (sD _ _ ht) (DAt.same sD _ _ hv), plain_lay _ pp, plain_lay _ pp, by first | exact Nat.le_trans (Nat.min_le_left _ _) pd | omega, ?_⟩
      rw [(eqv_iff _ _ pp pp).mpr rfl]
      refine ⟨_, rfl, iteT ?_⟩
      refine ⟨_, rfl, _, rfl, _, _, dat_lst (sD _ _ hRC) (dall_strs row), dat_lst (sD _ _ hkC) (dall_strs row), plain_lay _ (lst_plain R2.ok), plain_lay _ (lst_plain R2.ok), depth_lst _ _, ?_⟩
      rw [eqv_lst R2.ok]
      exact k _
    have ot : o = .told := wordO_told.mp (by simpa using e)
    subst ot
    obtain ⟨hn, nx, nf, ⟨z0, z1, z2⟩, nt⟩ := id due
    obtain ⟨p, rfl⟩ := Int.eq_ofNat_of_zero_le z0
    obtain ⟨q, rfl⟩ := Int.eq_ofNat_of_zero_le (Int.le_trans z0 z1)
    have hpq : p ≤ q := by first | exact Int.ofNat_le.mp z1 | omega
    obtain ⟨R2f, lf30⟩ := row2_put R2 ax.okN nx gl hpq
    have notO : ∀ {o' : PO}, plainO o' = true → ¬ PutDue row x p q o' := fun {o'} po z => by
      have := due.uniq z
      rw [← this] at po
      cases po
    have notB : ∀ {u v w : Str}, ¬ PutDue row x p q (.barred u v w) := fun z => by
      have := due.uniq z
      cases this
    have fx : (putR row x p q).filter (fun y => decide (y ≠ x)) = row := by
      rw [putR_filter hpq (by simp)]
      exact List.filter_eq_self.mpr fun y hy => decide_eq_true fun z => nx (z ▸ hy)
    have mx : x ∈ putR row x p q := (putR_perm row x p q hpq).mem_iff.mpr List.mem_cons_self
    refine ⟨_, rfl, _, rfl, _, rfl, _, rfl, r, row, x, p, q, rfl, hRC, R2, gl, ax, p0, p1, q0, q1, fun _ lf HD nlf hlf sD => ?_, fun o' po z => absurd z (notO po), fun u v w z => absurd z notB⟩
    rw [Int.toNat_natCast, Int.toNat_natCast] at hlf
    have dC : DrawOk HC dr sc := (dA.same sB).same sC
    refine ⟨_, rfl, lf, _, rfl, hlf, by first | exact Nat.le_trans lf30 (by decide) | omega, fun HE sE => ⟨_, rfl, ?_⟩⟩
    refine iteF ?_
    have hkE := sE _ _ (sD _ _ hkC)
    refine ⟨_, rfl, _, rfl, _, rfl, _, rfl, _, rfl, kp, row, x, p, q, rfl, hkE, by first | exact Nat.le_trans gl (by decide) | omega, hpq, by first | exact Int.ofNat_le.mp z2 | omega, fun l2 HF nl2 hl2 sF => ?_⟩
    have hlfF := sF _ _ (sE _ _ hlf)
    refine ⟨_, _, dat_lst hlfF (dall_strs _), dat_lst hl2 (dall_strs _), plain_lay _ (lst_plain R2f.ok), plain_lay _ (lst_plain R2f.ok), depth_lst _ _, _, rfl, ?_⟩
    rw [eqv_lst R2f.ok]
    refine iteF ?_
    have sCF := sD.trans (sE.trans sF)
    refine ⟨_, rfl, lf, _, rfl, .inl (SqL.of hlfF), by first | exact Nat.le_trans lf30 (by decide) | omega, fun ls HG nls hls sG => ?_⟩
    have sCG := sCF.trans sG
    have hlfG := sG _ _ hlfF
    refine ⟨ls, rfl, ⟨_, SqL.of hls⟩, ?_⟩
    refine for_list (K := K) (a := ls) (xs := (dit (putR row x p q)).map V.str) (fun i σ H3 => ∃ v10, σ = [some (.ref a), some (.ref dr), some (.ref r), some (.str x), some (.int wy), some (.int p), some (.int q), some (.ref kp), some (.ref t), some (.ref lf), v10, none] ∧ Same HG H3) ?_ ?_ ?_ ?_
    · exact ⟨_, rfl, Same.refl _⟩
    · rintro i σ H3 _ ⟨v10, rfl, s3⟩
      exact SqL.of (s3 _ _ hls)
    · rintro i z σ H3 hzi ⟨v10, rfl, s3⟩
      obtain ⟨z, rfl, hz1⟩ := getV hzi
      have hz : z ∈ putR row x p q := dit_mem.mp (List.mem_of_getElem? hz1)
      have hl3 := s3 _ _ hlfG
      refine ⟨_, rfl, _, rfl, lf, _, z, rfl, hl3, R2f.ok z hz, by first | exact Nat.le_trans lf30 (by decide) | omega, fun _ l4 H4 nl4 hl4 s4 => ?_, fun nz => absurd hz nz⟩
      have hlf4 := s4 _ _ hl3
      have ef : (fun y => decide (y ≠ z)) = fun y : Str => !decide (y = z) := funext fun y => decide_not
      rw [ef] at hl4
      refine ⟨_, rfl, lf, rfl, ⟨_, SqL.of hlf4⟩, ?_⟩
      have fok : ∀ y ∈ (putR row x p q).filter (fun y => !decide (y = z)), okN y := fun y hy => R2f.ok y (List.mem_filter.mp hy).1
      generalize putR row x p q = fo at hlf4 hl4 lf30 fok
      refine blk_pure (n := fo.length) (by first | exact Nat.lt_of_le_of_lt lf30 (by decide) | (rw [sizeLine_eq]; omega)) (fun j => .str (fo.getD j Str.empty)) (fun j => !decide (fo.getD j Str.empty = z)) (fun j => .str (fo.getD j Str.empty)) ?_ ?_ ?_ ?_ ?_
      · intro j H7 hj s7
        have := go_list (K := K) (SqL.of (s7 _ _ hlf4)) (show j < (fo.map V.str).length by rw [List.length_map]; exact hj)
        rwa [getD_map V.str Str.empty fo hj] at this
      · intro H7 s7
        have := st_list (K := K) (SqL.of (s7 _ _ hlf4))
        rwa [List.length_map] at this
      · intro j H7 Q' hj s7 kk
        refine ⟨_, rfl, _, rfl, rfl, _, rfl, ?_⟩
        rw [vstr_dec]
        exact kk H7 (Same.refl _)
      · exact fun j H7 Q' hj _ s7 kk => ⟨_, rfl, kk H7 (Same.refl _)⟩
      · intro D H7 nD s7 hD
        have hD' : H7 D = some (.lst ((fo.filter fun y => !decide (y = z)).map V.str)) := by
          rw [hD, ← filt_range Str.empty (fun y => !decide (y = z)) fo, List.map_map]
          rfl
        refine ⟨_, _, dat_lst (s7 _ _ hl4) (dall_strs _), dat_lst hD' (dall_strs _), plain_lay _ (lst_plain fok), plain_lay _ (lst_plain fok), depth_lst _ _, _, rfl, ?_⟩
        rw [eqv_lst fok]
        refine iteF ?_
        exact ⟨_, rfl, s3.trans (s4.trans s7)⟩
    rintro σ' HH ⟨v10, rfl, sH⟩
    have sCH := sCG.trans sH
    have nkd : kp ≠ dr := (dA.ne nkp).1
    have nfd : lf ≠ dr := (dC.ne nlf).1
    refine ⟨_, rfl, dr, sc, 13, rfl, by decide, dC.same sCH, fun r2 row2 n2 st2 late2 HI nr2 hn2 hst2 hr2 hp2 nT dI bI => ?_⟩
    have g2 : LR st2 late2 row2 := LR.of hst2 (by omega) hp2
    have l26 : row2.length ≤ 26 := by
      rw [hp2.length_eq, List.length_append]
      unfold namesAt
      rw [List.length_map, List.length_range]
      omega
    obtain ⟨as2, nm2, ns2⟩ := g2.str
    have R22 := g2.row2
    have half2 := dit_half R22
    have due2 : PutDue row2 (strangerOf row2) 0 0 .told := ⟨nm2, ns2, by omega, ⟨by decide, by decide, by omega⟩, noT_other R22 nT ns2 as2.okN (by first | exact Nat.le_trans l26 (by decide) | omega)⟩
    have okp : ∀ y ∈ [strangerOf row2, strangerOf row2] ++ row2, okN y := fun y hy => by
      simp at hy
      rcases hy with e | e
      · rw [e]; exact as2.okN
      · exact R22.ok y e
    have len2 : ∀ y ∈ row2, y.length ≤ 20 := fun y hy => (R22.ok y hy).1
    generalize hst : strangerOf row2 = z2 at due2 okp
    refine ⟨_, rfl, _, rfl, r2, row2, rfl, hr2, len2, fun HJ sJ => ?_⟩
    rw [hst]
    refine ⟨r2, row2, z2, 0, 0, rfl, sJ _ _ hr2, R22, by first | exact Nat.le_trans l26 (by decide) | omega, hst ▸ as2, by decide, by decide, by decide, by decide, fun _ l5 HK nl5 hl5 sK => ?_, fun o' po z => ?_, fun u v w z => ?_⟩
    rotate_left
    · have := due2.uniq z
      rw [← this] at po
      cases po
    · have := due2.uniq z
      cases this
    have hl5' : HK l5 = some (.lst (([z2, z2] ++ row2).map V.str)) := by rw [← put00]; exact hl5
    refine ⟨_, rfl, r2, row2, rfl, sK _ _ (sJ _ _ hr2), len2, fun HL sL => ?_⟩
    rw [hst]
    refine ⟨by show 1 ≤ sizeLine; decide, fun l6 nl6 => ?_⟩
    refine ⟨l6, 2, _, rfl, rfl, upd_same, by decide, by decide, by show 1 * 2 ≤ sizeLine; decide, fun l7 nl7 => ?_⟩
    have sM := ((Same.refl HL).step nl6 (o := .lst [.str z2])).step nl7 (o := .lst (List.replicate (2 : Int).toNat [.str z2]).flatten)
    have hr2L := sM _ _ (sL _ _ (sK _ _ (sJ _ _ hr2)))
    refine ⟨_, rfl, l7, r2, _, _, rfl, rfl, upd_same, hr2L, by rw [List.length_map]; show 2 + row2.length ≤ sizeLine; rw [sizeLine_eq]; omega, fun l8 nl8 => ?_⟩
    have sN := sM.step nl8 (o := .lst ((List.replicate (2 : Int).toNat [V.str z2]).flatten ++ row2.map V.str))
    have hl8 : upd (upd (upd HL l6 (.lst [.str z2])) l7 (.lst (List.replicate (2 : Int).toNat [V.str z2]).flatten)) l8 (.lst ((List.replicate (2 : Int).toNat [V.str z2]).flatten ++ row2.map V.str)) l8 = some (.lst (([z2, z2] ++ row2).map V.str)) := by
      rw [upd_same, List.map_append]
      rfl
    generalize upd (upd (upd HL l6 (.lst [.str z2])) l7 (.lst (List.replicate (2 : Int).toNat [V.str z2]).flatten)) l8 (.lst ((List.replicate (2 : Int).toNat [V.str z2]).flatten ++ row2.map V.str)) = HM at sN hl8
    have sJM := sJ.trans (sK.trans (sL.trans sN))
    refine ⟨_, _, dat_lst ((sL.trans sN) _ _ hl5') (dall_strs _), dat_lst hl8 (dall_strs _), plain_lay _ (lst_plain okp), plain_lay _ (lst_plain okp), depth_lst _ _, _, rfl, ?_⟩
    rw [eqv_lst okp]
    refine iteF ?_
    have hRM := sJM _ _ (bI _ _ (sCH _ _ hRC) nrd)
    have hkM := sJM _ _ (bI _ _ (sCH _ _ hkC) nkd)
    have hfM := sJM _ _ (bI _ _ ((sE.trans (sF.trans (sG.trans sH))) _ _ hlf) nfd)
    refine ⟨_, rfl, _, rfl, lf, _, x, rfl, hfM, ax.okN, by first | exact Nat.le_trans lf30 (by decide) | omega, fun _ l9 HN nl9 hl9 sO => ?_, fun nz => absurd mx nz⟩
    rw [fx] at hl9
    refine ⟨_, rfl, _, _, dat_lst hl9 (dall_strs _), dat_lst (sO _ _ hkM) (dall_strs _), plain_lay _ (lst_plain R2.ok), plain_lay _ (lst_plain R2.ok), depth_lst _ _, ?_⟩
    rw [eqv_lst R2.ok]
    refine ⟨_, rfl, iteT ?_⟩
    refine ⟨_, rfl, _, rfl, _, _, dat_lst (sO _ _ hRM) (dall_strs _), dat_lst (sO _ _ hkM) (dall_strs _), plain_lay _ (lst_plain R2.ok), plain_lay _ (lst_plain R2.ok), depth_lst _ _, ?_⟩
    rw [eqv_lst R2.ok]
    refine ⟨_, rfl, iteT ?_⟩
    refine ⟨_, rfl, _, rfl, _, rfl, _, rfl, r, row, x, p, q, rfl, sO _ _ hRM, R2, gl, ax, p0, p1, q0, q1, fun _ lX HX nlX hlX sX => ?_, fun o' po z => absurd z (notO po), fun u v w z => absurd z notB⟩
    rw [Int.toNat_natCast, Int.toNat_natCast] at hlX
    refine ⟨_, rfl, _, _, dat_lst hlX (dall_strs _), dat_lst (sX _ _ (sO _ _ hfM)) (dall_strs _), plain_lay _ (lst_plain R2f.ok), plain_lay _ (lst_plain R2f.ok), depth_lst _ _, ?_⟩
    rw [eqv_lst R2f.ok]
    exact k _
end
end K5

set_option Elab.async false
set_option linter.all false
set_option maxRecDepth 100000
set_option maxHeartbeats 4000000
namespace L2
open PySem
theorem len1 {us : List Value} (h : us.length = 1) : ∃ a, us = [a] := List.length_eq_one_iff.mp h
theorem len2 {us : List Value} (h : us.length = 2) : ∃ a b, us = [a, b] := by
  cases us with
  | nil => cases h
  | cons a r =>
    obtain ⟨b, rfl⟩ := len1 (Nat.succ.inj h)
    exact ⟨a, b, rfl⟩
theorem len3 {us : List Value} (h : us.length = 3) : ∃ a b c, us = [a, b, c] := by
  cases us with
  | nil => cases h
  | cons a r =>
    obtain ⟨b, c, rfl⟩ := len2 (Nat.succ.inj h)
    exact ⟨a, b, c, rfl⟩
theorem len4 {us : List Value} (h : us.length = 4) : ∃ a b c d, us = [a, b, c, d] := by
  cases us with
  | nil => cases h
  | cons a r =>
    obtain ⟨b, c, d, rfl⟩ := len3 (Nat.succ.inj h)
    exact ⟨a, b, c, d, rfl⟩
end L2
namespace K5
open PySem PySem.Spec PyProof.Rows L2 SH
theorem all_mk {P : Program} {w : World} {K : PySem.W.Frag} {h : Heap} {mg : Str → Option Value} {fa C_NoDitch C_BadName C_Taken C_Full C_NoPlace C_ShoreError : Addr} {C_Barred fI_Barred : Addr} {tkL tkM : Tok} (X : K.In h) (G : h.Ns mainGlobals mg) (hfa : mg "law" = some (.ref fa))
    (d_is_name : DefAt K "is_name" s_is_name)
    (d_ask_name : DefAt K "ask_name" s_ask_name)
    (d_ask_ditch : DefAt K "ask_ditch" sAsk)
    (d_ask_unbarred : DefAt K "ask_unbarred" s_ask_unbarred)
    (d_ditches : DefAt K "ditches" sDitches)
    (d_ends : DefAt K "ends" sEnds)
    (d_spans : DefAt K "spans" sSpans)
    (d_lie_of : DefAt K "lie_of" sLieOf)
    (d_crossings : DefAt K "crossings" sCross)
    (d_put_in : DefAt K "put_in" s_put_in)
    (d_left_out : DefAt K "left_out" sLeft)
    (d__law_is_name : DefAt K "_law_is_name" s__law_is_name)
    (d__law_where : DefAt K "_law_where" sWhere)
    (d__law_word : DefAt K "_law_word" sWord)
    (d__law_three : DefAt K "_law_three" s__law_three)
    (d__law_put : DefAt K "_law_put" sPut)
    (d__law_begin : DefAt K "_law_begin" sBegin)
    (d__law_pick : DefAt K "_law_pick" sPick)
    (d__law_barred : DefAt K "_law_barred" sBarred)
    (d__law_row : DefAt K "_law_row" sRow)
    (d__law_names : DefAt K "_law_names" sNames)
    (d__law_island : DefAt K "_law_island" sIsland)
    (d__law_stranger : DefAt K "_law_stranger" s__law_stranger)
    (d__law_bad_name : DefAt K "_law_bad_name" s__law_bad_name)
    (d__law_texts : DefAt K "_law_texts" sTexts)
    (d__law_said : DefAt K "_law_said" s__law_said)
    (d__law_due : DefAt K "_law_due" s__law_due)
    (d_law : DefAt K "law" s_law)
    (x_NoDitch : ExcAt K "NoDitch" C_NoDitch)
    (x_BadName : ExcAt K "BadName" C_BadName)
    (x_Taken : ExcAt K "Taken" C_Taken)
    (x_Full : ExcAt K "Full" C_Full)
    (x_NoPlace : ExcAt K "NoPlace" C_NoPlace)
    (x_ShoreError : ClsAt K "ShoreError" C_ShoreError)
    (x_Barred : InitAt K "Barred" "Barred.__init__" sInit "three" C_Barred fI_Barred C_ShoreError)
    (q_BadName_ShoreError : PySem.W.subIn K (.ref C_BadName) (.ref C_ShoreError) = some true) (n_BadName_ShoreError : C_BadName ≠ C_ShoreError)
    (q_Taken_ShoreError : PySem.W.subIn K (.ref C_Taken) (.ref C_ShoreError) = some true) (n_Taken_ShoreError : C_Taken ≠ C_ShoreError)
    (q_Full_ShoreError : PySem.W.subIn K (.ref C_Full) (.ref C_ShoreError) = some true) (n_Full_ShoreError : C_Full ≠ C_ShoreError)
    (q_NoPlace_ShoreError : PySem.W.subIn K (.ref C_NoPlace) (.ref C_ShoreError) = some true) (n_NoPlace_ShoreError : C_NoPlace ≠ C_ShoreError)
    (q_BadName_Barred : PySem.W.subIn K (.ref C_BadName) (.ref C_Barred) = some false) (n_BadName_Barred : C_BadName ≠ C_Barred)
    (q_Taken_Barred : PySem.W.subIn K (.ref C_Taken) (.ref C_Barred) = some false) (n_Taken_Barred : C_Taken ≠ C_Barred)
    (q_Full_Barred : PySem.W.subIn K (.ref C_Full) (.ref C_Barred) = some false) (n_Full_Barred : C_Full ≠ C_Barred)
    (q_NoPlace_Barred : PySem.W.subIn K (.ref C_NoPlace) (.ref C_Barred) = some false) (n_NoPlace_Barred : C_NoPlace ≠ C_Barred)
    (q_BadName_Taken : PySem.W.subIn K (.ref C_BadName) (.ref C_Taken) = some false) (n_BadName_Taken : C_BadName ≠ C_Taken)
    (q_BadName_Full : PySem.W.subIn K (.ref C_BadName) (.ref C_Full) = some false) (n_BadName_Full : C_BadName ≠ C_Full)
    (q_BadName_NoPlace : PySem.W.subIn K (.ref C_BadName) (.ref C_NoPlace) = some false) (n_BadName_NoPlace : C_BadName ≠ C_NoPlace)
    (q_Taken_BadName : PySem.W.subIn K (.ref C_Taken) (.ref C_BadName) = some false) (n_Taken_BadName : C_Taken ≠ C_BadName)
    (q_Taken_Full : PySem.W.subIn K (.ref C_Taken) (.ref C_Full) = some false) (n_Taken_Full : C_Taken ≠ C_Full)
    (q_Taken_NoPlace : PySem.W.subIn K (.ref C_Taken) (.ref C_NoPlace) = some false) (n_Taken_NoPlace : C_Taken ≠ C_NoPlace)
    (q_Full_BadName : PySem.W.subIn K (.ref C_Full) (.ref C_BadName) = some false) (n_Full_BadName : C_Full ≠ C_BadName)
    (q_Full_Taken : PySem.W.subIn K (.ref C_Full) (.ref C_Taken) = some false) (n_Full_Taken : C_Full ≠ C_Taken)
    (q_Full_NoPlace : PySem.W.subIn K (.ref C_Full) (.ref C_NoPlace) = some false) (n_Full_NoPlace : C_Full ≠ C_NoPlace)
    (q_NoPlace_BadName : PySem.W.subIn K (.ref C_NoPlace) (.ref C_BadName) = some false) (n_NoPlace_BadName : C_NoPlace ≠ C_BadName)
    (q_NoPlace_Taken : PySem.W.subIn K (.ref C_NoPlace) (.ref C_Taken) = some false) (n_NoPlace_Taken : C_NoPlace ≠ C_Taken)
    (q_NoPlace_Full : PySem.W.subIn K (.ref C_NoPlace) (.ref C_Full) = some false) (n_NoPlace_Full : C_NoPlace ≠ C_Full)
    (sS : PySem.W.subIn K (.ref C_ShoreError) (.type "BaseException") = some true)
    (cL : PySem.W.nsIn K mainGlobals "LONGEST_NAME" = some (some (.int 8 tkL)))
    (cM : PySem.W.nsIn K mainGlobals "MOST_DITCHES" = some (some (.int 14 tkM)))
    (z_len : PySem.W.nsIn K mainGlobals "len" = some none)
    (z_range : PySem.W.nsIn K mainGlobals "range" = some none)
    (z_list : PySem.W.nsIn K mainGlobals "list" = some none)
    (z_min : PySem.W.nsIn K mainGlobals "min" = some none)
    (z_isinstance : PySem.W.nsIn K mainGlobals "isinstance" = some none)
    (z_all : PySem.W.nsIn K mainGlobals "all" = some none)
    (z_str : PySem.W.nsIn K mainGlobals "str" = some none)
    (z_ValueError : PySem.W.nsIn K mainGlobals "ValueError" = some none)
    (z_sorted : PySem.W.nsIn K mainGlobals "sorted" = some none)
    (z_set : PySem.W.nsIn K mainGlobals "set" = some none)
    (z_enumerate : PySem.W.nsIn K mainGlobals "enumerate" = some none)
    (z_int : PySem.W.nsIn K mainGlobals "int" = some none)
    (z_bool : PySem.W.nsIn K mainGlobals "bool" = some none)
    (z_tuple : PySem.W.nsIn K mainGlobals "tuple" = some none)
    (z_any : PySem.W.nsIn K mainGlobals "any" = some none)
    (z_dict : PySem.W.nsIn K mainGlobals "dict" = some none)
    (z_sum : PySem.W.nsIn K mainGlobals "sum" = some none)
    (z_max : PySem.W.nsIn K mainGlobals "max" = some none)
    : ∃ fd : FuncData, (∀ (s : Shared) (v : Value), BindsTo s fd ⟨[v], []⟩ [("_law_script", v)]) ∧ ∀ base : Heap, K.In base → base.Ns mainGlobals mg → FnOk P w K mg base CX0 8 fa fd ["_law_script"] (spLaw K) := by
  have T : Bl mg := ⟨PySem.W.mg_none_of X G z_len, PySem.W.mg_none_of X G z_range, PySem.W.mg_none_of X G z_list, PySem.W.mg_none_of X G z_min, PySem.W.mg_none_of X G z_isinstance, PySem.W.mg_none_of X G z_all, PySem.W.mg_none_of X G z_str, PySem.W.mg_none_of X G z_ValueError, PySem.W.mg_none_of X G z_sorted, PySem.W.mg_none_of X G z_set, PySem.W.mg_none_of X G z_enumerate, PySem.W.mg_none_of X G z_int, PySem.W.mg_none_of X G z_bool, PySem.W.mg_none_of X G z_tuple, PySem.W.mg_none_of X G z_any, PySem.W.mg_none_of X G z_dict, PySem.W.mg_none_of X G z_sum, PySem.W.mg_none_of X G z_max⟩
  obtain ⟨f, fd, a, hk, F⟩ := d_law.ex
  have e := hfa.symm.trans (PySem.W.mg_of X G a)
  cases e
  refine ⟨fd, ?_, fun base hB hG => ?_⟩
  · obtain ⟨oc, od, kV, doc, pm, an, cdv, ct, osl, rfl, lk, hcd⟩ := F.ex
    exact fun s v => .of_eq rfl
  · have FB : Fn P w K mg base CX0 1 "_law_begin" ["_law_script"] (spBegin K) := Fn.of X G d__law_begin (fun _ _ _ _ _ _ us hl => by obtain ⟨a, rfl⟩ := L2.len1 hl; rfl) fun f fd F => ok_begin F T
    have FP : FnPick P w K mg base := Fn.of X G d__law_pick (fun _ _ _ _ _ _ us hl => by obtain ⟨a, b, rfl⟩ := L2.len2 hl; rfl) fun f fd F => ok_pick F T
    have FU : Fn P w K mg base CX0 1 "_law_put" ["_law_row_here", "_law_name", "_law_at", "_law_to"] spPut := Fn.of X G d__law_put (fun _ _ _ _ _ _ us hl => by obtain ⟨a, b, c, d, rfl⟩ := L2.len4 hl; rfl) fun f fd F => ok_put F
    have FW : Fn P w K mg base CX0 1 "_law_where" ["_law_row_here"] spWhere := Fn.of X G d__law_where (fun _ _ _ _ _ _ us hl => by obtain ⟨a, rfl⟩ := L2.len1 hl; rfl) fun f fd F => ok_where F T
    have FO : Fn P w K mg base CX0 1 "_law_word" ["_law_where_here", "_law_one", "_law_other"] spWord := Fn.of X G d__law_word (fun _ _ _ _ _ _ us hl => by obtain ⟨a, b, c, rfl⟩ := L2.len3 hl; rfl) fun f fd F => ok_word F T
    have FA : Fn P w K mg base CX0 2 "_law_barred" ["_law_row_here", "_law_name"] spBarredN := Fn.of X G d__law_barred (fun _ _ _ _ _ _ us hl => by obtain ⟨a, b, rfl⟩ := L2.len2 hl; rfl) fun f fd F => ok_barred F T FW FO
    have FR : Fn P w K mg base CX0 3 "_law_row" ["_law_draw", "_law_names_here"] spRowN := Fn.of X G d__law_row (fun _ _ _ _ _ _ us hl => by obtain ⟨a, b, rfl⟩ := L2.len2 hl; rfl) fun f fd F => ok_row F T FP FU FA
    have FN : Fn P w K mg base CX0 2 "_law_names" ["_law_draw", "_law_many"] spNames := Fn.of X G d__law_names (fun _ _ _ _ _ _ us hl => by obtain ⟨a, b, rfl⟩ := L2.len2 hl; rfl) fun f fd F => ok_names F T FP
    have FI : Fn P w K mg base CX0 4 "_law_island" ["_law_draw", "_law_most"] spIslandN := Fn.of X G d__law_island (fun _ _ _ _ _ _ us hl => by obtain ⟨a, b, rfl⟩ := L2.len2 hl; rfl) fun f fd F => ok_island F T FP FN FR
    have FX : Fn P w K mg base CX0 1 "_law_texts" ["_law_found"] spTexts := Fn.of X G d__law_texts (fun _ _ _ _ _ _ us hl => by obtain ⟨a, rfl⟩ := L2.len1 hl; rfl) fun f fd F => ok_texts F T
    have FK : Fn P w K mg base (CX1 P w) 1 "ask_ditch" ["row", "name"] (spAsk C_NoDitch) := Fn.of X G d_ask_ditch (fun _ _ _ _ _ _ us hl => by obtain ⟨a, b, rfl⟩ := L2.len2 hl; rfl) fun f fd F => ok_ask F (PySem.W.mg_of X G x_NoDitch.a) x_NoDitch.e
    have FD : Fn P w K mg base CX0 1 "ditches" ["row"] spDitches := Fn.of X G d_ditches (fun _ _ _ _ _ _ us hl => by obtain ⟨a, rfl⟩ := L2.len1 hl; rfl) fun f fd F => ok_ditches F T
    have FE : Fn P w K mg base (CX1 P w) 2 "ends" ["row", "name"] (spEnds C_NoDitch) := Fn.of X G d_ends (fun _ _ _ _ _ _ us hl => by obtain ⟨a, b, rfl⟩ := L2.len2 hl; rfl) fun f fd F => ok_ends F T FK
    have FSp : Fn P w K mg base CX0 3 "spans" ["row"] spSpans := Fn.of X G d_spans (fun _ _ _ _ _ _ us hl => by obtain ⟨a, rfl⟩ := L2.len1 hl; rfl) fun f fd F => ok_spans F FD FE
    have FLo : Fn P w K mg base CX0 2 "lie_of" ["here", "there"] spLieOf := Fn.of X G d_lie_of (fun _ _ _ _ _ _ us hl => by obtain ⟨a, b, rfl⟩ := L2.len2 hl; rfl) fun f fd F => ok_lieof F
    have FCr : Fn P w K mg base CX0 4 "crossings" ["row"] spCrossings := Fn.of X G d_crossings (fun _ _ _ _ _ _ us hl => by obtain ⟨a, rfl⟩ := L2.len1 hl; rfl) fun f fd F => ok_crossings F FSp FLo
    have FL : Fn P w K mg base (CX1 P w) 2 "left_out" ["row", "name"] (spLeft C_NoDitch) := Fn.of X G d_left_out (fun _ _ _ _ _ _ us hl => by obtain ⟨a, b, rfl⟩ := L2.len2 hl; rfl) fun f fd F => ok_left F FK
    have FIn : Fn P w K mg base CX0 1 "is_name" ["text"] spIsName := Fn.of X G d_is_name (fun _ _ _ _ _ _ us hl => by obtain ⟨a, rfl⟩ := L2.len1 hl; rfl) fun f fd F => ok_isname F T (PySem.W.mg_of X G cL)
    have FAn : Fn P w K mg base (CX2 P w) 2 "ask_name" ["name"] (spAskName C_BadName) := Fn.of X G d_ask_name (fun _ _ _ _ _ _ us hl => by obtain ⟨a, rfl⟩ := L2.len1 hl; rfl) fun f fd F => ok_askname F (PySem.W.mg_of X G x_BadName.a) x_BadName.e (PySem.W.mg_of X G cL) FIn
    obtain ⟨fdI, FIi⟩ := x_Barred.m
    have FIk : FnOk P w K mg base CX0 1 fI_Barred fdI ["self", "three"] (spInit K "three") := ok_init FIi
    have FIb : Binds K fdI ["self", "three"] [] := FIi.binds (fun _ _ _ _ _ _ us hl => by obtain ⟨a, b, rfl⟩ := L2.len2 hl; rfl)
    have FUb : Fn P w K mg base (CX2 P w) 5 "ask_unbarred" ["row"] (spUnb C_Barred) := Fn.of X G d_ask_unbarred (fun _ _ _ _ _ _ us hl => by obtain ⟨a, rfl⟩ := L2.len1 hl; rfl) fun f fd F => ok_unb (kI := 0) F (PySem.W.mg_of X G x_Barred.a) x_Barred.e x_Barred.k FIk FIb FCr
    have FPi : Fn P w K mg base (CX2 P w) 6 "put_in" ["row", "name", "at", "to"] (spPutIn (⟨C_BadName, C_Taken, C_Full, C_NoPlace, C_Barred⟩ : PutC)) := Fn.of X G d_put_in (fun _ _ _ _ _ _ us hl => by obtain ⟨a, b, c, d, rfl⟩ := L2.len4 hl; rfl) fun f fd F => ok_putin (C := (⟨C_BadName, C_Taken, C_Full, C_NoPlace, C_Barred⟩ : PutC)) F T (PySem.W.mg_of X G x_Taken.a) x_Taken.e (PySem.W.mg_of X G x_Full.a) x_Full.e (PySem.W.mg_of X G x_NoPlace.a) x_NoPlace.e (PySem.W.mg_of X G cM) FAn FD FUb
    have hPK : PutK K (⟨C_BadName, C_Taken, C_Full, C_NoPlace, C_Barred⟩ : PutC) C_ShoreError := PutK.of (C := (⟨C_BadName, C_Taken, C_Full, C_NoPlace, C_Barred⟩ : PutC)) x_BadName x_Taken x_Full x_NoPlace x_Barred x_ShoreError.ic x_ShoreError.ty sS q_BadName_ShoreError q_Taken_ShoreError q_Full_ShoreError q_NoPlace_ShoreError q_BadName_Barred q_Taken_Barred q_Full_Barred q_NoPlace_Barred q_BadName_Taken q_BadName_Full q_BadName_NoPlace q_Taken_BadName q_Taken_Full q_Taken_NoPlace q_Full_BadName q_Full_Taken q_Full_NoPlace q_NoPlace_BadName q_NoPlace_Taken q_NoPlace_Full n_BadName_Taken n_BadName_Full n_BadName_NoPlace n_Taken_Full n_Taken_NoPlace n_Full_NoPlace
    have FLn : Fn P w K mg base CX0 1 "_law_is_name" ["_law_text"] spIsName := Fn.of X G d__law_is_name (fun _ _ _ _ _ _ us hl => by obtain ⟨a, rfl⟩ := L2.len1 hl; rfl) fun f fd F => ok_lisname F T
    have FTh : Fn P w K mg base CX0 2 "_law_three" ["_law_row_here"] spThr := Fn.of X G d__law_three (fun _ _ _ _ _ _ us hl => by obtain ⟨a, rfl⟩ := L2.len1 hl; rfl) fun f fd F => ok_thr F T FW FO
    have FLd : Fn P w K mg base CX0 3 "_law_due" ["_law_row_here", "_law_name", "_law_at", "_law_to"] spLDue := Fn.of X G d__law_due (fun _ _ _ _ _ _ us hl => by obtain ⟨a, b, c, d, rfl⟩ := L2.len4 hl; rfl) fun f fd F => ok_ldue F T FLn FTh FU
    have FSd : Fn P w K mg base CX0 7 "_law_said" ["_law_row_here", "_law_name", "_law_at", "_law_to"] spSaid5 := Fn.of X G d__law_said (fun _ _ _ _ _ _ us hl => by obtain ⟨a, b, c, d, rfl⟩ := L2.len4 hl; rfl) fun f fd F => by
      obtain ⟨fa, fda, hma, hka, hba, hFa⟩ := FPi.ex
      exact ok_said (C := (⟨C_BadName, C_Taken, C_Full, C_NoPlace, C_Barred⟩ : PutC)) F T (PySem.W.mg_of X G x_ShoreError.a) (PySem.W.mg_of X G x_Barred.a) (PySem.W.mg_of X G x_BadName.a) (PySem.W.mg_of X G x_Taken.a) (PySem.W.mg_of X G x_Full.a) (PySem.W.mg_of X G x_NoPlace.a) hma hka hba hFa hPK
    have FS : Fn P w K mg base CX0 1 "_law_stranger" ["_law_row_here"] spStranger := Fn.of X G d__law_stranger (fun _ _ _ _ _ _ us hl => by obtain ⟨a, rfl⟩ := L2.len1 hl; rfl) fun f fd F => ok_stranger F
    have FBd : Fn P w K mg base CX0 2 "_law_bad_name" ["_law_draw"] spBad := Fn.of X G d__law_bad_name (fun _ _ _ _ _ _ us hl => by obtain ⟨a, rfl⟩ := L2.len1 hl; rfl) fun f fd F => ok_bad F FP
    exact ok_law (C := (⟨C_BadName, C_Taken, C_Full, C_NoPlace, C_Barred⟩ : PutC)) F T FB FP FI FR FN FS FBd FX FLd FSd FPi FU FL
theorem walk {l : PySem.W.OpenLaw} {q : Program} {loose : List Str} {XP : (Str → Option Value) → Heap → Prop} {YP : World → Heap → Prop} {d : DefRec} {K : Params → PySem.W.Frag} (hn : l.most = some 63) (hdf : d.params.defaults = [])
    (hY : ∀ (w : World) (h : Heap), YP w h → (K w.params).In h)
    (F : ∀ (w : World) (mg : Str → Option Value) (fa : Addr) (h : Heap), (K w.params).In h → h.Ns mainGlobals mg → mg d.name = some (.ref fa) →
      ∃ fd : FuncData, (∀ (s : Shared) (u : Value), BindsTo s fd ⟨[u], []⟩ [("_law_script", u)]) ∧ ∀ base : Heap, (K w.params).In base → base.Ns mainGlobals mg → FnOk l.prog w (K w.params) mg base CX0 8 fa fd ["_law_script"] (spLaw (K w.params))) :
    PySem.W.WalkO q loose XP YP l.row.toRowW d [] (fun f vs => PySem.call f vs) :=
  L2.walk_of (n := 63) (k := 8) (x := "_law_script") (CX := fun _ => CX0) (sp := fun w => spLaw (K w.params)) hn (by decide) hdf ⟨rfl, by decide, by decide, rfl⟩ hY F (fun _ _ a ns hl _ hS => ⟨a, ns, rfl, hS, hl, fun _ => rfl⟩) fun _ _ _ _ _ z => z
end K5
open PySem PySem.W PyProof.Rows
set_option maxRecDepth 100000 in
set_option maxHeartbeats 0 in
theorem PySem.Challenge.cw_shoretold_k05_a_ditch_put_in_holds : PySem.Challenge.rw_shoretold_k05_a_ditch_put_in.Holds := by
  w_on; o_law; k_head; (case hw => w_witness2)
  k_fill
  refine K5.walk (l := PySem.Challenge.rw_shoretold_k05_a_ditch_put_in) rfl rfl (fun w h Y => PySem.W.kIn_of Y) ?F
  case F =>
    intro w mg fa h KX G hmg
    refine' K5.all_mk KX G hmg ?d_is_name ?d_ask_name ?d_ask_ditch ?d_ask_unbarred ?d_ditches ?d_ends ?d_spans ?d_lie_of ?d_crossings ?d_put_in ?d_left_out ?d__law_is_name ?d__law_where ?d__law_word ?d__law_three ?d__law_put ?d__law_begin ?d__law_pick ?d__law_barred ?d__law_row ?d__law_names ?d__law_island ?d__law_stranger ?d__law_bad_name ?d__law_texts ?d__law_said ?d__law_due ?d_law ?x_NoDitch ?x_BadName ?x_Taken ?x_Full ?x_NoPlace ?x_ShoreError ?x_Barred ?q_BadName_ShoreError ?n_BadName_ShoreError ?q_Taken_ShoreError ?n_Taken_ShoreError ?q_Full_ShoreError ?n_Full_ShoreError ?q_NoPlace_ShoreError ?n_NoPlace_ShoreError ?q_BadName_Barred ?n_BadName_Barred ?q_Taken_Barred ?n_Taken_Barred ?q_Full_Barred ?n_Full_Barred ?q_NoPlace_Barred ?n_NoPlace_Barred ?q_BadName_Taken ?n_BadName_Taken ?q_BadName_Full ?n_BadName_Full ?q_BadName_NoPlace ?n_BadName_NoPlace ?q_Taken_BadName ?n_Taken_BadName ?q_Taken_Full ?n_Taken_Full ?q_Taken_NoPlace ?n_Taken_NoPlace ?q_Full_BadName ?n_Full_BadName ?q_Full_Taken ?n_Full_Taken ?q_Full_NoPlace ?n_Full_NoPlace ?q_NoPlace_BadName ?n_NoPlace_BadName ?q_NoPlace_Taken ?n_NoPlace_Taken ?q_NoPlace_Full ?n_NoPlace_Full ?sS ?cL ?cM ?z_len ?z_range ?z_list ?z_min ?z_isinstance ?z_all ?z_str ?z_ValueError ?z_sorted ?z_set ?z_enumerate ?z_int ?z_bool ?z_tuple ?z_any ?z_dict ?z_sum ?z_max
    (case d_is_name => (refine' L2.DefAt.of ?a ?l ?c ?k; (case a => k_is); (case l => k_is); (case c => k_is); (case k => k_is)))
    (case d_ask_name => (refine' L2.DefAt.of ?a ?l ?c ?k; (case a => k_is); (case l => k_is); (case c => k_is); (case k => k_is)))
    (case d_ask_ditch => (refine' L2.DefAt.of ?a ?l ?c ?k; (case a => k_is); (case l => k_is); (case c => k_is); (case k => k_is)))
    (case d_ask_unbarred => (refine' L2.DefAt.of ?a ?l ?c ?k; (case a => k_is); (case l => k_is); (case c => k_is); (case k => k_is)))
    (case d_ditches => (refine' L2.DefAt.of ?a ?l ?c ?k; (case a => k_is); (case l => k_is); (case c => k_is); (case k => k_is)))
    (case d_ends => (refine' L2.DefAt.of ?a ?l ?c ?k; (case a => k_is); (case l => k_is); (case c => k_is); (case k => k_is)))
    (case d_spans => (refine' L2.DefAt.of ?a ?l ?c ?k; (case a => k_is); (case l => k_is); (case c => k_is); (case k => k_is)))
    (case d_lie_of => (refine' L2.DefAt.of ?a ?l ?c ?k; (case a => k_is); (case l => k_is); (case c => k_is); (case k => k_is)))
    (case d_crossings => (refine' L2.DefAt.of ?a ?l ?c ?k; (case a => k_is); (case l => k_is); (case c => k_is); (case k => k_is)))
    (case d_put_in => (refine' L2.DefAt.of ?a ?l ?c ?k; (case a => k_is); (case l => k_is); (case c => k_is); (case k => k_is)))
    (case d_left_out => (refine' L2.DefAt.of ?a ?l ?c ?k; (case a => k_is); (case l => k_is); (case c => k_is); (case k => k_is)))
    (case d__law_is_name => (refine' L2.DefAt.of ?a ?l ?c ?k; (case a => k_is); (case l => k_is); (case c => k_is); (case k => k_is)))
    (case d__law_where => (refine' L2.DefAt.of ?a ?l ?c ?k; (case a => k_is); (case l => k_is); (case c => k_is); (case k => k_is)))
    (case d__law_word => (refine' L2.DefAt.of ?a ?l ?c ?k; (case a => k_is); (case l => k_is); (case c => k_is); (case k => k_is)))
    (case d__law_three => (refine' L2.DefAt.of ?a ?l ?c ?k; (case a => k_is); (case l => k_is); (case c => k_is); (case k => k_is)))
    (case d__law_put => (refine' L2.DefAt.of ?a ?l ?c ?k; (case a => k_is); (case l => k_is); (case c => k_is); (case k => k_is)))
    (case d__law_begin => (refine' L2.DefAt.of ?a ?l ?c ?k; (case a => k_is); (case l => k_is); (case c => k_is); (case k => k_is)))
    (case d__law_pick => (refine' L2.DefAt.of ?a ?l ?c ?k; (case a => k_is); (case l => k_is); (case c => k_is); (case k => k_is)))
    (case d__law_barred => (refine' L2.DefAt.of ?a ?l ?c ?k; (case a => k_is); (case l => k_is); (case c => k_is); (case k => k_is)))
    (case d__law_row => (refine' L2.DefAt.of ?a ?l ?c ?k; (case a => k_is); (case l => k_is); (case c => k_is); (case k => k_is)))
    (case d__law_names => (refine' L2.DefAt.of ?a ?l ?c ?k; (case a => k_is); (case l => k_is); (case c => k_is); (case k => k_is)))
    (case d__law_island => (refine' L2.DefAt.of ?a ?l ?c ?k; (case a => k_is); (case l => k_is); (case c => k_is); (case k => k_is)))
    (case d__law_stranger => (refine' L2.DefAt.of ?a ?l ?c ?k; (case a => k_is); (case l => k_is); (case c => k_is); (case k => k_is)))
    (case d__law_bad_name => (refine' L2.DefAt.of ?a ?l ?c ?k; (case a => k_is); (case l => k_is); (case c => k_is); (case k => k_is)))
    (case d__law_texts => (refine' L2.DefAt.of ?a ?l ?c ?k; (case a => k_is); (case l => k_is); (case c => k_is); (case k => k_is)))
    (case d__law_said => (refine' L2.DefAt.of ?a ?l ?c ?k; (case a => k_is); (case l => k_is); (case c => k_is); (case k => k_is)))
    (case d__law_due => (refine' L2.DefAt.of ?a ?l ?c ?k; (case a => k_is); (case l => k_is); (case c => k_is); (case k => k_is)))
    (case d_law => (refine' L2.DefAt.of ?a ?l ?c ?k; (case a => k_is); (case l => k_is); (case c => k_is); (case k => k_is)))
    (case x_NoDitch => (refine' ⟨?a, ?e, ?ga, ?gn, ?cl, ?sb, ?so, ?sv, ?ss, ?ic, ?ty⟩; (case a => k_is); (case e => k_exc); (case ga => k_is); (case gn => k_is); (case cl => k_is); (case sb => k_is); (case so => k_is); (case sv => k_is); (case ss => k_is); (case ic => k_is); (case ty => k_is)))
    (case x_BadName => (refine' ⟨?a, ?e, ?ga, ?gn, ?cl, ?sb, ?so, ?sv, ?ss, ?ic, ?ty⟩; (case a => k_is); (case e => k_exc); (case ga => k_is); (case gn => k_is); (case cl => k_is); (case sb => k_is); (case so => k_is); (case sv => k_is); (case ss => k_is); (case ic => k_is); (case ty => k_is)))
    (case x_Taken => (refine' ⟨?a, ?e, ?ga, ?gn, ?cl, ?sb, ?so, ?sv, ?ss, ?ic, ?ty⟩; (case a => k_is); (case e => k_exc); (case ga => k_is); (case gn => k_is); (case cl => k_is); (case sb => k_is); (case so => k_is); (case sv => k_is); (case ss => k_is); (case ic => k_is); (case ty => k_is)))
    (case x_Full => (refine' ⟨?a, ?e, ?ga, ?gn, ?cl, ?sb, ?so, ?sv, ?ss, ?ic, ?ty⟩; (case a => k_is); (case e => k_exc); (case ga => k_is); (case gn => k_is); (case cl => k_is); (case sb => k_is); (case so => k_is); (case sv => k_is); (case ss => k_is); (case ic => k_is); (case ty => k_is)))
    (case x_NoPlace => (refine' ⟨?a, ?e, ?ga, ?gn, ?cl, ?sb, ?so, ?sv, ?ss, ?ic, ?ty⟩; (case a => k_is); (case e => k_exc); (case ga => k_is); (case gn => k_is); (case cl => k_is); (case sb => k_is); (case so => k_is); (case sv => k_is); (case ss => k_is); (case ic => k_is); (case ty => k_is)))
    (case x_ShoreError => (refine' ⟨?a, ?ic, ?ty⟩; (case a => k_is); (case ic => k_is); (case ty => k_is)))
    (case x_Barred => (refine' L2.InitAt.of ?a ?i ?l ?c ?k ?e ?ga ?gn ?cl ?sb ?so ?ss ?ic ?ty ?sa ?no ?mr; (case a => k_is); (case i => k_is); (case l => k_is); (case c => k_is); (case k => k_is); (case e => kernel_rfl); (case ga => k_is); (case gn => k_is); (case cl => k_is); (case sb => k_is); (case so => k_is); (case ss => k_is); (case ic => k_is); (case ty => k_is); (case sa => k_is); (case no => k_is); (case mr => kernel_rfl)))
    (case q_BadName_ShoreError => k_is); (case n_BadName_ShoreError => decide)
    (case q_Taken_ShoreError => k_is); (case n_Taken_ShoreError => decide)
    (case q_Full_ShoreError => k_is); (case n_Full_ShoreError => decide)
    (case q_NoPlace_ShoreError => k_is); (case n_NoPlace_ShoreError => decide)
    (case q_BadName_Barred => k_is); (case n_BadName_Barred => decide)
    (case q_Taken_Barred => k_is); (case n_Taken_Barred => decide)
    (case q_Full_Barred => k_is); (case n_Full_Barred => decide)
    (case q_NoPlace_Barred => k_is); (case n_NoPlace_Barred => decide)
    (case q_BadName_Taken => k_is); (case n_BadName_Taken => decide)
    (case q_BadName_Full => k_is); (case n_BadName_Full => decide)
    (case q_BadName_NoPlace => k_is); (case n_BadName_NoPlace => decide)
    (case q_Taken_BadName => k_is); (case n_Taken_BadName => decide)
    (case q_Taken_Full => k_is); (case n_Taken_Full => decide)
    (case q_Taken_NoPlace => k_is); (case n_Taken_NoPlace => decide)
    (case q_Full_BadName => k_is); (case n_Full_BadName => decide)
    (case q_Full_Taken => k_is); (case n_Full_Taken => decide)
    (case q_Full_NoPlace => k_is); (case n_Full_NoPlace => decide)
    (case q_NoPlace_BadName => k_is); (case n_NoPlace_BadName => decide)
    (case q_NoPlace_Taken => k_is); (case n_NoPlace_Taken => decide)
    (case q_NoPlace_Full => k_is); (case n_NoPlace_Full => decide)
    (case sS => k_is)
    (case cL => k_is)
    (case cM => k_is)
    (case z_len => k_is); (case z_range => k_is); (case z_list => k_is); (case z_min => k_is); (case z_isinstance => k_is); (case z_all => k_is); (case z_str => k_is); (case z_ValueError => k_is); (case z_sorted => k_is); (case z_set => k_is); (case z_enumerate => k_is); (case z_int => k_is); (case z_bool => k_is); (case z_tuple => k_is); (case z_any => k_is); (case z_dict => k_is); (case z_sum => k_is); (case z_max => k_is)
#print axioms PySem.Challenge.cw_shoretold_k05_a_ditch_put_in_holds

