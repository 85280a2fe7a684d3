import PyProof.Rows.All
import Wide.All
import OpenK.AllK
import Wide.FinOn
import Lean
import PyProof.EqAt
import PyProof.EqKinds
import PyProof.TupleCall
import KE.KDictOf
import KE.KRevIter
import KE.KMinKey
import KE.KTryDeep
import KE.KIsAll
import KE.KSortTup
import OpenK.KTop
import KE.KEqDict
import PySem.Challenge.RW_nonebetter_k12_whole_what_is_let_by_is_s
noncomputable section
abbrev Fg := PySem.W.Frag
section
open PySem PySem.Spec PySem.W PyProof.Rows
abbrev jQ := @List.length_map
abbrev jX := @wpAny_bind
abbrev jY := @List.getD_eq_getElem?_getD
abbrev jZ := @Heap.get?_push_of_some
abbrev jJ := @Nat.le_refl
abbrev jK := @List.getElem?_map
abbrev jV := @List.size_toArray
abbrev jW := @wpAny_pure
abbrev kQ := @List.length_append
abbrev kX := @List.mem_of_getElem?
abbrev kY := @decide_eq_true
abbrev kZ := @Bool.false_ne_true
abbrev kJ := @Heap.lt_size
abbrev kK := @List.length_cons
abbrev kW := @List.map_append
abbrev yQ := @List.getElem?_eq_some_iff
abbrev yX := @List.length_take
abbrev yY := @decide_eq_false
abbrev yZ := @Heap.get?_push_size
abbrev yJ := @Option.map_eq_some_iff
abbrev yK := @List.mem_singleton
abbrev yV := @of_decide_eq_true
abbrev yW := @List.mem_cons_of_mem
abbrev zQ := @List.mem_cons_self
abbrev zX := @List.mem_cons
abbrev zY := @Option.bind_eq_some_iff
abbrev zZ := @List.map_cons
abbrev zJ := @Nat.ne_of_lt
abbrev zK := @List.length_replicate
abbrev zV := @List.mem_append
abbrev zW := @List.eq_nil_of_length_eq_zero
abbrev xQ := @List.take_of_length_le
abbrev xX := @Nat.lt_of_lt_of_le
abbrev xY := @List.mem_append_right
abbrev xZ := @List.length_set
abbrev xJ := @List.length_nil
abbrev xK := @Bool.and_eq_true
abbrev xV := @List.all_eq_true
abbrev xW := @List.take_length
abbrev wQ := @List.mem_nil_iff
abbrev wX := @List.mem_range
abbrev wY := @Bool.eq_iff_iff
abbrev wZ := @List.getElem_mem
abbrev wJ := @List.replicate_succ
abbrev wK := @List.mem_map
abbrev wV := @Nat.lt_of_le_of_lt
abbrev wW := @Nat.le_trans
abbrev jQa := @Heap.get?_update_other
abbrev jQb := @List.getElem?_eq_none_iff
abbrev jQc := @Array.length_toList
abbrev jQd := @List.length_range
abbrev jQe := @List.mem_append_left
abbrev jQf := @Nat.add_le_add_left
abbrev jXa := @Int.emod_lt_of_pos
abbrev jXb := @List.getElem?_take_of_lt
abbrev jXc := @Nat.zero_le
abbrev jXd := @List.mem_iff_getElem
abbrev jXe := @List.nodup_cons
abbrev jXf := @List.foldl_cons
abbrev jYa := @Array.getD_eq_getD_getElem?
abbrev jYb := @Nat.lt_irrefl
abbrev jYc := @Int.le_refl
abbrev jYd := @List.sum_cons
abbrev jYe := @List.length_drop
abbrev jYf := @List.lookup_cons
abbrev jZa := @List.getElem?_eq_none
abbrev jZb := @Nat.min_eq_left
abbrev jZc := @Int.emod_nonneg
abbrev jZd := @List.flatten_cons
abbrev jZe := @Option.isSome_iff_exists
abbrev jZf := @List.getElem_of_mem
abbrev jJa := @Heap.size_push
abbrev jJb := @Nat.le_add_right
abbrev jJc := @List.mem_filterMap
abbrev jJd := @List.pairwise_cons
abbrev jJe := @Bool.or_eq_true
abbrev jJf := @List.find?_cons
abbrev jKa := @Int.toNat_natCast
abbrev jKb := @List.getElem?_set_ne
abbrev jKc := @List.map_nil
abbrev jKd := @List.length_zipWith
abbrev jKe := @List.range_succ
abbrev jKf := @Int.natCast_nonneg
abbrev kQa := @Bool.false_eq_true
abbrev kQb := @List.getElem?_replicate
abbrev kQc := @List.ext_getElem?
abbrev kQd := @List.foldl_append
abbrev kQe := @Heap.get?_update_self
abbrev kQf := @List.length_singleton
abbrev kXa := @plainId_quiet
abbrev kXb := @Nat.le_of_lt
abbrev kXc := @Int.zero_mul
abbrev kXd := @Int.mul_zero
abbrev kXe := @Int.fdiv_eq_ediv_of_nonneg
abbrev kXf := @List.getElem?_append_right
abbrev kYa := @List.zip_cons_cons
abbrev kYb := @List.lt_irrefl
abbrev kYc := @List.drop_zero
abbrev kYd := @List.getElem?_append_left
abbrev kYe := @List.pairwise_map
abbrev kYf := @Nat.le_succ
abbrev kZa := @List.any_cons
abbrev kZb := @List.getElem?_set_self
abbrev kZc := @List.map_set
abbrev kZd := @List.drop_of_length_le
abbrev kZe := @List.mem_filter
abbrev kZf := @List.append_nil
abbrev kJa := @Nat.not_lt_zero
abbrev kJb := @Option.map_some
abbrev kJc := @List.sum_append
abbrev kJd := @List.mem_of_mem_erase
abbrev kJe := @List.mem_of_mem_take
abbrev kJf := @List.filterMap_cons
end
abbrev gE := @List.getElem?_eq_getElem
set_option Elab.async false
set_option linter.all false
set_option maxRecDepth 100000
set_option maxHeartbeats 4000000
set_option bootstrap.genMatcherCode false
set_option genSizeOfSpec false
set_option compiler.extract_closed false
namespace L2
theorem aRfl (h : True := by rfl) : True := h
theorem aDec (h : True := by decide) : True := h
theorem aFst (h : True := by first | exact .inl rfl | exact .inr rfl | assumption) : True := h
theorem aIrf (h : True := by intro _; rfl) : True := h
end L2
namespace L2
open PySem PySem.Spec PyProof.Rows
abbrev Key := Sum Int Str
def keyIs : Key → Value → Bool
 | .inl k, v => Value.isInt k v
 | .inr x, v => Value.isStrOf x v
def keyH (w : World) : Key → Int
 | .inl k => hashInt k
 | .inr x => hashStr w x
theorem keyIs_shape : ∀ {k : Key} {v : Value}, keyIs k v = true → (∃ i t, k = Sum.inl i ∧ v = Value.int i t) ∨ (∃ x t, k = Sum.inr x ∧ v = Value.str x t)
 | .inl i, v, h => by
  obtain ⟨t, e⟩ := Value.isInt_shape (k := i) (v := v) h
  exact .inl ⟨i, t, rfl, e⟩
 | .inr x, v, h => by
  obtain ⟨t, e⟩ := Value.isStrOf_shape (x := x) (v := v) h
  exact .inr ⟨x, t, rfl, e⟩
theorem keyIs_int (i : Int) (t : Tok) : keyIs (.inl i) (.int i t) = true := by simp [keyIs, Value.isInt]
theorem keyIs_str (x : Str) (t : Tok) : keyIs (.inr x) (.str x t) = true := by simp [keyIs, Value.isStrOf]
theorem key_ll (a b : Int) : decide ((Sum.inl a : Key) = Sum.inl b) = (a == b) := by
 by_cases e : a = b
 ·subst e; simp
 ·have h : ¬ (Sum.inl a : Key) = Sum.inl b := fun q => e (Sum.inl.inj q)
  rw [yY h]
  exact (beq_eq_false_iff_ne.mpr e).symm
theorem key_rr (a b : Str) : decide ((Sum.inr a : Key) = Sum.inr b) = decide (a = b) := by
 by_cases e : a = b
 ·subst e; simp
 ·have h : ¬ (Sum.inr a : Key) = Sum.inr b := fun q => e (Sum.inr.inj q)
  rw [yY h, yY e]
theorem key_lr (a : Int) (b : Str) : decide ((Sum.inl a : Key) = Sum.inr b) = false := yY (fun q => nomatch q)
theorem key_rl (a : Str) (b : Int) : decide ((Sum.inr a : Key) = Sum.inl b) = false := yY (fun q => nomatch q)
def mixKind (prog : Program) (w : World) : PySem.KeyKind prog w Key where
 is := keyIs
 hash := keyH w
 inj := fun v a b ha hb => by
  rcases keyIs_shape ha with ⟨i, t, rfl, rfl⟩ | ⟨x, t, rfl, rfl⟩
  ·rcases keyIs_shape hb with ⟨j, u, rfl, e⟩ | ⟨y, u, rfl, e⟩
   ·injection e with e1 _; rw [e1]
   ·exact nomatch e
  ·rcases keyIs_shape hb with ⟨j, u, rfl, e⟩ | ⟨y, u, rfl, e⟩
   ·exact nomatch e
   ·injection e with e1 _; rw [e1]
 byValue := fun k v h => by
  rcases keyIs_shape h with ⟨i, t, rfl, rfl⟩ | ⟨x, t, rfl, rfl⟩ <;> rfl
 pyHash := fun hv h => by
  rcases keyIs_shape hv with ⟨i, t, rfl, rfl⟩ | ⟨x, t, rfl, rfl⟩
  ·exact wpAny_pyHash_int h
  ·exact wpAny_pyHash_str h
 eqBool := fun hu hv h => by
  rcases keyIs_shape hu with ⟨i, t, rfl, rfl⟩ | ⟨x, t, rfl, rfl⟩
  ·rcases keyIs_shape hv with ⟨j, u, rfl, rfl⟩ | ⟨y, u, rfl, rfl⟩
   ·rw [key_ll] at h; exact wpAny_eqBool_int h
   ·rw [key_lr] at h; exact SeqAt.EqAt.int_str i t y u _ _ _ _ h
  ·rcases keyIs_shape hv with ⟨j, u, rfl, rfl⟩ | ⟨y, u, rfl, rfl⟩
   ·rw [key_rl] at h; exact SeqAt.EqAt.str_int x t j u _ _ _ _ h
   ·rw [key_rr] at h; exact wpAny_eqBool_str h
 «strs» := fun k x t v h => by
  rcases keyIs_shape h with ⟨i, u, rfl, e⟩ | ⟨y, u, rfl, e⟩
  ·exact nomatch e
  ·injection e with e1 _
   subst e1
   cases v <;> rfl
theorem mixKind_int (prog : Program) (w : World) (i : Int) (t : Tok) : (mixKind prog w).is (.inl i) (.int i t) = true := keyIs_int i t
theorem mixKind_str (prog : Program) (w : World) (x : Str) (t : Tok) : (mixKind prog w).is (.inr x) (.str x t) = true := keyIs_str x t
inductive V where
 | non | bl (b : Bool) | int (i : Int) | str (x : Str) | byt (b : Array UInt8) | flt (b : UInt64) | ref (a : Addr) | ty (n : String)
 deriving DecidableEq
def RelV : V → Value → Prop
 | .non, u => u = Value.none
 | .bl b, u => u = Value.bool b
 | .int i, u => ∃ t, u = Value.int i t
 | .str x, u => ∃ t, u = Value.str x t
 | .byt b, u => ∃ t, u = Value.bytes b t
 | .flt b, u => ∃ t, u = Value.float b t
 | .ref a, u => u = Value.ref a
 | .ty n, u => u = Value.type n
abbrev Vals : List V → List Value → Prop := Paired RelV
theorem Vals.length {xs : List V} {us : List Value} (r : Vals xs us) : xs.length = us.length := Paired.length r
theorem Vals.get : ∀ {xs : List V} {us : List Value} {i : Nat} {x : V}, Vals xs us → xs[i]? = some x → ∃ u, us[i]? = some u ∧ RelV x u
 | _, _, _, _, .nil, e => by simp at e
 | _, _, 0, _, .cons r _, e => by simp at e; subst e; exact ⟨_, rfl, r⟩
 | _, _, i + 1, x, .cons _ t, e => by
  obtain ⟨u, h1, h2⟩ := Vals.get (i := i) (x := x) t (by simpa using e)
  exact ⟨u, by simpa using h1, h2⟩
theorem Vals.set {x : V} {u : Value} (r : RelV x u) : ∀ {xs : List V} {us : List Value} (i : Nat), Vals xs us → Vals (xs.set i x) (us.set i u)
 | _, _, _, .nil => .nil
 | _, _, 0, .cons _ t => .cons r t
 | _, _, i + 1, .cons q t => .cons q (Vals.set r i t)
theorem Vals.append {xs ys : List V} {us ws : List Value} (h : Vals xs us) (g : Vals ys ws) : Vals (xs ++ ys) (us ++ ws) := by
 induction h with
 | nil => exact g
 | cons r t ih => exact .cons r ih
theorem Vals.take : ∀ {xs : List V} {us : List Value} (n : Nat), Vals xs us → Vals (xs.take n) (us.take n)
 | _, _, 0, _ => .nil
 | _, _, _ + 1, .nil => .nil
 | _, _, n + 1, .cons r t => .cons r (Vals.take n t)
theorem Vals.drop : ∀ {xs : List V} {us : List Value} (n : Nat), Vals xs us → Vals (xs.drop n) (us.drop n)
 | _, _, 0, r => r
 | _, _, _ + 1, .nil => .nil
 | _, _, n + 1, .cons _ t => Vals.drop n t
def RelO : Option V → Option Value → Prop
 | some v, some u => RelV v u
 | none, none => True
 | _, _ => False
def KV {κ : Type} : List (κ × V) → List (κ × Value) → Prop := Paired fun (p : κ × V) (q : κ × Value) => p.1 = q.1 ∧ RelV p.2 q.2
def kV : Key → V
 | .inl i => .int i
 | .inr x => .str x
inductive HO where
 /-- a list -/
 | lst (xs : List V)
 /-- a tuple (never changes) -/
 | tup (xs : List V)
 /-- a dict whose keys are ints and texts; one whose keys are tuples of ints and texts (the empty one is both) -/
 | dK (kvs : List (Key × V)) | dT (kvs : List (List Key × V))
 /-- a set of ints: its members, its size -/
 | set (S : Int → Bool) (n : Nat)
 /-- an instance of the class at C, its dict at dx, its attributes -/
 | ins (C dx : Addr) (fs : List (Str × V))
 /-- the dict of the instance at x -/
 | own (x : Addr)
 /-- the dict of an exception -/
 | xd (fs : List (Str × V))
 /-- a bound method, f of x -/
 | met (f x : Addr)
 /-- a range object lo, lo + 1, .. below hi -/
 | rng (lo hi : Int)
 /-- a thing that is known to the object (the script; a dict while a loop walks it): read, never written while it is so -/
 | frz (o : Obj) (u : HO)
 /-- a code object's table -/
 | tbl (ps : Array Value)
 /-- any other thing, by what is true of its one object (a def of one's own: SetO a S n := HO.ext fun h => ..) -/
 | ext (φ : Heap → Prop)
abbrev Hp := Addr → Option HO
def upd (H : Hp) (a : Addr) (o : HO) : Hp := fun b => if b = a then some o else H b
theorem upd_same {H : Hp} {a : Addr} {o : HO} : upd H a o a = some o := by unfold upd; rw [if_pos rfl]
theorem upd_ne {H : Hp} {a b : Addr} {o : HO} (h : b ≠ a) : upd H a o b = H b := by unfold upd; rw [if_neg h]
theorem upd_upd {H : Hp} {a : Addr} {o u : HO} : upd (upd H a o) a u = upd H a u := by
 funext b; unfold upd; split <;> rfl
theorem ne_of {H : Hp} {a b : Addr} {o u : HO} (h : H a = some o) (h' : H b = some u) (d : o ≠ u) : a ≠ b := by
 intro e; subst e; rw [h] at h'; exact d (Option.some.inj h')
theorem ne_of_none {H : Hp} {a b : Addr} {o : HO} (h : H a = some o) (h' : H b = none) : a ≠ b := by
 intro e; subst e; rw [h] at h'; cases h'
section
variable (P : Program) (w : World)
def ObjOk (H : Hp) (h : Heap) (a : Addr) : HO → Prop
 | .lst xs => xs.length ≤ sizeLine ∧ ∃ (its : List Value) (n : Nat), Vals xs its ∧ h.get? a = some { cls := .type "list", data := .seq its.toArray n }
 | .tup xs => xs.length ≤ sizeLine ∧ ∃ its : List Value, Vals xs its ∧ IsTup h a its.toArray
 | .dK kvs => kvs.length ≤ sizeLine ∧ (a == sysModules) = false ∧ ∃ vs, KV kvs vs ∧ h.DictOf (mixKind P w) a vs
 | .dT kvs => kvs.length ≤ sizeLine ∧ (a == sysModules) = false ∧ ∃ xs : List (List Key × Addr × Value),
   Paired (fun (p : List Key × V) (q : List Key × Addr × Value) => p.1 = q.1 ∧ H q.2.1 = some (.tup (p.1.map kV)) ∧ RelV p.2 q.2.2) kvs xs ∧
   ∃ o es ep, h.get? a = some o ∧ o.ExactDict ∧ o.data = .dict es ep ∧ es.toList = xs.map (entryOfKey (tupleKind (mixKind P w))) ∧ (xs.map (·.1)).Nodup
 | .set S n => h.SetOf (intKind P w) a S n
 | .ins C dx fs => H dx = some (.own a) ∧ fs.length ≤ 1000 ∧ dx ≠ a ∧ h.get? a = some (PySem.W.instObj C dx) ∧
   ∃ mA, h.Ns1 dx mA ∧ (∀ f, RelO (fs.lookup f) (mA f)) ∧ PySem.Within mA (fs.map (·.1))
 | .own _ => ∃ o, h.get? a = some o
 | .xd fs => ∃ mA, h.Ns1 a mA ∧ ∀ f, RelO (fs.lookup f) (mA f)
 | .rng lo hi => ∃ t u v, h.get? a = some { cls := .type "range", data := .fields #[.int lo t, .int hi u, .int 1 v] }
 | .frz o u => h.get? a = some o ∧ ObjOk H h a u
 | .tbl ps => h.get? a = some { cls := .none, data := .fields ps }
 | .met f x => h.get? a = some (PySem.W.methodObj (.ref f) (.ref x))
 | .ext φ => φ h ∧ (∃ o, h.get? a = some o) ∧ ∀ h1 h2 : Heap, φ h1 → (∀ o, h1.get? a = some o → h2.get? a = some o) → φ h2
def HOk (H : Hp) (h : Heap) : Prop := ∀ a o, H a = some o → ObjOk P w H h a o
end
section
variable {P : Program} {w : World} {H H' : Hp} {h h' : Heap} {a : Addr} {o : HO}
theorem ObjOk.lt (x : ObjOk P w H h a o) : a < h.objs.size := by
 cases o with
 | lst xs => obtain ⟨_, _, _, _, e⟩ := x; exact kJ e
 | tup xs => obtain ⟨_, _, _, p⟩ := x; exact p.lt
 | dK kvs => obtain ⟨_, _, _, _, o, _, _, e, _⟩ := x; exact kJ e
 | dT kvs => obtain ⟨_, _, _, _, o, _, _, e, _⟩ := x; exact kJ e
 | set S n => obtain ⟨o, _, _, _, e, _⟩ := x; exact kJ e
 | ins C dx fs => obtain ⟨_, _, _, e, _⟩ := x; exact kJ e
 | own y => obtain ⟨_, e⟩ := x; exact kJ e
 | xd fs => obtain ⟨_, ⟨_, _, _, e, _⟩, _⟩ := x; exact kJ e
 | rng lo hi => obtain ⟨_, _, _, e⟩ := x; exact kJ e
 | frz ob u => obtain ⟨e, _⟩ := x; exact kJ e
 | tbl ps => exact kJ (show h.get? a = some _ from x)
 | met f y => exact kJ (show h.get? a = some _ from x)
 | ext φ => obtain ⟨_, ⟨_, e⟩, _⟩ := x; exact kJ e
theorem Paired.mapP {α β : Type} {F G : α → β → Prop} {l₁ : List α} {l₂ : List β} (h : Paired F l₁ l₂) (f : ∀ a b, F a b → G a b) : Paired G l₁ l₂ := by
 induction h with
 | nil => exact .nil
 | cons r t ih => exact .cons (f _ _ r) ih
theorem Paired.imp' {α β : Type} {F G : α → β → Prop} (f : ∀ a b, F a b → G a b) {l₁ : List α} {l₂ : List β} (r : Paired F l₁ l₂) : Paired G l₁ l₂ := Paired.mapP r f
theorem ObjOk.stay (x : ObjOk P w H h a o) (k : ∀ b u, (b = a ∨ H b = some (.own a)) → h.get? b = some u → h'.get? b = some u)
  (ho : ∀ b, H b = some (.own a) → H' b = some (.own a)) (ht : ∀ b xs, H b = some (.tup xs) → H' b = some (.tup xs)) : ObjOk P w H' h' a o := by
 induction o with
 | lst xs => obtain ⟨z, its, n, r, e⟩ := x; exact ⟨z, its, n, r, k _ _ (.inl rfl) e⟩
 | tup xs => obtain ⟨z, its, r, ob, e, c⟩ := x; exact ⟨z, its, r, ob, k _ _ (.inl rfl) e, c⟩
 | dK kvs => obtain ⟨z, y, vs, r, ob, es, ep, e, c⟩ := x; exact ⟨z, y, vs, r, ob, es, ep, k _ _ (.inl rfl) e, c⟩
 | dT kvs =>
  obtain ⟨z, y, xs, r, ob, es, ep, e, c⟩ := x
  exact ⟨z, y, xs, Paired.mapP r fun p q z => ⟨z.1, ht _ _ z.2.1, z.2.2⟩, ob, es, ep, k _ _ (.inl rfl) e, c⟩
 | set S n => obtain ⟨ob, es, ep, t, e, c⟩ := x; exact ⟨ob, es, ep, t, k _ _ (.inl rfl) e, c⟩
 | ins C dx fs =>
  obtain ⟨d, z, ne, e, mA, ⟨od, es, ep, e2, c⟩, r⟩ := x
  exact ⟨ho _ d, z, ne, k _ _ (.inl rfl) e, mA, ⟨od, es, ep, k _ _ (.inr d) e2, c⟩, r⟩
 | own y => obtain ⟨ob, e⟩ := x; exact ⟨ob, k _ _ (.inl rfl) e⟩
 | xd fs => obtain ⟨mA, ⟨od, es, ep, e, c⟩, r⟩ := x; exact ⟨mA, ⟨od, es, ep, k _ _ (.inl rfl) e, c⟩, r⟩
 | rng lo hi => obtain ⟨t, u, v, e⟩ := x; exact ⟨t, u, v, k _ _ (.inl rfl) e⟩
 | frz ob u ih => obtain ⟨e, q⟩ := x; exact ⟨k _ _ (.inl rfl) e, ih q⟩
 | tbl ps =>
  have e : h.get? a = some { cls := .none, data := .fields ps } := x
  show h'.get? a = some { cls := .none, data := .fields ps }
  exact k a _ (.inl rfl) e
 | met f y =>
  have e : h.get? a = some (PySem.W.methodObj (.ref f) (.ref y)) := x
  show h'.get? a = some (PySem.W.methodObj (.ref f) (.ref y))
  exact k a _ (.inl rfl) e
 | ext φ => obtain ⟨p, ⟨o, e⟩, st⟩ := x; exact ⟨st _ _ p fun o q => k _ _ (.inl rfl) q, ⟨o, k _ _ (.inl rfl) e⟩, st⟩
theorem HOk.lt (x : HOk P w H h) (e : H a = some o) : a < h.objs.size := (x a o e).lt
theorem HOk.fresh (x : HOk P w H h) (e : h.objs.size ≤ a) : H a = none := by
 cases q : H a with
 | none => rfl
 | some u => exact absurd (xX (x.lt q) e) (jYb _)
theorem HOk.kept (x : HOk P w H h) (k : ∀ b u, h.get? b = some u → h'.get? b = some u) : HOk P w H h' := fun a o e =>
 (x a o e).stay (fun b u _ q => k b u q) (fun _ q => q) fun _ _ q => q
theorem HOk.laid (x : HOk P w H h) (k : ∀ b u, h.get? b = some u → h'.get? b = some u) (hp : h.objs.size ≤ a) (new : ObjOk P w (upd H a o) h' a o) : HOk P w (upd H a o) h' := fun b u e => by
 have hn := x.fresh hp
 by_cases hb : b = a
 ·subst hb; rw [upd_same] at e; cases e; exact new
 ·rw [upd_ne hb] at e
  exact (x b u e).stay (fun c v _ q => k c v q) (fun c q => by rw [upd_ne (ne_of_none q hn)]; exact q) fun c xs q => by rw [upd_ne (ne_of_none q hn)]; exact q
end
def Rd (H : Hp) (a : Addr) (u : HO) : Prop := H a = some u ∨ ∃ o, H a = some (.frz o u)
theorem Rd.ok {P : Program} {w : World} {H : Hp} {h : Heap} {a : Addr} {u : HO} (r : Rd H a u) (x : HOk P w H h) : ObjOk P w H h a u := by
 rcases r with r | ⟨o, r⟩
 ·exact x a u r
 ·obtain ⟨_, q⟩ := x a _ r
  exact q
def Mut : Option HO → Prop
 | some (.lst _) => True
 | some (.dK _) => True
 | some (.dT _) => True
 | some (.set _ _) => True
 | some (.ins _ _ _) => True
 | some (.ext _) => True
 | _ => False
section
variable {P : Program} {w : World} {H : Hp} {h h' : Heap} {x e : Addr} {o' : HO}
theorem HOk.write (ok : HOk P w H h) (mu : Mut (H x)) (he : e = x ∨ H e = some (.own x)) (k : ∀ b u, b ≠ e → h.get? b = some u → h'.get? b = some u) (heo : ∃ u, h'.get? e = some u)
  (new : ObjOk P w (upd H x o') h' x o') : HOk P w (upd H x o') h' := fun b u q => by
 have nown : ∀ c y, H c = some (.own y) → c ≠ x := fun c y r z => by subst z; rw [r] at mu; exact mu
 have ntup : ∀ c xs, H c = some (.tup xs) → c ≠ x := fun c xs r z => by subst z; rw [r] at mu; exact mu
 by_cases hb : b = x
 ·subst hb; rw [upd_same] at q; cases q; exact new
 ·rw [upd_ne hb] at q
  by_cases hbe : b = e
  ·have q' : H b = some (.own x) := by
    rcases he with z | z
    ·exact absurd (hbe.trans z) hb
    ·rw [hbe]; exact z
   rw [q] at q'; cases q'
   obtain ⟨v, hv⟩ := heo
   exact ⟨v, by rw [hbe]; exact hv⟩
  ·refine (ok b u q).stay (fun c v hc r => k c v ?_ r) (fun c r => by rw [upd_ne (nown c b r)]; exact r) fun c xs r => by rw [upd_ne (ntup c xs r)]; exact r
   rcases hc with rfl | hc
   ·exact hbe
   ·rintro rfl
    rcases he with z | z
    ·exact nown c b hc z
    ·rw [hc] at z; cases z; exact hb rfl
end
structure Un (fs ex : List Addr) (H H' : Hp) (h h' : Heap) : Prop where
 keep : ∀ b o, h.get? b = some o → H b = none → b ∉ fs → b ∉ ex → h'.get? b = some o
 slot : ∀ b o, h.get? b = some o → H b = none → b ∈ fs → b ∉ ex → ∃ sl, h'.get? b = some { o with slots := sl }
 free : ∀ b o, h.get? b = some o → H b = none → b ∉ ex → H' b = none
 there : ∀ b o, h.get? b = some o → b ∉ ex → ∃ o', h'.get? b = some o'
 tups : ∀ b xs, H b = some (.tup xs) → H' b = some (.tup xs)
 frzs : ∀ b o u, H b = some (.frz o u) → H' b = some (.frz o u)
 tbls : ∀ b ps, H b = some (.tbl ps) → ∃ more, H' b = some (.tbl (ps ++ more))
section
variable {fs fs' ex ex' : List Addr} {H H1 H2 : Hp} {h h1 h2 h' : Heap} {a x e : Addr} {o : HO}
theorem Un.any (u : Un fs ex H H1 h h1) {b : Addr} {ob : Obj} (q : h.get? b = some ob) (n : H b = none) (hx : b ∉ ex) : ∃ sl, h1.get? b = some { ob with slots := sl } := by
 by_cases hb : b ∈ fs
 ·exact u.slot b ob q n hb hx
 ·exact ⟨ob.slots, u.keep b ob q n hb hx⟩
theorem Un.kept (k : ∀ b u, h.get? b = some u → h'.get? b = some u) : Un fs ex H H h h' :=
 ⟨fun b ob q _ _ _ => k b ob q, fun b ob q _ _ _ => ⟨ob.slots, k b ob q⟩, fun _ _ _ n _ => n, fun b ob q _ => ⟨ob, k b ob q⟩, fun _ _ q => q, fun _ _ _ q => q, fun _ ps q => ⟨#[], by rw [q]; simp⟩⟩
theorem Un.refl : Un fs ex H H h h := Un.kept fun _ _ q => q
theorem Un.laid (k : ∀ b u, h.get? b = some u → h'.get? b = some u) (hp : h.objs.size ≤ a) (hn : H a = none) : Un fs ex H (upd H a o) h h' where
 keep := fun b u q _ _ _ => k b u q
 slot := fun b u q _ _ _ => ⟨u.slots, k b u q⟩
 free := fun b u q n _ => by rw [upd_ne (zJ (xX (kJ q) hp))]; exact n
 there := fun b u q _ => ⟨u, k b u q⟩
 tups := fun b xs q => by rw [upd_ne (ne_of_none q hn)]; exact q
 frzs := fun b u xs q => by rw [upd_ne (ne_of_none q hn)]; exact q
 tbls := fun b ps q => ⟨#[], by rw [upd_ne (ne_of_none q hn), q]; simp⟩
theorem Un.write (mu : Mut (H x)) (he : e = x ∨ H e = some (.own x)) (k : ∀ b u, b ≠ e → h.get? b = some u → h'.get? b = some u) (heo : ∃ u, h'.get? e = some u) : Un fs ex H (upd H x o) h h' := by
 have hx : ∀ b, H b = none → b ≠ x := fun b n z => by subst z; rw [n] at mu; exact mu
 have hb : ∀ b, H b = none → b ≠ e := fun b n z => by
  subst z
  rcases he with r | r
  ·exact hx b n r
  ·rw [n] at r; cases r
 have hm : ∀ b u, H b = some u → ¬ Mut (some u) → b ≠ x := fun b u q nm z => by subst z; rw [q] at mu; exact nm mu
 refine ⟨fun b u q n _ _ => k b u (hb b n) q, fun b u q n _ _ => ⟨u.slots, k b u (hb b n) q⟩, fun b u q n _ => by rw [upd_ne (hx b n)]; exact n, fun b u q _ => ?_,
  fun b xs q => by rw [upd_ne (hm b _ q fun z => z)]; exact q, fun b u xs q => by rw [upd_ne (hm b _ q fun z => z)]; exact q, fun b ps q => ⟨#[], by rw [upd_ne (hm b _ q fun z => z), q]; simp⟩⟩
 by_cases hbe : b = e
 ·subst hbe; exact heo
 ·exact ⟨u, k b u hbe q⟩
end
def trk (h : Heap) (H : Hp) : List Addr := (List.range h.objs.size).filter fun a => (H a).isSome
def hidT (h : Heap) (H : Hp) : Heap := PySem.W.hideAll h (trk h H)
theorem hidT_size (h : Heap) (H : Hp) : (hidT h H).objs.size = h.objs.size := PySem.W.hideAll_size _ _
theorem hidT_get {h : Heap} {H : Hp} {b : Addr} {o : Obj} (e : h.get? b = some o) (n : H b = none) : (hidT h H).get? b = some o :=
 PySem.W.hideAll_get _ e fun hm => by
  have q : (H b).isSome = true := (kZe.mp hm).2
  rw [n] at q; simp at q
theorem of_hidT {h : Heap} {H : Hp} {b : Addr} {o : Obj} (e : (hidT h H).get? b = some o) : h.get? b = some o ∧ H b = none := by
 have e' : h.get? b = some o := PySem.W.of_hideAll (trk h H) e
 refine ⟨e', ?_⟩
 cases q : H b with
 | none => rfl
 | some x =>
  have hm : b ∈ trk h H := kZe.mpr ⟨wX.mpr (kJ e'), by simp [q]⟩
  have z : (hidT h H).get? b = none := PySem.W.hideAll_none (trk h H) hm
  rw [z] at e; cases e
structure Mod (K : Fg) (mg : Str → Option Value) (base : Heap) : Prop where
 kin : K.In base
 glob : base.Ns mainGlobals mg
 blt : ∃ mb, base.Ns builtinsNs mb ∧ ∀ x : Str, x ≠ "__name__" → mb x = bootBuiltins x
 nolimit : base.NoLimit
set_option genInjectivity false in
set_option genInjectivity false in
structure Cx where
 prog : Program
 w : World
 K : Fg
 mg : Str → Option Value
 base : Heap
 A : Around
 N : List Str
 s₀ : Shared
 H₀ : Hp
 env : Env
 outer : List Env
 stack : List Env
 ex : List Addr
 fn : Str → Bool
 calm : Bool
 pn : List (Addr × Obj)
 xe : Value → Shared → Prop
def frs (l : List Env) : List Addr := l.filterMap (·.frame)
abbrev Cx.fs (X : Cx) : List Addr := frs X.outer
def Vis (sc : Scope) (x : Str) : Prop := sc.names.lookup x = some .local ∨ sc.names.lookup x = some .cell ∨ sc.names.lookup x = some .free
def Loc (sc : Scope) (x : Str) : Prop := sc.names.lookup x = some .local ∨ sc.names.lookup x = some .cell
def Look (env : Env) (h : Heap) (m : Str → Option Value) (x : Str) (u : Value) : Prop :=
 (env.kindOf x = some .local ∧ m x = some u) ∨ ((env.kindOf x = some .cell ∨ env.kindOf x = some .free) ∧ ∃ c, env.cells.lookup x = some c ∧ h.IsCell c (some u))
structure Cx.Ok (X : Cx) : Prop where
 mod : Mod X.K X.mg X.base
 kind : X.env.scope.kind = .function
 glob : X.env.globals = mainGlobals
 blt : X.env.builtins = builtinsNs
 above : X.s₀.heap.objs.size ≤ X.env.locals
 inj : ∀ x y c, X.env.cells.lookup x = some c → X.env.cells.lookup y = some c → x = y
 has : ∀ x, (X.env.kindOf x = some .cell ∨ X.env.kindOf x = some .free) → ∃ c, X.env.cells.lookup x = some c
 cab : ∀ x c, X.fn x = true → X.env.cells.lookup x = some c → X.s₀.heap.objs.size ≤ c
 hd : X.calm = true → X.A.handled = none
 frames : X.A.frames = some X.stack
 stk : X.stack = X.outer ∨ (X.stack = X.env :: X.outer ∧ X.env.frame = some X.env.locals)
 exf : ∀ b ∈ X.ex, b ≠ X.env.locals ∧ ∀ x c, X.env.cells.lookup x = some c → c ≠ b
 bs : ∀ b o, X.base.get? b = some o → X.s₀.heap.get? b = some o ∧ X.H₀ b = none
 bsz : X.base.objs.size ≤ X.s₀.heap.objs.size
 noex : ∀ b o, X.base.get? b = some o → b ∉ X.ex
 exfs : ∀ b ∈ X.ex, b ∉ X.fs
 funs : X.s₀.heap.FunFrames X.base X.outer
 frf : ∀ b ∈ X.fs, X.H₀ b = none
structure Inv (X : Cx) (pins : List (Addr × Obj)) (σ : List (Option V)) (H : Hp) (s : Shared) : Prop where
 ok : X.Ok
 os : s.os = X.s₀.os
 bare : AllBare s.gens
 base : Un X.fs X.ex X.H₀ H X.s₀.heap s.heap
 loc : ∃ m, s.heap.Ns X.env.locals m ∧ ∀ (i : Nat) (x : Str) (v : V), X.N[i]? = some x → σ[i]? = some (some v) → Vis X.env.scope x → ∃ u, RelV v u ∧ Look X.env s.heap m x u
 cell : ∀ x c, X.env.cells.lookup x = some c → ∃ v, s.heap.IsCell c v
 free : H X.env.locals = none
 freeC : ∀ x c, X.env.cells.lookup x = some c → H c = none
 pin : ∀ p ∈ X.pn ++ pins, s.heap.get? p.1 = some p.2 ∧ H p.1 = none ∧ p.1 ≠ X.env.locals ∧ p.1 ∉ X.fs ∧ ∀ v, p.2.data ≠ .cell v
 hok : HOk X.prog X.w H s.heap
 len : σ.length = X.N.length
section
variable {X : Cx} {pins : List (Addr × Obj)} {σ : List (Option V)} {H H' : Hp} {s : Shared} {h' : Heap}
theorem Cx.Ok.nofr (ok : X.Ok) {b : Addr} {o : Obj} (e : X.base.get? b = some o) : b ∉ X.fs := fun hb => by
 have := (ok.funs.mem hb).1
 rw [e] at this; cases this
theorem Inv.bs (I : Inv X pins σ H s) : ∀ b o, X.base.get? b = some o → s.heap.get? b = some o ∧ H b = none := fun b o e =>
 ⟨I.base.keep b o (I.ok.bs b o e).1 (I.ok.bs b o e).2 (I.ok.nofr e) (I.ok.noex b o e), I.base.free b o (I.ok.bs b o e).1 (I.ok.bs b o e).2 (I.ok.noex b o e)⟩
theorem Inv.bk (I : Inv X pins σ H s) : ∀ b o, X.base.get? b = some o → s.heap.get? b = some o := fun b o e => (I.bs b o e).1
theorem Inv.mod (I : Inv X pins σ H s) : Mod X.K X.mg X.base := I.ok.mod
theorem Inv.kIn (I : Inv X pins σ H s) : X.K.In s.heap := I.ok.mod.kin.keeps I.bk
theorem Inv.lt (I : Inv X pins σ H s) : X.env.locals < s.heap.objs.size := by obtain ⟨_, hn, _⟩ := I.loc; exact hn.lt
theorem Inv.sz (I : Inv X pins σ H s) : X.s₀.heap.objs.size ≤ s.heap.objs.size := wW I.ok.above (kXb I.lt)
theorem Inv.nofs (I : Inv X pins σ H s) {a : Addr} (h : s.heap.objs.size ≤ a) : a ∉ X.fs := fun hb => by
 obtain ⟨_, o, ho, _⟩ := I.ok.funs.mem hb
 exact absurd (xX (kJ ho) (wW I.sz h)) (jYb _)
theorem Inv.cne (I : Inv X pins σ H s) : ∀ x c, X.env.cells.lookup x = some c → c ≠ X.env.locals := fun x c e z => by
 obtain ⟨v, o, ho, hd⟩ := I.cell x c e
 obtain ⟨m, ⟨o', es, ep, ho', hd', _⟩, _⟩ := I.loc
 rw [z, ho'] at ho; cases ho; rw [hd'] at hd; cases hd
theorem Inv.funs (I : Inv X pins σ H s) : s.heap.FunFrames X.base X.outer := by
 have all : ∀ (l : List Env), (∀ b ∈ frs l, b ∈ X.fs) → X.s₀.heap.FunFrames X.base l → s.heap.FunFrames X.base l := by
  intro l
  induction l with
  | nil => intro _ _; trivial
  | cons env r ih =>
   intro hs hl
   obtain ⟨hk, ⟨L, o, hf, hn, ho, hd⟩, hr⟩ := hl
   have hL : L ∈ X.fs := hs L (by unfold frs; rw [kJf, hf]; exact zQ)
   obtain ⟨sl, e⟩ := I.base.slot L o ho (I.ok.frf L hL) hL fun z => I.ok.exfs L z hL
   exact ⟨hk, ⟨L, _, hf, hn, e, hd⟩, ih (fun b hb => hs b (by unfold frs; rw [kJf, hf]; exact yW _ hb)) hr⟩
 exact all X.outer (fun _ hb => hb) I.ok.funs
theorem Inv.stack (I : Inv X pins σ H s) : s.heap.FunFrames X.base X.stack := by
 rcases I.ok.stk with e | ⟨e, hf⟩
 ·rw [e]; exact I.funs
 ·rw [e]
  obtain ⟨m, hn, _⟩ := I.loc
  refine .cons (by rw [I.ok.kind]; decide) hf hn ?_ I.funs
  exact Heap.get?_none_of_le (wW I.ok.bsz I.ok.above)
theorem Inv.stkSub (I : Inv X pins σ H s) : ∀ b ∈ frs X.stack, b ∈ X.env.locals :: X.fs := fun b hb => by
 rcases I.ok.stk with e | ⟨e, hf⟩
 ·rw [e] at hb; exact yW _ hb
 ·rw [e] at hb
  unfold frs at hb
  rw [kJf, hf] at hb
  exact hb
theorem Inv.stkFree (I : Inv X pins σ H s) : ∀ b ∈ frs X.stack, H b = none := fun b hb => by
 rcases zX.mp (I.stkSub b hb) with e | hb
 ·rw [e]; exact I.free
 ·obtain ⟨_, o, ho, _⟩ := I.ok.funs.mem hb
  exact I.base.free b o ho (I.ok.frf b hb) fun z => I.ok.exfs b z hb
theorem Inv.step {g' : Array GenState} {t' : Nat} {d' : Drawn} {ch : List Addr} (I : Inv X pins σ H s)
  (hch : ∀ b ∈ ch, (b ∈ X.ex ∨ X.s₀.heap.objs.size ≤ b) ∧ b ≠ X.env.locals ∧ (∀ x c, X.env.cells.lookup x = some c → c ≠ b) ∧ ∀ p ∈ X.pn ++ pins, p.1 ≠ b)
  (keep : ∀ b o, b ≠ X.env.locals → b ∉ X.fs → b ∉ ch → s.heap.get? b = some o → H b = none → h'.get? b = some o)
  (slot : ∀ b o, b ≠ X.env.locals → b ∈ X.fs → b ∉ ch → s.heap.get? b = some o → H b = none → ∃ sl, h'.get? b = some { o with slots := sl }) (free : ∀ b o, b ∉ ch → s.heap.get? b = some o → H b = none → H' b = none)
  (there : ∀ b o, b ∉ ch → s.heap.get? b = some o → ∃ o', h'.get? b = some o')
  (tups : ∀ b xs, H b = some (.tup xs) → H' b = some (.tup xs)) (frzs : ∀ b o u, H b = some (.frz o u) → H' b = some (.frz o u)) (tbls : ∀ b ps, H b = some (.tbl ps) → ∃ more, H' b = some (.tbl (ps ++ more)))
  (ns : ∀ m, s.heap.Ns X.env.locals m → h'.Ns X.env.locals m) (hok : HOk X.prog X.w H' h') (hg : AllBare g') :
  Inv X pins σ H' { s with heap := h', gens := g', drawn := d', toks := t' } := by
 have neL : ∀ b o, X.s₀.heap.get? b = some o → b ≠ X.env.locals := fun b o e => zJ (xX (kJ e) I.ok.above)
 have neC : ∀ b o, X.s₀.heap.get? b = some o → b ∉ X.ex → b ∉ ch := fun b o e hx hb => by
  rcases (hch b hb).1 with z | z
  ·exact hx z
  ·exact absurd (xX (kJ e) z) (jYb _)
 have cellK : ∀ x c, X.env.cells.lookup x = some c → ∀ v, s.heap.IsCell c v → h'.IsCell c v := fun x c e v ⟨o, ho, hd⟩ => by
  have nch : c ∉ ch := fun z => (hch c z).2.2.1 x c e rfl
  by_cases hc : c ∈ X.fs
  ·obtain ⟨sl, q⟩ := slot c o (I.cne x c e) hc nch ho (I.freeC x c e)
   exact ⟨_, q, hd⟩
  ·exact ⟨o, keep c o (I.cne x c e) hc nch ho (I.freeC x c e), hd⟩
 refine ⟨I.ok, I.os, hg, ⟨fun b o e n hb hx => ?_, fun b o e n hb hx => ?_, fun b o e n hx => ?_, fun b o e hx => ?_, fun b xs e => tups b xs (I.base.tups b xs e), fun b o xs e => frzs b o xs (I.base.frzs b o xs e), fun b ps e => ?_⟩, ?_, fun x c e => ?_, ?_, fun x c e => ?_, fun p hp => ?_, hok, I.len⟩
 ·exact keep b o (neL b o e) hb (neC b o e hx) (I.base.keep b o e n hb hx) (I.base.free b o e n hx)
 ·obtain ⟨sl, e1⟩ := I.base.slot b o e n hb hx
  obtain ⟨sl', e2⟩ := slot b _ (neL b o e) hb (neC b o e hx) e1 (I.base.free b o e n hx)
  exact ⟨sl', e2⟩
 ·obtain ⟨o', e1⟩ := I.base.there b o e hx
  exact free b o' (neC b o e hx) e1 (I.base.free b o e n hx)
 ·obtain ⟨o', e1⟩ := I.base.there b o e hx
  exact there b o' (neC b o e hx) e1
 ·obtain ⟨m1, e1⟩ := I.base.tbls b ps e
  obtain ⟨m2, e2⟩ := tbls b _ e1
  exact ⟨m1 ++ m2, by rw [e2, Array.append_assoc]⟩
 ·obtain ⟨m, hn, hl⟩ := I.loc
  refine ⟨m, ns m hn, fun i x v e1 e2 e3 => ?_⟩
  obtain ⟨u, r, l⟩ := hl i x v e1 e2 e3
  refine ⟨u, r, ?_⟩
  rcases l with l | ⟨k, c, e, z⟩
  ·exact .inl l
  ·exact .inr ⟨k, c, e, cellK x c e _ z⟩
 ·obtain ⟨v, z⟩ := I.cell x c e
  exact ⟨v, cellK x c e v z⟩
 ·obtain ⟨m, ⟨o, _, _, ho, _⟩, _⟩ := I.loc
  exact free _ o (fun z => (hch _ z).2.1 rfl) ho I.free
 ·obtain ⟨v, o, ho, hd⟩ := I.cell x c e
  exact free c o (fun z => (hch c z).2.2.1 x c e rfl) ho (I.freeC x c e)
 ·obtain ⟨e, n, ne, nf, d⟩ := I.pin p hp
  have nch : p.1 ∉ ch := fun z => (hch p.1 z).2.2.2 p hp rfl
  exact ⟨keep p.1 p.2 ne nf nch e n, free p.1 p.2 nch e n, ne, nf, d⟩
theorem Inv.un {t' : Nat} (I : Inv X pins σ H s) (u : Un X.fs [] H H' s.heap h') (hok : HOk X.prog X.w H' h') : Inv X pins σ H' { s with heap := h', toks := t' } := by
 obtain ⟨m, ⟨o, es, ep, ho, r⟩, _⟩ := id I.loc
 obtain ⟨sl, hL⟩ := u.any ho I.free (by simp)
 exact I.step (g' := s.gens) (d' := s.drawn) (ch := []) (fun _ z => nomatch z) (fun b o _ hb _ e n => u.keep b o e n hb (by simp)) (fun b o _ hb _ e n => u.slot b o e n hb (by simp)) (fun b o _ e n => u.free b o e n (by simp)) (fun b o _ e => u.there b o e (by simp)) u.tups u.frzs u.tbls (fun m' hm => by
  obtain ⟨o', es', ep', ho', r'⟩ := hm
  rw [ho] at ho'; cases ho'
  exact ⟨_, es', ep', hL, r'⟩) hok I.bare
theorem Inv.call {g' : Array GenState} {t' : Nat} {d' : Drawn} {ch : List Addr} (I : Inv X pins σ H s) (u : Un (frs X.stack) ch H H' s.heap h') (hok : HOk X.prog X.w H' h') (hg : AllBare g')
  (hch : ∀ b ∈ ch, (b ∈ X.ex ∨ X.s₀.heap.objs.size ≤ b) ∧ b ≠ X.env.locals ∧ (∀ x c, X.env.cells.lookup x = some c → c ≠ b) ∧ ∀ p ∈ X.pn ++ pins, p.1 ≠ b) :
  Inv X pins σ H' { s with heap := h', gens := g', drawn := d', toks := t' } := by
 obtain ⟨m, ⟨o, es, ep, ho, r⟩, _⟩ := id I.loc
 obtain ⟨sl, hL⟩ := u.any ho I.free fun z => (hch _ z).2.1 rfl
 exact I.step (ch := ch) hch (fun b o hL hb hc e n => u.keep b o e n (fun z => (zX.mp (I.stkSub b z)).elim hL hb) hc) (fun b o _ _ hc e n => u.any e n hc) (fun b o hc e n => u.free b o e n hc) (fun b o hc e => u.there b o e hc) u.tups u.frzs u.tbls (fun m' hm => by
  obtain ⟨o', es', ep', ho', r'⟩ := hm
  rw [ho] at ho'; cases ho'
  exact ⟨_, es', ep', hL, r'⟩) hok hg
theorem Inv.turned {t' : Nat} {it : Addr} (I : Inv X pins σ H s) (k : ∀ b o, b ≠ it → s.heap.get? b = some o → h'.get? b = some o) (hn : H it = none) (hL : it ≠ X.env.locals)
  (h1 : it ∈ X.ex ∨ X.s₀.heap.objs.size ≤ it) (h2 : ∀ x c, X.env.cells.lookup x = some c → c ≠ it) (h3 : ∀ p ∈ X.pn ++ pins, p.1 ≠ it) : Inv X pins σ H { s with heap := h', toks := t' } := by
 have nit : ∀ b u, H b = some u → b ≠ it := fun b u e z => by rw [z, hn] at e; cases e
 refine I.step (g' := s.gens) (d' := s.drawn) (ch := [it]) (fun b hb => ?_) (fun b o _ _ hc e _ => k b o (fun z => hc (by simp [z])) e) (fun b o _ _ hc e _ => ⟨o.slots, k b o (fun z => hc (by simp [z])) e⟩) (fun _ _ _ _ n => n)
  (fun b o hc e => ⟨o, k b o (fun z => hc (by simp [z])) e⟩) (fun _ _ e => e) (fun _ _ _ e => e) (fun b ps e => ⟨#[], by rw [e]; simp⟩) (fun m hm => ?_) (fun b u e => ?_) I.bare
 ·have e : b = it := by simpa using hb
  subst e
  exact ⟨h1, hL, h2, h3⟩
 ·obtain ⟨o, es, ep, ho, r⟩ := hm
  exact ⟨o, es, ep, k _ o (Ne.symm hL) ho, r⟩
 ·refine (I.hok b u e).stay (fun c v hc q => k c v ?_ q) (fun _ q => q) fun _ _ q => q
  rcases hc with z | z
  ·rw [z]; exact nit b u e
  ·exact nit c _ z
theorem Inv.tok (I : Inv X pins σ H s) (t : Nat) : Inv X pins σ H { s with toks := t } := I.un (h' := s.heap) (t' := t) Un.refl I.hok
theorem Inv.kept {t' : Nat} (I : Inv X pins σ H s) (k : ∀ b u, s.heap.get? b = some u → h'.get? b = some u) : Inv X pins σ H { s with heap := h', toks := t' } := I.un (Un.kept k) (I.hok.kept k)
theorem Inv.laid {a : Addr} {o : HO} {t' : Nat} (I : Inv X pins σ H s) (k : ∀ b u, s.heap.get? b = some u → h'.get? b = some u) (hp : s.heap.objs.size ≤ a) (new : ObjOk X.prog X.w (upd H a o) h' a o) :
  Inv X pins σ (upd H a o) { s with heap := h', toks := t' } := I.un (Un.laid k hp (I.hok.fresh hp)) (I.hok.laid k hp new)
theorem Inv.write {x e : Addr} {o : HO} {t' : Nat} (I : Inv X pins σ H s) (mu : Mut (H x)) (he : e = x ∨ H e = some (.own x)) (k : ∀ b u, b ≠ e → s.heap.get? b = some u → h'.get? b = some u) (heo : ∃ u, h'.get? e = some u)
  (new : ObjOk X.prog X.w (upd H x o) h' x o) : Inv X pins σ (upd H x o) { s with heap := h', toks := t' } := I.un (Un.write mu he k heo) (I.hok.write mu he k heo new)
theorem Inv.pins_of {pins' : List (Addr × Obj)} (I : Inv X pins σ H s) (h : ∀ p ∈ pins', s.heap.get? p.1 = some p.2 ∧ H p.1 = none ∧ p.1 ≠ X.env.locals ∧ p.1 ∉ X.fs ∧ ∀ v, p.2.data ≠ .cell v) : Inv X pins' σ H s :=
 ⟨I.ok, I.os, I.bare, I.base, I.loc, I.cell, I.free, I.freeC, fun p hp => (zV.mp hp).elim (fun z => I.pin p (jQe _ z)) (h p), I.hok, I.len⟩
theorem nodup_ix {N : List Str} (hN : N.Nodup) {i j : Nat} {x : Str} (a : N[i]? = some x) (b : N[j]? = some x) : i = j := by
 obtain ⟨h1, e1⟩ := yQ.mp a
 obtain ⟨h2, e2⟩ := yQ.mp b
 exact (List.getElem_inj hN).mp (e1.trans e2.symm)
theorem store_ok2 {M : Model} {A : Around} {E : Value → Shared → Prop} {i : Nat} {x : Str} {v : V} {u : Value} {Q : Unit → Shared → Prop} (I : Inv X pins σ H s) (hN : X.N.Nodup) (hi : X.N[i]? = some x) (hx : Loc X.env.scope x) (r : RelV v u)
  (h : ∀ s', Inv X pins (σ.set i (some v)) H s' → (∃ a, Heap.SameBut a s.heap s'.heap ∧ (a = X.env.locals ∨ X.env.cells.lookup x = some a)) → Q () s') (hf : autoParam (X.fn x = true ∨ X.env.scope.names.lookup x = some .local) L2.aFst._auto_1) : wpAny M A (storeName X.env x u) Q E s := by
 obtain ⟨m, hn, hl⟩ := id I.loc
 have hcls : (X.env.scope.kind == .class || (X.env.scope.kind == .module && X.env.locals != X.env.globals)) = false := by rw [I.ok.kind]; rfl
 have hiσ : i < σ.length := by rw [I.len]; exact (yQ.mp hi).1
 have cne := I.cne
 have tracked : ∀ {a : Addr} {h' : Heap}, (∃ o, s.heap.get? a = some o ∧ H a = none) → Heap.SameBut a s.heap h' → HOk X.prog X.w H h' := fun {a h'} ha hs b ob e => by
  obtain ⟨_, _, hfree⟩ := ha
  refine (I.hok b ob e).stay (fun c w' hc q => (hs.2 c ?_).trans q) (fun _ q => q) fun _ _ q => q
  rintro rfl
  rcases hc with rfl | hc
  ·rw [hfree] at e; cases e
  ·rw [hfree] at hc; cases hc
 rcases hx with hk | hk
 ·refine wpAny_storeName_local hk hn (fun h' hn' hs => ?_) hcls
  obtain ⟨oL, _, _, hoL, _⟩ := id hn
  refine h _ ⟨I.ok, I.os, I.bare, ⟨fun b o e n hb hx => ?_, fun b o e n hb hx => ?_, I.base.free, fun b o e hx => ?_, I.base.tups, I.base.frzs, I.base.tbls⟩, ⟨_, hn', fun j y v' e1 e2 e3 => ?_⟩, fun y c e => ?_, I.free, I.freeC, fun p hp => ?_, tracked ⟨oL, hoL, I.free⟩ hs, by simpa using I.len⟩ ⟨_, hs, .inl rfl⟩
  ·exact (hs.2 b (zJ (xX (kJ e) I.ok.above))).trans (I.base.keep b o e n hb hx)
  ·obtain ⟨sl, e1⟩ := I.base.slot b o e n hb hx
   exact ⟨sl, (hs.2 b (zJ (xX (kJ e) I.ok.above))).trans e1⟩
  ·obtain ⟨o', e1⟩ := I.base.there b o e hx
   exact ⟨o', (hs.2 b (zJ (xX (kJ e) I.ok.above))).trans e1⟩
  ·by_cases hj : j = i
   ·subst hj
    rw [hi] at e1; cases e1
    rw [kZb hiσ] at e2
    cases e2
    exact ⟨u, r, .inl ⟨hk, by simp⟩⟩
   ·rw [jKb (Ne.symm hj)] at e2
    obtain ⟨u', r', q⟩ := hl j y v' e1 e2 e3
    refine ⟨u', r', ?_⟩
    rcases q with ⟨k, e⟩ | ⟨k, c, e, z⟩
    ·refine .inl ⟨k, ?_⟩
     have : y ≠ x := fun e => hj (nodup_ix hN e1 (e ▸ hi))
     simp [this, e]
    ·exact .inr ⟨k, c, e, z.sameBut hs (cne y c e)⟩
  ·obtain ⟨w', z⟩ := I.cell y c e
   exact ⟨w', z.sameBut hs (cne y c e)⟩
  ·obtain ⟨e, n, ne, nf, d⟩ := I.pin p hp
   exact ⟨(hs.2 p.1 ne).trans e, n, ne, nf, d⟩
 ·have hfn : X.fn x = true := by
   rcases hf with z | z
   ·exact z
   ·rw [z] at hk; cases hk
  obtain ⟨c, hc⟩ := I.ok.has x (.inl hk)
  obtain ⟨w', z⟩ := I.cell x c hc
  refine wpAny_storeName_cell I.ok.kind hk hc z (fun h' hc' hs => ?_)
  obtain ⟨oc, hoc, hocd⟩ := id z
  refine h { s with heap := h' } ⟨I.ok, I.os, I.bare, ⟨fun b o e n hb hx => ?_, fun b o e n hb hx => ?_, I.base.free, fun b o e hx => ?_, I.base.tups, I.base.frzs, I.base.tbls⟩, ⟨m, hn.sameBut hs (Ne.symm (cne x c hc)), fun j y v' e1 e2 e3 => ?_⟩, fun y c' e => ?_, I.free, I.freeC, fun p hp => ?_, tracked ⟨oc, hoc, I.freeC x c hc⟩ hs, by simpa using I.len⟩ ⟨c, hs, .inr hc⟩
  ·exact (hs.2 b (zJ (xX (kJ e) (I.ok.cab x c hfn hc)))).trans (I.base.keep b o e n hb hx)
  ·obtain ⟨sl, e1⟩ := I.base.slot b o e n hb hx
   exact ⟨sl, (hs.2 b (zJ (xX (kJ e) (I.ok.cab x c hfn hc)))).trans e1⟩
  ·obtain ⟨o', e1⟩ := I.base.there b o e hx
   exact ⟨o', (hs.2 b (zJ (xX (kJ e) (I.ok.cab x c hfn hc)))).trans e1⟩
  ·by_cases hj : j = i
   ·subst hj
    rw [hi] at e1; cases e1
    rw [kZb hiσ] at e2
    cases e2
    exact ⟨u, r, .inr ⟨.inl hk, c, hc, hc'⟩⟩
   ·rw [jKb (Ne.symm hj)] at e2
    obtain ⟨u', r', q⟩ := hl j y v' e1 e2 e3
    refine ⟨u', r', ?_⟩
    rcases q with q | ⟨k, c', e, z'⟩
    ·exact .inl q
    ·refine .inr ⟨k, c', e, z'.sameBut hs ?_⟩
     rintro rfl
     exact hj (nodup_ix hN e1 (I.ok.inj _ _ _ e hc ▸ hi))
  ·by_cases hcc : c' = c
   ·subst hcc; exact ⟨_, hc'⟩
   ·obtain ⟨w2, z2⟩ := I.cell y c' e
    exact ⟨w2, z2.sameBut hs hcc⟩
  ·obtain ⟨e, n, ne, nf, d⟩ := I.pin p hp
   refine ⟨(hs.2 p.1 ?_).trans e, n, ne, nf, d⟩
   intro q
   rw [q, hoc] at e
   have q' : oc = p.2 := Option.some.inj e
   exact d w' (by rw [← q']; exact hocd)
theorem store_ok {M : Model} {A : Around} {E : Value → Shared → Prop} {i : Nat} {x : Str} {v : V} {u : Value} {Q : Unit → Shared → Prop} (I : Inv X pins σ H s) (hN : X.N.Nodup) (hi : X.N[i]? = some x) (hx : Loc X.env.scope x) (r : RelV v u)
  (h : ∀ s', Inv X pins (σ.set i (some v)) H s' → Q () s') (hf : autoParam (X.fn x = true ∨ X.env.scope.names.lookup x = some .local) L2.aFst._auto_1) : wpAny M A (storeName X.env x u) Q E s :=
 store_ok2 I hN hi hx r (fun s' I' _ => h s' I') hf
theorem Inv.call' {s' : Shared} {ch : List Addr} (I : Inv X pins σ H s) (ho : s'.os = s.os) (u : Un (frs X.stack) ch H H' s.heap s'.heap) (hok : HOk X.prog X.w H' s'.heap) (hg : AllBare s'.gens)
  (hch : ∀ b ∈ ch, (b ∈ X.ex ∨ X.s₀.heap.objs.size ≤ b) ∧ b ≠ X.env.locals ∧ (∀ x c, X.env.cells.lookup x = some c → c ≠ b) ∧ ∀ p ∈ X.pn ++ pins, p.1 ≠ b) : Inv X pins σ H' s' := by
 obtain ⟨h', g', d', t', o'⟩ := s'
 have e : o' = s.os := ho
 subst e
 exact I.call (g' := g') (t' := t') (d' := d') u hok hg hch
end
abbrev XK := Value → Option Addr → Hp → Prop
abbrev St := List (Option V)
abbrev VK := V → Hp → Prop
abbrev TE := St → Hp → VK → Prop
abbrev TT := St → Hp → (Bool → Hp → Prop) → Prop
abbrev TA := St → Hp → (List V → Hp → Prop) → Prop
set_option genInjectivity false in
set_option genInjectivity false in
structure Ends where
 nx : St → Hp → Prop
 rt : VK
 bk : St → Hp → Prop := fun _ _ => False
 ct : St → Hp → Prop := fun _ _ => False
abbrev TS := Ends → St → Hp → Prop
inductive EP (X : Cx) (pins : List (Addr × Obj)) (σ : St) (Q : VK) (u : Value) (s' : Shared) : Prop
 | mk (v : _) (H' : _) (h1 : Inv X pins σ H' s') (h2 : RelV v u) (h3 : Q v H')
inductive TP (X : Cx) (pins : List (Addr × Obj)) (σ : St) (Q : Bool → Hp → Prop) (b : Bool) (s' : Shared) : Prop
 | mk (H' : _) (h1 : Inv X pins σ H' s') (h2 : Q b H')
inductive AP (X : Cx) (pins : List (Addr × Obj)) (σ : St) (Q : List V → Hp → Prop) (us : List Value) (s' : Shared) : Prop
 | mk (vs : _) (H' : _) (h1 : Inv X pins σ H' s') (h2 : Vals vs us) (h3 : Q vs H')
def SP (X : Cx) (pins : List (Addr × Obj)) (D : Ends) (f : Flow) (s' : Shared) : Prop :=
 match f with
 | .next => ∃ σ' H', Inv X pins σ' H' s' ∧ D.nx σ' H'
 | .brk => ∃ σ' H', Inv X pins σ' H' s' ∧ D.bk σ' H'
 | .cont => ∃ σ' H', Inv X pins σ' H' s' ∧ D.ct σ' H'
 | .ret u => ∃ v σ' H', Inv X pins σ' H' s' ∧ RelV v u ∧ D.rt v H'
def PE (X : Cx) (e : Expr) (t : TE) : Prop :=
 ∀ (pins : List (Addr × Obj)) (s : Shared) (σ : St) (H : Hp) (Q : VK), Inv X pins σ H s → t σ H Q → wpAny (model X.prog X.w) X.A (eval e X.env) (EP X pins σ Q) X.xe s
def PT (X : Cx) (e : Expr) (t : TT) : Prop :=
 ∀ (pins : List (Addr × Obj)) (s : Shared) (σ : St) (H : Hp) (Q : Bool → Hp → Prop), Inv X pins σ H s → t σ H Q → wpAny (model X.prog X.w) X.A (isTrue e X.env (eval e X.env)) (TP X pins σ Q) X.xe s
def PW (X : Cx) (e : Expr) (t : TT) : Prop :=
 ∀ (whole : Sem Value) (pins : List (Addr × Obj)) (s : Shared) (σ : St) (H : Hp) (Q : Bool → Hp → Prop), Inv X pins σ H s → t σ H Q → wpAny (model X.prog X.w) X.A (isTrue e X.env whole) (TP X pins σ Q) X.xe s
theorem PW.pt {X : Cx} {e : Expr} {t : TT} (h : PW X e t) : PT X e t := h _
def PA (X : Cx) (es : List Expr) (t : TA) : Prop :=
 ∀ (pos : Pos) (pins : List (Addr × Obj)) (s : Shared) (σ : St) (H : Hp) (Q : List V → Hp → Prop), Inv X pins σ H s → t σ H Q → wpAny (model X.prog X.w) X.A (spliced (backTo pos (starEach es X.env))) (AP X pins σ Q) X.xe s
def PS (X : Cx) (st : Stmt) (t : TS) : Prop :=
 ∀ (pins : List (Addr × Obj)) (s : Shared) (σ : St) (H : Hp) (D : Ends), Inv X pins σ H s → t D σ H → wpAny (model X.prog X.w) X.A (exec st X.env) (SP X pins D) X.xe s
def PSs (X : Cx) (st : List Stmt) (t : TS) : Prop :=
 ∀ (pins : List (Addr × Obj)) (s : Shared) (σ : St) (H : Hp) (D : Ends), Inv X pins σ H s → t D σ H → wpAny (model X.prog X.w) X.A (execs st X.env) (SP X pins D) X.xe s
theorem thn {α : Type} {t : Sem α} {Q Q' : α → Shared → Prop} {M : Model} {A : Around} {E : Value → Shared → Prop} {s : Shared} (h : wpAny M A t Q E s) (hQ : ∀ a s, Q a s → Q' a s) : wpAny M A t Q' E s := wpAny_mono h hQ fun _ _ x => x
section
variable {X : Cx}
inductive ItVar (i : Nat) (σ : St) (H : Hp) (Q : VK) : Prop
 | mk (v : _) (h1 : σ[i]? = some (some v)) (h2 : Q v H)
def tVar (i : Nat) : TE := fun σ H Q => ItVar i σ H Q
def tC (v : V) : TE := fun _ H Q => Q v H
theorem pe_var {i : Nat} {x : Str} {pos : Pos} (hN : X.N[i]? = some x) (hv : Vis X.env.scope x) (hd : autoParam ((x == ("__debug__" : Str)) = false) L2.aDec._auto_1) (hcd : autoParam ((x == ("__classdict__" : Str)) = false) L2.aDec._auto_1) : PE X (.Name x pos) (tVar i) := by
 intro pins s σ H Q I h
 obtain ⟨v, e, h⟩ := h
 obtain ⟨m, hn, hl⟩ := I.loc
 obtain ⟨u, r, l⟩ := hl i x v hN e hv
 have fin : EP X pins σ Q u s := ⟨v, H, I, r, h⟩
 rcases l with ⟨hk, hm⟩ | ⟨hk, c, hc, hcell⟩
 ·exact wpAny_Name (wpAny_loadName_local I.ok.kind hk hn hm fin) hd
 ·rcases hk with hk | hk
  ·exact wpAny_Name (wpAny_loadName_cell I.ok.kind hk hc hcell fin) hd
  ·exact wpAny_Name (wpAny_loadName_free I.ok.kind hk hc hcell fin hcd) hd
theorem pe_int {i j pos} : PE X (.Constant (.int i) j pos) (tC (.int i)) := fun _ _ _ H _ I h => wpAny_Constant_int ⟨.int i, H, I.tok _, ⟨_, rfl⟩, h⟩
theorem pe_bl {b j pos} : PE X (.Constant (.bool b) j pos) (tC (.bl b)) := fun _ _ _ H _ I h => Constant_bool ⟨.bl b, H, I, rfl, h⟩
theorem pe_non {j pos} : PE X (.Constant .none j pos) (tC .non) := fun _ _ _ H _ I h => Constant_none ⟨.non, H, I, rfl, h⟩
theorem pe_str {x j pos} : PE X (.Constant (.str x) j pos) (tC (.str x)) := fun _ _ _ H _ I h => Calls.Constant_str ⟨.str x, H, I.tok _, ⟨_, rfl⟩, h⟩
def Gl (X : Cx) (x : Str) : Prop := X.env.kindOf x = some .globalImplicit
theorem ld_glob {E : Value → Shared → Prop} {pins : List (Addr × Obj)} {s : Shared} {σ : St} {H : Hp} {x : Str} {u : Value} {pos : Pos} {Q : Value → Shared → Prop} (I : Inv X pins σ H s) (hg : Gl X x) (hm : X.mg x = some u) (h : Q u s)
  (hd : autoParam ((x == ("__debug__" : Str)) = false) L2.aDec._auto_1) : wpAny (model X.prog X.w) X.A (eval (.Name x pos) X.env) Q E s :=
 Calls.Name_function_global I.ok.kind hg (Calls.loadGlobal_global (by rw [I.ok.glob]; exact I.mod.glob.keeps I.bk) hm h) hd
theorem ld_blt {E : Value → Shared → Prop} {pins : List (Addr × Obj)} {s : Shared} {σ : St} {H : Hp} {x : Str} {u : Value} {pos : Pos} {Q : Value → Shared → Prop} (I : Inv X pins σ H s) (hg : Gl X x) (hm : X.mg x = none) (hv : bootBuiltins x = some u) (h : Q u s)
  (hn : autoParam (x ≠ "__name__") L2.aDec._auto_1) (hd : autoParam ((x == ("__debug__" : Str)) = false) L2.aDec._auto_1) : wpAny (model X.prog X.w) X.A (eval (.Name x pos) X.env) Q E s := by
 obtain ⟨mb, h1, h2⟩ := I.mod.blt
 exact Calls.Name_function_global I.ok.kind hg (Calls.loadGlobal_builtin (by rw [I.ok.glob]; exact I.mod.glob.keeps I.bk) hm (by rw [I.ok.blt]; exact h1.keeps I.bk) ((h2 x hn).trans hv) h) hd
theorem pe_glob {x : Str} {v : V} {u : Value} {pos : Pos} (hg : Gl X x) (hm : X.mg x = some u) (r : RelV v u) (hd : autoParam ((x == ("__debug__" : Str)) = false) L2.aDec._auto_1) : PE X (.Name x pos) (tC v) :=
 fun _ _ _ H _ I h => ld_glob I hg hm ⟨v, H, I, r, h⟩ hd
theorem pe_bltn {x : Str} {v : V} {u : Value} {pos : Pos} (hg : Gl X x) (hm : X.mg x = none) (hv : bootBuiltins x = some u) (r : RelV v u) (hn : autoParam (x ≠ "__name__") L2.aDec._auto_1) (hd : autoParam ((x == ("__debug__" : Str)) = false) L2.aDec._auto_1) : PE X (.Name x pos) (tC v) :=
 fun _ _ _ H _ I h => ld_blt I hg hm hv ⟨v, H, I, r, h⟩ hn hd
variable {a b : Expr} {ta tb : TE} {pos : Pos}
def PC (X : Cx) (op : CmpOp) (a b : Expr) (t : TE) : Prop :=
 ∀ (pins : List (Addr × Obj)) (s : Shared) (σ : St) (H : Hp) (Q : VK), Inv X pins σ H s → t σ H Q →
  wpAny (model X.prog X.w) X.A (eval a X.env) (fun v s₁ => wpAny (model X.prog X.w) X.A (eval b X.env) (fun u s₂ => wpAny (model X.prog X.w) X.A (compareOp op v u) (EP X pins σ Q) X.xe s₂) X.xe s₁) X.xe s
inductive ItB (Q : (Bool → Hp → Prop)) (x : V) (H1 : Hp) : Prop
 | mk (c : _) (h1 : x = .bl c) (h2 : Q c H1)
def tB (t : TE) : TT := fun σ H Q => t σ H fun x H1 => ItB Q x H1
theorem pt_cmp {op : CmpOp} {t : TE} (h : PC X op a b t) (h1 : behindInMarks op b = false := by first | exact nobehind _ (by decide) (by decide) | rfl) : PT X (.Compare a [op] [b] pos) (tB t) := by
 intro pins s σ H Q I hw
 refine wpAny_isTrue_Compare1 (thn (h pins s σ H _ I hw) fun v s1 h1 => thn h1 fun u s2 h2 => thn h2 fun c s3 hqP => ?_) h1
 obtain ⟨x, H1, I1, r1, q1⟩ := hqP
 obtain ⟨d, rfl, q⟩ := q1
 cases r1
 exact wpAny_truthy_bool ⟨H1, I1, q⟩
theorem pt_val {e : Expr} {t : TE} (h : PE X e t) (he : autoParam (∀ whole, isTrue e X.env whole = (do let v ← whole; standAt e.pos; holding [v] (truthy v))) L2.aIrf._auto_1) : PT X e (tB t) := by
 intro pins s σ H Q I hw
 refine isTrue_plain (thn (h pins s σ H _ I hw) fun v s1 hqP => ?_) (he _)
 obtain ⟨x, H1, I1, r1, q1⟩ := hqP
 obtain ⟨d, rfl, q⟩ := q1
 cases r1
 exact wpAny_truthy_bool ⟨H1, I1, q⟩
variable {tA tB' : TT} {rest : List Expr}
def tAnd (t u : TT) : TT := fun σ H Q => t σ H fun c H1 => if c = true then u σ H1 Q else Q false H1
def tOr (t u : TT) : TT := fun σ H Q => t σ H fun c H1 => if c = true then Q true H1 else u σ H1 Q
def tNot (t : TT) : TT := fun σ H Q => t σ H fun c H1 => Q (!c) H1
theorem pw_and1 (ha : PT X a tA) : PW X (.BoolOp .And [a] pos) tA := by
 intro wh pins s σ H Q I h
 refine isTrue_and (thn (ha pins s σ H Q I h) fun c s1 e => ?_)
 cases c with
 | true => exact isTrue_and_nil e
 | false => exact e
theorem pw_or1 (ha : PT X a tA) : PW X (.BoolOp .Or [a] pos) tA := by
 intro wh pins s σ H Q I h
 refine isTrue_or (thn (ha pins s σ H Q I h) fun c s1 e => ?_)
 cases c with
 | false => exact isTrue_or_nil e
 | true => exact e
theorem pw_and (ha : PT X a tA) (hb : PW X (.BoolOp .And (b :: rest) pos) tB') : PW X (.BoolOp .And (a :: b :: rest) pos) (tAnd tA tB') := by
 intro wh pins s σ H Q I h
 refine isTrue_and (thn (ha pins s σ H _ I h) fun c s1 hqP => ?_)
 obtain ⟨H1, I1, q1⟩ := hqP
 cases c with
 | true => exact hb wh pins s1 σ H1 Q I1 q1
 | false => exact ⟨H1, I1, q1⟩
theorem pw_or (ha : PT X a tA) (hb : PW X (.BoolOp .Or (b :: rest) pos) tB') : PW X (.BoolOp .Or (a :: b :: rest) pos) (tOr tA tB') := by
 intro wh pins s σ H Q I h
 refine isTrue_or (thn (ha pins s σ H _ I h) fun c s1 hqP => ?_)
 obtain ⟨H1, I1, q1⟩ := hqP
 cases c with
 | true => exact ⟨H1, I1, q1⟩
 | false => exact hb wh pins s1 σ H1 Q I1 q1
theorem pt_not (ha : PT X a tA) : PT X (.UnaryOp .Not a pos) (tNot tA) := by
 intro pins s σ H Q I h
 exact isTrue_not (thn (ha pins s σ H (fun c H1 => Q (!c) H1) I h) fun c s1 ⟨H1, I1, q1⟩ => ⟨H1, I1, q1⟩)
inductive ItAndV (tb : TE) (σ : St) (Q : VK) (x : V) (H1 : Hp) : Prop
 | mk (c : _) (h1 : x = .bl c) (h2 : if c = true then tb σ H1 Q else Q (.bl false) H1)
def tAndV (ta tb : TE) : TE := fun σ H Q => ta σ H fun x H1 => ItAndV tb σ Q x H1
inductive ItOrV (tb : TE) (σ : St) (Q : VK) (x : V) (H1 : Hp) : Prop
 | mk (c : _) (h1 : x = .bl c) (h2 : if c = true then Q (.bl true) H1 else tb σ H1 Q)
def tOrV (ta tb : TE) : TE := fun σ H Q => ta σ H fun x H1 => ItOrV tb σ Q x H1
inductive ItNotV (Q : VK) (x : V) (H1 : Hp) : Prop
 | mk (c : _) (h1 : x = .bl c) (h2 : Q (.bl (!c)) H1)
def tNotV (ta : TE) : TE := fun σ H Q => ta σ H fun x H1 => ItNotV Q x H1
theorem pe_one {op} {t : TE} (h : PE X a t) : PE X (.BoolOp op [a] pos) t := fun pins s σ H Q I hw => BoolOp_one (h pins s σ H Q I hw)
theorem pe_and (ha : PE X a ta) (hb : PE X (.BoolOp .And (b :: rest) pos) tb) : PE X (.BoolOp .And (a :: b :: rest) pos) (tAndV ta tb) := by
 intro pins s σ H Q I h
 refine BoolOp_and (thn (ha pins s σ H _ I h) fun v s1 hqP => ?_)
 obtain ⟨x, H1, I1, r1, q1⟩ := hqP
 obtain ⟨c, rfl, q1⟩ := q1
 cases r1
 refine wpAny_truthy_bool ?_
 cases c with
 | true => exact hb pins s1 σ H1 Q I1 q1
 | false => exact ⟨.bl false, H1, I1, rfl, q1⟩
theorem pe_or (ha : PE X a ta) (hb : PE X (.BoolOp .Or (b :: rest) pos) tb) : PE X (.BoolOp .Or (a :: b :: rest) pos) (tOrV ta tb) := by
 intro pins s σ H Q I h
 refine BoolOp_or (thn (ha pins s σ H _ I h) fun v s1 hqP => ?_)
 obtain ⟨x, H1, I1, r1, q1⟩ := hqP
 obtain ⟨c, rfl, q1⟩ := q1
 cases r1
 refine wpAny_truthy_bool ?_
 cases c with
 | false => exact hb pins s1 σ H1 Q I1 q1
 | true => exact ⟨.bl true, H1, I1, rfl, q1⟩
theorem pe_not (ha : PE X a ta) : PE X (.UnaryOp .Not a pos) (tNotV ta) := by
 intro pins s σ H Q I h
 refine UnaryOp_ (thn (ha pins s σ H _ I h) fun v s1 hqP => ?_)
 obtain ⟨x, H1, I1, r1, q1⟩ := hqP
 obtain ⟨c, rfl, q1⟩ := q1
 cases r1
 exact not_of (wpAny_truthy_bool ⟨.bl (!c), H1, I1, rfl, q1⟩)
end
def SqL (K : Fg) (H : Hp) (a : Addr) (xs : List V) : Prop :=
 Rd H a (.lst xs) ∨
  ∃ (o : Obj) (its : Array Value) (n : Nat), K.lookup a = some o ∧ o.cls = .type "list" ∧ o.dict = none ∧ o.data = .seq its n ∧ its.size ≤ sizeLine ∧ Vals xs its.toList
def SqT (K : Fg) (H : Hp) (a : Addr) (xs : List V) : Prop :=
 Rd H a (.tup xs) ∨
  ∃ (o : Obj) (its : Array Value) (n : Nat), K.lookup a = some o ∧ o.cls = .type "tuple" ∧ o.data = .seq its n ∧ its.size ≤ sizeLine ∧ Vals xs its.toList
def absV : Value → Option V
 | .none => some .non
 | .bool b => some (.bl b)
 | .int i _ => some (.int i)
 | .str x _ => some (.str x)
 | .bytes b _ => some (.byt b)
 | .float b _ => some (.flt b)
 | .ref a => some (.ref a)
 | .type n => some (.ty n)
 | _ => none
theorem RelV.abs {x : V} {u : Value} (r : RelV x u) : absV u = some x := by
 cases x with
 | non => cases r; rfl
 | bl _ => cases r; rfl
 | int _ => obtain ⟨t, rfl⟩ := r; rfl
 | str _ => obtain ⟨t, rfl⟩ := r; rfl
 | byt _ => obtain ⟨t, rfl⟩ := r; rfl
 | flt _ => obtain ⟨t, rfl⟩ := r; rfl
 | ref _ => cases r; rfl
 | ty _ => cases r; rfl
theorem RelV.inj {x y : V} {u : Value} (r : RelV x u) (q : RelV y u) : x = y := Option.some.inj (r.abs.symm.trans q.abs)
theorem Vals.inj {xs ys : List V} {us : List Value} (h : Vals xs us) (g : Vals ys us) : xs = ys := by
 induction h generalizing ys with
 | nil => cases g; rfl
 | cons r t ih =>
  cases g with
  | cons r' t' => rw [r.inj r', ih t']
section
variable {X : Cx} {pins : List (Addr × Obj)} {σ : St} {H : Hp} {s : Shared} {a : Addr} {xs ys : List V}
theorem Inv.list (I : Inv X pins σ H s) (h : SqL X.K H a xs) : ∃ its : List Value, Vals xs its ∧ PlainL s.heap a its.toArray ∧ xs.length ≤ sizeLine := by
 rcases h with h | ⟨o, its, n, hk, hc, hd, hs, hz, r⟩
 ·obtain ⟨z, its, n, r, e⟩ := h.ok I.hok
  exact ⟨its, r, ⟨_, n, e, rfl, rfl, rfl⟩, z⟩
 ·refine ⟨its.toList, r, ⟨o, n, I.kIn a o hk, hc, hd, by simpa using hs⟩, ?_⟩
  have e := r.length
  simp only [jQc] at e
  lia
theorem Inv.tuple (I : Inv X pins σ H s) (h : SqT X.K H a xs) : ∃ its : List Value, Vals xs its ∧ IsTup s.heap a its.toArray ∧ xs.length ≤ sizeLine := by
 rcases h with h | ⟨o, its, n, hk, hc, hs, hz, r⟩
 ·obtain ⟨z, its, r, p⟩ := h.ok I.hok
  exact ⟨its, r, p, z⟩
 ·refine ⟨its.toList, r, ⟨o, I.kIn a o hk, hc, n, by simpa using hs⟩, ?_⟩
  have e := r.length
  simp only [jQc] at e
  lia
theorem Inv.list_inj (I : Inv X pins σ H s) (h : SqL X.K H a xs) (h' : SqL X.K H a ys) : xs = ys := by
 obtain ⟨its, r, ⟨o, n, e, _, _, d⟩, _⟩ := I.list h
 obtain ⟨its', r', ⟨o', n', e', _, _, d'⟩, _⟩ := I.list h'
 rw [e] at e'; cases e'
 rw [d] at d'
 injection d' with d1 _
 have : its = its' := by simpa using congrArg Array.toList d1
 subst this
 exact r.inj r'
theorem Inv.tuple_inj (I : Inv X pins σ H s) (h : SqT X.K H a xs) (h' : SqT X.K H a ys) : xs = ys := by
 obtain ⟨its, r, ⟨o, e, _, n, d⟩, _⟩ := I.tuple h
 obtain ⟨its', r', ⟨o', e', _, n', d'⟩, _⟩ := I.tuple h'
 rw [e] at e'; cases e'
 rw [d] at d'
 injection d' with d1 _
 have : its = its' := by simpa using congrArg Array.toList d1
 subst this
 exact r.inj r'
end
abbrev Cx.wish (X : Cx) (E : Value → Shared → Prop) : Cx := { X with xe := E }
abbrev Cx.nox (X : Cx) : Cx := X.wish fun _ _ => False
theorem Cx.Ok.wish {X : Cx} (ok : X.Ok) (E : Value → Shared → Prop) : (X.wish E).Ok :=
 ⟨ok.mod, ok.kind, ok.glob, ok.blt, ok.above, ok.inj, ok.has, ok.cab, ok.hd, ok.frames, ok.stk, ok.exf, ok.bs, ok.bsz, ok.noex, ok.exfs, ok.funs, ok.frf⟩
theorem Cx.Ok.unwish {X : Cx} {E : Value → Shared → Prop} (ok : (X.wish E).Ok) : X.Ok :=
 ⟨ok.mod, ok.kind, ok.glob, ok.blt, ok.above, ok.inj, ok.has, ok.cab, ok.hd, ok.frames, ok.stk, ok.exf, ok.bs, ok.bsz, ok.noex, ok.exfs, ok.funs, ok.frf⟩
section
variable {X : Cx} {pins : List (Addr × Obj)} {σ : St} {H : Hp} {s : Shared} {E : Value → Shared → Prop}
theorem Inv.wish (I : Inv X pins σ H s) (E : Value → Shared → Prop) : Inv (X.wish E) pins σ H s := ⟨I.ok.wish E, I.os, I.bare, I.base, I.loc, I.cell, I.free, I.freeC, I.pin, I.hok, I.len⟩
theorem Inv.unwish (I : Inv (X.wish E) pins σ H s) : Inv X pins σ H s := ⟨I.ok.unwish, I.os, I.bare, I.base, I.loc, I.cell, I.free, I.freeC, I.pin, I.hok, I.len⟩
theorem SP.unwish {D : Ends} {f : Flow} {s' : Shared} (h : SP (X.wish E) pins D f s') : SP X pins D f s' := by
 cases f with
 | next => obtain ⟨σ', H', I, q⟩ := h; exact ⟨σ', H', I.unwish, q⟩
 | brk => obtain ⟨σ', H', I, q⟩ := h; exact ⟨σ', H', I.unwish, q⟩
 | cont => obtain ⟨σ', H', I, q⟩ := h; exact ⟨σ', H', I.unwish, q⟩
 | ret u => obtain ⟨v, σ', H', I, r, q⟩ := h; exact ⟨v, σ', H', I.unwish, r, q⟩
theorem PSs.nox {st : List Stmt} {t : TS} (h : PSs X.nox st t) : PSs X st t := fun pins s σ H D I hw =>
 wpAny_mono (h pins s σ H D (I.wish _) hw) (fun _ _ q => q.unwish) fun _ _ z => False.elim z
end
section
variable {X : Cx} {st : Stmt} {rest : List Stmt} {t u : TS} {e : Expr} {te : TE} {pos : Pos}
def tNext : TS := fun D σ H => D.nx σ H
def tSeq (t u : TS) : TS := fun D σ H => t { D with nx := u D } σ H
theorem pss_nil : PSs X [] tNext := fun _ _ σ H _ I h => wpAny_execs_nil ⟨σ, H, I, h⟩
theorem pss_cons (h1 : PS X st t) (h2 : PSs X rest u) : PSs X (st :: rest) (tSeq t u) := by
 intro pins s σ H D I h
 refine wpAny_execs_cons (thn (h1 pins s σ H { D with nx := u D } I h) fun f s1 q => ?_)
 cases f with
 | next =>
  obtain ⟨σ', H', I', q⟩ := q
  exact h2 pins s1 σ' H' D I' q
 | ret v => exact q
 | brk => exact q
 | cont => exact q
theorem pss_one (h1 : PS X st t) : PSs X [st] t := by
 intro pins s σ H D I h
 refine wpAny_execs_cons (thn (h1 pins s σ H D I h) fun f s1 q => ?_)
 cases f with
 | next => exact wpAny_execs_nil q
 | ret v => exact q
 | brk => exact q
 | cont => exact q
def tBreak : TS := fun D σ H => D.bk σ H
theorem ps_break : PS X (.Break pos) tBreak := fun _ _ σ H _ I h => wpAny_Break ⟨σ, H, I, h⟩
theorem Inv.quiet {pins : List (Addr × Obj)} {σ : St} {H : Hp} {s : Shared} (I : Inv X pins σ H s) : interactive X.env = false := by simp [interactive, I.ok.kind]
def tDrop (te : TE) : TS := fun D σ H => te σ H fun _ H1 => D.nx σ H1
theorem ps_expr (he : PE X e te) (hs : autoParam (swapsWith e none pos.line X.env = pure false) L2.aRfl._auto_1) : PS X (.Expr e pos) (tDrop te) := by
 intro pins s σ H D I h
 exact wpAny_Expr_any (thn (he pins s σ H _ I h) fun v s1 ⟨x, H1, I1, r1, q1⟩ => ⟨σ, H1, I1, q1⟩) I.quiet hs
def tRet (te : TE) : TS := fun D σ H => te σ H D.rt
theorem ps_ret (he : PE X e te) : PS X (.Return (some e) pos) (tRet te) := by
 intro pins s σ H D I h
 exact wpAny_Return_some (thn (he pins s σ H _ I h) fun v s1 ⟨x, H1, I1, r1, q1⟩ => ⟨x, σ, H1, I1, r1, q1⟩)
def tIfS (c : TT) (t u : TS) : TS := fun D σ H => c σ H fun b H1 => if b = true then t D σ H1 else u D σ H1
theorem ps_if {c : Expr} {a b : List Stmt} {tc : TT} (hc : PT X c tc) (ha : PSs X a t) (hb : PSs X b u) : PS X (.If c a b pos) (tIfS tc t u) := by
 intro pins s σ H D I h
 refine wpAny_If (thn (hc pins s σ H _ I h) fun d s1 hqP => ?_)
 obtain ⟨H1, I1, q1⟩ := hqP
 cases d with
 | true => exact ha pins s1 σ H1 D I1 q1
 | false => exact hb pins s1 σ H1 D I1 q1
end
abbrev TG := V → St → Hp → (St → Hp → Prop) → Prop
abbrev TGs := List V → St → Hp → (St → Hp → Prop) → Prop
def PG (X : Cx) (target : Expr) (t : TG) : Prop :=
 ∀ (pins : List (Addr × Obj)) (s : Shared) (σ : St) (H : Hp) (v : V) (u : Value) (Q : St → Hp → Prop), Inv X pins σ H s → RelV v u → t v σ H Q →
  wpAny (model X.prog X.w) X.A (assign target X.env u) (fun _ s' => ∃ σ' H', Inv X pins σ' H' s' ∧ Q σ' H') X.xe s
def PGs (X : Cx) (ts : List Expr) (t : TGs) : Prop :=
 ∀ (pins : List (Addr × Obj)) (s : Shared) (σ : St) (H : Hp) (vs : List V) (us : List Value) (Q : St → Hp → Prop), Inv X pins σ H s → Vals vs us → t vs σ H Q →
  wpAny (model X.prog X.w) X.A (assignInOrder ((assignEach ts X.env).map (·.2)) us) (fun _ s' => ∃ σ' H', Inv X pins σ' H' s' ∧ Q σ' H') X.xe s
abbrev TSet := V → V → V → Hp → (Hp → Prop) → Prop
def PSet (X : Cx) (t : TSet) : Prop :=
 ∀ (pins : List (Addr × Obj)) (s : Shared) (σ : St) (H : Hp) (o i v : V) (ov iv u : Value) (Q : Hp → Prop), Inv X pins σ H s → RelV o ov → RelV i iv → RelV v u → t o i v H Q →
  wpAny (model X.prog X.w) X.A (setItem ov iv u) (fun _ s' => ∃ H', Inv X pins σ H' s' ∧ Q H') X.xe s
abbrev TIp := V → V → Hp → VK → Prop
def PIp (X : Cx) (op : Operator) (t : TIp) : Prop :=
 ∀ (pins : List (Addr × Obj)) (s : Shared) (σ : St) (H : Hp) (x y : V) (v u : Value) (Q : VK), Inv X pins σ H s → RelV x v → RelV y u → t x y H Q →
  wpAny (model X.prog X.w) X.A (inplaceOp op v u) (EP X pins σ Q) X.xe s
section
variable {X : Cx} {pos : Pos}
def gName (i : Nat) : TG := fun v σ H Q => Q (σ.set i (some v)) H
theorem pg_name {i : Nat} {x : Str} (hN : X.N.Nodup) (hi : X.N[i]? = some x) (hx : Loc X.env.scope x) (hf : autoParam (X.fn x = true ∨ X.env.scope.names.lookup x = some .local) L2.aFst._auto_1) : PG X (.Name x pos) (gName i) := by
 intro pins s σ H v u Q I r h
 exact wpAny_assign_Name (store_ok I hN hi hx r (fun s' I' => ⟨_, H, I', h⟩) hf)
def gNil : TGs := fun vs σ H Q => vs = [] ∧ Q σ H
inductive IgCons (t : TG) (u : TGs) (vs : List V) (σ : St) (H : Hp) (Q : (St → Hp → Prop)) : Prop
 | mk (v : _) (r : _) (h1 : vs = v :: r) (h2 : t v σ H fun σ' H' => u r σ' H' Q)
def gCons (t : TG) (u : TGs) : TGs := fun vs σ H Q => IgCons t u vs σ H Q
theorem pgs_nil : PGs X [] gNil := by
 intro pins s σ H vs us Q I r h
 obtain ⟨e, h⟩ := h
 subst e
 cases r
 exact assignInOrder_nil ⟨σ, H, I, h⟩
theorem pgs_cons {e : Expr} {es : List Expr} {t : TG} {u : TGs} (h1 : PG X e t) (h2 : PGs X es u)
  (hs : autoParam ((assignEach (e :: es) X.env).map (·.2) = assign e X.env :: (assignEach es X.env).map (·.2)) L2.aRfl._auto_1) : PGs X (e :: es) (gCons t u) := by
 intro pins s σ H vs us Q I r h
 obtain ⟨v, vr, e1, h⟩ := h
 subst e1
 cases r with
 | cons r rr =>
  rw [hs]
  refine assignInOrder_cons (thn (h1 pins s σ H _ _ _ I r h) fun _ s1 hqP => ?_)
  obtain ⟨σ1, H1, I1, q1⟩ := hqP
  exact h2 pins s1 σ1 H1 _ _ Q I1 rr q1
inductive IgTup (K : Fg) (n : Nat) (t : TGs) (v : V) (σ : St) (H : Hp) (Q : (St → Hp → Prop)) : Prop
 | mk (a : _) (xs : _) (h1 : v = .ref a) (h2 : SqT K H a xs) (h3 : xs.length = n) (h4 : t xs σ H Q)
def gTup (K : Fg) (n : Nat) (t : TGs) : TG := fun v σ H Q => IgTup K n t v σ H Q
theorem pg_tup {es : List Expr} {k : Nat} {t : TGs} {n : Nat} (hc : X.calm = true) (h : PGs X es t)
  (hn : autoParam ((assignEach es X.env).length = n) L2.aRfl._auto_1) (hst : autoParam ((assignEach es X.env).findIdx? (·.1) = none) L2.aRfl._auto_1) : PG X (.Tuple es k pos) (gTup X.K n t) := by
 intro pins s σ H v u Q I r hw
 obtain ⟨a, xs, e1, hq, hl, hw⟩ := hw
 subst e1
 cases r
 obtain ⟨its, rv, ht, hz⟩ := I.tuple hq
 refine assign_Tuple_tuple (I.ok.hd hc) ht (by simp [hn, ← hl, rv.length]) hst fun h' hx => ?_
 have I1 : Inv X pins σ H { s with heap := h' } := I.kept (t' := s.toks) fun b o e => hx b o (zJ (kJ e)) e
 exact h pins _ σ H xs _ Q I1 (by simpa using rv) hw
def gSub (to ti : TE) (t : TSet) : TG := fun v σ H Q => to σ H fun o H1 => ti σ H1 fun i H2 => t o i v H2 fun H3 => Q σ H3
theorem pg_sub {o i : Expr} {to ti : TE} {t : TSet} (ho : PE X o to) (hi : PE X i ti) (hs : PSet X t)
  (ha : ∀ v, assign (.Subscript o i pos) X.env v = (do
   let ov ← holding [v] (eval o X.env)
   let iv ← holding [v, ov] (eval i X.env)
   standAt pos
   holding [v, ov, iv] (setItem ov iv v)
   release [v, ov, iv] []) := by intro _; rfl) : PG X (.Subscript o i pos) (gSub to ti t) := by
 intro pins s σ H v u Q I r h
 rw [ha]
 refine jX (wpAny_holding (thn (ho pins s σ H _ I h) fun ov s1 hqP => ?_))
 obtain ⟨x, H1, I1, r1, q1⟩ := hqP
 refine jX (wpAny_holding (thn (hi pins s1 σ H1 _ I1 q1) fun iv s2 hqP => ?_))
 obtain ⟨y, H2, I2, r2, q2⟩ := hqP
 refine jX (wpAny_standAt (jX (wpAny_holding (thn (hs pins s2 σ H2 x y v ov iv u _ I2 r1 r2 r q2) fun _ s3 hqP => ?_))))
 obtain ⟨H3, I3, q3⟩ := hqP
 exact wpAny_release ⟨σ, H3, I3, q3⟩
def tAsg (te : TE) (g : TG) : TS := fun D σ H => te σ H fun x H1 => g x σ H1 D.nx
theorem ps_asg {tg e : Expr} {te : TE} {g : TG} (he : PE X e te) (hg : PG X tg g) (hs : autoParam (swapsWithSole [tg] e pos.line X.env = pure false) L2.aRfl._auto_1) (hw : autoParam (swappedStores [tg] e X.env = pure none) L2.aRfl._auto_1)
  (h1 : autoParam ((assignEach [tg] X.env).map (·.2) = [assign tg X.env]) L2.aRfl._auto_1) : PS X (.Assign [tg] e pos) (tAsg te g) := by
 intro pins s σ H D I h
 refine wpAny_Assign_stores (thn (he pins s σ H _ I h) fun v s1 hqP => ?_) hs hw
 obtain ⟨x, H1, I1, r1, q1⟩ := hqP
 rw [h1]
 exact thn (hg pins s1 σ H1 x v _ I1 r1 q1) fun _ s2 q => q
theorem ps_set {i : Nat} {x : Str} {e : Expr} {te : TE} {pos' : Pos} (hN : X.N.Nodup) (hi : X.N[i]? = some x) (hx : Loc X.env.scope x) (he : PE X e te) (hs : autoParam (swapsWith e (some (.Name x pos')) pos.line X.env = pure false) L2.aRfl._auto_1) (hf : autoParam (X.fn x = true ∨ X.env.scope.names.lookup x = some .local) L2.aFst._auto_1) :
  PS X (.Assign [.Name x pos'] e pos) (tAsg te (gName i)) := by
 intro pins s σ H D I h
 refine wpAny_Assign_Name (thn (he pins s σ H _ I h) fun v s1 hqP => ?_) hs
 obtain ⟨y, H1, I1, r1, q1⟩ := hqP
 exact store_ok I1 hN hi hx r1 (fun s2 I2 => ⟨_, H1, I2, q1⟩) hf
inductive ItAug (i : Nat) (te : TE) (ti : TIp) (D : Ends) (σ : St) (H : Hp) : Prop
 | mk (x : _) (h1 : σ[i]? = some (some x)) (h2 : te σ H fun y H1 => ti x y H1 fun z H2 => D.nx (σ.set i (some z)) H2)
def tAug (i : Nat) (te : TE) (ti : TIp) : TS := fun D σ H => ItAug i te ti D σ H
theorem ps_aug {i : Nat} {x : Str} {e : Expr} {te : TE} {op : Operator} {ti : TIp} {pos' : Pos} (hN : X.N.Nodup) (hi : X.N[i]? = some x) (hx : Loc X.env.scope x) (he : PE X e te) (ho : PIp X op ti) (hf : autoParam (X.fn x = true ∨ X.env.scope.names.lookup x = some .local) L2.aFst._auto_1) :
  PS X (.AugAssign (.Name x pos') op e pos) (tAug i te ti) := by
 intro pins s σ H D I h
 obtain ⟨v, e1, h⟩ := h
 obtain ⟨m, hn, hl⟩ := I.loc
 have vis : Vis X.env.scope x := by rcases hx with k | k; exact .inl k; exact .inr (.inl k)
 obtain ⟨u, r, l⟩ := hl i x v hi e1 vis
 refine wpAny_AugAssign_Name ?_
 have go : wpAny (model X.prog X.w) X.A (eval e X.env) (fun w s₂ => wpAny (model X.prog X.w) X.A (inplaceOp op u w) (fun r s₃ => wpAny (model X.prog X.w) X.A (storeName X.env x r) (fun _ => SP X pins D .next) X.xe s₃) X.xe s₂) X.xe s := by
  refine thn (he pins s σ H _ I h) fun w s1 hqP => ?_
  obtain ⟨y, H1, I1, r1, q1⟩ := hqP
  refine thn (ho pins s1 σ H1 v y u w _ I1 r r1 q1) fun z s2 hqP => ?_
  obtain ⟨zv, H2, I2, r2, q2⟩ := hqP
  exact store_ok I2 hN hi hx r2 (fun s3 I3 => ⟨_, H2, I3, q2⟩) hf
 rcases l with ⟨hk, hm⟩ | ⟨hk, c, hc, hcell⟩
 ·exact wpAny_loadName_local I.ok.kind hk hn hm go
 ·rcases hk with hk | hk
  ·exact wpAny_loadName_cell I.ok.kind hk hc hcell go
  ·rcases hx with k | k
   ·have : X.env.scope.names.lookup x = some .free := hk
    rw [k] at this; cases this
   ·have : X.env.scope.names.lookup x = some .free := hk
    rw [k] at this; cases this
def tAugS (to ti te : TE) (tget : V → V → Hp → VK → Prop) (tip : TIp) (tset : TSet) : TS := fun D σ H => to σ H fun o H1 => ti σ H1 fun i H2 => tget o i H2 fun x H3 => te σ H3 fun y H4 => tip x y H4 fun z H5 => tset o i z H5 fun H6 => D.nx σ H6
def PGet (X : Cx) (t : V → V → Hp → VK → Prop) : Prop :=
 ∀ (pins : List (Addr × Obj)) (s : Shared) (σ : St) (H : Hp) (o i : V) (ov iv : Value) (Q : VK), Inv X pins σ H s → RelV o ov → RelV i iv → t o i H Q →
  wpAny (model X.prog X.w) X.A (getItem ov iv) (EP X pins σ Q) X.xe s
theorem ps_augS {o i e : Expr} {to ti te : TE} {tget : V → V → Hp → VK → Prop} {tip : TIp} {tset : TSet} {op : Operator} {tpos : Pos} (ho : PE X o to) (hi : PE X i ti) (hg : PGet X tget) (he : PE X e te) (hp : PIp X op tip) (hs : PSet X tset)
  (ha : ∀ ov iv new, augStore i ov iv new = (do holding [new, ov, iv] (setItem ov iv new); release [new, ov, iv] []; pure .next) := by intros; rfl) : PS X (.AugAssign (.Subscript o i tpos) op e pos) (tAugS to ti te tget tip tset) := by
 intro pins s σ H D I h
 refine wpAny_AugAssign_SubscriptAny (thn (ho pins s σ H _ I h) fun ov s1 hqP => ?_) ha
 obtain ⟨x1, H1, I1, r1, q1⟩ := hqP
 refine thn (hi pins s1 σ H1 _ I1 q1) fun iv s2 hqP => ?_
 obtain ⟨x2, H2, I2, r2, q2⟩ := hqP
 refine thn (hg pins s2 σ H2 x1 x2 ov iv _ I2 r1 r2 q2) fun old s3 hqP => ?_
 obtain ⟨x3, H3, I3, r3, q3⟩ := hqP
 refine thn (he pins s3 σ H3 _ I3 q3) fun v s4 hqP => ?_
 obtain ⟨x4, H4, I4, r4, q4⟩ := hqP
 refine thn (hp pins s4 σ H4 x3 x4 old v _ I4 r3 r4 q4) fun new s5 hqP => ?_
 obtain ⟨x5, H5, I5, r5, q5⟩ := hqP
 exact thn (hs pins s5 σ H5 x1 x2 x5 ov iv new _ I5 r1 r2 r5 q5) fun _ s6 ⟨H6, I6, q6⟩ => ⟨σ, H6, I6, q6⟩
inductive IipI (f : Int → Int → Int) (x : V) (y : V) (H : Hp) (Q : VK) : Prop
 | mk (i : _) (j : _) (h1 : x = .int i) (h2 : y = .int j) (h3 : Q (.int (f i j)) H)
def ipI (f : Int → Int → Int) : TIp := fun x y H Q => IipI f x y H Q
theorem ip_add : PIp X .Add (ipI fun i j => i + j) := by
 intro pins s σ H x y v u Q I r1 r2 h
 obtain ⟨i, j, e1, e2, q⟩ := h
 subst e1; subst e2
 obtain ⟨t, rfl⟩ := r1
 obtain ⟨t', rfl⟩ := r2
 exact iadd_int ⟨.int _, H, I.tok _, ⟨_, rfl⟩, q⟩
theorem ip_sub : PIp X .Sub (ipI fun i j => i - j) := by
 intro pins s σ H x y v u Q I r1 r2 h
 obtain ⟨i, j, e1, e2, q⟩ := h
 subst e1; subst e2
 obtain ⟨t, rfl⟩ := r1
 obtain ⟨t', rfl⟩ := r2
 exact isub_int ⟨.int _, H, I.tok _, ⟨_, rfl⟩, q⟩
end
section
variable {X : Cx} {pos : Pos}
def tWhile (c : TT) (tb : TS) : TS := fun D σ H => ∃ W : Nat → St → Hp → Prop, (∃ m, W m σ H) ∧ ∀ m σ H, W m σ H →
 c σ H fun b H1 => if b = true then ∃ N : St → Hp → Prop, (∀ σ' H', N σ' H' → ∃ m', m' < m ∧ W m' σ' H') ∧ tb { D with nx := N, ct := N, bk := D.nx } σ H1 else D.nx σ H1
theorem ps_while {c : Expr} {body : List Stmt} {tc : TT} {tb : TS} (hp : PassesOwn (model X.prog X.w) X.A X.env X.xe) (hc : PT X c tc) (hb : PSs X body tb) : PS X (.While c body [] pos) (tWhile tc tb) := by
 intro pins s σ H D I h
 obtain ⟨W, ⟨m0, w0⟩, turn⟩ := h
 refine wpAny_While (codeAny_whileLoop (fun n s' => ∃ σ' H', Inv X pins σ' H' s' ∧ W n σ' H') ?_ m0 ⟨σ, H, I, w0⟩)
 rintro n s1 ⟨σ1, H1, I1, w1⟩
 refine wpAny_passesOwn hp (thn (hc pins s1 σ1 H1 _ I1 (turn n σ1 H1 w1)) fun b s2 hqP => ?_)
 obtain ⟨H2, I2, q2⟩ := hqP
 cases b with
 | true =>
  obtain ⟨N, hN, q2⟩ := q2
  rw [if_pos rfl]
  refine wpAny_passesOwn hp (thn (hb pins s2 σ1 H2 _ I2 q2) fun f s3 q3 => ?_)
  cases f with
  | next =>
   obtain ⟨σ3, H3, I3, n3⟩ := q3
   obtain ⟨m', hm, w3⟩ := hN σ3 H3 n3
   exact ⟨m', hm, σ3, H3, I3, w3⟩
  | cont =>
   obtain ⟨σ3, H3, I3, n3⟩ := q3
   obtain ⟨m', hm, w3⟩ := hN σ3 H3 n3
   exact ⟨m', hm, σ3, H3, I3, w3⟩
  | brk => exact q3
  | ret v => exact q3
 | false =>
  rw [if_neg kZ]
  exact wpAny_execs_nil ⟨σ1, H2, I2, q2⟩
end
set_option genInjectivity false in
set_option genInjectivity false in
structure It where
 go : Nat → Hp → Prop
 yld : Nat → Hp → V → Hp → Prop
 stop : Nat → Hp → Prop
def FpOk (X : Cx) (pins : List (Addr × Obj)) (H : Hp) (b : Addr) : Prop :=
 H b = none ∧ b ≠ X.env.locals ∧ b ∉ X.fs ∧ (b ∈ X.ex ∨ X.s₀.heap.objs.size ≤ b) ∧ (∀ x c, X.env.cells.lookup x = some c → c ≠ b) ∧ ∀ p ∈ X.pn ++ pins, p.1 ≠ b
theorem Inv.fpOk {X : Cx} {pins : List (Addr × Obj)} {σ : St} {H H' : Hp} {s : Shared} {b : Addr} (I : Inv X pins σ H s) (hb : s.heap.objs.size ≤ b) (hn : H' b = none) : FpOk X pins H' b := by
 refine ⟨hn, Nat.ne_of_gt (xX I.lt hb), I.nofs hb, .inr (wW I.sz hb), fun x c e z => ?_, fun p hp z => ?_⟩
 ·obtain ⟨v, q⟩ := I.cell x c e
  exact absurd (xX q.lt (by rw [z]; exact hb)) (jYb _)
 ·exact absurd (xX (kJ (I.pin p hp).1) (by rw [z]; exact hb)) (jYb _)
structure Turn (P : Program) (w : World) (K : Fg) (tg : Expr) (J : It) (fp : List Addr) (it : Addr) (tn : Nat → Heap → Prop) : Prop where
 mem : it ∈ fp
 obj : ∀ i h, tn i h → ∀ b ∈ fp, ∃ o, h.get? b = some o ∧ ∀ v, o.data ≠ .cell v
 keep : ∀ i h h', tn i h → (∀ b ∈ fp, ∀ o, h.get? b = some o → h'.get? b = some o) → tn i h'
 item : ∀ (X : Cx), X.prog = P → X.w = w → X.K = K → X.calm = true → ∀ (i : Nat) (pins : List (Addr × Obj)) (s : Shared) (σ : St) (H : Hp) (E : Value → Shared → Prop), Inv X pins σ H s → (∀ b ∈ fp, FpOk X pins H b) → tn i s.heap → J.go i H →
  wpAny (model P w) X.A (pyNext (.ref it)) (fun r s1 => ∃ u, r = some u ∧
   wpAny (model P w) X.A (letOwnedTupleGo tg (.ref it) u) (fun _ s2 => ∃ x H', Inv X pins σ H' s2 ∧ RelV x u ∧ J.yld i H x H' ∧ tn (i + 1) s2.heap ∧ ∀ b ∈ fp, H' b = none) E s1) E s
 done : ∀ (X : Cx), X.prog = P → X.w = w → X.K = K → X.calm = true → ∀ (i : Nat) (pins : List (Addr × Obj)) (s : Shared) (σ : St) (H : Hp) (E : Value → Shared → Prop), Inv X pins σ H s → (∀ b ∈ fp, FpOk X pins H b) → tn i s.heap → J.stop i H →
  wpAny (model P w) X.A (pyNext (.ref it)) (fun r s1 => r = none ∧ Inv X pins σ H s1) E s
 self : ∀ (A : Around) (i : Nat) (s : Shared) (Q : Value → Shared → Prop) (E : Value → Shared → Prop), tn i s.heap → Q (.ref it) s → wpAny (model P w) A (pyIter (.ref it)) Q E s
abbrev TI := St → Hp → (It → Hp → Prop) → Prop
def PIE (X : Cx) (pins : List (Addr × Obj)) (σ : St) (tg : Expr) (R : It → Hp → Prop) (itv : Value) (s2 : Shared) : Prop :=
 ∃ (it : Addr) (fp : List Addr) (tn : Nat → Heap → Prop) (J : It) (H' : Hp), itv = .ref it ∧ Inv X pins σ H' s2 ∧ Turn X.prog X.w X.K tg J fp it tn ∧ tn 0 s2.heap ∧ (∀ b ∈ fp, FpOk X pins H' b) ∧ R J H'
def PI (X : Cx) (tg iter : Expr) (wi : TI) : Prop :=
 ∀ (pins : List (Addr × Obj)) (s : Shared) (σ : St) (H : Hp) (R : It → Hp → Prop), Inv X pins σ H s → wi σ H R →
  wpAny (model X.prog X.w) X.A (eval iter X.env) (fun v s1 => wpAny (model X.prog X.w) X.A (pyIter v) (PIE X pins σ tg R) X.xe s1) X.xe s
theorem go_of {M : Model} {A : Around} {E : Value → Shared → Prop} {s : Shared} {tg : Expr} {it : Addr} {u : Value} {o : Obj} {n : String} {vs : Array Value} {Q : Unit → Shared → Prop} (ho : s.heap.get? it = some o) (hc : o.cls = .type n) (hd : o.data = .fields vs)
    (hn : ["enumerate", "zip", "dict_itemiterator", "dict_reverseitemiterator", "odict_iterator", "itertools.zip_longest", "itertools.pairwise"].contains n = false) (hQ : Q () s) : wpAny M A (letOwnedTupleGo tg (.ref it) u) Q E s := by
  unfold letOwnedTupleGo
  cases tg <;> first
    | exact jW hQ
    | (cases u <;> first
        | exact jW hQ
        | (refine jX (wpAny_load ho ?_)
           rw [hc, hd]
           show wpAny M A (if (["enumerate", "zip", "dict_itemiterator", "dict_reverseitemiterator", "odict_iterator", "itertools.zip_longest", "itertools.pairwise"].contains n && vs[0]? == some (rawInt _)) = true then _ else _) Q E s
           rw [if_neg (by intro h; rw [hn, Bool.false_and] at h; cases h)]
           exact jW hQ))
def Itl (K : Fg) (a : Addr) : It :=
 ⟨fun i H => ∃ xs x, SqL K H a xs ∧ xs[i]? = some x, fun i H x H' => H' = H ∧ ∀ xs, SqL K H a xs → xs[i]? = some x, fun i H => ∃ xs, SqL K H a xs ∧ xs.length ≤ i⟩
def Itt (K : Fg) (a : Addr) : It :=
 ⟨fun i H => ∃ xs x, SqT K H a xs ∧ xs[i]? = some x, fun i H x H' => H' = H ∧ ∀ xs, SqT K H a xs → xs[i]? = some x, fun i H => ∃ xs, SqT K H a xs ∧ xs.length ≤ i⟩
def Itr (lo : Int) (n : Nat) : It := ⟨fun i _ => i < n, fun i H x H' => H' = H ∧ x = .int (lo + i), fun i _ => n ≤ i⟩
theorem turn_list {P : Program} {w : World} {K : Fg} {tg : Expr} (a it : Addr) : Turn P w K tg (Itl K a) [it] it (fun i h => h.IsListIter it a i) where
 mem := by simp
 obj := fun i h st b hb => by
  have e : b = it := by simpa using hb
  subst e
  obtain ⟨o, e, c, d⟩ := st
  exact ⟨o, e, fun v z => by rw [d] at z; cases z⟩
 keep := fun i h h' st k => st.at fun o e => k it (by simp) o e
 item := by
  intro X hP hw hK hc i pins s σ H E I hf st hg
  subst hP hw hK
  obtain ⟨xs, x, hq, hx⟩ := hg
  obtain ⟨its, rv, p, hz⟩ := I.list hq
  obtain ⟨u, hu, ru⟩ := rv.get hx
  obtain ⟨f0, f1, f2, f3, f4, f5⟩ := hf it (by simp)
  refine wpAny_pyNext_list_item st p.isList (x := u) (by simpa using hu) fun h' st' sb => ?_
  have I1 : Inv X pins σ H { s with heap := h' } := I.turned (t' := s.toks) (fun b o hb e => (sb.2 b hb).trans e) f0 f1 f3 f4 f5
  obtain ⟨o, e, c, d⟩ := id st'
  exact ⟨u, rfl, go_of (s := { s with heap := h' }) e c d (by decide) ⟨x, H, I1, ru, ⟨rfl, fun ys hy => by rw [I.list_inj hy hq]; exact hx⟩, st', fun b hb => (hf b hb).1⟩⟩
 done := by
  intro X hP hw hK hc i pins s σ H E I hf st hg
  subst hP hw hK
  obtain ⟨xs, hq, hx⟩ := hg
  obtain ⟨its, rv, p, hz⟩ := I.list hq
  obtain ⟨f0, f1, f2, f3, f4, f5⟩ := hf it (by simp)
  have hl := rv.length
  exact wpAny_pyNext_list_end (I.ok.hd hc) st p.isList (by simp; lia) fun h' eb => ⟨rfl, I.turned (t' := s.toks) (fun b o hb e => eb b o hb e) f0 f1 f3 f4 f5⟩
 self := fun _ _ _ _ _ st h => wpAny_pyIter_listiter st h
theorem turn_tuple {P : Program} {w : World} {K : Fg} {tg : Expr} (a it : Addr) : Turn P w K tg (Itt K a) [it] it (fun i h => h.IsTupleIter it a i) where
 mem := by simp
 obj := fun i h st b hb => by
  have e : b = it := by simpa using hb
  subst e
  obtain ⟨o, e, c, d⟩ := st
  exact ⟨o, e, fun v z => by rw [d] at z; cases z⟩
 keep := fun i h h' st k => st.at fun o e => k it (by simp) o e
 item := by
  intro X hP hw hK hc i pins s σ H E I hf st hg
  subst hP hw hK
  obtain ⟨xs, x, hq, hx⟩ := hg
  obtain ⟨its, rv, p, hz⟩ := I.tuple hq
  obtain ⟨u, hu, ru⟩ := rv.get hx
  obtain ⟨f0, f1, f2, f3, f4, f5⟩ := hf it (by simp)
  refine wpAny_pyNext_tuple_item st (show s.heap.IsTuple a its.toArray from p) (x := u) (by simpa using hu) fun h' st' sb => ?_
  have I1 : Inv X pins σ H { s with heap := h' } := I.turned (t' := s.toks) (fun b o hb e => (sb.2 b hb).trans e) f0 f1 f3 f4 f5
  obtain ⟨o, e, c, d⟩ := id st'
  exact ⟨u, rfl, go_of (s := { s with heap := h' }) e c d (by decide) ⟨x, H, I1, ru, ⟨rfl, fun ys hy => by rw [I.tuple_inj hy hq]; exact hx⟩, st', fun b hb => (hf b hb).1⟩⟩
 done := by
  intro X hP hw hK hc i pins s σ H E I hf st hg
  subst hP hw hK
  obtain ⟨xs, hq, hx⟩ := hg
  obtain ⟨its, rv, p, hz⟩ := I.tuple hq
  obtain ⟨f0, f1, f2, f3, f4, f5⟩ := hf it (by simp)
  have hl := rv.length
  exact wpAny_pyNext_tuple_end (I.ok.hd hc) st (show s.heap.IsTuple a its.toArray from p) (by simp; lia) fun h' eb => ⟨rfl, I.turned (t' := s.toks) (fun b o hb e => eb b o hb e) f0 f1 f3 f4 f5⟩
 self := fun _ _ _ _ _ st h => wpAny_pyIter_tupleiter st h
theorem turn_range {P : Program} {w : World} {K : Fg} {tg : Expr} (it : Addr) (lo : Int) (n : Nat) : Turn P w K tg (Itr lo n) [it] it (fun i h => IsRangeIter h it (lo + (i : Nat) * 1) ((n : Int) - (i : Nat)) 1) where
 mem := by simp
 obj := fun i h st b hb => by
  have e : b = it := by simpa using hb
  subst e
  exact ⟨_, st, fun v z => by
   have z' : Data.fields _ = Data.cell v := z
   cases z'⟩
 keep := fun i h h' st k => k it (by simp) _ st
 item := by
  intro X hP hw hK hc i pins s σ H E I hf st hg
  subst hP hw hK
  obtain ⟨f0, f1, f2, f3, f4, f5⟩ := hf it (by simp)
  have W := Walks.range (prog := X.prog) (w := X.w) (I.ok.hd hc) it lo 1 n
  refine W.item i s _ _ hg st fun v h' tk hv st' kk => ?_
  obtain ⟨t, rfl⟩ := hv
  have I1 : Inv X pins σ H { s with heap := h', toks := tk } := I.turned (fun b o hb e => kk b o (by simpa using hb) e) f0 f1 f3 f4 f5
  refine ⟨_, rfl, go_of (s := { s with heap := h', toks := tk }) (n := "range_iterator") st' rfl rfl (by decide) ⟨.int (lo + i), H, I1, ⟨t, ?_⟩, ⟨rfl, rfl⟩, st', fun b hb => (hf b hb).1⟩⟩
  rw [Int.mul_one]
 done := by
  intro X hP hw hK hc i pins s σ H E I hf st hg
  subst hP hw hK
  obtain ⟨f0, f1, f2, f3, f4, f5⟩ := hf it (by simp)
  exact wpAny_pyNext_range_end (I.ok.hd hc) st (by have : n ≤ i := hg; lia) fun h' eb => ⟨rfl, I.turned (t' := s.toks) (fun b o hb e => eb b o hb e) f0 f1 f3 f4 f5⟩
 self := fun _ _ _ _ _ st h => wpAny_pyIter_rangeiter st h
section
variable {X : Cx} {tg : Expr}
inductive IiList (K : Fg) (R : (It → Hp → Prop)) (x : V) (H1 : Hp) : Prop
 | mk (a : _) (h1 : x = .ref a) (h2 : (∃ xs, SqL K H1 a xs)) (h3 : R (Itl K a) H1)
def iList (K : Fg) (tl : TE) : TI := fun σ H R => tl σ H fun x H1 => IiList K R x H1
inductive IiTup (K : Fg) (R : (It → Hp → Prop)) (x : V) (H1 : Hp) : Prop
 | mk (a : _) (h1 : x = .ref a) (h2 : (∃ xs, SqT K H1 a xs)) (h3 : R (Itt K a) H1)
def iTup (K : Fg) (tl : TE) : TI := fun σ H R => tl σ H fun x H1 => IiTup K R x H1
theorem pi_list {l : Expr} {tl : TE} (hl : PE X l tl) : PI X tg l (iList X.K tl) := by
 intro pins s σ H R I h
 refine thn (hl pins s σ H _ I h) fun v s1 hqP => ?_
 obtain ⟨x, H1, I1, r1, q1⟩ := hqP
 obtain ⟨a, e, ⟨xs, hq⟩, q⟩ := q1
 subst e
 cases r1
 obtain ⟨its, rv, p, hz⟩ := I1.list hq
 refine wpAny_pyIter_list p.isList ?_
 refine ⟨s1.heap.objs.size, [s1.heap.objs.size], _, _, H1, rfl, I1.kept (t' := s1.toks) fun b o e => jZ _ e, turn_list a _, ⟨_, yZ _ rfl, rfl, rfl⟩, fun b hb => ?_, q⟩
 have e : b = s1.heap.objs.size := by simpa using hb
 subst e
 exact I1.fpOk (jJ _) (I1.hok.fresh (jJ _))
theorem pi_tup {l : Expr} {tl : TE} (hl : PE X l tl) : PI X tg l (iTup X.K tl) := by
 intro pins s σ H R I h
 refine thn (hl pins s σ H _ I h) fun v s1 hqP => ?_
 obtain ⟨x, H1, I1, r1, q1⟩ := hqP
 obtain ⟨a, e, ⟨xs, hq⟩, q⟩ := q1
 subst e
 cases r1
 obtain ⟨its, rv, p, hz⟩ := I1.tuple hq
 refine wpAny_pyIter_tuple (show s1.heap.IsTuple a its.toArray from p) ?_
 refine ⟨s1.heap.objs.size, [s1.heap.objs.size], _, _, H1, rfl, I1.kept (t' := s1.toks) fun b o e => jZ _ e, turn_tuple a _, ⟨_, yZ _ rfl, rfl, rfl⟩, fun b hb => ?_, q⟩
 have e : b = s1.heap.objs.size := by simpa using hb
 subst e
 exact I1.fpOk (jJ _) (I1.hok.fresh (jJ _))
theorem range_it {pins : List (Addr × Obj)} {σ : St} {H : Hp} {s : Shared} {R : It → Hp → Prop} {E : Value → Shared → Prop} {lo hi : Int} {t u v : Tok} {tk : Nat} (I : Inv X pins σ H s) (h1 : -(2 ^ 62) ≤ lo) (h2 : lo < 2 ^ 62) (h3 : -(2 ^ 62) ≤ hi) (h4 : hi < 2 ^ 62)
  (q : R (Itr lo (hi - lo).toNat) H) : wpAny (model X.prog X.w) X.A (pyIter (.ref s.heap.objs.size)) (PIE X pins σ tg R) E { s with heap := s.heap.push { cls := .type "range", data := .fields #[.int lo t, .int hi u, .int 1 v] }, toks := tk } := by
 refine wpAny_pyIter_range (IsRange.new ..) (small_one h1 h2 h3 h4) ?_
 have I1 : Inv X pins σ H { s with heap := s.heap.push { cls := .type "range", data := .fields #[.int lo t, .int hi u, .int 1 v] }, toks := tk } := I.kept fun b o e => jZ _ e
 refine ⟨(s.heap.push { cls := .type "range", data := .fields #[.int lo t, .int hi u, .int 1 v] }).objs.size, [(s.heap.push { cls := .type "range", data := .fields #[.int lo t, .int hi u, .int 1 v] }).objs.size], _, _, H, rfl,
  I1.kept (t' := tk) fun b o e => jZ _ e, turn_range _ lo (hi - lo).toNat, ?_, fun b hb => ?_, q⟩
 ·have e1 : lo + ((0 : Nat) : Int) * 1 = lo := by simp
  have e2 : (((hi - lo).toNat : Nat) : Int) - ((0 : Nat) : Int) = Builtin.Range.rangeSize lo hi 1 := by rw [rangeSize_one]; split <;> lia
  show IsRangeIter _ _ (lo + ((0 : Nat) : Int) * 1) ((((hi - lo).toNat : Nat) : Int) - ((0 : Nat) : Int)) 1
  rw [e1, e2]
  exact yZ _ rfl
 ·have e : b = (s.heap.push { cls := .type "range", data := .fields #[.int lo t, .int hi u, .int 1 v] }).objs.size := by simpa using hb
  subst e
  exact I1.fpOk (jJ _) (I1.hok.fresh (jJ _))
inductive IiRng1 (R : (It → Hp → Prop)) (vs : List V) (H1 : Hp) : Prop
 | mk (j : Int) (h1 : vs = [.int j]) (h2 : -(2 ^ 62) ≤ j) (h3 : j < 2 ^ 62) (h4 : R (Itr 0 j.toNat) H1)
def iRng1 (ta : TA) : TI := fun σ H R => ta σ H fun vs H1 => IiRng1 R vs H1
theorem pi_range1 {a : Expr} {ta : TA} {p pos : Pos} (hg : Gl X "range") (hm : X.mg "range" = none) (ha : PA X [a] ta) (hs : autoParam (starEach [a] X.env = [(false, eval a X.env)]) L2.aRfl._auto_1) : PI X tg (.Call (.Name "range" p) [a] [] pos) (iRng1 ta) := by
 intro pins s σ H R I h
 refine Call_ (ld_blt I hg hm boot_range (PyProof.Rows.callWith_type1 (thn (ha pos pins s σ H _ I h) fun us s1 hqP => ?_) hs rfl))
 obtain ⟨vs, H1, I1, r1, q1⟩ := hqP
 obtain ⟨j, e, q1, q2, q⟩ := q1
 subst e
 cases r1 with
 | cons r rr =>
  cases rr
  obtain ⟨t, rfl⟩ := r
  exact call_range_1 (range_it I1 (by lia) (by lia) q1 q2 (by simpa using q))
def tFor (wi : TI) (g : TG) (tb : TS) : TS := fun D σ H => wi σ H fun J H1 => ∃ W : Nat → Nat → St → Hp → Prop, (∃ m, W 0 m σ H1) ∧ ∀ i m σ H, W i m σ H →
 (J.stop i H ∧ D.nx σ H) ∨ (J.go i H ∧ ∃ N : St → Hp → Prop, (∀ σ' H', N σ' H' → ∃ m', m' < m ∧ W (i + 1) m' σ' H') ∧ ∀ x H', J.yld i H x H' → g x σ H' fun σ2 H2 => tb { D with nx := N, ct := N, bk := D.nx } σ2 H2)
def pinsAt (fp : List Addr) (h : Heap) : List (Addr × Obj) := fp.filterMap fun b => (h.get? b).map fun o => (b, o)
theorem mem_pinsAt {fp : List Addr} {h : Heap} {b : Addr} {o : Obj} (hb : b ∈ fp) (e : h.get? b = some o) : (b, o) ∈ pinsAt fp h := jJc.mpr ⟨b, hb, by rw [e]; rfl⟩
theorem of_pinsAt {fp : List Addr} {h : Heap} {p : Addr × Obj} (hp : p ∈ pinsAt fp h) : p.1 ∈ fp ∧ h.get? p.1 = some p.2 := by
 obtain ⟨b, hb, e⟩ := jJc.mp hp
 cases q : h.get? b with
 | none => rw [q] at e; cases e
 | some o =>
  rw [q] at e
  have e' : (b, o) = p := Option.some.inj e
  subst e'
  exact ⟨hb, q⟩
theorem Inv.pinned {pins : List (Addr × Obj)} {σ : St} {H : Hp} {s : Shared} {fp : List Addr} (I : Inv X pins σ H s) (hf : ∀ b ∈ fp, FpOk X pins H b) (ho : ∀ b ∈ fp, ∃ o, s.heap.get? b = some o ∧ ∀ v, o.data ≠ .cell v) : Inv X (pins ++ pinsAt fp s.heap) σ H s :=
 I.pins_of fun p hp => (zV.mp hp).elim (fun z => I.pin p (xY _ z)) fun z => by
  obtain ⟨hb, e⟩ := of_pinsAt z
  obtain ⟨f0, f1, f2, _⟩ := hf p.1 hb
  obtain ⟨o, e', d⟩ := ho p.1 hb
  rw [e] at e'; cases e'
  exact ⟨e, f0, f1, f2, d⟩
theorem Inv.unpinned {pins pl : List (Addr × Obj)} {σ : St} {H : Hp} {s : Shared} (I : Inv X (pins ++ pl) σ H s) : Inv X pins σ H s := I.pins_of fun p hp => I.pin p (xY _ (jQe _ hp))
theorem ps_for {iter : Expr} {body : List Stmt} {wi : TI} {g : TG} {tb : TS} {pos : Pos} (hp : PassesOwn (model X.prog X.w) X.A X.env X.xe) (hc : X.calm = true) (hi : PI X tg iter wi) (hg : PG X tg g) (hb : PSs X body tb)
  (hs : autoParam (∀ x, foldedSetIterable iter X.env x = pure x) L2.aIrf._auto_1) : PS X (.For tg iter body [] pos) (tFor wi g tb) := by
 intro pins s σ H D I h
 refine wpAny_For (thn (hi pins s σ H _ I h) fun v s1 h1 => thn h1 fun itv s2 h2 => ?_) hs
 obtain ⟨it, fp, tn, J, H2, e, I2, T, st2, f2, W, ⟨m0, w0⟩, turn⟩ := h2
 subst e
 -- what stays true of the iterator's objects through the loop
 have stat : ∀ {H' : Hp}, (∀ b ∈ fp, H' b = none) → ∀ b ∈ fp, FpOk X pins H' b := fun hn b hb => ⟨hn b hb, (f2 b hb).2⟩
 refine codeAny_forLoop_any (fun n s' => ∃ i σ' H', Inv X pins σ' H' s' ∧ tn i s'.heap ∧ (∀ b ∈ fp, H' b = none) ∧ W i n σ' H') ?_ m0 ⟨0, σ, H2, I2, st2, fun b hb => (f2 b hb).1, w0⟩
 rintro n s3 ⟨i, σ3, H3, I3, st3, fr3, w3⟩
 rcases turn i n σ3 H3 w3 with ⟨stop, qn⟩ | ⟨go, N, hN, step⟩
 ·refine wpAny_passesOwn hp (thn (T.done X rfl rfl rfl hc i pins s3 σ3 H3 X.xe I3 (stat fr3) st3 stop) fun r s4 hqP => ?_)
  obtain ⟨hr, I4⟩ := hqP
  subst hr
  exact wpAny_execs_nil ⟨σ3, H3, I4, qn⟩
 ·refine wpAny_passesOwn hp (thn (T.item X rfl rfl rfl hc i pins s3 σ3 H3 X.xe I3 (stat fr3) st3 go) fun r s4 hqP => ?_)
  obtain ⟨u, hr, h4⟩ := hqP
  subst hr
  refine wpAny_passesOwn hp (thn h4 fun _ s5 hqP => ?_)
  obtain ⟨x, H5, I5, r5, y5, st5, fr5⟩ := hqP
  have I5' := I5.pinned (stat fr5) (T.obj _ _ st5)
  refine wpAny_passesOwn hp (thn (hg _ s5 σ3 H5 x u _ I5' r5 (step x H5 y5)) fun _ s6 hqP => ?_)
  obtain ⟨σ6, H6, I6, q6⟩ := hqP
  refine wpAny_passesOwn hp (thn (hb _ s6 σ6 H6 _ I6 q6) fun f s7 q7 => ?_)
  have again : ∀ {σ7 : St} {H7 : Hp}, Inv X (pins ++ pinsAt fp s5.heap) σ7 H7 s7 → N σ7 H7 → ∃ m, m < n ∧ ∃ i σ' H', Inv X pins σ' H' s7 ∧ tn i s7.heap ∧ (∀ b ∈ fp, H' b = none) ∧ W i m σ' H' := fun {σ7 H7} I7 n7 => by
   obtain ⟨m', hm, w7⟩ := hN σ7 H7 n7
   refine ⟨m', hm, i + 1, σ7, H7, I7.unpinned, T.keep _ _ _ st5 fun b hb o e => (I7.pin (b, o) (xY _ (xY _ (mem_pinsAt hb e)))).1, fun b hb => ?_, w7⟩
   obtain ⟨o, e, d⟩ := T.obj _ _ st5 b hb
   exact (I7.pin (b, o) (xY _ (xY _ (mem_pinsAt hb e)))).2.1
  cases f with
  | next => obtain ⟨σ7, H7, I7, n7⟩ := q7; exact again I7 n7
  | cont => obtain ⟨σ7, H7, I7, n7⟩ := q7; exact again I7 n7
  | brk => obtain ⟨σ7, H7, I7, q7⟩ := q7; exact ⟨σ7, H7, I7.unpinned, q7⟩
  | ret v => obtain ⟨x7, σ7, H7, I7, r7, q7⟩ := q7; exact ⟨x7, σ7, H7, I7.unpinned, r7, q7⟩
end
theorem for_list {K : Fg} {a : Addr} {xs : List V} {g : TG} {tb : TS} {D : Ends} {σ : St} {H : Hp} (Pv : Nat → St → Hp → Prop) (h0 : Pv 0 σ H) (hl : ∀ i σ H, i ≤ xs.length → Pv i σ H → SqL K H a xs)
  (hs : ∀ i x σ H, xs[i]? = some x → Pv i σ H → g x σ H fun σ2 H2 => tb { D with nx := Pv (i + 1), ct := Pv (i + 1), bk := D.nx } σ2 H2) (hd : ∀ σ H, Pv xs.length σ H → D.nx σ H) :
  ∃ W : Nat → Nat → St → Hp → Prop, (∃ m, W 0 m σ H) ∧ ∀ i m σ H, W i m σ H →
   ((Itl K a).stop i H ∧ D.nx σ H) ∨ ((Itl K a).go i H ∧ ∃ N : St → Hp → Prop, (∀ σ' H', N σ' H' → ∃ m', m' < m ∧ W (i + 1) m' σ' H') ∧ ∀ x H', (Itl K a).yld i H x H' → g x σ H' fun σ2 H2 => tb { D with nx := N, ct := N, bk := D.nx } σ2 H2) := by
 refine ⟨fun i m σ H => m = xs.length - i ∧ i ≤ xs.length ∧ Pv i σ H, ⟨xs.length, by simp, jXc _, h0⟩, ?_⟩
 rintro i m σ H ⟨rfl, hi, p⟩
 have q := hl i σ H hi p
 by_cases hlt : i < xs.length
 ·refine .inr ⟨⟨xs, xs[i], q, by simp [hlt]⟩, Pv (i + 1), fun σ' H' p' => ⟨xs.length - (i + 1), by lia, rfl, hlt, p'⟩, fun x H' y => ?_⟩
  obtain ⟨e, y⟩ := y
  subst e
  exact hs i x σ _ (y xs q) p
 ·have e : i = xs.length := by lia
  subst e
  exact .inl ⟨⟨xs, q, jJ _⟩, hd σ H p⟩
theorem for_range {lo : Int} {n : Nat} {g : TG} {tb : TS} {D : Ends} {σ : St} {H : Hp} (Pv : Nat → St → Hp → Prop) (h0 : Pv 0 σ H)
  (hs : ∀ i σ H, i < n → Pv i σ H → g (.int (lo + i)) σ H fun σ2 H2 => tb { D with nx := Pv (i + 1), ct := Pv (i + 1), bk := D.nx } σ2 H2) (hd : ∀ σ H, Pv n σ H → D.nx σ H) :
  ∃ W : Nat → Nat → St → Hp → Prop, (∃ m, W 0 m σ H) ∧ ∀ i m σ H, W i m σ H →
   ((Itr lo n).stop i H ∧ D.nx σ H) ∨ ((Itr lo n).go i H ∧ ∃ N : St → Hp → Prop, (∀ σ' H', N σ' H' → ∃ m', m' < m ∧ W (i + 1) m' σ' H') ∧ ∀ x H', (Itr lo n).yld i H x H' → g x σ H' fun σ2 H2 => tb { D with nx := N, ct := N, bk := D.nx } σ2 H2) := by
 refine ⟨fun i m σ H => m = n - i ∧ i ≤ n ∧ Pv i σ H, ⟨n, by simp, jXc _, h0⟩, ?_⟩
 rintro i m σ H ⟨rfl, hi, p⟩
 by_cases hlt : i < n
 ·refine .inr ⟨hlt, Pv (i + 1), fun σ' H' p' => ⟨n - (i + 1), by lia, rfl, hlt, p'⟩, fun x H' y => ?_⟩
  obtain ⟨e, y⟩ := y
  subst e y
  exact hs i σ _ hlt p
 ·have e : i = n := by lia
  subst e
  exact .inl ⟨jJ _, hd σ H p⟩
theorem while_by {c : TT} {tb : TS} {D : Ends} {σ : St} {H : Hp} (Pv : St → Hp → Prop) (μ : St → Hp → Nat) (h0 : Pv σ H)
  (hs : ∀ σ H, Pv σ H → c σ H fun b H1 => if b = true then tb { D with nx := fun σ' H' => Pv σ' H' ∧ μ σ' H' < μ σ H, ct := fun σ' H' => Pv σ' H' ∧ μ σ' H' < μ σ H, bk := D.nx } σ H1 else D.nx σ H1)
  (mono : ∀ σ H Q Q', (∀ b H1, Q b H1 → Q' b H1) → c σ H Q → c σ H Q') : tWhile c tb D σ H := by
 refine ⟨fun m σ H => m = μ σ H ∧ Pv σ H, ⟨_, rfl, h0⟩, ?_⟩
 rintro m σ H ⟨rfl, p⟩
 refine mono σ H _ _ (fun b H1 q => ?_) (hs σ H p)
 cases b with
 | true => exact ⟨_, fun σ' H' ⟨p', l⟩ => ⟨_, l, rfl, p'⟩, q⟩
 | false => exact q
abbrev R2 := V → V → Hp → VK → Prop
def OpR (X : Cx) (f : Value → Value → Sem Value) (r : R2) : Prop :=
 ∀ (pins : List (Addr × Obj)) (s : Shared) (σ : St) (H : Hp) (x y : V) (v u : Value) (Q : VK), Inv X pins σ H s → RelV x v → RelV y u → r x y H Q →
  wpAny (model X.prog X.w) X.A (f v u) (EP X pins σ Q) X.xe s
def UnR (X : Cx) (f : Value → Sem Value) (r : V → Hp → VK → Prop) : Prop :=
 ∀ (pins : List (Addr × Obj)) (s : Shared) (σ : St) (H : Hp) (x : V) (v : Value) (Q : VK), Inv X pins σ H s → RelV x v → r x H Q →
  wpAny (model X.prog X.w) X.A (f v) (EP X pins σ Q) X.xe s
def CallR (X : Cx) (f : Value) (r : List V → Hp → VK → Prop) : Prop :=
 ∀ (pins : List (Addr × Obj)) (s : Shared) (σ : St) (H : Hp) (xs : List V) (us : List Value) (Q : VK), Inv X pins σ H s → Vals xs us → r xs H Q →
  wpAny (model X.prog X.w) X.A (call f us) (EP X pins σ Q) X.xe s
def tOp (r : R2) (ta tb : TE) : TE := fun σ H Q => ta σ H fun x H1 => tb σ H1 fun y H2 => r x y H2 Q
def tUn (r : V → Hp → VK → Prop) (ta : TE) : TE := fun σ H Q => ta σ H fun x H1 => r x H1 Q
inductive IrI (C : Int → Int → Prop) (g : Int → Int → V) (x : V) (y : V) (H : Hp) (Q : VK) : Prop
 | mk (i : _) (j : _) (h1 : x = .int i) (h2 : y = .int j) (h3 : C i j) (h4 : Q (g i j) H)
def rI (C : Int → Int → Prop) (g : Int → Int → V) : R2 := fun x y H Q => IrI C g x y H Q
inductive IrI0 (g : Int → Int → V) (x : V) (y : V) (H : Hp) (Q : VK) : Prop
 | mk (i : _) (j : _) (h1 : x = .int i) (h2 : y = .int j) (h3 : Q (g i j) H)
def rI0 (g : Int → Int → V) : R2 := fun x y H Q => IrI0 g x y H Q
inductive IrU (g : Int → V) (x : V) (H : Hp) (Q : VK) : Prop
 | mk (i : _) (h1 : x = .int i) (h2 : Q (g i) H)
def rU (g : Int → V) : V → Hp → VK → Prop := fun x H Q => IrU g x H Q
section
variable {X : Cx} {a b c : Expr} {ta tb tc : TE} {pos : Pos}
theorem binT (ha : PE X a ta) (hb : PE X b tb) {pins : List (Addr × Obj)} {s : Shared} {σ : St} {H : Hp} {R : V → V → Hp → Prop} (I : Inv X pins σ H s)
  (h : ta σ H fun x H1 => tb σ H1 fun y H2 => R x y H2) {Q : Value → Shared → Prop} {f : Value → Value → Sem Value}
  (hf : ∀ v u s2 x y H2, Inv X pins σ H2 s2 → RelV x v → RelV y u → R x y H2 → wpAny (model X.prog X.w) X.A (f v u) Q X.xe s2) :
  wpAny (model X.prog X.w) X.A (eval a X.env) (fun v s₁ => wpAny (model X.prog X.w) X.A (eval b X.env) (fun u s₂ => wpAny (model X.prog X.w) X.A (f v u) Q X.xe s₂) X.xe s₁) X.xe s := by
 refine thn (ha pins s σ H _ I h) fun v s1 hqP => ?_
 obtain ⟨x, H1, I1, r1, q1⟩ := hqP
 refine thn (hb pins s1 σ H1 _ I1 q1) fun u s2 hqP => ?_
 obtain ⟨y, H2, I2, r2, q2⟩ := hqP
 exact hf v u s2 x y H2 I2 r1 r2 q2
theorem pe_op {op : Operator} {r : R2} (ho : OpR X (binaryOp op) r) (ha : PE X a ta) (hb : PE X b tb) : PE X (.BinOp a op b pos) (tOp r ta tb) := by
 intro pins s σ H Q I h
 exact wpAny_BinOp (binT ha hb I h fun v u s2 x y H2 I2 rx ry q => ho pins s2 σ H2 x y v u Q I2 rx ry q)
theorem pe_un {op : UnaryOp} {r : V → Hp → VK → Prop} (ho : UnR X (unaryOp op) r) (ha : PE X a ta) : PE X (.UnaryOp op a pos) (tUn r ta) := by
 intro pins s σ H Q I h
 exact UnaryOp_ (thn (ha pins s σ H _ I h) fun v s1 ⟨x, H1, I1, r1, q1⟩ => ho pins s1 σ H1 x v Q I1 r1 q1)
theorem opI {f : Value → Value → Sem Value} {C : Int → Int → Prop} {g : Int → Int → Int}
  (rule : ∀ (i j : Int) (t u : Tok) (s : Shared) (Q : Value → Shared → Prop) (E : Value → Shared → Prop), C i j → Q (.int (g i j) s.toks) { s with toks := s.toks + 1 } → wpAny (model X.prog X.w) X.A (f (.int i t) (.int j u)) Q E s) :
  OpR X f (rI C fun i j => .int (g i j)) := by
 intro pins s σ H x y v u Q I rx ry h
 obtain ⟨i, j, rfl, rfl, hc, q⟩ := h
 obtain ⟨t, rfl⟩ := rx
 obtain ⟨t', rfl⟩ := ry
 exact rule i j t t' s _ _ hc ⟨.int (g i j), H, I.tok _, ⟨_, rfl⟩, q⟩
theorem opI0 {f : Value → Value → Sem Value} {g : Int → Int → Int}
  (rule : ∀ (i j : Int) (t u : Tok) (s : Shared) (Q : Value → Shared → Prop) (E : Value → Shared → Prop), Q (.int (g i j) s.toks) { s with toks := s.toks + 1 } → wpAny (model X.prog X.w) X.A (f (.int i t) (.int j u)) Q E s) :
  OpR X f (rI0 fun i j => .int (g i j)) := by
 intro pins s σ H x y v u Q I rx ry h
 obtain ⟨i, j, rfl, rfl, q⟩ := h
 obtain ⟨t, rfl⟩ := rx
 obtain ⟨t', rfl⟩ := ry
 exact rule i j t t' s _ _ ⟨.int (g i j), H, I.tok _, ⟨_, rfl⟩, q⟩
theorem opB0 {f : Value → Value → Sem Value} {g : Int → Int → Bool}
  (rule : ∀ (i j : Int) (t u : Tok) (s : Shared) (Q : Value → Shared → Prop) (E : Value → Shared → Prop), Q (.bool (g i j)) s → wpAny (model X.prog X.w) X.A (f (.int i t) (.int j u)) Q E s) :
  OpR X f (rI0 fun i j => .bl (g i j)) := by
 intro pins s σ H x y v u Q I rx ry h
 obtain ⟨i, j, rfl, rfl, q⟩ := h
 obtain ⟨t, rfl⟩ := rx
 obtain ⟨t', rfl⟩ := ry
 exact rule i j t t' s _ _ ⟨.bl (g i j), H, I, rfl, q⟩
def CDiv (i j : Int) : Prop := 0 < j ∧ j < 1073741824
def CMul (i j : Int) : Prop := (-(2 ^ 64) < i ∧ i < 2 ^ 64) ∨ (-(2 ^ 64) < j ∧ j < 2 ^ 64)
theorem CMul.ok {i j : Int} (h : CMul i j) : IntMulOk i j := by
 rcases h with ⟨h1, h2⟩ | ⟨h1, h2⟩
 ·exact .of_left (intBits_le_64 h1 h2)
 ·exact .of_right (intBits_le_64 h1 h2)
theorem op_add : OpR X (binaryOp .Add) (rI0 fun i j => .int (i + j)) := opI0 fun _ _ _ _ _ _ _ q => add_int q
theorem op_sub : OpR X (binaryOp .Sub) (rI0 fun i j => .int (i - j)) := opI0 fun _ _ _ _ _ _ _ q => sub_int q
theorem op_mul : OpR X (binaryOp .Mult) (rI CMul fun i j => .int (i * j)) := opI fun _ _ _ _ _ _ _ hc q => mul_int q hc.ok
theorem op_fdiv : OpR X (binaryOp .FloorDiv) (rI CDiv fun i j => .int (i / j)) := opI fun i j _ _ _ _ _ hc q => by
 have h1 : (0 : Int) < j := hc.1
 have h2 : j < 1073741824 := hc.2
 exact floordiv_int (by lia) (by rw [kXe i (by lia)]; exact q) (.inl (PyProof.noPylong_small (by lia)))
theorem op_mod : OpR X (binaryOp .Mod) (rI (fun _ j => 0 < j) fun i j => .int (i % j)) := opI fun i j _ _ _ _ _ hc q => by
 have h1 : (0 : Int) < j := hc
 exact mod_int' (by lia) (by rw [Int.fmod_eq_emod_of_nonneg i (by lia)]; exact q)
theorem unI {f : Value → Sem Value} {g : Int → Int}
  (rule : ∀ (i : Int) (t : Tok) (s : Shared) (Q : Value → Shared → Prop) (E : Value → Shared → Prop), Q (.int (g i) s.toks) { s with toks := s.toks + 1 } → wpAny (model X.prog X.w) X.A (f (.int i t)) Q E s) :
  UnR X f (rU fun i => .int (g i)) := by
 intro pins s σ H x v Q I rx h
 obtain ⟨i, rfl, q⟩ := h
 obtain ⟨t, rfl⟩ := rx
 exact rule i t s _ _ ⟨.int (g i), H, I.tok _, ⟨_, rfl⟩, q⟩
theorem un_neg : UnR X (unaryOp .USub) (rU fun i => .int (-i)) := unI fun _ _ _ _ _ q => neg_int q
end
def scal : V → V → Bool
 | .non, .non => true | .non, .int _ => true | .int _, .non => true | .non, .bl _ => true | .bl _, .non => true | .non, .str _ => true | .str _, .non => true
 | .int _, .int _ => true | .bl _, .bl _ => true | .str _, .str _ => true | .byt _, .byt _ => true
 | .int _, .str _ => true | .str _, .int _ => true | .bl _, .str _ => true | .str _, .bl _ => true
 | _, _ => false
def rEq : R2 := fun x y H Q => scal x y = true ∧ Q (.bl (decide (x = y))) H
def rNe : R2 := fun x y H Q => scal x y = true ∧ Q (.bl (!decide (x = y))) H
theorem dec_int {i j : Int} : decide (V.int i = V.int j) = (i == j) := by
 rw [wY]
 simp
theorem dec_bl {i j : Bool} : decide (V.bl i = V.bl j) = (i == j) := by
 rw [wY]
 simp
theorem dec_str {i j : Str} : decide (V.str i = V.str j) = (i == j) := by
 rw [wY]
 simp
theorem dec_byt {i j : Array UInt8} : decide (V.byt i = V.byt j) = (i.toList == j.toList) := by
 rw [wY]
 cases i
 cases j
 simp
section
variable {X : Cx} {a b c : Expr} {ta tb tc : TE} {pos : Pos}
theorem fin_bl {pins : List (Addr × Obj)} {σ : St} {H : Hp} {s : Shared} {Q : VK} {k k' : Bool} (I : Inv X pins σ H s) (q : Q (.bl k) H) (e : k = k') : EP X pins σ Q (.bool k') s := by
 subst e
 exact ⟨.bl k, H, I, rfl, q⟩
theorem op_eq : OpR X (compareOp .Eq) rEq := by
 intro pins s σ H x y v u Q I rx ry h
 obtain ⟨hs, q⟩ := h
 cases x with
 | non =>
  cases rx
  cases y with
  | non => cases ry; exact PySem.EqNone.eq_none_none (fin_bl I q (by simp))
  | bl j => cases ry; exact PySem.EqNone.eq_none_bool (fin_bl I q (by simp))
  | int j => obtain ⟨t', rfl⟩ := ry; exact PySem.EqNone.eq_none_int (fin_bl I q (by simp))
  | str j => obtain ⟨t', rfl⟩ := ry; exact PySem.EqNone.eq_none_str (fin_bl I q (by simp))
  | _ => exact absurd (show false = true from hs) kZ
 | bl i =>
  cases rx
  cases y with
  | non => cases ry; exact PySem.EqNone.eq_bool_none (fin_bl I q (by simp))
  | bl j => cases ry; exact eq_bool (fin_bl I q dec_bl)
  | str j => obtain ⟨t', rfl⟩ := ry; exact PySem.EqMixed.eq_bool_str (fin_bl I q (by simp))
  | _ => exact absurd (show false = true from hs) kZ
 | int i =>
  obtain ⟨t, rfl⟩ := rx
  cases y with
  | non => cases ry; exact PySem.EqNone.eq_int_none (fin_bl I q (by simp))
  | int j => obtain ⟨t', rfl⟩ := ry; exact eq_int (fin_bl I q dec_int)
  | str j => obtain ⟨t', rfl⟩ := ry; exact PySem.EqMixed.eq_int_str (fin_bl I q (by simp))
  | _ => exact absurd (show false = true from hs) kZ
 | str i =>
  obtain ⟨t, rfl⟩ := rx
  cases y with
  | non => cases ry; exact PySem.EqNone.eq_str_none (fin_bl I q (by simp))
  | bl j => cases ry; exact PySem.EqMixed.eq_str_bool (fin_bl I q (by simp))
  | int j => obtain ⟨t', rfl⟩ := ry; exact PySem.EqMixed.eq_str_int (fin_bl I q (by simp))
  | str j => obtain ⟨t', rfl⟩ := ry; exact eq_str (fin_bl I q dec_str)
  | _ => exact absurd (show false = true from hs) kZ
 | byt i =>
  obtain ⟨t, rfl⟩ := rx
  cases y with
  | byt j => obtain ⟨t', rfl⟩ := ry; exact PySem.W.eq_bytes (fin_bl I q dec_byt)
  | _ => exact absurd (show false = true from hs) kZ
 | _ => cases y <;> exact absurd (show false = true from hs) kZ
theorem op_ne : OpR X (compareOp .NotEq) rNe := by
 intro pins s σ H x y v u Q I rx ry h
 obtain ⟨hs, q⟩ := h
 cases x with
 | non =>
  cases rx
  cases y with
  | non => cases ry; exact PySem.EqNone.ne_none_none (fin_bl I q (by simp))
  | bl j => cases ry; exact PySem.EqNone.ne_none_bool (fin_bl I q (by simp))
  | int j => obtain ⟨t', rfl⟩ := ry; exact PySem.EqNone.ne_none_int (fin_bl I q (by simp))
  | str j => obtain ⟨t', rfl⟩ := ry; exact PySem.EqNone.ne_none_str (fin_bl I q (by simp))
  | _ => exact absurd (show false = true from hs) kZ
 | bl i =>
  cases rx
  cases y with
  | non => cases ry; exact PySem.EqNone.ne_bool_none (fin_bl I q (by simp))
  | bl j => cases ry; exact ne_bool (fin_bl I q (congrArg not dec_bl))
  | str j => obtain ⟨t', rfl⟩ := ry; exact PySem.EqMixed.ne_bool_str (fin_bl I q (by simp))
  | _ => exact absurd (show false = true from hs) kZ
 | int i =>
  obtain ⟨t, rfl⟩ := rx
  cases y with
  | non => cases ry; exact PySem.EqNone.ne_int_none (fin_bl I q (by simp))
  | int j => obtain ⟨t', rfl⟩ := ry; exact ne_int (fin_bl I q (congrArg not dec_int))
  | str j => obtain ⟨t', rfl⟩ := ry; exact PySem.EqMixed.ne_int_str (fin_bl I q (by simp))
  | _ => exact absurd (show false = true from hs) kZ
 | str i =>
  obtain ⟨t, rfl⟩ := rx
  cases y with
  | non => cases ry; exact PySem.EqNone.ne_str_none (fin_bl I q (by simp))
  | bl j => cases ry; exact PySem.EqMixed.ne_str_bool (fin_bl I q (by simp))
  | int j => obtain ⟨t', rfl⟩ := ry; exact PySem.EqMixed.ne_str_int (fin_bl I q (by simp))
  | str j => obtain ⟨t', rfl⟩ := ry; exact ne_str (fin_bl I q (congrArg not dec_str))
  | _ => exact absurd (show false = true from hs) kZ
 | byt i =>
  obtain ⟨t, rfl⟩ := rx
  cases y with
  | byt j => obtain ⟨t', rfl⟩ := ry; exact PySem.W.ne_bytes (fin_bl I q (congrArg not dec_byt))
  | _ => exact absurd (show false = true from hs) kZ
 | _ => cases y <;> exact absurd (show false = true from hs) kZ
theorem op_lt : OpR X (compareOp .Lt) (rI0 fun i j => .bl (decide (i < j))) := opB0 fun _ _ _ _ _ _ _ q => lt_int q
theorem op_le : OpR X (compareOp .LtE) (rI0 fun i j => .bl (decide (i ≤ j))) := opB0 fun _ _ _ _ _ _ _ q => le_int q
theorem op_gt : OpR X (compareOp .Gt) (rI0 fun i j => .bl (decide (j < i))) := opB0 fun _ _ _ _ _ _ _ q => gt_int q
theorem op_ge : OpR X (compareOp .GtE) (rI0 fun i j => .bl (decide (j ≤ i))) := opB0 fun _ _ _ _ _ _ _ q => ge_int q
theorem op_isN : OpR X (compareOp .Is) (fun x y H Q => y = .non ∧ Q (.bl (decide (x = .non))) H) := by
 intro pins s σ H x y v u Q I rx ry h
 obtain ⟨rfl, q⟩ := h
 cases ry
 refine is_none_gen (fin_bl I q ?_)
 cases x <;> first
  | (cases rx; rfl)
  | (obtain ⟨t, rfl⟩ := rx; rfl)
theorem op_notN : OpR X (compareOp .IsNot) (fun x y H Q => y = .non ∧ Q (.bl (!decide (x = .non))) H) := by
 intro pins s σ H x y v u Q I rx ry h
 obtain ⟨rfl, q⟩ := h
 cases ry
 refine isnot_none_gen (fin_bl I q ?_)
 cases x <;> first
  | (cases rx; rfl)
  | (obtain ⟨t, rfl⟩ := rx; rfl)
theorem nomark (b : Expr) {op : CmpOp} (h : autoParam (op ≠ .In) L2.aDec._auto_1) (h2 : autoParam (op ≠ .NotIn) L2.aDec._auto_1) : behindInMarks op b = false := by
 have e1 : (op == CmpOp.In) = false := by cases op <;> first | rfl | exact absurd rfl h
 have e2 : (op == CmpOp.NotIn) = false := by cases op <;> first | rfl | exact absurd rfl h2
 cases b <;> simp [behindInMarks, e1, e2]
theorem pe_cmpR {op : CmpOp} {r : R2} (ho : OpR X (compareOp op) r) (ha : PE X a ta) (hb : PE X b tb) (hm : behindInMarks op b = false) : PE X (.Compare a [op] [b] pos) (tOp r ta tb) := by
 intro pins s σ H Q I h
 exact wpAny_Compare1 (binT ha hb I h fun v u s2 x y H2 I2 rx ry q => ho pins s2 σ H2 x y v u Q I2 rx ry q) hm
inductive ItTest (Q : (Bool → Hp → Prop)) (x : V) (H' : Hp) : Prop
 | mk (k : _) (h1 : x = .bl k) (h2 : Q k H')
def tTest (t : TE) : TT := fun σ H Q => t σ H fun x H' => ItTest Q x H'
theorem pt_cmpR {op : CmpOp} {r : R2} (ho : OpR X (compareOp op) r) (ha : PE X a ta) (hb : PE X b tb) (hm : behindInMarks op b = false) : PT X (.Compare a [op] [b] pos) (tTest (tOp r ta tb)) := by
 intro pins s σ H Q I h
 refine wpAny_isTrue_Compare1 (thn (ha pins s σ H _ I h) fun v s1 ⟨x, H1, I1, r1, q1⟩ => thn (hb pins s1 σ H1 _ I1 q1) fun u s2 ⟨y, H2, I2, r2, q2⟩ =>
  thn (ho pins s2 σ H2 x y v u _ I2 r1 r2 q2) fun c s3 ⟨z, H3, I3, r3, k, e, q3⟩ => ?_) hm
 subst e
 cases r3
 exact wpAny_truthy_bool ⟨H3, I3, q3⟩
inductive ItChain (r' : R2) (tc : TE) (σ : St) (Q : VK) (y : V) (z : V) (H3 : Hp) : Prop
 | mk (k : _) (h1 : z = .bl k) (h2 : (if k = true then tc σ H3 fun w' H4 => r' y w' H4 Q else Q (.bl false) H3))
def tChain (r r' : R2) (ta tb tc : TE) : TE := fun σ H Q => ta σ H fun x H1 => tb σ H1 fun y H2 => r x y H2 fun z H3 => ItChain r' tc σ Q y z H3
theorem pe_chain {op op' : CmpOp} {r r' : R2} (ho : OpR X (compareOp op) r) (ho' : OpR X (compareOp op') r') (ha : PE X a ta) (hb : PE X b tb) (hc : PE X c tc)
  (hm : lastMarks [op, op'] [b, c] = false := by with_unfolding_all rfl) : PE X (.Compare a [op, op'] [b, c] pos) (tChain r r' ta tb tc) := by
 intro pins s σ H Q I h
 refine Compare_chain (thn (ha pins s σ H _ I h) fun v s1 ⟨x, H1, I1, r1, q1⟩ => chain_link (thn (hb pins s1 σ H1 _ I1 q1) fun u s2 ⟨y, H2, I2, r2, q2⟩ =>
  thn (ho pins s2 σ H2 x y v u _ I2 r1 r2 q2) fun d s3 ⟨z, H3, I3, r3, k, e, q3⟩ => ?_)) hm
 subst e
 cases r3
 refine wpAny_truthy_bool ?_
 cases k with
 | false => exact ite_ff ⟨.bl false, H3, I3, rfl, q3⟩
 | true => exact ite_tt (chain_last (thn (hc pins s3 σ H3 _ I3 q3) fun w' s4 ⟨z', H4, I4, r4, q4⟩ => ho' pins s4 σ H4 y z' u w' Q I4 r2 r4 q4))
theorem line63 : (sizeLine : Nat) < 2 ^ 63 := by rw [sizeLine_eq]; decide
theorem vals1 {x : V} {us : List Value} (r : Vals [x] us) : ∃ u, us = [u] ∧ RelV x u := by
 cases r with
 | cons r1 r2 => cases r2; exact ⟨_, rfl, r1⟩
theorem vals2 {x y : V} {us : List Value} (r : Vals [x, y] us) : ∃ u w', us = [u, w'] ∧ RelV x u ∧ RelV y w' := by
 cases r with
 | cons r1 r2 =>
  cases r2 with
  | cons r3 r4 => cases r4; exact ⟨_, _, rfl, r1, r3⟩
inductive Ccall_max2 (xs : List V) (H : Hp) (Q : VK) : Prop
 | mk (i : _) (j : _) (h1 : xs = [.int i, .int j]) (h2 : Q (.int (if j > i then j else i)) H)
theorem call_max2 (hc : X.calm = true) : CallR X (.builtin "max") (fun xs H Q => Ccall_max2 xs H Q) := by
 intro pins s σ H xs us Q I r h
 obtain ⟨i, j, rfl, q⟩ := h
 obtain ⟨u, w', rfl, ⟨t, rfl⟩, ⟨t', rfl⟩⟩ := vals2 r
 refine max_two_ints (I.ok.hd hc) fun h' tk k => ⟨_, H, I.kept k, ?_, q⟩
 by_cases hj : j > i
 ·rw [if_pos hj, if_pos hj]; exact ⟨_, rfl⟩
 ·rw [if_neg hj, if_neg hj]; exact ⟨_, rfl⟩
inductive Ccall_min2 (xs : List V) (H : Hp) (Q : VK) : Prop
 | mk (i : _) (j : _) (h1 : xs = [.int i, .int j]) (h2 : Q (.int (if j < i then j else i)) H)
theorem call_min2 (hc : X.calm = true) : CallR X (.builtin "min") (fun xs H Q => Ccall_min2 xs H Q) := by
 intro pins s σ H xs us Q I r h
 obtain ⟨i, j, rfl, q⟩ := h
 obtain ⟨u, w', rfl, ⟨t, rfl⟩, ⟨t', rfl⟩⟩ := vals2 r
 refine min_two_ints (I.ok.hd hc) fun h' tk k => ⟨_, H, I.kept k, ?_, q⟩
 by_cases hj : j < i
 ·rw [if_pos hj, if_pos hj]; exact ⟨_, rfl⟩
 ·rw [if_neg hj, if_neg hj]; exact ⟨_, rfl⟩
end
section
variable {prog : Program} {w : World} {A : Around} {E : Value → Shared → Prop} {s : Shared} {K : Fg} {x dx C f : Addr} {mA : Str → Option Value} {name : Str} {v : Value}
end
section
variable {P : Program} {w : World} {H H' : Hp} {h h' : Heap} {a C dx : Addr} {fs fs' : List (Str × V)}
end
section
variable {X : Cx} {pins : List (Addr × Obj)} {σ : St} {H : Hp} {s : Shared} {a C dx : Addr} {fs : List (Str × V)} {f : Str} {v : V} {A : Around} {E : Value → Shared → Prop}
end
section
variable {X : Cx} {o e value : Expr} {f : Str} {pos pos' tpos : Pos} {ta tv : TE}
end
section
variable {X : Cx} {pins : List (Addr × Obj)} {σ : St} {H : Hp} {s : Shared} {A : Around} {E : Value → Shared → Prop} {Q : Value → Shared → Prop} {c : Value} {b : Bool}
end
structure Room (k : Nat) (A : Around) : Prop where
 hd : A.handled = none
 dp : A.depth + 3 * k + 5 < recursionLimit
 un : A.units + 16 * k + 200 < cLine
theorem Room.mono {j k : Nat} {A : Around} (r : Room k A) (h : j ≤ k) : Room j A := ⟨r.hd, by have := r.dp; lia, by have := r.un; lia⟩
theorem Room.deeper {k : Nat} {A : Around} (r : Room (k + 1) A) (env : Env) : Room k (A.deeper env) :=
 ⟨r.hd, by have := r.dp; show A.depth + 1 + 3 * k + 5 < _; lia, by have := r.un; show A.units + 3 + 16 * k + 200 < _; lia⟩
theorem Room.depth {k : Nat} {A : Around} (r : Room k A) : A.depth < recursionLimit := by have := r.dp; lia
def tNil : TA := fun _ H Q => Q [] H
def tCons (ta : TE) (tr : TA) : TA := fun σ H Q => ta σ H fun x H1 => tr σ H1 fun xs H2 => Q (x :: xs) H2
section
variable {X : Cx} {e : Expr} {es : List Expr} {te : TE} {t : TA} {pos : Pos}
theorem pa_nil : PA X [] tNil := fun _ _ _ _ H Q I h => Calls.spliced_nil ⟨[], H, I, .nil, h⟩
theorem pa_cons (ha : PE X e te) (hr : PA X es t) (hs : autoParam (starEach (e :: es) X.env = (false, eval e X.env) :: starEach es X.env) L2.aRfl._auto_1) : PA X (e :: es) (tCons te t) := by
 intro pos pins s σ H Q I h
 rw [hs]
 show wpAny _ _ (spliced ((false, eval e X.env) :: backTo pos (starEach es X.env))) _ _ s
 refine Calls.spliced_cons (thn (ha pins s σ H _ I h) fun u s1 hqP => ?_)
 obtain ⟨x, H1, I1, r1, q1⟩ := hqP
 exact thn (hr pos pins s1 σ H1 _ I1 q1) fun us s2 ⟨xs, H2, I2, r2, q2⟩ => ⟨x :: xs, H2, I2, .cons r1 r2, q2⟩
def tTup (t : TA) : TE := fun σ H Q => t σ H fun xs H1 => xs.length ≤ sizeLine ∧ ∀ p, H1 p = none → Q (.ref p) (upd H1 p (.tup xs))
def tLst (t : TA) : TE := fun σ H Q => t σ H fun xs H1 => xs.length ≤ sizeLine ∧ ∀ p, H1 p = none → Q (.ref p) (upd H1 p (.lst xs))
theorem pe_tup {x1} (h : PA X es t) : PE X (.Tuple es x1 pos) (tTup t) := by
 intro pins s σ H Q I hq
 refine wpAny_Tuple_spliced (thn (h pos pins s σ H _ I hq) fun us s1 ⟨xs, H1, I1, r, z, q⟩ => ⟨by rw [← r.length]; exact z, ?_⟩)
 have hf : H1 s1.heap.objs.size = none := I1.hok.fresh (jJ _)
 refine ⟨.ref s1.heap.objs.size, upd H1 s1.heap.objs.size (.tup xs), I1.laid (t' := s1.toks) (fun b u e => jZ _ e) (jJ _) ?_, rfl, q _ hf⟩
 exact ⟨z, us, r, ⟨_, yZ _ rfl, rfl, _, rfl⟩⟩
theorem pe_lst (h : PA X es t) : PE X (.List es pos) (tLst t) := by
 intro pins s σ H Q I hq
 refine wpAny_List_spliced (thn (h pos pins s σ H _ I hq) fun us s1 ⟨xs, H1, I1, r, z, q⟩ => ⟨by rw [← r.length]; exact z, ?_⟩)
 have hf : H1 s1.heap.objs.size = none := I1.hok.fresh (jJ _)
 refine ⟨.ref s1.heap.objs.size, upd H1 s1.heap.objs.size (.lst xs), I1.laid (t' := s1.toks) (fun b u e => jZ _ e) (jJ _) ?_, rfl, q _ hf⟩
 exact ⟨z, us, 0, r, yZ _ rfl⟩
end
abbrev Sp := List V → Hp → VK → XK → Prop
abbrev CXT := List Env → Hp → Shared → XK → Value → Shared → Prop
structure Env0 (P : Program) (w : World) (K : Fg) (mg : Str → Option Value) (base : Heap) (A : Around) (outer : List Env) (s : Shared) (H : Hp) : Prop where
 frames : A.frames = some outer
 mod : Mod K mg base
 bs : ∀ b o, base.get? b = some o → s.heap.get? b = some o ∧ H b = none
 bsz : base.objs.size ≤ s.heap.objs.size
 funs : s.heap.FunFrames base outer
 frf : ∀ b ∈ frs outer, H b = none
 hok : HOk P w H s.heap
 bare : AllBare s.gens
def CE (outer : List Env) (P : Program) (w : World) (H : Hp) (s : Shared) (Q : VK) (u : Value) (s' : Shared) : Prop :=
 ∃ v H', s'.os = s.os ∧ AllBare s'.gens ∧ Un (frs outer) [] H H' s.heap s'.heap ∧ HOk P w H' s'.heap ∧ RelV v u ∧ Q v H'
def CR (CX : CXT) (outer : List Env) (P : Program) (w : World) (H : Hp) (s : Shared) (Q : VK) (E : XK) (r : Result) (s' : Shared) : Prop :=
 match r with
 | .ok (.ret u) => CE outer P w H s Q u s'
 | .ok _ => False
 | .error e => CX outer H s E e s'
structure FnOk (P : Program) (w : World) (K : Fg) (mg : Str → Option Value) (base : Heap) (CX : CXT) (k : Nat) (f : Addr) (fd : FuncData) (ps : List Str) (sp : Sp) : Prop where
 len : ∀ vs H Q E, sp vs H Q E → vs.length = ps.length
 run : ∀ (A : Around) (outer : List Env) (s : Shared) (H : Hp) (args : Args) (us : List Value) (vs : List V) (Q : VK) (E : XK), Room k A → Env0 P w K mg base A outer s H → BindsTo s fd args (ps.zip us) → Vals vs us → sp vs H Q E →
  codeAny (model P w) A (.call (.ref f) args) (CR CX outer P w H s Q E) s
theorem FnOk.mono {P : Program} {w : World} {K : Fg} {mg : Str → Option Value} {base : Heap} {CX : CXT} {j k : Nat} {f : Addr} {fd : FuncData} {ps : List Str} {sp : Sp} (F : FnOk P w K mg base CX j f fd ps sp) (h : j ≤ k) :
  FnOk P w K mg base CX k f fd ps sp := ⟨F.len, fun A outer s H args us vs Q E hr => F.run A outer s H args us vs Q E (hr.mono h)⟩
section
variable {X : Cx} {pins : List (Addr × Obj)} {σ : St} {H : Hp} {s s' : Shared}
theorem Inv.env0 (I : Inv X pins σ H s) : Env0 X.prog X.w X.K X.mg X.base X.A X.stack s H :=
 ⟨I.ok.frames, I.ok.mod, I.bs, wW I.ok.bsz I.sz, I.stack, I.stkFree, I.hok, I.bare⟩
theorem Inv.after {Q : VK} {u : Value} (I : Inv X pins σ H s) (h : CE X.stack X.prog X.w H s Q u s') : EP X pins σ Q u s' := by
 obtain ⟨v, H', os, bare, un, hok, r, q⟩ := h
 obtain ⟨hh, g, d, t, os'⟩ := s'
 obtain rfl : os' = s.os := os
 exact ⟨v, H', I.call (h' := hh) (g' := g) (d' := d) (t' := t) (ch := []) un hok bare (fun b z => absurd z (by simp)), r, q⟩
end
def tCall (sp : Sp) (dvs : List V) (E : XK) (t : TA) : TE := fun σ H Q => t σ H fun vs H1 => sp (vs ++ dvs) H1 Q E
def Binds (K : Fg) (fd : FuncData) (ps : List Str) (ds : List Value) : Prop :=
 ∀ (s : Shared) (us : List Value), K.In s.heap → (us ++ ds).length = ps.length → BindsTo s fd ⟨us, []⟩ (ps.zip (us ++ ds))
theorem Binds.all {K : Fg} {fd : FuncData} {ps : List Str} (h : ∀ us : List Value, us.length = ps.length → bindArgs fd ⟨us, []⟩ = pure (ps.zip us)) : Binds K fd ps [] := fun s us _ hl => by
 rw [kZf] at hl ⊢
 exact .of_eq (h us hl)
def Passes (CX : CXT) (X : Cx) (E : XK) : Prop := ∀ (pins : List (Addr × Obj)) (σ : St) (H : Hp) (s : Shared) (e : Value) (s' : Shared), Inv X pins σ H s → CX X.stack H s E e s' → X.xe e s'
section
variable {X : Cx} {CX : CXT} {k : Nat} {f C : Addr} {fd : FuncData} {ps : List Str} {sp : Sp} {dvs : List V} {ds : List Value} {E : XK} {x m : Str} {p pos apos : Pos} {e o : Expr} {es : List Expr} {ta : TE} {t : TA}
theorem run_fn {pins : List (Addr × Obj)} {σ : St} {H : Hp} {s : Shared} {Q : VK} {us : List Value} {vs : List V} (F : FnOk X.prog X.w X.K X.mg X.base CX k f fd ps sp) (hr : Room k X.A) (hb : Binds X.K fd ps ds) (hd : Vals dvs ds) (hx : Passes CX X E)
  (I : Inv X pins σ H s) (r : Vals vs us) (h : sp (vs ++ dvs) H Q E) : wpAny (model X.prog X.w) X.A (call (.ref f) us) (EP X pins σ Q) X.xe s := by
 have r2 : Vals (vs ++ dvs) (us ++ ds) := r.append hd
 have hl : (us ++ ds).length = ps.length := by rw [← r2.length]; exact F.len _ _ _ _ h
 refine wpAny_call (codeAny_mono (F.run X.A X.stack s H ⟨us, []⟩ (us ++ ds) (vs ++ dvs) Q E hr I.env0 (hb s us I.kIn hl) r2 h) fun r s' hq => ?_)
 cases r with
 | error e => exact hx pins σ H s e s' I hq
 | ok fl =>
  cases fl with
  | ret u => exact I.after hq
  | next => exact False.elim hq
  | brk => exact False.elim hq
  | cont => exact False.elim hq
theorem pe_call (F : FnOk X.prog X.w X.K X.mg X.base CX k f fd ps sp) (hr : Room k X.A) (hg : Gl X x) (hm : X.mg x = some (.ref f)) (hk : PySem.W.keepIn X.K (.ref f) = true) (hb : Binds X.K fd ps ds) (hd : Vals dvs ds) (hx : Passes CX X E)
  (ha : PA X (e :: es) t) (hdb : autoParam ((x == ("__debug__" : Str)) = false) L2.aDec._auto_1) (he : autoParam (starEach (e :: es) X.env = (false, eval e X.env) :: starEach es X.env) L2.aRfl._auto_1) (hpl : autoParam ((backTo pos (starEach es X.env)).any (·.1) = false) L2.aRfl._auto_1) :
  PE X (.Call (.Name x p) (e :: es) [] pos) (tCall sp dvs E t) := by
 intro pins s σ H Q I h
 refine wpAny_Call_Name_kw (ld_glob I hg hm ?_ hdb)
 refine PySem.W.callWith_K (h₀ := X.base) I.ok.mod.kin hk (thn (ha pos pins s σ H _ I h) fun us s1 ⟨vs, H1, I1, r, q⟩ => ⟨I1.kIn, ?_⟩) he hpl
 exact run_fn F hr hb hd hx I1 r q
end
section
variable {X : Cx} {CX : CXT} {k : Nat} {f C : Addr} {fd : FuncData} {ps ks : List Str} {sp : Sp} {E : XK} {x m : Str} {p pos apos kpos : Pos} {e o : Expr} {es : List Expr} {kws : List Keyword} {te ta : TE} {t tk : TA} {nm : Option Str}
variable {g : List Value → List Value → List Value} {gV : List V → List V → List V}
end
structure FnScope (N P : List Str) (sc : Scope) : Prop where
 kind : sc.kind = .function
 co : sc.isCoroutine = false
 gen : sc.isGenerator = false
 nd : N.Nodup
 pre : N.take P.length = P
 par : ∀ x ∈ P, sc.names.lookup x = some .local ∨ sc.names.lookup x = some .cell
 nofree : ∀ y ∈ sc.names, y.2 ≠ .free
theorem bindL_out {kindOf : Str → Option NameKind} {x : Str} : ∀ {binds : List (Str × Value)} {m : Str → Option Value}, (∀ v, (x, v) ∉ binds) → bindL kindOf binds m x = m x
 | [], _, _ => rfl
 | (n, v) :: r, m, h => by
  unfold bindL
  rw [bindL_out fun w hw => h w (yW _ hw)]
  split
  ·have : x ≠ n := by rintro rfl; exact h v zQ
   simp [this]
  ·rfl
theorem bindC_out {kindOf : Str → Option NameKind} {x : Str} : ∀ {binds : List (Str × Value)} {m : Str → Option Value}, (∀ v, (x, v) ∉ binds) → bindC kindOf binds m x = m x
 | [], _, _ => rfl
 | (n, v) :: r, m, h => by
  unfold bindC
  rw [bindC_out fun w hw => h w (yW _ hw)]
  split
  ·rfl
  ·have : x ≠ n := by rintro rfl; exact h v zQ
   simp [this]
theorem bindL_get {kindOf : Str → Option NameKind} {x : Str} {v : Value} : ∀ {P : List Str} {vs : List Value} {i : Nat} {m : Str → Option Value}, P.Nodup → P[i]? = some x → vs[i]? = some v → kindOf x = some .local →
  bindL kindOf (P.zip vs) m x = some v
 | [], _, _, _, _, h, _, _ => by simp at h
 | _ :: _, [], _, _, _, _, h, _ => by simp at h
 | p :: P, w :: vs, 0, m, nd, h1, h2, hk => by
  simp at h1 h2; subst h1; subst h2
  show bindL kindOf ((p, w) :: P.zip vs) m p = _
  unfold bindL
  rw [bindL_out fun v hv => (jXe.mp nd).1 (List.of_mem_zip hv).1, if_pos hk]
  simp
 | p :: P, w :: vs, i + 1, m, nd, h1, h2, hk => by
  show bindL kindOf ((p, w) :: P.zip vs) m x = _
  unfold bindL
  exact bindL_get (i := i) (jXe.mp nd).2 (by simpa using h1) (by simpa using h2) hk
theorem bindC_get {kindOf : Str → Option NameKind} {x : Str} {v : Value} : ∀ {P : List Str} {vs : List Value} {i : Nat} {m : Str → Option Value}, P.Nodup → P[i]? = some x → vs[i]? = some v → kindOf x ≠ some .local →
  bindC kindOf (P.zip vs) m x = some v
 | [], _, _, _, _, h, _, _ => by simp at h
 | _ :: _, [], _, _, _, _, h, _ => by simp at h
 | p :: P, w :: vs, 0, m, nd, h1, h2, hk => by
  simp at h1 h2; subst h1; subst h2
  show bindC kindOf ((p, w) :: P.zip vs) m p = _
  unfold bindC
  rw [bindC_out fun v hv => (jXe.mp nd).1 (List.of_mem_zip hv).1, if_neg hk]
  simp
 | p :: P, w :: vs, i + 1, m, nd, h1, h2, hk => by
  show bindC kindOf ((p, w) :: P.zip vs) m x = _
  unfold bindC
  exact bindC_get (i := i) (jXe.mp nd).2 (by simpa using h1) (by simpa using h2) hk
def start (N : List Str) (vs : List V) : St := vs.map some ++ List.replicate (N.length - vs.length) none
def cxOf (CX : CXT) (P : Program) (w : World) (K : Fg) (mg : Str → Option Value) (base : Heap) (N : List Str) (qual : Str) (scope : Scope) (f : Addr) (cd : Value) (A : Around) (outer : List Env) (s : Shared) (H : Hp) (E : XK) : Cx where
 prog := P
 w := w
 K := K
 mg := mg
 base := base
 A := A.deeper (envOfC qual scope s.heap.objs.size f cd)
 N := N
 s₀ := s
 H₀ := H
 env := envOfC qual scope s.heap.objs.size f cd
 outer := outer
 stack := envOfC qual scope s.heap.objs.size f cd :: outer
 ex := []
 calm := true
 fn := fun _ => true
 pn := []
 xe := fun e s' => wpAny (model P w) (A.deeper (envOfC qual scope s.heap.objs.size f cd)) (leaving (envOfC qual scope s.heap.objs.size f cd) e) (fun _ s'' => CX outer H s E e s'') (fun e' s'' => CX outer H s E e' s'') s'
theorem cell_has {sc : Scope} {n : Nat} {x : Str} (h : sc.names.lookup x = some .cell) : ∃ c, (cellsFrom n sc.names []).lookup x = some c := by
 have q := PySem.W.cellsFrom_some sc.names n [] (.inl h)
 exact jZe.mp q
theorem inv_start {CX : CXT} {P : Program} {w : World} {K : Fg} {mg : Str → Option Value} {base : Heap} {N ps : List Str} {qual : Str} {scope : Scope} {f : Addr} {cd : Value} {A : Around} {outer : List Env} {s s1 : Shared} {H : Hp} {E : XK} {us : List Value} {vs : List V}
  (S : FnScope N ps scope) (hd : A.handled = none) (e0 : Env0 P w K mg base A outer s H) (hl : vs.length = ps.length) (r : Vals vs us)
  (x : InCallC s s.heap.objs.size (bindL (envOfC qual scope s.heap.objs.size f cd).kindOf (ps.zip us) fun _ => none) (cellsFrom (s.heap.objs.size + 1) scope.names []) (bindC (envOfC qual scope s.heap.objs.size f cd).kindOf (ps.zip us) fun _ => none) s1) :
  Inv (cxOf CX P w K mg base N qual scope f cd A outer s H E) [] (start N vs) H s1 := by
 have hpl : ps.length ≤ N.length := by have := congrArg List.length S.pre; rw [yX] at this; lia
 obtain ⟨h1, tk, rfl, hk⟩ := x.done
 have noA : ∀ b : Addr, b ∉ (cxOf CX P w K mg base N qual scope f cd A outer s H E).ex := fun b z => absurd (show b ∈ ([] : List Addr) from z) (by simp)
 refine ⟨⟨e0.mod, S.kind, rfl, rfl, jJ _, fun y z c h1 h2 => ?_, fun y hy => ?_, fun y c _ h => ?_, fun _ => hd, Around.frames_deeper e0.frames, .inr ⟨rfl, rfl⟩, fun b z => absurd z (noA b), e0.bs, e0.bsz, fun b _ _ => noA b, fun b z => absurd z (noA b), e0.funs, e0.frf⟩,
  rfl, e0.bare, Un.kept hk, ⟨_, x.toInCall.ns, fun i y v h1 h2 h3 => ?_⟩, fun y c h => ⟨_, x.cell y c h⟩, e0.hok.fresh (jJ _), fun y c h => ?_, fun p hp => absurd (show p ∈ ([] : List (Addr × Obj)) from hp) (by simp), e0.hok.kept hk, ?_⟩
 ·exact name_of_addr x.apart (PySem.mem_of_lookup h1) (PySem.mem_of_lookup h2)
 ·have hy : scope.names.lookup y = some .cell ∨ scope.names.lookup y = some .free := hy
  rcases hy with hy | hy
  ·exact cell_has hy
  ·exact absurd rfl (S.nofree _ (PySem.mem_of_lookup hy))
 ·exact kXb (x.above y c (PySem.mem_of_lookup h))
 ·have hi : i < vs.length := by
   unfold start at h2
   by_cases hi : i < vs.length
   ·exact hi
   ·rw [kXf (by simpa using hi)] at h2
    rw [kQb] at h2
    split at h2 <;> cases h2
  have ha : vs[i]? = some v := by
   unfold start at h2
   rw [kYd (by simpa using hi), jK] at h2
   cases e : vs[i]? with
   | none => rw [e] at h2; cases h2
   | some a => rw [e] at h2; cases h2; rfl
  obtain ⟨u, hu, rv⟩ := r.get ha
  have hp : ps[i]? = some y := by
   rw [← S.pre, jXb (by lia)]; exact h1
  have ndP : ps.Nodup := by rw [← S.pre]; exact S.nd.sublist (List.take_sublist _ _)
  refine ⟨u, rv, ?_⟩
  rcases S.par y (kX hp) with k | k
  ·exact .inl ⟨k, bindL_get ndP hp hu k⟩
  ·obtain ⟨c, e⟩ := cell_has (n := s.heap.objs.size + 1) k
   refine .inr ⟨.inl k, c, e, ?_⟩
   have q := x.cell y c e
   rw [bindC_get ndP hp hu (by show scope.names.lookup y ≠ _; rw [k]; decide)] at q
   exact q
 ·exact e0.hok.fresh (kXb (x.above y c (PySem.mem_of_lookup h)))
 ·unfold start
  show _ = N.length
  rw [kQ, jQ, zK]
  lia
theorem fn_of {CX : CXT} {P : Program} {w : World} {K : Fg} {mg : Str → Option Value} {base : Heap} {k : Nat} {f : Addr} {name qual : Str} {params : Arguments} {body : List Stmt} {scope : Scope} {dV kV doc pm cdv ct oc : Value} {an od : Option Addr}
  {osl : Array (Option Value)} {N ps : List Str} {sp : Sp} (lk : K.lookup f = some ⟨oc, od, .func (PySem.W.fnOf name qual params body scope dV kV doc pm an cdv ct), osl⟩) (hcd : PySem.W.codeIn K cdv qual = true) (S : FnScope N ps scope)
  (len : ∀ vs H Q E, sp vs H Q E → vs.length = ps.length)
  (hbody : ∀ (A : Around) (outer : List Env) (s : Shared) (H : Hp) (vs : List V) (Q : VK) (E : XK), Room k (A.deeper (envOfC qual scope s.heap.objs.size f cdv)) → sp vs H Q E →
   ∃ t, PSs (cxOf CX P w K mg base N qual scope f cdv A outer s H E) body t ∧ t { nx := fun _ H' => Q .non H', rt := Q } (start N vs) H) :
  FnOk P w K mg base CX (k + 1) f (PySem.W.fnOf name qual params body scope dV kV doc pm an cdv ct) ps sp := by
 refine ⟨len, fun A outer s H args us vs Q E hr e0 hb r hsp => ?_⟩
 have hl := len _ _ _ _ hsp
 have KX : K.In s.heap := e0.mod.kin.keeps fun b o e => (e0.bs b o e).1
 have lim : s.heap.NoLimit := e0.mod.nolimit.keeps fun b o e => (e0.bs b o e).1
 have hkind : ∀ y ∈ ps.zip us, scope.names.lookup y.1 = some .local ∨ (scope.names.lookup y.1 = some .cell ∧ ((cellsFrom (s.heap.objs.size + 1) scope.names []).lookup y.1).isSome = true) := fun ⟨n, v⟩ hy => by
  rcases S.par n (List.of_mem_zip hy).1 with q | q
  ·exact .inl q
  ·exact .inr ⟨q, PySem.W.cellsFrom_some _ _ _ (.inl q)⟩
 refine codeAny_call_function hr.depth (KX _ _ lk) rfl S.co S.gen rfl (PySem.W.codeRec_of KX hcd) (hb _ _ _ _ ?_)
 refine wpAny_newFunctionEnv_cells S.kind hkind fun env he s1 x => ?_
 subst he
 refine ⟨lim.keeps x.toInCall.keep, codeAny_func ?_⟩
 obtain ⟨t, ht, hq⟩ := hbody A outer s H vs Q E (hr.deeper _) hsp
 have I : Inv (cxOf CX P w K mg base N qual scope f cdv A outer s H E) [] (start N vs) H s1 := inv_start S hr.hd e0 hl r x
 refine wpAny_mono (ht [] s1 (start N vs) H _ I hq) (fun fl s' hs => ?_) fun e s' hs => hs
 have fin : ∀ {σ' : St} {H' : Hp} {v : V} {u : Value}, Inv (cxOf CX P w K mg base N qual scope f cdv A outer s H E) [] σ' H' s' → RelV v u → Q v H' → CE outer P w H s Q u s' :=
  fun {σ' H' v u} J rv q => ⟨v, H', J.os, J.bare, J.base, J.hok, rv, q⟩
 cases fl with
 | ret u =>
  obtain ⟨v, σ', H', J, rv, q⟩ := hs
  exact fin J rv q
 | next =>
  obtain ⟨σ', H', J, q⟩ := hs
  exact fin (v := V.non) (u := Value.none) J rfl q
 | brk =>
  obtain ⟨_, _, _, q⟩ := hs
  exact False.elim q
 | cont =>
  obtain ⟨_, _, _, q⟩ := hs
  exact False.elim q
section
variable {X : Cx} {x : Str} {p pos : Pos} {e : Expr} {es : List Expr} {t : TA} {id T : String} {r : List V → Hp → VK → Prop}
def tCB (r : List V → Hp → VK → Prop) (t : TA) : TE := fun σ H Q => t σ H fun vs H1 => r vs H1 Q
theorem pe_callB (hc : CallR X (.builtin id) r) (hg : Gl X x) (hm : X.mg x = none) (hv : bootBuiltins x = some (.builtin id)) (ha : PA X (e :: es) t) (hn : autoParam (x ≠ "__name__") L2.aDec._auto_1) (hdb : autoParam ((x == ("__debug__" : Str)) = false) L2.aDec._auto_1)
  (he : autoParam (starEach (e :: es) X.env = (false, eval e X.env) :: starEach es X.env) L2.aRfl._auto_1) (hpl : autoParam ((backTo pos (starEach es X.env)).any (·.1) = false) L2.aRfl._auto_1) : PE X (.Call (.Name x p) (e :: es) [] pos) (tCB r t) := by
 intro pins s σ H Q I h
 refine wpAny_Call_Name_kw (ld_blt I hg hm hv ?_ hn hdb)
 exact PyProof.Rows.callWith_builtin1 (thn (ha pos pins s σ H _ I h) fun us s1 ⟨vs, H1, I1, r1, q1⟩ => hc pins s1 σ H1 vs us Q I1 r1 q1) he hpl
theorem pe_callTy (hc : CallR X (.type T) r) (hg : Gl X x) (hm : X.mg x = none) (hv : bootBuiltins x = some (.type T)) (ha : PA X (e :: es) t) (hn : autoParam (x ≠ "__name__") L2.aDec._auto_1) (hdb : autoParam ((x == ("__debug__" : Str)) = false) L2.aDec._auto_1)
  (he : autoParam (starEach (e :: es) X.env = (false, eval e X.env) :: starEach es X.env) L2.aRfl._auto_1) (hpl : autoParam ((backTo pos (starEach es X.env)).any (·.1) = false) L2.aRfl._auto_1) : PE X (.Call (.Name x p) (e :: es) [] pos) (tCB r t) := by
 intro pins s σ H Q I h
 refine wpAny_Call_Name_kw (ld_blt I hg hm hv ?_ hn hdb)
 exact PyProof.Rows.callWith_type1 (thn (ha pos pins s σ H _ I h) fun us s1 ⟨vs, H1, I1, r1, q1⟩ => hc pins s1 σ H1 vs us Q I1 r1 q1) he hpl
end
end L2
namespace HT
open PySem PyProof.Rows
section
open PySem.SeqAt
open PySem.AutoSeq1 (wpAny_loadPart')
open PySem.MeetsSeq PySem.MeetsSeq2 PySem.MeetsSeq3
end
section
variable {prog : Program} {w : World} {A : Around} {E : Value → Shared → Prop} {s : Shared}
theorem cat_tup {t b : Addr} {vs ws : List Value} {Q : Value → Shared → Prop} (ht : IsTup s.heap t vs.toArray) (hb : IsTup s.heap b ws.toArray) (hv : vs ≠ [])
  (h1 : ws = [] → Q (.ref t) s) (h2 : ws ≠ [] → Q (.ref s.heap.objs.size) { s with heap := s.heap.push { cls := .type "tuple", data := .seq (vs ++ ws).toArray } })
  (hsz : vs.length + ws.length ≤ sizeLine) : wpAny (model prog w) A (binaryOp .Add (.ref t) (.ref b)) Q E s := by
 obtain ⟨⟨cls, dd, data, sl⟩, ho, hc, n, hd⟩ := id ht
 obtain ⟨⟨cls2, dd2, data2, sl2⟩, ho2, hc2, n2, hd2⟩ := id hb
 simp only at hc hd hc2 hd2
 subst hc hd hc2 hd2
 have e : vs.toArray ++ ws.toArray = (vs ++ ws).toArray := by simp
 by_cases hw : ws = []
 ·exact concat_meets ⟨_, ho, rfl⟩ ⟨_, ho2, rfl⟩ noFill_tuple_add seq_tuple_add PySem.F.slot_tuple_add PySem.F.entry_tuple_add (PySem.F.args_tuple_add_2 _ _)
   (tuple_addW1 t b vs.toArray ws.toArray n n2 dd dd2 sl sl2 (by simpa using hv) (by simp [hw])) ⟨ho, ho2, h1 hw⟩
 ·refine concat_meets ⟨_, ho, rfl⟩ ⟨_, ho2, rfl⟩ noFill_tuple_add seq_tuple_add PySem.F.slot_tuple_add PySem.F.entry_tuple_add (PySem.F.args_tuple_add_2 _ _)
   (tuple_addW2 t b vs.toArray ws.toArray n n2 dd dd2 sl sl2 (by simpa using hv) (by simpa using hw) (by rw [jV, jV]; exact hsz)) ⟨ho, ho2, ?_⟩
  rw [e]
  exact h2 hw
def sIx (n d : Nat) : Option Int → Nat
 | none => d
 | some v => if v < 0 then (v + (n : Int)).toNat else min v.toNat n
theorem sIx_nat (n d k : Nat) : sIx n d (some (k : Int)) = min k n := by
 show (if (k : Int) < 0 then ((k : Int) + (n : Int)).toNat else min (k : Int).toNat n) = min k n
 rw [if_neg (by lia), jKa]
theorem sIx_le (n d : Nat) (hd : d ≤ n) (o : Option Int) : sIx n d o ≤ n := by
 cases o with
 | none => exact hd
 | some v =>
  show (if v < 0 then (v + (n : Int)).toNat else min v.toNat n) ≤ n
  by_cases hv : v < 0
  ·rw [if_pos hv]; lia
  ·rw [if_neg hv]; exact Nat.min_le_right _ _
theorem min_cast (v : Int) (n : Nat) (h : ¬ v < 0) : min v (n : Int) = ((min v.toNat n : Nat) : Int) := by
 obtain ⟨k, rfl⟩ := Int.eq_ofNat_of_zero_le (Int.not_lt.mp h)
 rw [jKa]
 rcases Nat.le_total k n with h | h
 ·rw [jZb h, Int.min_eq_left (Int.ofNat_le.mpr h)]
 ·rw [Nat.min_eq_right h, Int.min_eq_right (Int.ofNat_le.mpr h)]
theorem clip_eq (v : Int) (n d : Nat) : (if v < 0 then max (v + (n : Int)) 0 else min v (n : Int)) = ((sIx n d (some v) : Nat) : Int) := by
 show (if v < 0 then max (v + (n : Int)) 0 else min v (n : Int)) = (((if v < 0 then (v + (n : Int)).toNat else min v.toNat n) : Nat) : Int)
 by_cases hv : v < 0
 ·rw [if_pos hv, if_pos hv]; exact (Int.ofNat_toNat _).symm
 ·rw [if_neg hv, if_neg hv]; exact min_cast v n hv
theorem adjust_gen (lo hi : Option Int) (n : Nat) : Builtin.Slice.sliceAdjust lo hi 1 (n : Int) = (((sIx n 0 lo : Nat) : Int), ((sIx n n hi : Nat) : Int)) := by
 have h1 : ¬ ((1 : Int) < 0) := by lia
 unfold Builtin.Slice.sliceAdjust
 simp only [h1, if_false]
 refine Prod.ext ?_ ?_
 ·cases lo with
  | none => rfl
  | some v => exact clip_eq v n 0
 ·cases hi with
  | none => rfl
  | some v => exact clip_eq v n n
theorem places_gen (i j : Nat) : Builtin.Slice.slicePlaces (i : Int) (j : Int) 1 = j - i := by
 unfold Builtin.Slice.slicePlaces
 have h1 : (1 : Int) > 0 := by lia
 simp only [h1, if_true, Int.ediv_one]
 split <;> lia
theorem slicePart_ {v : Value} {o : Option Int} {Q : Option Int → Shared → Prop} (p : IsPart v o) (h : Q o s) : wpAny (model prog w) A (Builtin.Slice.slicePartIndex v) Q E s := by
 cases p with
 | none => exact slicePart_none h
 | int i t => exact slicePart_int h
theorem sliceApplied_gen {sl : Addr} {vl vu : Value} {lo hi : Option Int} {n : Nat} {Q : Int × Int × Nat → Shared → Prop} (hs : s.heap.IsSliceOf sl vl vu .none) (pl : IsPart vl lo) (pu : IsPart vu hi)
  (h : Q (((sIx n 0 lo : Nat) : Int), 1, sIx n n hi - sIx n 0 lo) s) : wpAny (model prog w) A (Builtin.Slice.sliceApplied (.ref sl) (pure (n : Int))) Q E s := by
 obtain ⟨os, hos, hcs, hds⟩ := id hs
 unfold Builtin.Slice.sliceApplied Builtin.Slice.sliceFields
 refine jX (jX (wpAny_field hos hds (x := vl) rfl (jX (wpAny_field hos hds (x := vu) rfl (jX (wpAny_field hos hds (x := .none) rfl (jW ?_)))))))
 refine jX (slicePart_none ?_)
 show wpAny _ _ (if ((1 : Int) == 0) = true then _ else _) _ _ s
 rw [if_neg (by decide)]
 refine jX (slicePart_ pl (jX (slicePart_ pu (jX (jW ?_)))))
 show wpAny _ _ (match Builtin.Slice.sliceAdjust lo hi 1 (n : Int) with | (lo, hi) => pure (lo, (1 : Int), Builtin.Slice.slicePlaces lo hi 1)) _ _ s
 rw [adjust_gen lo hi n]
 show wpAny _ _ (pure (((sIx n 0 lo : Nat) : Int), (1 : Int), Builtin.Slice.slicePlaces ((sIx n 0 lo : Nat) : Int) ((sIx n n hi : Nat) : Int) 1)) _ _ s
 rw [places_gen]
 exact jW h
theorem pick_gen (xs : Array Value) (i k : Nat) : ((List.range k).filterMap fun (m : Nat) => xs[((i : Int) + (m : Int) * 1).toNat]?).toArray = ((xs.toList.drop i).take k).toArray := by
 have e : (fun (m : Nat) => xs[((i : Int) + (m : Int) * 1).toNat]?) = fun m => xs[i + m]? := by
  funext m
  have : ((i : Int) + (m : Int) * 1).toNat = i + m := by lia
  rw [this]
 rw [e]
 have := pick_run xs i k
 rw [List.filterMap_map] at this
 have e2 : ((fun x => xs[x]?) ∘ fun x => i + x) = fun m => xs[i + m]? := rfl
 rw [e2] at this
 rw [this]
theorem getItem_tuple_cut {t sl : Addr} {items : Array Value} {vl vu : Value} {lo hi : Option Int} {Q : Value → Shared → Prop} (ht : IsTup s.heap t items) (hs : s.heap.IsSliceOf sl vl vu .none) (pl : IsPart vl lo) (pu : IsPart vu hi)
  (hw : ¬ (sIx items.size 0 lo = 0 ∧ sIx items.size items.size hi = items.size))
  (h : Q (.ref s.heap.objs.size) { s with heap := s.heap.push { cls := .type "tuple", data := .seq ((items.toList.drop (sIx items.size 0 lo)).take (sIx items.size items.size hi - sIx items.size 0 lo)).toArray } })
  (hsz : items.size ≤ sizeLine) : wpAny (model prog w) A (getItem (.ref t) (.ref sl)) Q E s := by
 have htake : sizeOk (.seq ((items.toList.drop (sIx items.size 0 lo)).take (sIx items.size items.size hi - sIx items.size 0 lo)).toArray) := by
  show ((items.toList.drop (sIx items.size 0 lo)).take (sIx items.size items.size hi - sIx items.size 0 lo)).toArray.size ≤ sizeLine
  rw [jV, yX, jYe, jQc]
  lia
 have hj : sIx items.size items.size hi ≤ items.size := sIx_le _ _ (jJ _) hi
 obtain ⟨os, hos, hcs, hds⟩ := id hs
 have hTs : s.TypeIs (.ref sl) "slice" := ⟨os, hos, hcs⟩
 unfold getItem
 try with_reducible refine wpAny_holding ?_
 first | refine jX (jW ?_) | skip
 refine jX (wpAny_sequenceKey ht.typeIs (by decide) ?_)
 refine jX (wpAny_callSpecial?_slot (name := Str.ofString "__getitem__") ht.typeIs PyProof.Rows.slot_tuple_getitem
  (wpAny_call_entry PyProof.Rows.slot_tuple_getitem ht.typeIs entry_tuple_getitem ?_ (args_tuple_getitem _ _)))
 show wpAny _ _ (Builtin.Tuple.tupleItemsOf (.ref t) >>= _) _ _ s
 refine jX (tupleItemsOf_ ht ?_)
 refine jX (wpAny_typeOf hTs ?_)
 rw [if_pos (by decide)]
 refine jX (sliceApplied_gen hs pl pu ?_)
 have hno : ¬ ((((sIx items.size 0 lo : Nat) : Int) == 0 && (1 : Int) == 1 && (sIx items.size items.size hi - sIx items.size 0 lo) == items.size) = true) := by
  intro q
  rw [xK, xK] at q
  have q1 : ((sIx items.size 0 lo : Nat) : Int) = 0 := eq_of_beq q.1.1
  have q2 : sIx items.size items.size hi - sIx items.size 0 lo = items.size := eq_of_beq q.2
  exact hw ⟨by lia, by lia⟩
 show wpAny _ _ (if (((sIx items.size 0 lo : Nat) : Int) == 0 && (1 : Int) == 1 && (sIx items.size items.size hi - sIx items.size 0 lo) == items.size) = true then _ else _) _ _ s
 rw [if_neg hno, pick_gen]
 first
  | exact jX (m := Builtin.Tuple.tupleExact _) (wpAny_newObj_type (jW ⟨_, rfl, jW h⟩) htake)
  | exact jX (m := Builtin.Tuple.tupleExact _) (wpAny_newObj_type (jX (jW (jW ⟨_, rfl, jW h⟩))) htake)
  | exact jX (jX (m := Builtin.Tuple.tupleExact _) (wpAny_newObj_type (jW (jW ⟨_, rfl, jW h⟩)) htake))
  | exact jX (jX (m := Builtin.Tuple.tupleExact _) (wpAny_newObj_type (jW ⟨_, rfl, jW h⟩) htake))
end
end HT
namespace L2
open PySem PySem.Spec PyProof.Rows
abbrev TO := St → Hp → (Option Int → Hp → Prop) → Prop
def PO (X : Cx) (e : Option Expr) (t : TO) : Prop :=
 ∀ (pins : List (Addr × Obj)) (s : Shared) (σ : St) (H : Hp) (Q : Option Int → Hp → Prop), Inv X pins σ H s → t σ H Q →
  wpAny (model X.prog X.w) X.A (evalPart e X.env) (fun u s' => ∃ o H', Inv X pins σ H' s' ∧ IsPart u o ∧ Q o H') X.xe s
def tNoPart : TO := fun _ H Q => Q none H
inductive ItPart (Q : (Option Int → Hp → Prop)) (x : V) (H1 : Hp) : Prop
 | mk (i : _) (h1 : x = .int i) (h2 : Q (some i) H1)
def tPart (t : TE) : TO := fun σ H Q => t σ H fun x H1 => ItPart Q x H1
theorem intsAre_of {ns : List Int} : ∀ {us : List Value}, Vals (ns.map V.int) us → IntsAre us ns := by
 induction ns with
 | nil => intro us r; rw [jKc] at r; cases r; exact .nil
 | cons n ns ih =>
  intro us r
  rw [zZ] at r
  cases r with
  | cons r1 r2 =>
   obtain ⟨t, e⟩ := r1
   subst e
   exact .cons n t (ih r2)
section
variable {X : Cx} {e : Expr} {te : TE} {lo hi : Option Expr} {tl th : TO} {pos p2 : Pos}
theorem po_none : PO X none tNoPart := by
 intro pins s σ H Q I h
 rw [evalPart_none]
 exact jW ⟨none, H, I, .none, h⟩
theorem po_some (h : PE X e te) : PO X (some e) (tPart te) := by
 intro pins s σ H Q I hw
 rw [evalPart_some]
 refine thn (h pins s σ H _ I hw) fun u s1 hqP => ?_
 obtain ⟨x, H1, I1, r1, q1⟩ := hqP
 obtain ⟨i, rfl, q⟩ := q1
 obtain ⟨t, rfl⟩ := r1
 exact ⟨some i, H1, I1, .int i t, q⟩
def SlR (X : Cx) (r : V → Option Int → Option Int → Hp → VK → Prop) : Prop :=
 ∀ (pins : List (Addr × Obj)) (s : Shared) (σ : St) (H : Hp) (x : V) (v vl vu : Value) (lo hi : Option Int) (sl : Addr) (Q : VK), Inv X pins σ H s → RelV x v → s.heap.IsSliceOf sl vl vu .none → IsPart vl lo → IsPart vu hi → r x lo hi H Q →
  ∃ T id, typeLookup (.type T) "__getitem__" = pure (some (.builtin id)) ∧ s.TypeIs v T ∧ wpAny (model X.prog X.w) X.A (getItem v (.ref sl)) (EP X pins σ Q) X.xe s
def tSl (r : V → Option Int → Option Int → Hp → VK → Prop) (te : TE) (tl th : TO) : TE := fun σ H Q => te σ H fun x H1 => tl σ H1 fun l H2 => th σ H2 fun u H3 => r x l u H3 Q
theorem pe_slice {r : V → Option Int → Option Int → Hp → VK → Prop} (hr : SlR X r) (he : PE X e te) (hl : PO X lo tl) (hu : PO X hi th) : PE X (.Subscript e (.Slice lo hi none p2) pos) (tSl r te tl th) := by
 intro pins s σ H Q I h
 refine Subscript_ (thn (he pins s σ H _ I h) fun v s1 hqP => ?_)
 obtain ⟨x, H1, I1, r1, q1⟩ := hqP
 refine wpAny_Slice (thn (hl pins s1 σ H1 _ I1 q1) fun vl s2 ⟨l, H2, I2, pl, q2⟩ => thn (hu pins s2 σ H2 _ I2 q2) fun vu s3 hqP => ?_)
 obtain ⟨u, H3, I3, pu, q3⟩ := hqP
 rw [evalPart_none]
 refine jW ?_
 have I4 : Inv X pins σ H3 { s3 with heap := s3.heap.push { cls := .type "slice", data := .fields #[vl, vu, .none] } } := I3.kept (t' := s3.toks) fun b ob q => jZ _ q
 obtain ⟨T, id, hT, ht, hg⟩ := hr pins { s3 with heap := s3.heap.push { cls := .type "slice", data := .fields #[vl, vu, .none] } } σ H3 x v vl vu l u s3.heap.objs.size Q I4 r1 (Heap.IsSliceOf.new ..) pl pu q3
 show wpAny (model X.prog X.w) X.A (subscriptTail e (.Slice lo hi none p2) v (.ref s3.heap.objs.size)) (EP X pins σ Q) X.xe { s3 with heap := s3.heap.push { cls := .type "slice", data := .fields #[vl, vu, .none] } }
 exact tail_any (ops := [.ref s3.heap.objs.size, v]) ht hT hg (by with_unfolding_all rfl)
def cutV (xs : List V) (lo hi : Option Int) : List V := (xs.drop (HT.sIx xs.length 0 lo)).take (HT.sIx xs.length xs.length hi - HT.sIx xs.length 0 lo)
theorem cutV_length (xs : List V) (lo hi : Option Int) : (cutV xs lo hi).length ≤ xs.length := by
 unfold cutV
 rw [yX, jYe]
 lia
inductive IrSlT (K : Fg) (x : V) (lo : Option Int) (hi : Option Int) (H : Hp) (Q : VK) : Prop
 | mk (a : _) (xs : _) (h1 : x = .ref a) (h2 : SqT K H a xs) (h3 : ¬ (HT.sIx xs.length 0 lo = 0 ∧ HT.sIx xs.length xs.length hi = xs.length)) (h4 : ∀ p, H p = none → Q (.ref p) (upd H p (.tup (cutV xs lo hi))))
def rSlT (K : Fg) : V → Option Int → Option Int → Hp → VK → Prop := fun x lo hi H Q => IrSlT K x lo hi H Q
theorem sl_tup : SlR X (rSlT X.K) := by
 intro pins s σ H x v vl vu lo hi sl Q I rx hs pl pu h
 obtain ⟨a, xs, rfl, hx, hw, q⟩ := h
 cases rx
 obtain ⟨its, r, ht, hz⟩ := I.tuple hx
 have hlen : its.toArray.size = xs.length := by rw [jV]; exact r.length.symm
 refine ⟨"tuple", _, PyProof.Rows.slot_tuple_getitem.lookup, ht.typeIs, ?_⟩
 refine HT.getItem_tuple_cut ht hs pl pu (by rw [hlen]; exact hw) ?_ (by rw [hlen]; exact hz)
 rw [hlen]
 refine ⟨.ref s.heap.objs.size, _, I.laid (t' := s.toks) (o := .tup (cutV xs lo hi)) (fun b ob q => jZ _ q) (jJ _) ?_, rfl, q _ (I.hok.fresh (jJ _))⟩
 exact ⟨wW (cutV_length xs lo hi) hz, _, (r.drop (HT.sIx xs.length 0 lo)).take (HT.sIx xs.length xs.length hi - HT.sIx xs.length 0 lo), IsTup.new _ _⟩
inductive IrCatT (K : Fg) (x : V) (y : V) (H : Hp) (Q : VK) : Prop
 | mk (a : _) (b : _) (xs : _) (ys : _) (h1 : x = .ref a) (h2 : y = .ref b) (h3 : SqT K H a xs) (h4 : SqT K H b ys) (h5 : xs ≠ []) (h6 : xs.length + ys.length ≤ sizeLine) (h7 : (ys = [] → Q (.ref a) H)) (h8 : (ys ≠ [] → ∀ p, H p = none → Q (.ref p) (upd H p (.tup (xs ++ ys)))))
def rCatT (K : Fg) : R2 := fun x y H Q => IrCatT K x y H Q
theorem Vals.nil_iff {xs : List V} {us : List Value} (r : Vals xs us) : us = [] ↔ xs = [] := by
 cases r with
 | nil => simp
 | cons _ _ => simp
theorem op_catT : OpR X (binaryOp .Add) (rCatT X.K) := by
 intro pins s σ H x y v u Q I rx ry h
 obtain ⟨a, b, xs, ys, rfl, rfl, ha, hb, hx, hz, q1, q2⟩ := h
 cases rx
 cases ry
 obtain ⟨its, r1, p1, _⟩ := I.tuple ha
 obtain ⟨its2, r2, p2, _⟩ := I.tuple hb
 refine HT.cat_tup p1 p2 (fun z => hx (r1.nil_iff.mp z)) (fun z => ⟨.ref a, H, I, rfl, q1 (r2.nil_iff.mp z)⟩) (fun z => ?_) (by rw [← r1.length, ← r2.length]; exact hz)
 refine ⟨.ref s.heap.objs.size, _, I.laid (t' := s.toks) (o := .tup (xs ++ ys)) (fun b ob q => jZ _ q) (jJ _) ?_, rfl, q2 (fun w => z (r2.nil_iff.mpr w)) _ (I.hok.fresh (jJ _))⟩
 exact ⟨by rw [kQ]; exact hz, _, r1.append r2, IsTup.new _ _⟩
end
def ixN (n : Nat) (i : Int) : Option Nat := if 0 ≤ i then (if i < n then some i.toNat else none) else if -(n : Int) ≤ i then some (i + n).toNat else none
def atI {α : Type} (xs : List α) (i : Int) : Option α := (ixN xs.length i).bind fun j => xs[j]?
theorem ixN_seq {n : Nat} {i : Int} {j : Nat} (h : ixN n i = some j) : seqIndex? i n = some j ∧ j < n ∧ -(n : Int) ≤ i ∧ i < n := by
 unfold ixN at h
 by_cases h0 : 0 ≤ i
 ·rw [if_pos h0] at h
  by_cases h1 : i < n
  ·rw [if_pos h1] at h
   have e : i.toNat = j := Option.some.inj h
   exact ⟨by rw [seqIndex_of h0 h1, e], by lia, by lia, h1⟩
  ·rw [if_neg h1] at h; cases h
 ·rw [if_neg h0] at h
  by_cases h1 : -(n : Int) ≤ i
  ·rw [if_pos h1] at h
   have e : (i + n).toNat = j := Option.some.inj h
   exact ⟨by rw [seqIndex_neg (by lia) h1, e], by lia, h1, by lia⟩
  ·rw [if_neg h1] at h; cases h
theorem atI_get {α : Type} {xs : List α} {i : Int} {v : α} (h : atI xs i = some v) : ∃ j, seqIndex? i xs.length = some j ∧ xs[j]? = some v ∧ j < xs.length ∧ -(xs.length : Int) ≤ i ∧ i < xs.length := by
 unfold atI at h
 cases e : ixN xs.length i with
 | none => rw [e] at h; cases h
 | some j =>
  rw [e] at h
  obtain ⟨h1, h2, h3, h4⟩ := ixN_seq e
  exact ⟨j, h1, h, h2, h3, h4⟩
theorem atI_nat {α : Type} {xs : List α} {j : Nat} {v : α} (h : xs[j]? = some v) : atI xs (j : Int) = some v := by
 have hj : j < xs.length := (yQ.mp h).1
 have e : ixN xs.length (j : Int) = some j := by
  unfold ixN
  rw [if_pos (by lia), if_pos (by lia)]; simp
 unfold atI; rw [e]; exact h
def PlainIx (b : Expr) : Prop := ∀ o i, subscripted b false o i = operate [o, i] (getItem o i)
def IxR (X : Cx) (r : R2) : Prop :=
 ∀ (value slice : Expr) (pins : List (Addr × Obj)) (s : Shared) (σ : St) (H : Hp) (x y : V) (v u : Value) (Q : VK), Inv X pins σ H s → RelV x v → RelV y u → r x y H Q →
  subscripted slice false v u = operate [v, u] (getItem v u) → wpAny (model X.prog X.w) X.A (subscriptTail value slice v u) (EP X pins σ Q) X.xe s
def MtR (X : Cx) (id : String) (r : V → List V → Hp → VK → Prop) : Prop :=
 ∀ (pins : List (Addr × Obj)) (s : Shared) (σ : St) (H : Hp) (x : V) (xs : List V) (v : Value) (us : List Value) (Q : VK), Inv X pins σ H s → RelV x v → Vals xs us → r x xs H Q →
  wpAny (model X.prog X.w) X.A (call (.builtin id) (v :: us)) (EP X pins σ Q) X.xe s
section
variable {X : Cx} {a b : Expr} {ta tb : TE} {pos : Pos}
theorem pe_ix {r : R2} (hr : IxR X r) (ha : PE X a ta) (hb : PE X b tb) (hs : PlainIx b) : PE X (.Subscript a b pos) (tOp r ta tb) := by
 intro pins s σ H Q I h
 exact Subscript_ (binT ha hb I h fun v u s2 x y H2 I2 rx ry q => hr a b pins s2 σ H2 x y v u Q I2 rx ry q (hs _ _))
inductive IrIxL (K : Fg) (x : V) (y : V) (H : Hp) (Q : VK) : Prop
 | mk (p : _) (xs : _) (i : _) (v : _) (h1 : x = .ref p) (h2 : y = .int i) (h3 : SqL K H p xs) (h4 : atI xs i = some v) (h5 : Q v H)
def rIxL (K : Fg) : R2 := fun x y H Q => IrIxL K x y H Q
inductive IrIxT (K : Fg) (x : V) (y : V) (H : Hp) (Q : VK) : Prop
 | mk (p : _) (xs : _) (i : _) (v : _) (h1 : x = .ref p) (h2 : y = .int i) (h3 : SqT K H p xs) (h4 : atI xs i = some v) (h5 : Q v H)
def rIxT (K : Fg) : R2 := fun x y H Q => IrIxT K x y H Q
theorem ix_list : IxR X (rIxL X.K) := by
 intro value slice pins s σ H x y v u Q I rx ry h hs
 obtain ⟨p, xs, i, z, rfl, rfl, hq, he, q⟩ := h
 cases rx
 obtain ⟨t, rfl⟩ := ry
 obtain ⟨its, r, pl, hz⟩ := I.list hq
 obtain ⟨j, h1, h2, h3, h4, h5⟩ := atI_get he
 obtain ⟨w, ew, rw'⟩ := r.get h2
 have hl := r.length
 have hn := line63
 have fin : EP X pins σ Q w s := ⟨z, H, I, rw', q⟩
 by_cases h0 : 0 ≤ i
 ·have hj : i.toNat = j := by
   rw [seqIndex_of h0 h5] at h1
   exact Option.some.inj h1
  exact item_listR pl.isList h0 (by lia) (by rw [hj]; simpa using ew) fin hs
 ·have hj : (i + (its.toArray.size : Int)).toNat = j := by
   rw [seqIndex_neg (by lia) h4] at h1
   rw [jV, ← hl]
   exact Option.some.inj h1
  exact subscriptTail_builtinR (x := w) pl.isList.typeIs slot_list_getitem.lookup
   (wpAny_getItem_list_neg (Q := fun r s' => r = w ∧ EP X pins σ Q r s') pl.isList (by lia) (by rw [jV] <;> lia) (by lia) (by rw [hj]; simpa using ew) ⟨rfl, fin⟩) hs
theorem ix_tup : IxR X (rIxT X.K) := by
 intro value slice pins s σ H x y v u Q I rx ry h hs
 obtain ⟨p, xs, i, z, rfl, rfl, hq, he, q⟩ := h
 cases rx
 obtain ⟨t, rfl⟩ := ry
 obtain ⟨its, r, pl, hz⟩ := I.tuple hq
 obtain ⟨j, h1, h2, h3, h4, h5⟩ := atI_get he
 obtain ⟨w, ew, rw'⟩ := r.get h2
 have hl := r.length
 have hn := line63
 have fin : EP X pins σ Q w s := ⟨z, H, I, rw', q⟩
 exact subscriptTail_builtinR (x := w) pl.typeIs slot_tuple_getitem.lookup
  (getItem_tuple (j := j) (Q := fun r s' => r = w ∧ EP X pins σ Q r s') pl (by lia) (by lia) (by rw [jV, ← hl]; exact h1) (by simpa using ew) ⟨rfl, fin⟩) hs
theorem mapSeq_set (its : List Value) (n j : Nat) (u : Value) : Obj.mapSeq (·.setIfInBounds j u) { cls := .type "list", data := .seq its.toArray n } = { cls := .type "list", data := .seq (its.set j u).toArray n } := by
 simp [Obj.mapSeq]
theorem Inv.lst {pins : List (Addr × Obj)} {σ : St} {H : Hp} {s : Shared} {p : Addr} {xs : List V} (I : Inv X pins σ H s) (h : H p = some (.lst xs)) :
  ∃ (its : List Value) (n : Nat), Vals xs its ∧ s.heap.get? p = some { cls := .type "list", data := .seq its.toArray n } ∧ xs.length ≤ sizeLine := by
 obtain ⟨z, its, n, r, e⟩ := I.hok p _ h
 exact ⟨its, n, r, e, z⟩
theorem Inv.lstUpd {pins : List (Addr × Obj)} {σ : St} {H : Hp} {s : Shared} {p : Addr} {xs ys : List V} {its its' : List Value} {n n' : Nat} {f : Obj → Obj} (I : Inv X pins σ H s) (h : H p = some (.lst xs))
  (ho : s.heap.get? p = some { cls := .type "list", data := .seq its.toArray n }) (hf : f { cls := .type "list", data := .seq its.toArray n } = { cls := .type "list", data := .seq its'.toArray n' }) (r : Vals ys its') (hz : ys.length ≤ sizeLine) (t : Nat) :
  Inv X pins σ (upd H p (.lst ys)) { s with heap := s.heap.update p f, toks := t } := by
 have e : (s.heap.update p f).get? p = some { cls := .type "list", data := .seq its'.toArray n' } := by
  rw [kQe f ho (by rw [hf] <;> rfl), hf]
 refine I.write (x := p) (e := p) (by rw [h]; trivial) (.inl rfl) (fun b u hb q => (jQa _ _ (Ne.symm hb)).trans q) ⟨_, e⟩ ?_
 exact ⟨hz, its', n', r, e⟩
inductive IrSetL (o : V) (i : V) (v : V) (H : Hp) (Q : (Hp → Prop)) : Prop
 | mk (p : _) (xs : _) (k : _) (j : _) (h1 : o = .ref p) (h2 : i = .int k) (h3 : H p = some (.lst xs)) (h4 : ixN xs.length k = some j) (h5 : Q (upd H p (.lst (xs.set j v))))
def rSetL  : V → V → V → Hp → (Hp → Prop) → Prop := fun o i v H Q => IrSetL o i v H Q
theorem set_list : PSet X rSetL := by
 intro pins s σ H o i v ov iv u Q I ro ri rv h
 obtain ⟨p, xs, k, j, rfl, rfl, hp, hj, q⟩ := h
 cases ro
 obtain ⟨t, rfl⟩ := ri
 obtain ⟨its, n, r, ho, hz⟩ := I.lst hp
 obtain ⟨h1, h2, h3, h4⟩ := ixN_seq hj
 have hl := r.length
 have hn := line63
 have I' : Inv X pins σ (upd H p (.lst (xs.set j v))) { s with heap := s.heap.update p (Obj.mapSeq (·.setIfInBounds j u)) } :=
  I.lstUpd hp ho (mapSeq_set its n j u) (r.set rv j) (by rw [xZ]; exact hz) s.toks
 by_cases h0 : 0 ≤ k
 ·have hk : k.toNat = j := by
   rw [seqIndex_of h0 h4] at h1
   exact Option.some.inj h1
  exact PySem.W.ki_setAt ho h0 (by lia) (by rw [jV, ← hl]; exact h4) (by rw [hk]; exact ⟨_, I', q⟩)
 ·have hk : (k + (its.toArray.size : Int)).toNat = j := by
   rw [seqIndex_neg (by lia) h3] at h1
   rw [jV, ← hl]
   exact Option.some.inj h1
  exact PySem.W.ki_setBack ho (by lia) (by rw [jV, ← hl]; exact h3) (by lia) (by rw [hk]; exact ⟨_, I', q⟩)
theorem slice_bound (i : Int) (n d : Nat) : max 0 (min (if i < 0 then i + (n : Int) else i) (n : Int)) = ((HT.sIx n d (some i) : Nat) : Int) := by
 rw [← HT.clip_eq]
 by_cases h : i < 0
 ·rw [if_pos h, if_pos h, Int.min_eq_left (by have := Int.add_le_add_right (Int.le_of_lt h) (n : Int); rwa [Int.zero_add] at this), Int.max_comm]
 ·rw [if_neg h, if_neg h, HT.min_cast i n h, Int.max_eq_right (jKf _)]
theorem slice_bounds (lo hi : Option Int) (n : Nat) : (sliceBounds lo hi none n).1 = ((HT.sIx n 0 lo : Nat) : Int) ∧ (sliceBounds lo hi none n).2.1 = ((HT.sIx n n hi : Nat) : Int) ∧ (sliceBounds lo hi none n).2.2 = 1 := by
 refine ⟨?_, ?_, rfl⟩
 ·cases lo with
  | none => rfl
  | some i => exact slice_bound i n 0
 ·cases hi with
  | none => rfl
  | some i => exact slice_bound i n n
theorem slicePick_cut (its : List Value) (lo hi : Option Int) : slicePick its.toArray lo hi none = ((its.drop (HT.sIx its.length 0 lo)).take (HT.sIx its.length its.length hi - HT.sIx its.length 0 lo)).toArray := by
 obtain ⟨h1, h2, h3⟩ := slice_bounds lo hi its.toArray.size
 unfold slicePick
 rw [h1, h2, h3]
 simp only [sliceRange_one, pick_run, jV] <;> rfl
inductive IrSlL (K : Fg) (x : V) (lo : Option Int) (hi : Option Int) (H : Hp) (Q : VK) : Prop
 | mk (a : _) (xs : _) (h1 : x = .ref a) (h2 : SqL K H a xs) (h3 : ∀ p, H p = none → Q (.ref p) (upd H p (.lst (cutV xs lo hi))))
def rSlL (K : Fg) : V → Option Int → Option Int → Hp → VK → Prop := fun x lo hi H Q => IrSlL K x lo hi H Q
theorem sl_list : SlR X (rSlL X.K) := by
 intro pins s σ H x v vl vu lo hi sl Q I rx hs pl pu h
 obtain ⟨a, xs, rfl, hx, q⟩ := h
 cases rx
 obtain ⟨its, r, ht, hz⟩ := I.list hx
 have hlen := r.length
 refine ⟨"list", _, slot_list_getitem.lookup, ht.isList.typeIs, ?_⟩
 refine wpAny_getItem_list_slice ht.isList hs pl pu .none (by simp) ?_ (by rw [jV] <;> lia)
 rw [slicePick_cut, ← hlen]
 refine ⟨.ref s.heap.objs.size, _, I.laid (t' := s.toks) (o := .lst (cutV xs lo hi)) (fun b ob q => jZ _ q) (jJ _) ?_, rfl, q _ (I.hok.fresh (jJ _))⟩
 exact ⟨wW (cutV_length xs lo hi) hz, _, 0, (r.drop (HT.sIx xs.length 0 lo)).take (HT.sIx xs.length xs.length hi - HT.sIx xs.length 0 lo), yZ _ rfl⟩
def flatV : V → Bool
 | .non => true
 | .bl _ => true
 | .int _ => true
 | .str _ => true
 | _ => false
def eqV : V → V → Bool
 | .non, .non => true
 | .bl a, .bl b => a == b
 | .bl a, .int b => (if a then 1 else 0) == b
 | .int a, .bl b => a == (if b then 1 else 0)
 | .int a, .int b => a == b
 | .str a, .str b => a == b
 | _, _ => false
theorem eqAt_V {A : Around} {s : Shared} {y x : V} {u v : Value} (ry : RelV y u) (rx : RelV x v) (fy : flatV y = true) (fx : flatV x = true) : SeqAt.EqAt A s u v (eqV y x) := by
 cases y with
 | non =>
  cases ry
  cases x with
  | non => cases rx; exact SeqAt.EqAt.same _
  | bl b => cases rx; exact SeqAt.EqAt.none_bool b
  | int b => obtain ⟨t, rfl⟩ := rx; exact SeqAt.EqAt.none_int b t
  | str b => obtain ⟨t, rfl⟩ := rx; exact SeqAt.EqAt.none_str b t
  | _ => exact absurd (show false = true from fx) kZ
 | bl a =>
  cases ry
  cases x with
  | non => cases rx; exact SeqAt.EqAt.bool_none a
  | bl b => cases rx; exact SeqAt.EqAt.bool_bool a b
  | int b => obtain ⟨t, rfl⟩ := rx; exact SeqAt.EqAt.bool_int a b t
  | str b => obtain ⟨t, rfl⟩ := rx; exact SeqAt.EqAt.bool_str a b t
  | _ => exact absurd (show false = true from fx) kZ
 | int a =>
  obtain ⟨t', rfl⟩ := ry
  cases x with
  | non => cases rx; exact SeqAt.EqAt.int_none a t'
  | bl b => cases rx; exact SeqAt.EqAt.int_bool a t' b
  | int b => obtain ⟨t, rfl⟩ := rx; exact SeqAt.EqAt.int_int a t' b t
  | str b => obtain ⟨t, rfl⟩ := rx; exact SeqAt.EqAt.int_str a t' b t
  | _ => exact absurd (show false = true from fx) kZ
 | str a =>
  obtain ⟨t', rfl⟩ := ry
  cases x with
  | non => cases rx; exact SeqAt.EqAt.str_none a t'
  | bl b => cases rx; exact SeqAt.EqAt.str_bool a t' b
  | int b => obtain ⟨t, rfl⟩ := rx; exact SeqAt.EqAt.str_int a t' b t
  | str b => obtain ⟨t, rfl⟩ := rx; exact SeqAt.EqAt.str_str a t' b t
  | _ => exact absurd (show false = true from fx) kZ
 | _ => exact absurd (show false = true from fy) kZ
def eqU (x : V) (u : Value) : Bool := match u with
 | .none => eqV .non x
 | .bool b => eqV (.bl b) x
 | .int i _ => eqV (.int i) x
 | .str z _ => eqV (.str z) x
 | _ => false
theorem eqU_of {x y : V} {u : Value} (r : RelV y u) (f : flatV y = true) : eqU x u = eqV y x := by
 cases y with
 | non => cases r; rfl
 | bl b => cases r; rfl
 | int i => obtain ⟨t, rfl⟩ := r; rfl
 | str z => obtain ⟨t, rfl⟩ := r; rfl
 | _ => exact absurd (show false = true from f) kZ
theorem any_eqU {x : V} : ∀ {xs : List V} {us : List Value}, Vals xs us → xs.all flatV = true → us.any (eqU x) = xs.any fun y => eqV y x
 | _, _, .nil, _ => rfl
 | y :: xs, u :: us, .cons r t, f => by
  rw [List.all_cons, xK] at f
  rw [kZa, kZa, eqU_of r f.1, any_eqU t f.2]
theorem mem_eqAt {A : Around} {s : Shared} {x : V} {v : Value} (rx : RelV x v) (fx : flatV x = true) : ∀ {xs : List V} {us : List Value}, Vals xs us → xs.all flatV = true → ∀ u ∈ us, SeqAt.EqAt A s u v (eqU x u)
 | _, _, .nil, _ => fun u hu => by cases hu
 | y :: xs, u :: us, .cons r t, f => fun u' hu => by
  rw [List.all_cons, xK] at f
  rcases zX.mp hu with rfl | hu
  ·rw [eqU_of r f.1]; exact eqAt_V r rx f.1 fx
  ·exact mem_eqAt rx fx t f.2 u' hu
def inV (x : V) (xs : List V) : Bool := xs.any fun y => eqV y x
inductive IrIn (K : Fg) (neg : Bool) (x : V) (y : V) (H : Hp) (Q : VK) : Prop
 | mk (p : _) (xs : _) (h1 : y = .ref p) (h2 : (SqL K H p xs ∨ SqT K H p xs)) (h3 : flatV x = true) (h4 : xs.all flatV = true) (h5 : Q (.bl (if neg then !inV x xs else inV x xs)) H)
def rIn (K : Fg) (neg : Bool) : R2 := fun x y H Q => IrIn K neg x y H Q
theorem op_in_seq : OpR X (compareOp .In) (rIn X.K false) := by
 intro pins s σ H x y v u Q I rx ry h
 obtain ⟨p, xs, rfl, hq, fx, fs, q⟩ := h
 cases ry
 rcases hq with hq | hq
 ·obtain ⟨its, r, pl, hz⟩ := I.list hq
  refine SeqAt.in_listAt (eqU x) pl.isList (fun w hw => mem_eqAt rx fx r fs w (by simpa using hw)) ⟨.bl _, H, I, rfl, ?_⟩
  rw [show its.toArray.any (eqU x) = its.any (eqU x) by simp, any_eqU r fs]
  exact q
 ·obtain ⟨its, r, pl, hz⟩ := I.tuple hq
  refine SeqAt.in_tupleAt (eqU x) pl (fun w hw => mem_eqAt rx fx r fs w (by simpa using hw)) ⟨.bl _, H, I, rfl, ?_⟩
  rw [show its.toArray.any (eqU x) = its.any (eqU x) by simp, any_eqU r fs]
  exact q
inductive Ccall_len_seq (KX : Fg) (xs : List V) (H : Hp) (Q : VK) : Prop
 | mk (p : _) (ys : _) (h1 : xs = [.ref p]) (h2 : (SqL KX H p ys ∨ SqT KX H p ys)) (h3 : Q (.int ys.length) H)
theorem call_len_seq : CallR X (.builtin "len") (fun xs H Q => Ccall_len_seq X.K xs H Q) := by
 intro pins s σ H xs us Q I r h
 obtain ⟨p, ys, rfl, hq, q⟩ := h
 obtain ⟨u, rfl, rx⟩ := vals1 r
 cases rx
 have hn := line63
 rcases hq with hq | hq
 ·obtain ⟨its, r', pl, hz⟩ := I.list hq
  have hlen := r'.length
  exact Calls.call_len_list pl.isList (by simp only [jV] <;> lia) ⟨.int ys.length, H, I.tok _, ⟨s.toks + 1, by rw [jV, hlen]⟩, q⟩
 ·obtain ⟨its, r', pl, hz⟩ := I.tuple hq
  have hlen := r'.length
  exact len_tuple pl (by simp only [jV] <;> lia) ⟨.int ys.length, H, I.tok _, ⟨s.toks + 1, by rw [jV, hlen]⟩, q⟩
inductive Ccall_list_of (KX : Fg) (xs : List V) (H : Hp) (Q : VK) : Prop
 | mk (p : _) (ys : _) (h1 : xs = [.ref p]) (h2 : (SqL KX H p ys ∨ SqT KX H p ys)) (h3 : ∀ l, H l = none → Q (.ref l) (upd H l (.lst ys)))
theorem call_list_of : CallR X (.type "list") (fun xs H Q => Ccall_list_of X.K xs H Q) := by
 intro pins s σ H xs us Q I r h
 obtain ⟨p, ys, rfl, hq, q⟩ := h
 obtain ⟨u, rfl, rx⟩ := vals1 r
 cases rx
 have fin : ∀ (its : List Value), Vals ys its → ys.length ≤ sizeLine → ∀ (h' : Heap) (c' : Nat), (∀ b o', s.heap.get? b = some o' → h'.get? b = some o') →
   h'.get? s.heap.objs.size = some { cls := .type "list", dict := none, data := .seq its.toArray c', slots := #[] } → EP X pins σ Q (.ref s.heap.objs.size) { s with heap := h' } := fun its r' hz h' c' kp e =>
  ⟨.ref s.heap.objs.size, _, I.laid (t' := s.toks) kp (jJ _) (show ObjOk X.prog X.w _ h' _ (.lst ys) from ⟨hz, its, c', r', e⟩), rfl, q _ (I.hok.fresh (jJ _))⟩
 rcases hq with hq | hq
 ·obtain ⟨its, r', pl, hz⟩ := I.list hq
  have hlen := r'.length
  obtain ⟨o, ho, hc, n, hd⟩ := pl.isList
  exact call_list_seq p (.inl rfl) ho hc hd (fun h' c' kp e => fin its r' hz h' c' kp e) (by simp only [jV] <;> lia)
 ·obtain ⟨its, r', pl, hz⟩ := I.tuple hq
  have hlen := r'.length
  obtain ⟨o, ho, hc, n, hd⟩ := pl
  exact call_list_seq p (.inr rfl) ho hc hd (fun h' c' kp e => fin its r' hz h' c' kp e) (by simp only [jV] <;> lia)
inductive Ccall_tuple_of (KX : Fg) (xs : List V) (H : Hp) (Q : VK) : Prop
 | mk (p : _) (ys : _) (h1 : xs = [.ref p]) (h2 : ((SqL KX H p ys ∧ ∀ l, H l = none → Q (.ref l) (upd H l (.tup ys))) ∨ (SqT KX H p ys ∧ Q (.ref p) H)))
theorem call_tuple_of : CallR X (.type "tuple") (fun xs H Q => Ccall_tuple_of X.K xs H Q) := by
 intro pins s σ H xs us Q I r h
 obtain ⟨p, ys, rfl, h⟩ := h
 obtain ⟨u, rfl, rx⟩ := vals1 r
 cases rx
 rcases h with ⟨hq, q⟩ | ⟨hq, q⟩
 ·obtain ⟨its, r', pl, hz⟩ := I.list hq
  have hlen := r'.length
  refine call_tuple_list pl.isList (fun h' kp => ?_) (by simp only [jV] <;> lia)
  have I1 : Inv X pins σ H { s with heap := h' } := I.kept (t' := s.toks) kp
  have I2 : Inv X pins σ (upd H h'.objs.size (.tup ys)) { s with heap := h'.push { cls := .type "tuple", data := .seq its.toArray } } :=
   I1.laid (t' := s.toks) (fun b o e => jZ _ e) (jJ _) (show ObjOk X.prog X.w _ _ _ (.tup ys) from ⟨hz, its, r', IsTup.new _ _⟩)
  exact ⟨.ref h'.objs.size, _, I2, rfl, q _ (I1.hok.fresh (jJ _))⟩
 ·obtain ⟨its, r', pl, hz⟩ := I.tuple hq
  exact call_tuple_same pl ⟨.ref p, H, I, rfl, q⟩
def tyV (K : Fg) (T : String) (x : V) (H : Hp) : Prop := match x with
 | .str _ => T = "str"
 | .int _ => T = "int"
 | .ref p => (T = "list" ∧ ∃ xs, SqL K H p xs) ∨ (T = "tuple" ∧ ∃ o, K.lookup p = some o ∧ o.cls = .type "tuple" ∧ o.dict = none) ∨
   (T = "dict" ∧ ((∃ kvs, H p = some (.dK kvs)) ∨ ∃ kvs, H p = some (.dT kvs))) ∨ (T = "set" ∧ ∃ S n, H p = some (.set S n))
 | _ => False
theorem tyV_is {pins : List (Addr × Obj)} {σ : St} {H : Hp} {s : Shared} {T : String} {x : V} {v : Value} (I : Inv X pins σ H s) (r : RelV x v) (ty : tyV X.K T x H) :
  s.TypeIs v T ∧ ∀ a, v = .ref a → ∃ ob, s.heap.get? a = some ob ∧ ob.dict = none := by
 cases x with
 | str z =>
  obtain ⟨t, rfl⟩ := r
  cases (show T = "str" from ty)
  exact ⟨typeIs_str s z t, fun _ e => nomatch e⟩
 | int i =>
  obtain ⟨t, rfl⟩ := r
  cases (show T = "int" from ty)
  exact ⟨typeIs_int s i t, fun _ e => nomatch e⟩
 | ref p =>
  cases r
  rcases ty with ⟨rfl, xs, hq⟩ | ⟨rfl, o, hk, hc, hd⟩ | ⟨rfl, hk⟩ | ⟨rfl, S, n, hk⟩
  ·obtain ⟨its, _, pl, _⟩ := I.list hq
   refine ⟨pl.isList.typeIs, fun a e => ?_⟩
   cases e
   obtain ⟨o, n, e, c, hd, _⟩ := pl
   exact ⟨o, e, hd⟩
  ·refine ⟨⟨o, I.kIn p o hk, hc⟩, fun a e => ?_⟩
   cases e
   exact ⟨o, I.kIn _ o hk, hd⟩
  ·have z : ∃ o, s.heap.get? p = some o ∧ o.ExactDict := by
    rcases hk with ⟨kvs, hk⟩ | ⟨kvs, hk⟩
    ·obtain ⟨_, _, _, _, o, _, _, e, ex, _⟩ := I.hok p _ hk
     exact ⟨o, e, ex⟩
    ·obtain ⟨_, _, _, _, o, _, _, e, ex, _⟩ := I.hok p _ hk
     exact ⟨o, e, ex⟩
   obtain ⟨o, e, ex⟩ := z
   refine ⟨⟨o, e, ex.1⟩, fun a e2 => ?_⟩
   cases e2
   exact ⟨o, e, ex.2.1⟩
  ·obtain ⟨o, _, _, _, e, ex, _⟩ := I.hok p _ hk
   refine ⟨⟨o, e, ex.1⟩, fun a e2 => ?_⟩
   cases e2
   exact ⟨o, e, ex.2.1⟩
 | _ => exact False.elim ty
def tBM (K : Fg) (T : String) (r : V → List V → Hp → VK → Prop) (to : TE) (t : TA) : TE := fun σ H Q => to σ H fun x H1 => tyV K T x H1 ∧ t σ H1 fun xs H2 => r x xs H2 Q
variable {o e : Expr} {es : List Expr} {to : TE} {t : TA} {name : Str} {apos cpos : Pos} {T id : String} {r : V → List V → Hp → VK → Prop}
theorem pe_bm (pa : PlainAttrs T) (slot : Slot T name id) (hty : typeOf (.builtin id) = pure (.type "method_descriptor")) (hm : MtR X id r) (ho : PE X o to) (ha : PA X (e :: es) t)
  (hbase : autoParam (attributeBase o name X.env (eval o X.env) = eval o X.env) L2.aRfl._auto_1)
  (hfew : ((backTo cpos (starEach (e :: es) X.env)).all (fun x => !x.1) && (backToKw cpos (keywordEach [] X.env)).all (fun x => x.1.isSome)
   && decide ((e :: es).length + ([] : List Keyword).length + (if ([] : List Keyword).isEmpty then 0 else 1) < 30)) = true := by rfl)
  (hline : autoParam ((apos.endLine == cpos.line) = true) L2.aRfl._auto_1) (hs : autoParam (starEach (e :: es) X.env = (false, eval e X.env) :: starEach es X.env) L2.aRfl._auto_1) (hplain : autoParam ((backTo cpos (starEach es X.env)).any (·.1) = false) L2.aRfl._auto_1) :
  PE X (.Call (.Attribute o name apos) (e :: es) [] cpos) (tBM X.K T r to t) := by
 intro pins s σ H Q I h
 refine wpAny_Call_method_late hbase hfew hline rfl (thn (ho pins s σ H _ I h) fun v s1 hqP => ?_)
 obtain ⟨x, H1, I1, r1, ty, q1⟩ := hqP
 obtain ⟨h1, h2⟩ := tyV_is I1 r1 ty
 refine ⟨T, id, pa, slot, hty, h1, h2, ?_⟩
 have hA := ha cpos pins s1 σ H1 _ I1 q1
 rw [hs] at hA ⊢
 refine Calls.callWith_builtin (by show (false || (backTo cpos (starEach es X.env)).any (·.1)) = false; rw [hplain] <;> rfl) (Calls.evalArgs_plain ?_)
 exact thn hA fun us s2 ⟨vs, H2, I2, r2, q2⟩ => hm pins s2 σ H2 x vs v us Q I2 r1 r2 q2
/- xs.append(e), list.index on a module's tuple .. are MtR facts of 06m -/
end
def MtM (X : Cx) (id : String) (r : V → List V → Hp → VK → Prop) : Prop :=
 ∀ (pins : List (Addr × Obj)) (s : Shared) (σ : St) (H : Hp) (x : V) (xs : List V) (v : Value) (us : List Value) (Q : VK), Inv X pins σ H s → RelV x v → Vals xs us → r x xs H Q →
  wpAny (model X.prog X.w) X.A (call (.builtin id) (v :: us)) (EP X pins σ Q) X.xe s
theorem Vals.one {x : V} {us : List Value} (h : Vals [x] us) : ∃ u, us = [u] ∧ RelV x u := by
 cases h with
 | cons r t => cases t; exact ⟨_, rfl, r⟩
theorem Vals.two {x y : V} {us : List Value} (h : Vals [x, y] us) : ∃ u v, us = [u, v] ∧ RelV x u ∧ RelV y v := by
 cases h with
 | cons r t =>
  cases t with
  | cons q t => cases t; exact ⟨_, _, rfl, r, q⟩
theorem Vals.rep {xs : List V} {us : List Value} (h : Vals xs us) : ∀ k : Nat, Vals (List.replicate k xs).flatten (List.replicate k us).flatten
 | 0 => .nil
 | k + 1 => by
  rw [wJ, wJ, jZd, jZd]
  exact Vals.append h (Vals.rep h k)
theorem foldl_rep (its : List Value) : ∀ (k : Nat) (acc : List Value),
  List.foldl (fun x1 x2 => x1 ++ x2) acc.toArray (List.replicate k its.toArray) = (acc ++ (List.replicate k its).flatten).toArray
 | 0, acc => by simp
 | k + 1, acc => by
  have e : acc.toArray ++ its.toArray = (acc ++ its).toArray := by simp
  have e2 : (acc ++ its) ++ (List.replicate k its).flatten = acc ++ (List.replicate (k + 1) its).flatten := by
   rw [wJ, jZd, List.append_assoc]
  rw [← e2, ← foldl_rep its k (acc ++ its), ← e, wJ, jXf]
section
variable {X : Cx} {pins : List (Addr × Obj)} {σ : St} {H : Hp} {s : Shared} {l b : Addr} {xs ys zs : List V}
theorem Inv.lset {its its' : List Value} {n : Nat} {f : Array Value → Array Value} {t' : Nat} (I : Inv X pins σ H s) (hH : H l = some (.lst xs))
  (e : s.heap.get? l = some { cls := .type "list", data := .seq its.toArray n }) (hf : f its.toArray = its'.toArray) (hv : Vals ys its') (hz : ys.length ≤ sizeLine) :
  Inv X pins σ (upd H l (.lst ys)) { s with heap := s.heap.update l (Obj.mapSeq f), toks := t' } := by
 have q := PySem.IsL.update e f
 rw [hf] at q
 refine I.write (x := l) (e := l) (by rw [hH]; exact trivial) (.inl rfl) (fun b' u hb hu => (jQa s.heap (Obj.mapSeq f) (Ne.symm hb)).trans hu) ⟨_, q⟩ ?_
 exact ⟨hz, its', _, hv, q⟩
theorem Inv.lnew {its : List Value} {t' : Nat} (I : Inv X pins σ H s) (hv : Vals ys its) (hz : ys.length ≤ sizeLine) :
  Inv X pins σ (upd H s.heap.objs.size (.lst ys)) { s with heap := s.heap.push { cls := .type "list", data := .seq its.toArray }, toks := t' } :=
 I.laid (fun _ _ q => jZ _ q) (jJ _) ⟨hz, its, 0, hv, yZ _ rfl⟩
theorem Inv.fresh (I : Inv X pins σ H s) : H s.heap.objs.size = none := I.hok.fresh (jJ _)
theorem Inv.lstM (I : Inv X pins σ H s) (hH : H l = some (.lst xs)) : xs.length ≤ sizeLine ∧ ∃ (its : List Value) (n : Nat), Vals xs its ∧ xs.length = its.length ∧ s.heap.get? l = some { cls := .type "list", data := .seq its.toArray n } := by
 obtain ⟨z, its, n, r, e⟩ := I.hok l _ hH
 exact ⟨z, its, n, r, r.length, e⟩
theorem notLongL {n : Nat} (h : n ≤ sizeLine) : Builtin.List.listTooLong n = false := by
 unfold Builtin.List.listTooLong
 exact yY (by lia)
end
section
variable {X : Cx}
inductive IrAppend (x : V) (vs : List V) (H : Hp) (Q : VK) : Prop
 | mk (l : _) (xs : _) (y : _) (h1 : x = .ref l) (h2 : vs = [y]) (h3 : H l = some (.lst xs)) (h4 : xs.length < sizeLine) (h5 : Q .non (upd H l (.lst (xs ++ [y]))))
def rAppend  : V → List V → Hp → VK → Prop := fun x vs H Q => IrAppend x vs H Q
theorem mt_append : MtM X "list.append" rAppend := by
 intro pins s σ H x vs v us Q I rx rv h
 obtain ⟨l, xs, y, rfl, rfl, hH, hz, q⟩ := h
 cases rx
 obtain ⟨u, rfl, ru⟩ := rv.one
 obtain ⟨z, its, n, r, hl, e⟩ := I.lstM hH
 refine call_meets F.slot_list_append ⟨_, e, rfl⟩ F.entry_list_append (F.args_list_append_2 _ _) (PySem.list_append l its.toArray n u (by rw [jV]; lia)) ⟨e, ?_⟩
 refine ⟨.non, _, I.lset (its' := its ++ [u]) hH e (by simp) (r.append (.cons ru .nil)) ?_, rfl, q⟩
 rw [kQ, kQf]
 lia
inductive IrCat (x : V) (y : V) (H : Hp) (Q : VK) : Prop
 | mk (l : _) (b : _) (xs : _) (zs : _) (h1 : x = .ref l) (h2 : y = .ref b) (h3 : H l = some (.lst xs)) (h4 : H b = some (.lst zs)) (h5 : xs.length + zs.length ≤ sizeLine) (h6 : ∀ p, H p = none → Q (.ref p) (upd H p (.lst (xs ++ zs))))
def rCat  : R2 := fun x y H Q => IrCat x y H Q
theorem op_cat : OpR X (binaryOp .Add) rCat := by
 intro pins s σ H x y v u Q I rx ry h
 obtain ⟨l, b, xs, zs, rfl, rfl, hH, hB, hz, q⟩ := h
 cases rx
 cases ry
 obtain ⟨z, its, n, r, hl, e⟩ := I.lstM hH
 obtain ⟨z2, its2, n2, r2, hl2, e2⟩ := I.lstM hB
 refine PySem.P.add_list e e2 ?_ (by rw [jV, jV]; lia)
 have ea : its.toArray ++ its2.toArray = (its ++ its2).toArray := by simp
 rw [ea]
 exact ⟨.ref _, _, I.lnew (t' := s.toks) (r.append r2) (by rw [kQ]; lia), rfl, q _ I.fresh⟩
inductive IrRep (x : V) (y : V) (H : Hp) (Q : VK) : Prop
 | mk (l : _) (k : _) (xs : _) (h1 : x = .ref l) (h2 : y = .int k) (h3 : H l = some (.lst xs)) (h4 : -(2 ^ 63) ≤ k) (h5 : k < 2 ^ 63) (h6 : xs.length * k.toNat ≤ sizeLine) (h7 : ∀ p, H p = none → Q (.ref p) (upd H p (.lst (List.replicate k.toNat xs).flatten)))
def rRep  : R2 := fun x y H Q => IrRep x y H Q
theorem len_rep {α : Type} (xs : List α) (k : Nat) : (List.replicate k xs).flatten.length = k * xs.length := by
 induction k with
 | zero => simp
 | succ k ih => rw [wJ, jZd, kQ, ih, Nat.succ_mul, Nat.add_comm]
theorem op_rep : OpR X (binaryOp .Mult) rRep := by
 intro pins s σ H x y v u Q I rx ry h
 obtain ⟨l, k, xs, rfl, rfl, hH, h1, h2, hz, q⟩ := h
 cases rx
 obtain ⟨t, rfl⟩ := ry
 obtain ⟨z, its, n, r, hl, e⟩ := I.lstM hH
 have hlen : its.toArray.size * k.toNat ≤ sizeLine := by rw [jV, ← hl]; exact hz
 have hcap : ¬ its.toArray.size * k.toNat > (2 ^ 63 - 1) / 8 := by
  have : (sizeLine : Nat) ≤ (2 ^ 63 - 1) / 8 := by decide
  lia
 have hfit : ¬ (!Builtin.List.listFitsIndex k) = true := by
  rw [fitsIndex_both h1 h2]
  exact kZ
 have hlong : ¬ Builtin.List.listTooLong (its.toArray.size * k.toNat) = true := by
  rw [notLongL hlen]
  exact kZ
 have hnew : List.foldl (fun x1 x2 => x1 ++ x2) #[] (List.replicate (if its.toArray.isEmpty = true then 0 else k.toNat) its.toArray) = (List.replicate k.toNat its).flatten.toArray := by
  have f0 : ∀ m : Nat, List.foldl (fun x1 x2 => x1 ++ x2) #[] (List.replicate m its.toArray) = (List.replicate m its).flatten.toArray := fun m => by
   have := foldl_rep its m []
   rw [List.nil_append] at this
   exact this
  rw [f0]
  cases its with
  | nil => simp
  | cons a r' => rw [if_neg (by simp)]
 refine wpAny_binaryOp_repeat_ref (T := "list") (U := "int") (by decide) ⟨_, e, rfl⟩ (fun s' => typeIs_int s' k t) noFill_list_mul F.fills_int_mul F.slot_int_rmul repeat_list F.slot_int_index.lookup
  (call_meets F.slot_int_rmul (typeIs_int s k t) F.entry_int_rmul (F.args_int_rmul_2 _ _) (int___rmul___int_list k t l its.toArray n)
   ⟨e, rfl, ⟨_, e, rfl⟩, call_meets F.slot_list_mul ⟨_, e, rfl⟩ F.entry_list_mul (F.args_list_mul_2 _ _) (AutoListH.list___mul___list_int_3 l its.toArray n k t hfit hcap hlong) ⟨e, ?_⟩⟩)
 rw [hnew]
 exact ⟨.ref _, _, I.lnew (t' := s.toks) (r.rep k.toNat) (by rw [len_rep, Nat.mul_comm]; exact hz), rfl, q _ I.fresh⟩
end
section
variable {prog : Program} {w : World} {A : Around} {E : Value → Shared → Prop} {s : Shared}
end
section
variable {X : Cx}
end
end L2
namespace Att
open PySem PySem.W PySem.Calls PyProof.Rows
theorem ints_of_wellAll {P : Params} {h : Heap} : ∀ (ns : List Int) (vs : List Value), WellAll P h vs (ns.map WData.int) → IntsAre vs ns := by
 intro ns
 induction ns with
 | nil =>
  intro vs w
  rw [jKc] at w
  cases w
  exact .nil
 | cons n ns ih =>
  intro vs w
  rw [zZ] at w
  cases w with
  | cons a b =>
   cases a
   exact .cons _ _ (ih _ b)
theorem script_of {l : OpenLaw} {n : Nat} (hn : l.most = some n) {P : Params} {h : Heap} {args : List WData} {vals : List Value}
  (hpre : l.row.toRowW.claim.pre args = true) (hwl : WellAll P h vals args) :
  ∃ a vs ns, vals = [Value.ref a] ∧ args = [WData.list (ns.map WData.int)] ∧ h.get? a = some { cls := .type "list", data := .seq vs.toArray } ∧ IntsAre vs ns ∧ ns.length ≤ n := by
 have hsh : WShape.hasAll [] args [.list .int] = true := (pre_splitW hpre).1
 have hc : l.pre.holds [] { args := args } = true := (pre_splitW hpre).2
 obtain ⟨d, r, rfl, h1, h2⟩ := hasAllW_cons hsh
 obtain rfl := hasAllW_nil h2
 obtain ⟨xs, rfl, h3⟩ := hasW_list h1
 obtain ⟨ns, rfl⟩ := items_int h3
 have hlen : ns.length ≤ n := by
  unfold OpenLaw.pre at hc
  have h4 : (WTm.not (.lt (.lit (.int (n : Int))) (.len (.arg 0)))).holds [] { args := [.list (ns.map .int)] } = true := by
   have h4 := (holds_andW hc).1
   rw [hn] at h4
   exact h4
  have h5 := condW_of h4 (w_not (w_lt w_lit (w_len_list (w_arg rfl))))
  rw [jQ] at h5
  refine Nat.le_of_not_lt fun q => ?_
  have q' : (n : Int) < ((ns.length : Nat) : Int) := by lia
  first
   | (rw [kY q'] at h5; exact absurd h5 (by decide))
   | (simp at h5; lia)
 cases hwl with
 | cons w1 w2 =>
  cases w2
  cases w1 with
  | list ho hall => exact ⟨_, _, ns, rfl, rfl, ho, ints_of_wellAll ns _ hall, hlen⟩
theorem post_true (l : OpenLaw) (args : List WData) : l.row.toRowW.claim.post args (.bool true) args = true :=
 postW_of (r := l.row.toRowW) (X := (true == true))
  (show WShape.has [] (.bool true) .bool = true by first | rfl | decide | simp [WShape.has, WShape.arms, WShape.armsAll])
  (show (WTm.eq .res (.lit (.bool true))).value [] { args := args, res := some (.bool true), after := args } = some (.bool (true == true)) from w_eq_bool (w_res rfl) w_lit) rfl
theorem attach_call {l : OpenLaw} {n : Nat} {q : Program} {loose : List Str} {XP : (Str → Option Value) → Heap → Prop} {YP : World → Heap → Prop} {d : DefRec}
  (hn : l.most = some n) (hdf : d.params.defaults = [])
  (call : ∀ (w : World) (s₀ s₁ : Shared) (mg mb : Str → Option Value) (fa : Addr) (o : Obj) (pm cd doc : Value) (a : Addr) (vs : List Value) (ns : List Int),
   Ground q loose [] XP w s₀ mg mb s₁.heap → YP w s₁.heap →
   s₁.heap.get? fa = some o → o.data = .func (docDef d.name d.params d.body d.scope pm cd doc) → s₁.heap.CodeRec cd d.name → mg d.name = some (.ref fa) →
   s₁.heap.get? a = some { cls := .type "list", data := .seq vs.toArray } → IntsAre vs ns → ns.length ≤ n → s₁.gens = #[] →
   codeAny (model l.prog w) callerA (.call (.ref fa) ⟨[.ref a], []⟩) (fun r s' => r = .ok (.ret (.bool true)) ∧ OldK s₁.heap s'.heap ∧ s'.os = s₁.os ∧ AllBare s'.gens) s₁) :
  WalkO q loose XP YP l.row.toRowW d [] (fun f vs => PySem.call f vs) := by
 intro w s₀ s₁ mg mb G Y fa o pm cd doc dV kV ho hd hcd hD hmg hg args vals as hpre hlay hrd hwl hlo
 obtain rfl : dV = .none := Dflts.none hD hdf
 obtain rfl : kV = .none := Dflts.noKw hD
 obtain ⟨a, vs, ns, rfl, rfl, hobj, hints, hlen⟩ := script_of hn hpre hwl
 refine enter_call (codeAny_mono (call w s₀ s₁ mg mb fa o pm cd doc a vs ns G Y ho (fd_plain hd) hcd hmg hobj hints hlen hg) fun r s' hq => ?_)
 obtain ⟨rfl, h2, h3, h4⟩ := hq
 exact ⟨.inl ⟨.bool true, .bool true, [], rfl, fun _ => rfl, .bool true, post_true l _, fun _ => ⟨List.Pairwise.nil, fun _ hm => (nomatch hm)⟩⟩, h2, h3, h4⟩
section
variable {prog : Program} {w : World} {A : Around} {E : Value → Shared → Prop} {s : Shared} {K : Frag}
end
end Att
namespace L2
open PySem PySem.Spec PyProof.Rows
theorem vals_ints : ∀ {vs : List Value} {ns : List Int}, IntsAre vs ns → Vals (ns.map V.int) vs
 | _, _, .nil => .nil
 | _, _, .cons n t h => .cons ⟨t, rfl⟩ (vals_ints h)
def Only (H : Hp) : Prop := ∀ b, H b = none ∨ ∃ o xs, H b = some (.frz o (.lst xs))
theorem law_call {P : Program} {w : World} {K : Fg} {mg mb : Str → Option Value} {CX : CXT} {k : Nat} {fa a : Addr} {fd : FuncData} {x : Str} {sp : Sp} {s₁ : Shared} {vs : List Value} {ns : List Int}
  (KX : K.In s₁.heap) (hns : s₁.heap.Ns mainGlobals mg) (hb : s₁.heap.Ns builtinsNs mb) (hbb : ∀ x : Str, x ≠ "__name__" → mb x = bootBuiltins x) (hlim : s₁.heap.NoLimit) (hg : s₁.gens = #[])
  (ha : s₁.heap.get? a = some { cls := .type "list", data := .seq vs.toArray }) (hi : IntsAre vs ns) (hl : ns.length ≤ sizeLine) (hr : Room k callerA)
  (F : ∀ base : Heap, K.In base → base.Ns mainGlobals mg → FnOk P w K mg base CX k fa fd [x] sp) (hbind : ∀ (s : Shared) (u : Value), BindsTo s fd ⟨[u], []⟩ [(x, u)])
  (hsp : ∀ H : Hp, Only H → SqL K H a (ns.map V.int) → sp [.ref a] H (fun v _ => v = .bl true) fun _ _ _ => False)
  (hCX : ∀ H e s', CX [] H s₁ (fun _ _ _ => False) e s' → False) :
  codeAny (model P w) callerA (.call (.ref fa) ⟨[.ref a], []⟩) (fun r s' => r = .ok (.ret (.bool true)) ∧ OldK s₁.heap s'.heap ∧ s'.os = s₁.os ∧ AllBare s'.gens) s₁ := by
 have rv := vals_ints hi
 have lenV := hi.length
 -- from an abstract heap in which nothing but the script may be tracked
 have core : ∀ H : Hp, Only H → SqL K H a (ns.map V.int) → HOk P w H s₁.heap → (∀ b, H b ≠ none → b = a) → (H a ≠ none → K.lookup a = none) →
   codeAny (model P w) callerA (.call (.ref fa) ⟨[.ref a], []⟩) (fun r s' => r = .ok (.ret (.bool true)) ∧ OldK s₁.heap s'.heap ∧ s'.os = s₁.os ∧ AllBare s'.gens) s₁ := by
  intro H hO hS hok hA hK
  have base_of : ∀ {b : Addr} {o : Obj}, s₁.heap.get? b = some o → H b = none → (hidT s₁.heap H).get? b = some o := fun e n => hidT_get e n
  have noA : ∀ {b : Addr} {o : Obj} {es : Array DictEntry} {ep : Nat}, s₁.heap.get? b = some o → o.data = .dict es ep → H b = none := fun {b o es ep} e d => by
   cases q : H b with
   | none => rfl
   | some u =>
    have e' : b = a := hA b (by rw [q]; simp)
    subst e'
    rw [ha] at e; cases e
    have d' : Data.seq vs.toArray _ = Data.dict es ep := d
    cases d'
  have nsK : ∀ {b : Addr} {m : Str → Option Value}, s₁.heap.Ns b m → (hidT s₁.heap H).Ns b m := fun {b m} ⟨o, es, ep, e, d, r⟩ => ⟨o, es, ep, base_of e (noA e d), d, r⟩
  have hKb : K.In (hidT s₁.heap H) := fun b o e => base_of (KX b o e) (by
   cases q : H b with
   | none => rfl
   | some u =>
    have e' : b = a := hA b (by rw [q]; simp)
    subst e'
    rw [hK (by rw [q]; simp)] at e; cases e)
  have hM : Mod K mg (hidT s₁.heap H) := ⟨hKb, nsK hns, ⟨mb, nsK hb, hbb⟩, let ⟨mc, h1, h2⟩ := hlim; ⟨mc, nsK h1, h2⟩⟩
  have e0 : Env0 P w K mg (hidT s₁.heap H) callerA [] s₁ H := ⟨rfl, hM, fun b o e => of_hidT e, Nat.le_of_eq (hidT_size _ _), trivial, fun b hb => absurd (show b ∈ ([] : List Addr) from hb) (by simp), hok, .of_eq hg⟩
  refine codeAny_mono ((F _ hKb (nsK hns)).run callerA [] s₁ H ⟨[.ref a], []⟩ [.ref a] [.ref a] _ _ hr e0 (hbind s₁ (.ref a)) (.cons rfl .nil) (hsp H hO hS)) fun r s' h => ?_
  cases r with
  | error e => exact (hCX H e s' h).elim
  | ok fl =>
   cases fl with
   | next => exact False.elim h
   | brk => exact False.elim h
   | cont => exact False.elim h
   | ret u =>
    obtain ⟨v, H', os, bare, un, hok', r', q⟩ := h
    have q' : v = .bl true := q
    subst q'
    obtain rfl : u = Value.bool true := r'
    refine ⟨rfl, OldK.of_keep fun b o e => ?_, os, bare⟩
    cases q : H b with
    | none => exact un.keep b o e q (by intro z; exact absurd (show b ∈ ([] : List Addr) from z) (by simp)) (by simp)
    | some u =>
     rcases hO b with z | ⟨ob, xs, z⟩
     ·rw [q] at z; cases z
     ·have z2 := un.frzs b ob _ z
      obtain ⟨e1, _⟩ := hok b _ z
      obtain ⟨e2, _⟩ := hok' b _ z2
      rw [e] at e1; cases e1
      exact e2
 cases hk : K.lookup a with
 | some o =>
  -- the script is one of the module's own objects
  have e := KX a o hk
  rw [ha] at e
  cases e
  refine core (fun _ => none) (fun _ => .inl rfl) (.inr ⟨_, vs.toArray, _, hk, rfl, rfl, rfl, by rw [jV, lenV]; exact hl, by simpa using rv⟩) (fun b u z => by have z' : (none : Option HO) = some u := z; cases z') (fun b z => absurd rfl z) fun z => absurd rfl z
 | none =>
  refine core (fun b => if b = a then some (.frz { cls := .type "list", data := .seq vs.toArray } (.lst (ns.map V.int))) else none) (fun b => ?_) (.inl (.inr ⟨{ cls := .type "list", data := .seq vs.toArray }, if_pos rfl⟩)) (fun b u z => ?_) (fun b z => ?_) fun _ => hk
  ·by_cases hb : b = a
   ·exact .inr ⟨_, _, if_pos hb⟩
   ·exact .inl (if_neg hb)
  ·by_cases hb : b = a
   ·have z' := (if_pos hb).symm.trans z
    cases z'
    subst hb
    exact ⟨ha, by rw [jQ]; exact hl, vs, _, rv, ha⟩
   ·have z' := (if_neg hb).symm.trans z
    cases z'
  ·by_cases hb : b = a
   ·exact hb
   ·exact absurd (if_neg hb) z
abbrev KOf {K : Fg} {h : Heap} (_ : K.In h) : Fg := K
theorem walk_of {l : PySem.W.OpenLaw} {n k : Nat} {q : Program} {loose : List Str} {XP : (Str → Option Value) → Heap → Prop} {YP : World → Heap → Prop} {d : DefRec} {K : Params → Fg} {CX : World → CXT} {sp : World → Sp} {x : Str}
  (hn : l.most = some n) (hn2 : n ≤ sizeLine) (hdf : d.params.defaults = []) (hr : Room k callerA)
  (hY : ∀ (w : World) (h : Heap), YP w h → (K w.params).In h)
  (F : ∀ (w : World) (mg : Str → Option Value) (fa : Addr) (h : Heap), (K w.params).In h → h.Ns mainGlobals mg → mg d.name = some (.ref fa) →
   ∃ fd : FuncData, (∀ (s : Shared) (u : Value), BindsTo s fd ⟨[u], []⟩ [(x, u)]) ∧
    ∀ base : Heap, (K w.params).In base → base.Ns mainGlobals mg → FnOk l.prog w (K w.params) mg base (CX w) k fa fd [x] (sp w))
  (hsp : ∀ (w : World) (H : Hp) (a : Addr) (ns : List Int), ns.length ≤ n → Only H → SqL (K w.params) H a (ns.map V.int) → sp w [.ref a] H (fun v _ => v = .bl true) fun _ _ _ => False)
  (hCX : ∀ (w : World) (H : Hp) (s : Shared) (e : Value) (s' : Shared), CX w [] H s (fun _ _ _ => False) e s' → False) :
  PySem.W.WalkO q loose XP YP l.row.toRowW d [] (fun f vs => PySem.call f vs) := by
 refine Att.attach_call hn hdf fun w s₀ s₁ mg mb fa o pm cd doc a vs ns G Y ho hd hcd hmg hobj hints hlen hg => ?_
 have KX := hY w _ Y
 obtain ⟨fd, hb, hF⟩ := F w mg fa _ KX G.T.g hmg
 exact law_call KX G.T.g G.T.b G.T.builtins G.T.nolimit hg hobj hints (wW hlen hn2) hr hF hb (fun H hO hS => hsp w H a ns hlen hO hS) fun H e s' => hCX w H s₁ e s'
end L2
/- THE LAST THEOREM (shape; LID, My.* are yours):
   My.Adr: a structure of the addresses that your layer names (classes, functions); My.Txt K t: a structure (Prop) of the equations over K;
   My.txt_mk : {K} {implicit addresses ..} (e1 : nsIn K mainGlobals "law" = some (some (.ref f))) (e2 : K.lookup f = some ⟨oc, od, .func (fnOf "law" "law" params body scope dV kV doc pm an cdv ct), sl⟩) (e3 : codeIn K cdv "law" = true) .. : ∃ t, My.Txt K t
set_option maxRecDepth 100000 in
set_option maxHeartbeats 0 in
theorem PySem.Challenge.cw_LID_holds : PySem.Challenge.rw_LID.Holds := by
 w_on; o_law; k_head; (case hw => w_witness2)
 k_fill
 refine L2.walk_of (l := PySem.Challenge.rw_LID) (n := 63) (k := 40) (x := "script") (CX := fun w => ..) (sp := fun _ => My.sp_law) rfl (by decide) rfl ⟨rfl, by decide, by decide⟩ (fun w h Y => PySem.W.kIn_of Y) ?F ?S ?C
 case F =>
  intro w mg fa h KX G hmg
  have T : ∃ t, My.Txt (L2.KOf KX) t := by
   dsimp only [L2.KOf]                          -- K must stand as «<heap const> w.params» for k_is
   refine' My.txt_mk ?e1 ?e2 ?e3 ..
   (case e1 => PySem.W.k_is)                    -- in the order: a name -> its address -> its object -> its parts
   (case e2 => PySem.W.k_is)
   ..
  obtain ⟨t, T⟩ := T
  have e0 := hmg.symm.trans (PySem.W.mg_of KX G T.law)
  cases e0                                       -- fa is the law's own address
  exact ⟨_, fun s u => .of_eq rfl, fun base kb nb => My.law_fn T kb nb⟩     -- if «.of_eq rfl» comes too early: refine' ⟨_, ?b, fun base kb nb => My.law_fn T kb nb⟩; exact fun s u => .of_eq rfl
 case S => exact fun w H a ns hl hO hS => ..
 case C => exact ..
(the tactic k_is has no namespace: write k_is) -/
namespace L2
open PySem PySem.Spec PyProof.Rows
def defArgs (s : Stmt) : Arguments := match s with
 | .FunctionDef _ a _ _ _ _ _ _ _ _ => a
 | _ => { posonlyargs := [], args := [], vararg := none, kwonlyargs := [], kw_defaults := [], kwarg := none, defaults := [] }
def defBody (s : Stmt) : List Stmt := match s with
 | .FunctionDef _ _ b _ _ _ _ _ _ _ => b
 | _ => []
def defScope (s : Stmt) : Scope := match s with
 | .FunctionDef _ _ _ _ _ _ sc _ _ _ => sc
 | _ => { kind := .function, names := [], isGenerator := false, isCoroutine := false }
abbrev CX0 : CXT := fun _ _ _ _ _ _ => False
abbrev E0 : XK := fun _ _ _ => False
theorem pass0 {X : Cx} : Passes CX0 X E0 := fun _ _ _ _ _ _ _ h => h.elim
structure Fun (K : Fg) (x qual : Str) (st : Stmt) (f : Addr) (fd : FuncData) : Prop where
 ex : ∃ (oc : Value) (od : Option Addr) (kV doc pm : Value) (an : Option Addr) (cdv ct : Value) (osl : Array (Option Value)),
  fd = PySem.W.fnOf x qual (defArgs st) (defBody st) (defScope st) .none kV doc pm an cdv ct ∧ K.lookup f = some ⟨oc, od, .func fd, osl⟩ ∧ PySem.W.codeIn K cdv qual = true
 kp : PySem.W.keepIn K (.ref f) = true
section
variable {P : Program} {w : World} {K : Fg} {mg : Str → Option Value} {base : Heap}
theorem Fun.ok {x qual : Str} {st : Stmt} {f : Addr} {fd : FuncData} {N ps : List Str} {k : Nat} {sp : Sp} (F : Fun K x qual st f fd) (S : FnScope N ps (defScope st)) (len : ∀ vs H Q E, sp vs H Q E → vs.length = ps.length)
  (hbody : ∀ (cdv : Value) (A : Around) (outer : List Env) (s : Shared) (H : Hp) (vs : List V) (Q : VK) (E : XK), Room k (A.deeper (envOfC qual (defScope st) s.heap.objs.size f cdv)) → sp vs H Q E →
   ∃ t, PSs (cxOf CX0 P w K mg base N qual (defScope st) f cdv A outer s H E).nox (defBody st) t ∧ t { nx := fun _ H' => Q .non H', rt := Q } (start N vs) H) : FnOk P w K mg base CX0 (k + 1) f fd ps sp := by
 obtain ⟨oc, od, kV, doc, pm, an, cdv, ct, osl, rfl, lk, hcd⟩ := F.ex
 refine fn_of lk hcd S len fun A outer s H vs Q E hr hsp => ?_
 obtain ⟨t, h, q⟩ := hbody cdv A outer s H vs Q E hr hsp
 exact ⟨t, h.nox, q⟩
theorem Fun.binds {x qual : Str} {st : Stmt} {f : Addr} {fd : FuncData} {ps : List Str} (F : Fun K x qual st f fd)
  (h : ∀ (kV doc pm : Value) (an : Option Addr) (cdv ct : Value) (us : List Value), us.length = ps.length → bindArgs (PySem.W.fnOf x qual (defArgs st) (defBody st) (defScope st) .none kV doc pm an cdv ct) ⟨us, []⟩ = pure (ps.zip us)) : Binds K fd ps [] := by
 obtain ⟨oc, od, kV, doc, pm, an, cdv, ct, osl, rfl, lk, hcd⟩ := F.ex
 exact .all (h kV doc pm an cdv ct)
theorem fun_mk {x qual : Str} {st : Stmt} {f : Addr} {oc : Value} {od an : Option Addr} {osl : Array (Option Value)} {kV doc pm cdv ct : Value} (l : K.lookup f = some ⟨oc, od, .func (PySem.W.fnOf x qual (defArgs st) (defBody st) (defScope st) .none kV doc pm an cdv ct), osl⟩)
  (c : PySem.W.codeIn K cdv qual = true) (k : PySem.W.keepIn K (.ref f) = true) : Fun K x qual st f (PySem.W.fnOf x qual (defArgs st) (defBody st) (defScope st) .none kV doc pm an cdv ct) := ⟨⟨oc, od, kV, doc, pm, an, cdv, ct, osl, rfl, l, c⟩, k⟩
end
section
variable {X : Cx}
theorem pv (i : Nat) {x : Str} {pos : Pos} (hN : autoParam (X.N[i]? = some x) L2.aRfl._auto_1) (hv : Vis X.env.scope x := by first | exact Or.inl rfl | exact Or.inr (Or.inl rfl) | exact Or.inr (Or.inr rfl)) (hd : autoParam ((x == ("__debug__" : Str)) = false) L2.aDec._auto_1)
  (hcd : autoParam ((x == ("__classdict__" : Str)) = false) L2.aDec._auto_1) : PE X (.Name x pos) (tVar i) := pe_var hN hv hd hcd
end
theorem iteF {A B : Prop} (h : B) : if false = true then A else B := by
 rw [if_neg kZ]
 exact h
theorem iteT {A B : Prop} (h : A) : if true = true then A else B := by
 rw [if_pos rfl]
 exact h
theorem ite2 {c A B : Prop} [Decidable c] (h1 : c → A) (h2 : ¬ c → B) : if c then A else B := by
 by_cases h : c
 ·rw [if_pos h]
  exact h1 h
 ·rw [if_neg h]
  exact h2 h
def Same (H H' : Hp) : Prop := ∀ b o, H b = some o → H' b = some o
theorem Same.refl (H : Hp) : Same H H := fun _ _ h => h
theorem Same.trans {H H1 H2 : Hp} (a : Same H H1) (b : Same H1 H2) : Same H H2 := fun c o h => b c o (a c o h)
theorem Same.seq {K : Fg} {H H' : Hp} {a : Addr} {xs : List V} (e : Same H H') (h : SqL K H a xs) : SqL K H' a xs := by
 rcases h with (h | ⟨o, h⟩) | h
 ·exact .inl (.inl (e _ _ h))
 ·exact .inl (.inr ⟨o, e _ _ h⟩)
 ·exact .inr h
theorem compLoop_any {prog : Program} {w : World} {A : Around} {R : Result → Shared → Prop} {s : Shared} {elt target iter : Expr} {ifs : List Expr} {scope : Scope} {pos : Pos} {it acc : Value} {env : Env} (I : Nat → Shared → Prop)
  (turn : ∀ n s, I n s → wpAny (model prog w) A (pyNext it) (fun r s1 => match r with
   | none => R (.ok .next) s1
   | some v => wpAny (model prog w) A (letOwnedTupleGo target it v) (fun _ s1' => wpAny (model prog w) A (assign target env v) (fun _ s2 =>
     wpAny (model prog w) A (forIn ifs true fun c r => if r = true then do let ok ← isTrue c env (eval c env); pure (ForInStep.yield ok) else pure (ForInStep.yield r)) (fun ok s3 =>
      if ok = true then wpAny (model prog w) A (eval elt env) (fun x s4 =>
       wpAny (model prog w) A (call (.builtin "list.append") [acc, x]) (fun _ s5 => ∃ m, m < n ∧ I m s5) (fun _ _ => False) s4) (fun _ _ => False) s3
      else ∃ m, m < n ∧ I m s3) (fun _ _ => False) s2) (fun _ _ => False) s1') (fun _ _ => False) s1) (fun _ _ => False) s)
  (n : Nat) (h : I n s) :
  codeAny (model prog w) A (.compLoop (.ListComp elt [⟨target, iter, ifs, 0⟩] scope pos) 0 it acc env) R s := by
 refine codeAny_loop rfl I (fun n s hI => ?_) n h
 show wpAny _ A ((compTurn (.ListComp elt [⟨target, iter, ifs, 0⟩] scope pos) 0 it acc env).onRaise (fun x => do noteFrame x env; theTreesLotGoes x)) _ _ s
 refine wpAny_noted ?_
 rw [compTurn_list]
 refine jX (wpAny_standAt (jX (wpAny_mono (turn n s hI) (fun r s1 h1 => ?_) fun _ _ h' => h'.elim)))
 cases r with
 | none => exact jW h1
 | some v =>
  refine jX (wpAny_mono h1 (fun _ s1' h1' => ?_) fun _ _ h' => h'.elim)
  refine jX (wpAny_mono h1' (fun _ s2 h2 => jX (wpAny_mono h2 (fun ok s3 h3 => ?_) fun _ _ h' => h'.elim)) fun _ _ h' => h'.elim)
  cases ok with
  | false => exact jW ⟨rfl, h3⟩
  | true =>
   exact jX (jX (wpAny_mono h3 (fun x s4 h4 => jX (wpAny_mono h4 (fun _ s5 h5 => jW (jW ⟨rfl, h5⟩)) fun _ _ h' => h'.elim)) fun _ _ h' => h'.elim))
def freeOk (sc : Scope) : List (Str × NameKind) → Bool
 | [] => true
 | (n, k) :: r => (k != .free || sc.names.lookup n == some .cell || sc.names.lookup n == some .free) && freeOk sc r
def cellsIn (env : Env) : List (Str × NameKind) → List (Str × Addr) → List (Str × Addr)
 | [], cs => cs
 | (n, k) :: r, cs => cellsIn env r (if k = .free then (n, (env.cells.lookup n).getD 0) :: cs else cs)
theorem cellsIn_sub {env : Env} : ∀ (l : List (Str × NameKind)) (cs : List (Str × Addr)), (∀ n, (n, NameKind.free) ∈ l → ∃ c, env.cells.lookup n = some c) → (∀ x c, cs.lookup x = some c → env.cells.lookup x = some c) →
  ∀ x c, (cellsIn env l cs).lookup x = some c → env.cells.lookup x = some c
 | [], cs, _, h => h
 | (n, k) :: r, cs, hl, h => by
  refine cellsIn_sub r _ (fun m hm => hl m (yW _ hm)) fun x c e => ?_
  by_cases hk : k = .free
  ·rw [if_pos hk] at e
   subst hk
   obtain ⟨c', hc⟩ := hl n zQ
   rw [jYf] at e
   cases hx : x == n with
   | true =>
    rw [hx] at e
    have : x = n := by simpa using hx
    subst this
    rw [hc] at e
    simp at e
    rw [hc, e]
   | false => rw [hx] at e; exact h x c e
  ·rw [if_neg hk] at e
   exact h x c e
theorem cellsIn_has {env : Env} : ∀ (l : List (Str × NameKind)) (cs : List (Str × Addr)) (x : Str), ((cs.lookup x).isSome = true ∨ (x, NameKind.free) ∈ l) → ((cellsIn env l cs).lookup x).isSome = true
 | [], cs, x, h => by
  rcases h with h | h
  ·exact h
  ·exact nomatch h
 | (n, k) :: r, cs, x, h => by
  refine cellsIn_has r _ x ?_
  rcases h with h | h
  ·left
   split
   ·rw [jYf]
    split
    ·rfl
    ·exact h
   ·exact h
  ·rcases zX.mp h with e | e
   ·cases e
    left
    rw [if_pos rfl, jYf]
    simp
   ·exact .inr e
theorem closureFor_cells {scope : Scope} {env : Env} (h : ∀ n, (n, NameKind.free) ∈ scope.names → ∃ c, env.cells.lookup n = some c) : closureFor scope env = pure (cellsIn env scope.names []) := by
 unfold closureFor
 suffices ∀ (l : List (Str × NameKind)) (cs : List (Str × Addr)), (∀ n, (n, NameKind.free) ∈ l → ∃ c, env.cells.lookup n = some c) → (forIn l cs fun x r =>
   if (x.2 == NameKind.free) = true then do let a ← cellOf env x.1; pure (ForInStep.yield ((x.1, a) :: r)) else pure (ForInStep.yield r) : Sem _) = pure (cellsIn env l cs) by
  have := this scope.names [] h
  simp only at this ⊢
  rw [this]
  rfl
 intro l
 induction l with
 | nil => intro cs _; rfl
 | cons p r ih =>
  intro cs hl
  obtain ⟨n, k⟩ := p
  rw [List.forIn_cons]
  by_cases hk : k = .free
  ·subst hk
   obtain ⟨c, hc⟩ := hl n zQ
   have e : cellOf env n = pure c := by unfold cellOf; rw [hc]
   have hb : (NameKind.free == NameKind.free) = true := rfl
   simp only [hb, if_true, e, cellsIn, hc, Option.getD_some]
   exact ih _ fun m hm => hl m (yW _ hm)
  ·have hb : (k == NameKind.free) = false := by simpa using hk
   simp only [hb, kQa, if_false, cellsIn, if_neg hk]
   exact ih _ fun m hm => hl m (yW _ hm)
theorem freeOk_mem {sc : Scope} : ∀ {l : List (Str × NameKind)}, freeOk sc l = true → ∀ n, (n, NameKind.free) ∈ l → sc.names.lookup n = some .cell ∨ sc.names.lookup n = some .free
 | [], _, n, h => nomatch h
 | (m, k) :: r, h, n, hm => by
  simp only [freeOk, xK] at h
  rcases zX.mp hm with e | e
  ·cases e
   have h1 := h.1
   have hb : (NameKind.free != NameKind.free) = false := rfl
   rw [hb] at h1
   simp only [Bool.false_or, jJe, beq_iff_eq] at h1
   exact h1
  ·exact freeOk_mem h.2 n e
theorem relabel_lookup {env : Env} : ∀ {names : List (Str × NameKind)} {x : Str} {k : NameKind}, (names.map fun (n, k) => if (k == NameKind.free && env.scope.kind == .function && env.kindOf n == some .cell) then (n, NameKind.cell) else (n, k)).lookup x = some k →
  ∃ k0, names.lookup x = some k0 ∧ (k = k0 ∨ (k = .cell ∧ k0 = .free))
 | [], _, _, h => by simp at h
 | (n, k0) :: r, x, k, h => by
  rw [zZ] at h
  by_cases hc : (k0 == NameKind.free && env.scope.kind == .function && env.kindOf n == some .cell) = true
  ·simp only [hc, if_true, jYf] at h
   rw [jYf]
   cases hx : x == n with
   | true =>
    rw [hx] at h
    refine ⟨k0, rfl, .inr ⟨(Option.some.inj h).symm, ?_⟩⟩
    simp only [xK, beq_iff_eq] at hc
    exact hc.1.1
   | false => rw [hx] at h; exact relabel_lookup h
  ·simp only [hc, kQa, if_false, jYf] at h
   rw [jYf]
   cases hx : x == n with
   | true => rw [hx] at h; exact ⟨k0, rfl, .inl (Option.some.inj h).symm⟩
   | false => rw [hx] at h; exact relabel_lookup h
theorem lookup_mem {α : Type} : ∀ {l : List (Str × α)} {x : Str} {k : α}, l.lookup x = some k → (x, k) ∈ l
 | [], _, _, h => by simp at h
 | (n, k0) :: r, x, k, h => by
  rw [jYf] at h
  cases hx : x == n with
  | true =>
   rw [hx] at h
   have e1 : x = n := by simpa using hx
   have e2 : k0 = k := Option.some.inj h
   subst e1 e2
   exact zQ
  | false => rw [hx] at h; exact yW _ (lookup_mem h)
def capSt (cp : List (Option Nat)) (σ : St) : St := cp.map fun (o : Option Nat) => match o with
 | none => none
 | some j => match σ[(j : Nat)]? with
  | some v => v
  | none => none
def capOk (X : Cx) (scope : Scope) : List Str → List (Option Nat) → Bool
 | [], [] => true
 | x :: N, o :: cp => (match o with | none => true | some j => X.N[j]? == some x && scope.names.lookup x == some .free) && capOk X scope N cp
 | _, _ => false
theorem capOk_len {X : Cx} {scope : Scope} : ∀ {N : List Str} {cp : List (Option Nat)}, capOk X scope N cp = true → cp.length = N.length
 | [], [], _ => rfl
 | _ :: N, _ :: cp, h => by
  simp only [capOk, xK] at h
  simp [capOk_len h.2]
 | [], _ :: _, h => by simp [capOk] at h
 | _ :: _, [], h => by simp [capOk] at h
theorem capOk_get {X : Cx} {scope : Scope} : ∀ {N : List Str} {cp : List (Option Nat)} {i : Nat} {x : Str} {v : V} {σ : St}, capOk X scope N cp = true → N[i]? = some x → (capSt cp σ)[i]? = some (some v) →
  ∃ j : Nat, X.N[j]? = some x ∧ σ[j]? = some (some v) ∧ scope.names.lookup x = some .free
 | [], [], i, x, v, σ, _, h, _ => by simp at h
 | y :: N, o :: cp, 0, x, v, σ, h, e, e2 => by
  simp only [capOk, xK] at h
  have e' : y = x := by simpa using e
  subst e'
  cases o with
  | none => simp [capSt] at e2
  | some j =>
   have h1 := h.1
   simp only [xK, beq_iff_eq] at h1
   refine ⟨j, h1.1, ?_, h1.2⟩
   simp only [capSt, zZ, List.getElem?_cons_zero, Option.some.injEq] at e2
   cases q : σ[j]? with
   | none => rw [q] at e2; cases e2
   | some z => rw [q] at e2; exact congrArg some e2
 | y :: N, o :: cp, i + 1, x, v, σ, h, e, e2 => by
  simp only [capOk, xK] at h
  exact capOk_get (i := i) h.2 (by simpa using e) (by simpa [capSt] using e2)
 | [], _ :: _, _, _, _, _, h, _, _ => by simp [capOk] at h
 | _ :: _, [], _, _, _, _, h, _, _ => by simp [capOk] at h
def cxBlock (X : Cx) (N : List Str) (scope : Scope) (fp : List Addr) (H : Hp) (s : Shared) : Cx :=
 { X with N := N, s₀ := s, H₀ := H, env := compEnvC scope (cellsIn X.env scope.names []) s.heap.objs.size X.env, outer := X.stack, stack := X.stack, ex := fp, fn := fun _ => false, pn := [], xe := fun _ _ => False }
section
variable {X : Cx}
theorem noCell_mem {l : List (Str × NameKind)} (h : (l.all fun p => p.2 != .cell) = true) : ∀ y ∈ l, y.2 ≠ .cell := fun y hy => by
 have := xV.mp h y hy
 simpa using this
theorem cxBlock_ok {pins : List (Addr × Obj)} {σ : St} {H : Hp} {s : Shared} {N : List Str} {scope : Scope} {fp : List Addr} (I : Inv X pins σ H s) (hf : ∀ b ∈ fp, FpOk X pins H b) (hlt : ∀ b ∈ fp, b < s.heap.objs.size) (hk : scope.kind = .function)
  (hcell : (scope.names.all fun p => p.2 != .cell) = true) (hfree : freeOk X.env.scope scope.names = true) : (cxBlock X N scope fp H s).Ok := by
 have has : ∀ n, (n, NameKind.free) ∈ scope.names → ∃ c, X.env.cells.lookup n = some c := fun n hn => I.ok.has n (freeOk_mem hfree n hn)
 have sub : ∀ x c, (cellsIn X.env scope.names []).lookup x = some c → X.env.cells.lookup x = some c := cellsIn_sub _ _ has fun x c e => by simp at e
 have fs : ∀ b ∈ fp, b ∉ frs X.stack := fun b hb z => by
  obtain ⟨_, f1, f2, _⟩ := hf b hb
  rcases zX.mp (I.stkSub b z) with e | e
  ·exact f1 e
  ·exact f2 e
 refine ⟨I.ok.mod, hk, I.ok.glob, I.ok.blt, jJ _, fun x y c h1 h2 => I.ok.inj x y c (sub x c h1) (sub y c h2), fun x hx => ?_, (fun x c h => nomatch h), I.ok.hd, I.ok.frames, .inl rfl, fun b hb => ⟨zJ (hlt b hb), fun x c e => (hf b hb).2.2.2.2.1 x c (sub x c e)⟩,
  I.bs, wW I.ok.bsz I.sz, fun b o e hb => ?_, fs, I.stack, I.stkFree⟩
 ·have hx' : (scope.names.map fun (n, k) => if (k == NameKind.free && X.env.scope.kind == .function && X.env.kindOf n == some .cell) then (n, NameKind.cell) else (n, k)).lookup x = some .cell ∨
    (scope.names.map fun (n, k) => if (k == NameKind.free && X.env.scope.kind == .function && X.env.kindOf n == some .cell) then (n, NameKind.cell) else (n, k)).lookup x = some .free := hx
  have fr : (x, NameKind.free) ∈ scope.names := by
   rcases hx' with e | e
   ·obtain ⟨k0, e0, z | z⟩ := relabel_lookup e
    ·subst z
     exact absurd rfl (noCell_mem hcell _ (lookup_mem e0))
    ·obtain ⟨_, z⟩ := z
     subst z
     exact lookup_mem e0
   ·obtain ⟨k0, e0, z | z⟩ := relabel_lookup e
    ·subst z
     exact lookup_mem e0
    ·exact nomatch z.1
  exact jZe.mp (cellsIn_has _ _ x (.inr fr))
 ·obtain ⟨_, _, _, f3, _⟩ := hf b hb
  rcases f3 with z | z
  ·exact I.ok.noex b o e z
  ·exact absurd (xX (kJ (I.ok.bs b o e).1) z) (jYb _)
theorem block_inv {pins : List (Addr × Obj)} {σ : St} {H : Hp} {s : Shared} {N : List Str} {scope : Scope} {fp : List Addr} {cp : List (Option Nat)} {h' : Heap} {m : Str → Option Value} {t' : Nat} (I : Inv X pins σ H s) (hf : ∀ b ∈ fp, FpOk X pins H b) (hlt : ∀ b ∈ fp, b < s.heap.objs.size) (hk : scope.kind = .function)
  (hcell : (scope.names.all fun p => p.2 != .cell) = true) (hfree : freeOk X.env.scope scope.names = true) (hcap : capOk X scope N cp = true)
  (hns : h'.Ns s.heap.objs.size m) (hx : ∀ b o, s.heap.get? b = some o → h'.get? b = some o) : Inv (cxBlock X N scope fp H s) [] (capSt cp σ) H { s with heap := h', toks := t' } := by
 have has : ∀ n, (n, NameKind.free) ∈ scope.names → ∃ c, X.env.cells.lookup n = some c := fun n hn => I.ok.has n (freeOk_mem hfree n hn)
 have sub : ∀ x c, (cellsIn X.env scope.names []).lookup x = some c → X.env.cells.lookup x = some c := cellsIn_sub _ _ has fun x c e => by simp at e
 refine ⟨cxBlock_ok I hf hlt hk hcell hfree, rfl, I.bare, ⟨fun b o e n _ _ => hx b o e, fun b o e n _ _ => ⟨o.slots, hx b o e⟩, fun b o e n _ => n, fun b o e _ => ⟨o, hx b o e⟩, fun b xs e => e, fun b o xs e => e, fun b ps e => ⟨#[], by rw [Array.append_empty]; exact e⟩⟩, ⟨m, hns, fun i x v e1 e2 e3 => ?_⟩, fun x c e => ?_, I.hok.fresh (jJ _), fun x c e => I.freeC x c (sub x c e), (fun p hp => nomatch hp), I.hok.kept hx, ?_⟩
 ·obtain ⟨j, h1, h2, h3⟩ := capOk_get hcap e1 e2
  obtain ⟨m', _, hl⟩ := I.loc
  have hkx := freeOk_mem hfree x (lookup_mem h3)
  obtain ⟨u, r, l⟩ := hl j x v h1 h2 (.inr hkx)
  rcases l with ⟨l, _⟩ | ⟨_, c, hc, hcell'⟩
  ·rcases hkx with z | z
   ·exact nomatch (Option.some.inj (l.symm.trans z))
   ·exact nomatch (Option.some.inj (l.symm.trans z))
  ·obtain ⟨c', hc'⟩ := jZe.mp (cellsIn_has (env := X.env) scope.names [] x (.inr (lookup_mem h3)))
   have ec := sub x c' hc'
   rw [hc] at ec
   cases ec
   refine ⟨u, r, .inr ⟨?_, c, hc', ?_⟩⟩
   ·rcases e3 with z | z | z
    ·obtain ⟨k0, e0, y | y⟩ := relabel_lookup (show (scope.names.map fun (n, k) => if (k == NameKind.free && X.env.scope.kind == .function && X.env.kindOf n == some .cell) then (n, NameKind.cell) else (n, k)).lookup x = some .local from z)
     ·rw [h3] at e0; cases e0; cases y
     ·exact nomatch y.1
    ·exact .inl z
    ·exact .inr z
   ·obtain ⟨o, ho, hd⟩ := hcell'
    exact ⟨o, hx c o ho, hd⟩
 ·obtain ⟨v, o, ho, hd⟩ := I.cell x c (sub x c e)
  exact ⟨v, o, hx c o ho, hd⟩
 ·show (capSt cp σ).length = N.length
  unfold capSt
  rw [jQ]
  exact capOk_len hcap
theorem block_after {pins : List (Addr × Obj)} {σ σ' : St} {H H' : Hp} {s s' : Shared} {N : List Str} {scope : Scope} {fp : List Addr} {pins' : List (Addr × Obj)} (I : Inv X pins σ H s) (hf : ∀ b ∈ fp, FpOk X pins H b)
  (J : Inv (cxBlock X N scope fp H s) pins' σ' H' s') : Inv X pins σ H' s' :=
 I.call' (ch := fp) J.os J.base J.hok J.bare fun b hb => ⟨(hf b hb).2.2.2.1, (hf b hb).2.1, (hf b hb).2.2.2.2.1, (hf b hb).2.2.2.2.2⟩
def PF (X : Cx) (ifs : List Expr) (t : TT) : Prop :=
 ∀ (pins : List (Addr × Obj)) (s : Shared) (σ : St) (H : Hp) (Q : Bool → Hp → Prop), Inv X pins σ H s → t σ H Q →
  wpAny (model X.prog X.w) X.A (forIn ifs true fun c r => if r = true then do let ok ← isTrue c X.env (eval c X.env); pure (ForInStep.yield ok) else pure (ForInStep.yield r)) (TP X pins σ Q) X.xe s
def tYes : TT := fun _ H Q => Q true H
theorem pf_nil : PF X [] tYes := fun _ _ _ H _ I h => wpAny_tests_nil ⟨H, I, h⟩
theorem pf_one {c : Expr} {t : TT} (hc : PT X c t) : PF X [c] t := fun pins s σ H Q I h => wpAny_tests_one (hc pins s σ H Q I h)
def LcW (J : It) (D : Addr) (τ0 : St) (H : Hp) (g : TG) (tt : TT) (te : TE) (Q : Addr → Hp → Prop) : Prop := ∃ W : Nat → Nat → St → List V → Hp → Prop, (∃ m, W 0 m τ0 [] (upd H D (.lst []))) ∧ ∀ i m τ ys H, W i m τ ys H →
 H D = some (.lst ys) ∧ ((J.stop i H ∧ Q D H) ∨ (J.go i H ∧ ys.length < sizeLine ∧ ∃ (N1 : St → V → Hp → Prop) (N2 : St → Hp → Prop), (∀ τ v H, N1 τ v H → ∃ m', m' < m ∧ W (i + 1) m' τ (ys ++ [v]) (upd H D (.lst (ys ++ [v])))) ∧ (∀ τ H, N2 τ H → ∃ m', m' < m ∧ W (i + 1) m' τ ys H) ∧
  ∀ x H', J.yld i H x H' → g x τ H' fun σ2 H2 => tt σ2 H2 fun ok H3 => if ok = true then te σ2 H3 fun v H4 => H4 D = some (.lst ys) ∧ N1 σ2 v H4 else N2 σ2 H3))
def tLC (cp : List (Option Nat)) (wi : TI) (g : TG) (tt : TT) (te : TE) (σ : St) (H : Hp) (Q : Addr → Hp → Prop) : Prop := wi σ H fun J H1 => ∀ D, H1 D = none → LcW J D (capSt cp σ) H1 g tt te Q
theorem lc_block {elt iter target : Expr} {ifs : List Expr} {scope : Scope} {pos : Pos} {N : List Str} {cp : List (Option Nat)} {g : TG} {tt : TT} {te : TE} {pins : List (Addr × Obj)} {σ : St} {H : Hp} {s : Shared} {E : Value → Shared → Prop} {Q : Addr → Hp → Prop}
  {it : Addr} {fp : List Addr} {tn : Nat → Heap → Prop} {J : It} {RR : Value → Addr → Result → Shared → Prop} (hc : X.calm = true) (hk : scope.kind = .function) (hcell : (scope.names.all fun p => p.2 != .cell) = true) (hfree : freeOk X.env.scope scope.names = true) (hcap : capOk X scope N cp = true)
  (hg : ∀ fp H s, PG (cxBlock X N scope fp H s) target g) (ht : ∀ fp H s, PF (cxBlock X N scope fp H s) ifs tt) (he : ∀ fp H s, PE (cxBlock X N scope fp H s) elt te)
  (I : Inv X pins σ H s) (T : Turn X.prog X.w X.K target J fp it tn) (st : tn 0 s.heap) (hf : ∀ b ∈ fp, FpOk X pins H b)
  (h : ∀ D, H D = none → LcW J D (capSt cp σ) H g tt te Q)
  (hRR : ∀ D C s' H' m, Inv X pins σ H' s' → FpOk X pins H' C → s'.heap.Ns C m → Q D H' → RR (.ref D) C (.ok .next) s') :
  wpAny (model X.prog X.w) X.A (newList []) (fun acc s3 => wpAny (model X.prog X.w) X.A (newFunctionEnv scope X.env.globals (cellsIn X.env scope.names []) [] X.env.qual none .none (some X.env)) (fun cenv s4 =>
   codeAny (model X.prog X.w) X.A (.compStart (.ListComp elt [⟨target, iter, ifs, 0⟩] scope pos) 0 (.ref it) acc { cenv with scope := relabel scope X.env }) (RR acc cenv.locals) s4) E s3) E s := by
 have hlt : ∀ b ∈ fp, b < s.heap.objs.size := fun b hb => by
  obtain ⟨o, e, _⟩ := T.obj _ _ st b hb
  exact kJ e
 refine wpAny_newObj_type (wpAny_newFunctionEnv (noCell_mem hcell) (by intro y hy; simp at hy) (fun h1 hns1 hsb1 => ?_) hk)
 dsimp only at hns1 hsb1 ⊢
 have hD : H s.heap.objs.size = none := I.hok.fresh (jJ _)
 have I3 : Inv X pins σ (upd H s.heap.objs.size (.lst [])) { s with heap := s.heap.push { cls := .type "list", dict := none, data := .seq ([] : List Value).toArray } } :=
  I.laid (t' := s.toks) (fun b u e => jZ _ e) (jJ _) ⟨jXc _, [], 0, .nil, yZ _ rfl⟩
 have hf3 : ∀ b ∈ fp, FpOk X pins (upd H s.heap.objs.size (.lst [])) b := fun b hb => ⟨by rw [upd_ne (zJ (hlt b hb))]; exact (hf b hb).1, (hf b hb).2⟩
 have hlt3 : ∀ b ∈ fp, b < (s.heap.push { cls := .type "list", dict := none, data := .seq ([] : List Value).toArray }).objs.size := fun b hb => by rw [jJa]; exact Nat.lt_succ_of_lt (hlt b hb)
 generalize hH2 : s.heap.push { cls := .type "list", dict := none, data := .seq ([] : List Value).toArray } = H2 at hns1 hsb1 I3 hlt3 ⊢
 generalize hs3 : ({ s with heap := H2 } : Shared) = s3 at I3
 have hs3h : s3.heap = H2 := by rw [← hs3]
 have ext1 : ∀ b o, s3.heap.get? b = some o → h1.get? b = some o := fun b o e => by
  rw [hs3h] at e
  exact hsb1.extBut b o (zJ (kJ e)) (jZ _ e)
 have J0 : Inv (cxBlock X N scope fp (upd H s.heap.objs.size (.lst [])) s3) [] (capSt cp σ) (upd H s.heap.objs.size (.lst [])) { s3 with heap := h1, toks := s.toks + ([] : List (Str × Value)).length } :=
  block_inv I3 hf3 (by rw [hs3h]; exact hlt3) hk hcell hfree hcap (by rw [hs3h]; exact hns1) ext1
 have st1 : tn 0 h1 := T.keep _ _ _ st fun b hb o e => ext1 b o (by rw [hs3h, ← hH2]; exact jZ _ e)
 obtain ⟨W, ⟨m0, w0⟩, turn⟩ := h s.heap.objs.size hD
 have stat : ∀ {H' : Hp}, (∀ b ∈ fp, H' b = none) → ∀ b ∈ fp, FpOk (cxBlock X N scope fp (upd H s.heap.objs.size (.lst [])) s3) [] H' b := fun {H'} hn b hb =>
  ⟨hn b hb, (J0.ok.exf b hb).1, J0.ok.exfs b hb, .inl hb, (J0.ok.exf b hb).2, fun p hp => nomatch hp⟩
 have loop : codeAny (model X.prog X.w) X.A (.compLoop (.ListComp elt [⟨target, iter, ifs, 0⟩] scope pos) 0 (.ref it) (.ref s.heap.objs.size) (compEnvC scope (cellsIn X.env scope.names []) H2.objs.size X.env))
   (RR (.ref s.heap.objs.size) H2.objs.size) { s3 with heap := h1, toks := s.toks + ([] : List (Str × Value)).length } := by
  have eEnv : compEnvC scope (cellsIn X.env scope.names []) H2.objs.size X.env = (cxBlock X N scope fp (upd H s.heap.objs.size (.lst [])) s3).env := by
   rw [← hs3h]; rfl
  rw [eEnv]
  refine compLoop_any (fun n s' => ∃ i τ ys H', Inv (cxBlock X N scope fp (upd H s.heap.objs.size (.lst [])) s3) [] τ H' s' ∧ tn i s'.heap ∧ (∀ b ∈ fp, H' b = none) ∧ W i n τ ys H') ?_ m0 ⟨0, capSt cp σ, [], _, J0, st1, fun b hb => (hf3 b hb).1, w0⟩
  rintro n s4 ⟨i, τ, ys, H4, I4, st4, fr4, w4⟩
  obtain ⟨hD4, hh⟩ := turn i n τ ys H4 w4
  rcases hh with ⟨stop, qn⟩ | ⟨go, hlen, N1, N2, hN1, hN2, step⟩
  ·refine thn (T.done (cxBlock X N scope fp (upd H s.heap.objs.size (.lst [])) s3) rfl rfl rfl hc i [] s4 τ H4 _ I4 (stat fr4) st4 stop) fun r s5 hqP => ?_
   obtain ⟨hr, I5⟩ := hqP
   subst hr
   obtain ⟨m, hm, _⟩ := I5.loc
   have e5 : H2.objs.size = (cxBlock X N scope fp (upd H s.heap.objs.size (.lst [])) s3).env.locals := by rw [← eEnv]; rfl
   refine hRR _ _ s5 H4 m (block_after I3 hf3 I5) ?_ (by rw [e5]; exact hm) qn
   exact I3.fpOk (by rw [hs3h]; exact jJ _) (by rw [e5]; exact I5.free)
  ·refine thn (T.item (cxBlock X N scope fp (upd H s.heap.objs.size (.lst [])) s3) rfl rfl rfl hc i [] s4 τ H4 _ I4 (stat fr4) st4 go) fun r s5 hqP => ?_
   obtain ⟨u, hr, h5⟩ := hqP
   subst hr
   refine thn h5 fun _ s6 hqP => ?_
   obtain ⟨x, H6, I6, r6, y6, st6, fr6⟩ := hqP
   have I6' := I6.pinned (stat fr6) (T.obj _ _ st6)
   refine thn (hg fp _ _ _ s6 τ H6 x u _ I6' r6 (step x H6 y6)) fun _ s7 hqP => ?_
   obtain ⟨σ7, H7, I7, q7⟩ := hqP
   refine thn (ht fp _ _ _ s7 σ7 H7 _ I7 q7) fun ok s8 hqP => ?_
   obtain ⟨H8, I8, q8⟩ := hqP
   have back : ∀ {σ' : St} {H' : Hp} {s' : Shared}, Inv (cxBlock X N scope fp (upd H s.heap.objs.size (.lst [])) s3) ([] ++ pinsAt fp s6.heap) σ' H' s' → Inv (cxBlock X N scope fp (upd H s.heap.objs.size (.lst [])) s3) [] σ' H' s' ∧ tn (i + 1) s'.heap ∧ ∀ b ∈ fp, H' b = none := fun {σ' H' s'} I' => by
    refine ⟨I'.unpinned, T.keep _ _ _ st6 fun b hb o e => (I'.pin (b, o) (xY _ (xY _ (mem_pinsAt hb e)))).1, fun b hb => ?_⟩
    obtain ⟨o, e, d⟩ := T.obj _ _ st6 b hb
    exact (I'.pin (b, o) (xY _ (xY _ (mem_pinsAt hb e)))).2.1
   cases ok with
   | false =>
    rw [if_neg kZ] at q8 ⊢
    obtain ⟨m', hm, w8⟩ := hN2 _ _ q8
    obtain ⟨b1, b2, b3⟩ := back I8
    exact ⟨m', hm, i + 1, σ7, ys, H8, b1, b2, b3, w8⟩
   | true =>
    rw [if_pos rfl] at q8 ⊢
    refine thn (he fp _ _ _ s8 σ7 H8 _ I8 q8) fun y s9 hqP => ?_
    obtain ⟨v, H9, I9, r9, hD9, n9⟩ := hqP
    obtain ⟨m', hm, w9⟩ := hN1 _ _ _ n9
    refine thn (mt_append _ s9 σ7 H9 (.ref s.heap.objs.size) [v] (.ref s.heap.objs.size) [y] (fun _ H' => H' = upd H9 s.heap.objs.size (.lst (ys ++ [v]))) I9 rfl (.cons r9 .nil) ⟨_, ys, v, rfl, rfl, hD9, hlen, rfl⟩) fun _ s10 hqP => ?_
    obtain ⟨_, H10, I10, _, e10⟩ := hqP
    subst e10
    obtain ⟨b1, b2, b3⟩ := back I10
    exact ⟨m', hm, i + 1, σ7, _, _, b1, b2, b3, w9⟩
 have e3 : ({ s with heap := h1, toks := s.toks + ([] : List (Str × Value)).length } : Shared) = { s3 with heap := h1, toks := s.toks + ([] : List (Str × Value)).length } := by rw [← hs3]
 rw [e3]
 exact codeAny_compStart_list loop (T.self _ 0 _ _ _ st1 loop)
theorem pe_lc {elt iter target : Expr} {ifs : List Expr} {scope : Scope} {pos : Pos} (N : List Str) (cp : List (Option Nat)) {wi : TI} {g : TG} {tt : TT} {te : TE} (hc : X.calm = true) (hi : PI X target iter wi)
  (hg : ∀ fp H s, PG (cxBlock X N scope fp H s) target g) (ht : ∀ fp H s, PF (cxBlock X N scope fp H s) ifs tt) (he : ∀ fp H s, PE (cxBlock X N scope fp H s) elt te)
  (hk : autoParam (scope.kind = .function) L2.aRfl._auto_1) (hcell : autoParam ((scope.names.all fun p => p.2 != .cell) = true) L2.aRfl._auto_1) (hfree : autoParam (freeOk X.env.scope scope.names = true) L2.aRfl._auto_1) (hcap : autoParam (capOk X scope N cp = true) L2.aRfl._auto_1)
  (hnames : autoParam ((scope.names.all fun p => p.2 != .local || scope.names.lookup p.1 == some .local) = true) L2.aRfl._auto_1) (hs : autoParam (∀ x, foldedSetIterable iter X.env x = pure x) L2.aIrf._auto_1) :
  PE X (.ListComp elt [⟨target, iter, ifs, 0⟩] scope pos) (fun σ H Q => tLC cp wi g tt te σ H fun D H' => Q (.ref D) H') := by
 intro pins s σ H Q I h
 rw [eval_ListComp]
 have has : ∀ n, (n, NameKind.free) ∈ scope.names → ∃ c, X.env.cells.lookup n = some c := fun n hn => I.ok.has n (freeOk_mem hfree n hn)
 refine wpAny_comprehension_free (use := none) rfl hs (closureFor_cells has) hk (fun x hx hl => ?_) (thn (hi pins s σ H _ I h) fun xv s1 h1 => thn h1 fun itv s2 h2 => ?_)
 ·have := xV.mp hnames x hx
  simp only [jJe, bne_iff_ne, beq_iff_eq] at this
  exact this.resolve_left fun z => z hl
 ·obtain ⟨it, fp, tn, J, H2, e, I2, T, st2, f2, hW⟩ := h2
  subst e
  refine lc_block (N := N) (cp := cp) hc hk hcell hfree hcap hg ht he I2 T st2 f2 hW fun D C s' H' m I' fC hm q => ⟨m, hm, fun h' hsb => ?_⟩
  exact ⟨.ref D, H', I'.turned (t' := s'.toks) (fun b o hb e => hsb.extBut b o hb e) fC.1 fC.2.1 fC.2.2.2.1 fC.2.2.2.2.1 fC.2.2.2.2.2, rfl, q⟩
theorem ps_setC {i : Nat} {x : Str} {px : Pos} {elt iter target : Expr} {ifs : List Expr} {scope : Scope} {pos spos : Pos} (N : List Str) (cp : List (Option Nat)) {wi : TI} {g : TG} {tt : TT} {te : TE} (hc : X.calm = true) (hN : X.N.Nodup) (hi' : X.N[i]? = some x) (hx : Loc X.env.scope x) (hi : PI X target iter wi)
  (hg : ∀ fp H s, PG (cxBlock X N scope fp H s) target g) (ht : ∀ fp H s, PF (cxBlock X N scope fp H s) ifs tt) (he : ∀ fp H s, PE (cxBlock X N scope fp H s) elt te)
  (hsw : autoParam (swapsWith (.ListComp elt [⟨target, iter, ifs, 0⟩] scope pos) (some (.Name x px)) spos.line X.env = pure true) L2.aRfl._auto_1)
  (hk : autoParam (scope.kind = .function) L2.aRfl._auto_1) (hcell : autoParam ((scope.names.all fun p => p.2 != .cell) = true) L2.aRfl._auto_1) (hfree : autoParam (freeOk X.env.scope scope.names = true) L2.aRfl._auto_1) (hcap : autoParam (capOk X scope N cp = true) L2.aRfl._auto_1)
  (hnames : autoParam ((scope.names.all fun p => p.2 != .local || scope.names.lookup p.1 == some .local) = true) L2.aRfl._auto_1) (hs : autoParam (∀ x, foldedSetIterable iter X.env x = pure x) L2.aIrf._auto_1)
  (hf : autoParam (X.fn x = true ∨ X.env.scope.names.lookup x = some .local) L2.aFst._auto_1) :
  PS X (.Assign [.Name x px] (.ListComp elt [⟨target, iter, ifs, 0⟩] scope pos) spos) (fun D σ H => tLC cp wi g tt te σ H fun a H' => D.nx (σ.set i (some (.ref a))) H') := by
 intro pins s σ H D I h
 have has : ∀ n, (n, NameKind.free) ∈ scope.names → ∃ c, X.env.cells.lookup n = some c := fun n hn => I.ok.has n (freeOk_mem hfree n hn)
 rw [exec_Assign_Name_used _ _ _ _ hsw]
 refine jX (wpAny_standAt (jX ?_))
 show wpAny _ _ (do let _ ← comprehension (.ListComp elt [⟨target, iter, ifs, 0⟩] scope pos) scope X.env _ (newList []) false (eval iter X.env) (some (assign (.Name x px) X.env))) _ _ s
 refine jX (wpAny_mono (wpAny_comprehension_free (use := some (assign (.Name x px) X.env)) (Q := fun _ s' => SP X pins D .next s') rfl hs (closureFor_cells has) hk (fun x hx hl => ?_)
  (thn (hi pins s σ H _ I h) fun xv s1 h1 => thn h1 fun itv s2 h2 => ?_)) (fun _ s' hq => jW (jW hq)) fun _ _ e => e)
 ·have := xV.mp hnames x hx
  simp only [jJe, bne_iff_ne, beq_iff_eq] at this
  exact this.resolve_left fun z => z hl
 ·obtain ⟨it, fp, tn, J, H2, e, I2, T, st2, f2, hW⟩ := h2
  subst e
  refine lc_block (N := N) (cp := cp) hc hk hcell hfree hcap hg ht he I2 T st2 f2 hW fun D' C s' H' m I' fC hm q => ?_
  show wpAny _ _ (assign (.Name x px) X.env (.ref D')) _ _ _
  refine wpAny_assign_Name (store_ok2 I' hN hi' hx (v := .ref D') rfl (fun s'' I'' hsb => ?_) hf)
  obtain ⟨a, hsb, ha⟩ := hsb
  have hCa : C ≠ a := by
   rcases ha with e | e
   ·rw [e]; exact fC.2.1
   ·exact fun z => fC.2.2.2.2.1 x a e z.symm
  refine ⟨m, hm.sameBut hsb hCa, fun h' hsb' => ?_⟩
  exact ⟨_, H', I''.turned (t' := s''.toks) (fun b o hb e => hsb'.extBut b o hb e) fC.1 fC.2.1 fC.2.2.2.1 fC.2.2.2.2.1 fC.2.2.2.2.2, q⟩
end
structure Drw (P : Program) (w : World) (it l : Addr) (st : Nat → Heap → Prop) (src : List Value → Heap → Prop) : Prop where
 obj : ∀ i h, st i h → ∃ o, h.get? it = some o ∧ ∀ v, o.data ≠ .cell v
 keep : ∀ i h h', st i h → (∀ o, h.get? it = some o → h'.get? it = some o) → st i h'
 srck : ∀ xs h h', src xs h → (∀ o, h.get? l = some o → h'.get? l = some o) → src xs h'
 item : ∀ (A : Around) (E : Value → Shared → Prop) (s : Shared) (i : Nat) (xs : List Value) (x : Value) (Q : Value → Shared → Prop), st i s.heap → src xs s.heap → xs[i]? = some x →
  (∀ h', st (i + 1) h' → Heap.SameBut it s.heap h' → Q x { s with heap := h' }) → wpAny (model P w) A (Builtin.SmallTypes.nextOf (.ref it)) Q E s
 done : ∀ (A : Around) (E : Value → Shared → Prop) (s : Shared) (i : Nat) (xs : List Value) (Q : Value → Shared → Prop), A.handled = none → st i s.heap → src xs s.heap → xs[i]? = none →
  (∀ h' e, Heap.ExtBut it s.heap h' → (∃ o, h'.get? e = some o ∧ o.cls = .type "StopIteration") → E (.ref e) { s with heap := h' }) → wpAny (model P w) A (Builtin.SmallTypes.nextOf (.ref it)) Q E s
theorem drw_list {P : Program} {w : World} (it l : Addr) : Drw P w it l (fun i h => h.IsListIter it l i) (fun xs h => h.IsList l xs.toArray) where
 obj := fun i h st => by
  obtain ⟨o, e, c, d⟩ := st
  exact ⟨o, e, fun v z => by rw [d] at z; cases z⟩
 keep := fun i h h' st k => st.at k
 srck := fun xs h h' sr k => sr.at k
 item := fun A E s i xs x Q st sr hx hQ => wpAny_nextOf_list_item st sr (by simpa using hx) hQ
 done := fun A E s i xs Q hh st sr hx hE => wpAny_nextOf_list_end hh st sr (by simpa using hx) hE
section
variable {P : Program} {w : World} {A : Around} {E : Value → Shared → Prop} {s : Shared}
theorem nextOf_tup_item {it t : Addr} {i : Nat} {xs : Array Value} {x : Value} {Q : Value → Shared → Prop} (hI : s.heap.IsTupleIter it t i) (hT : s.heap.IsTuple t xs) (hx : xs[i]? = some x)
  (hQ : ∀ h', h'.IsTupleIter it t (i + 1) → Heap.SameBut it s.heap h' → Q x { s with heap := h' }) : wpAny (model P w) A (Builtin.SmallTypes.nextOf (.ref it)) Q E s := by
 obtain ⟨oI, gI, cI, dI⟩ := id hI
 obtain ⟨oT, gT, _, nT, dT⟩ := hT
 unfold Builtin.SmallTypes.nextOf
 refine jX (wpAny_callSpecial?_slot (name := Str.ofString "__next__") hI.typeIs F.slot_tuple_iterator_next (wpAny_call_entry F.slot_tuple_iterator_next hI.typeIs F.entry_tuple_iterator_next ?_ (F.args_tuple_iterator_next_1 _)))
 show wpAny _ _ (field (.ref it) 0 >>= _) _ _ s
 refine jX (wpAny_field gI dI (x := .ref t) rfl ?_)
 show wpAny _ _ (if (Value.ref t == Value.none) = true then _ else _) _ _ s
 rw [if_neg (show ¬ ((Value.ref t == Value.none) = true) from kZ)]
 show wpAny _ _ (field (.ref it) 1 >>= _) _ _ s
 refine jX (wpAny_field gI dI (x := .int i 0) rfl ?_)
 show wpAny _ _ (seqItems? (.ref t) >>= _) _ _ s
 refine jX (wpAny_seqItems gT dT ?_)
 simp only [jKa, hx]
 refine jX (wpAny_setField gI dI (by simp) (jW ⟨x, rfl, jW (hQ _ ?_ (Heap.SameBut.update ..))⟩))
 refine ⟨_, kQe _ gI (Obj.isFreed_of_fields (Obj.data_mapFields dI _)), (Obj.cls_mapFields ..).trans cI, ?_⟩
 rw [Obj.data_mapFields dI]; simp [rawInt]
theorem nextOf_tup_end {it t : Addr} {i : Nat} {xs : Array Value} {Q : Value → Shared → Prop} (hh : A.handled = none) (hI : s.heap.IsTupleIter it t i) (hT : s.heap.IsTuple t xs) (hx : xs[i]? = none)
  (hE : ∀ h' e, Heap.ExtBut it s.heap h' → (∃ o, h'.get? e = some o ∧ o.cls = .type "StopIteration") → E (.ref e) { s with heap := h' }) : wpAny (model P w) A (Builtin.SmallTypes.nextOf (.ref it)) Q E s := by
 obtain ⟨oI, gI, cI, dI⟩ := id hI
 obtain ⟨oT, gT, _, nT, dT⟩ := hT
 unfold Builtin.SmallTypes.nextOf
 refine jX (wpAny_callSpecial?_slot (name := Str.ofString "__next__") hI.typeIs F.slot_tuple_iterator_next (wpAny_call_entry F.slot_tuple_iterator_next hI.typeIs F.entry_tuple_iterator_next ?_ (F.args_tuple_iterator_next_1 _)))
 show wpAny _ _ (field (.ref it) 0 >>= _) _ _ s
 refine jX (wpAny_field gI dI (x := .ref t) rfl ?_)
 show wpAny _ _ (if (Value.ref t == Value.none) = true then _ else _) _ _ s
 rw [if_neg (show ¬ ((Value.ref t == Value.none) = true) from kZ)]
 show wpAny _ _ (field (.ref it) 1 >>= _) _ _ s
 refine jX (wpAny_field gI dI (x := .int i 0) rfl ?_)
 show wpAny _ _ (seqItems? (.ref t) >>= _) _ _ s
 refine jX (wpAny_seqItems gT dT ?_)
 simp only [jKa, hx]
 refine jX (wpAny_rule (jX (wpAny_setField gI dI (by simp) ?_)))
 show wpAny _ _ (newExc (.type "StopIteration") [] >>= _) _ _ _
 refine jX ?_
 simp only [newExc, newTuple]
 refine jX (wpAny_newObj_type ?_ (by size_fits))
 refine jX (m := firstArgMember _ _) (wpAny_of_eq (a := Value.none) (by first | rfl | (simp only [firstArgMember]; rfl)) ?_)
 refine wpAny_newObj_type ?_ (by size_fits)
 simp only [raiseNew]
 refine jX (wpAny_handled ?_)
 first | rw [show A.in1.handled = none from hh] | rw [hh]
 exact jX (jW (wpAny_throw (hE _ _ (((Heap.SameBut.update ..).extBut.push _).push _) ⟨_, yZ _ rfl, rfl⟩)))
end
theorem drw_tup {P : Program} {w : World} (it l : Addr) : Drw P w it l (fun i h => h.IsTupleIter it l i) (fun xs h => h.IsTuple l xs.toArray) where
 obj := fun i h st => by
  obtain ⟨o, e, c, d⟩ := st
  exact ⟨o, e, fun v z => by rw [d] at z; cases z⟩
 keep := fun i h h' st k => st.at k
 srck := fun xs h h' sr k => sr.at k
 item := fun A E s i xs x Q st sr hx hQ => nextOf_tup_item st sr (by simpa using hx) hQ
 done := fun A E s i xs Q hh st sr hx hE => nextOf_tup_end hh st sr (by simpa using hx) hE
section
variable {P : Program} {w : World} {A : Around} {E : Value → Shared → Prop} {s : Shared} {z u o i1 i2 l1 l2 : Addr} {st1 st2 : Nat → Heap → Prop} {src1 src2 : List Value → Heap → Prop} {k1 k2 : Nat} {xs ys : List Value} {a b : Value}
theorem zipNext_item {x y : Value} {Q : Option Value → Shared → Prop} (d1 : Drw P w i1 l1 st1 src1) (d2 : Drw P w i2 l2 st2 src2) (D : ZipApart z u o i1 i2 l1 l2) (hZ : IsZip s.heap z u o .none) (hU : IsPair s.heap u (.ref i1) (.ref i2)) (hO : IsPair s.heap o a b)
  (h1 : st1 k1 s.heap) (h2 : st2 k2 s.heap) (hl1 : src1 xs s.heap) (hl2 : src2 ys s.heap) (hx : xs[k1]? = some x) (hy : ys[k2]? = some y)
  (hQ : ∀ h', IsZip h' z u o (rawInt s.heap.objs.size) → IsPair h' o x y → st1 (k1 + 1) h' → st2 (k2 + 1) h' → IsPair h' s.heap.objs.size x y → h'.objs.size = s.heap.objs.size + 1 →
   (∀ c q, c ≠ z → c ≠ o → c ≠ i1 → c ≠ i2 → s.heap.get? c = some q → h'.get? c = some q) → Q (some (.ref s.heap.objs.size)) { s with heap := h' }) : wpAny (model P w) A (pyNext (.ref z)) Q E s := by
 have hTy : s.TypeIs (.ref z) "zip" := ⟨_, hZ, rfl⟩
 unfold pyNext
 refine jX (wpAny_attempt (wpAny_callSpecial?_slot (name := Str.ofString "__next__") hTy F.slot_zip_next (wpAny_call_entry F.slot_zip_next hTy F.entry_zip_next ?_ (F.args_zip_next_1 _))))
 show wpAny _ _ (field (.ref z) 2 >>= _) _ _ _
 refine jX (wpAny_field hZ rfl (x := .bool false) rfl ?_)
 show wpAny _ _ (field (.ref z) 3 >>= _) _ _ _
 refine jX (wpAny_field hZ rfl (x := .ref u) rfl (jX (wpAny_seqItems hU rfl ?_)))
 show wpAny _ _ (Builtin.SmallTypes.ownedTupleIsFree (.ref z) >>= _) _ _ _
 refine jX ?_
 unfold Builtin.SmallTypes.ownedTupleIsFree
 refine jX (wpAny_field hZ rfl (x := .none) rfl (jW ?_))
 simp only [if_true]
 refine jX (wpAny_rule (jX (wpAny_field hZ rfl (x := .ref o) rfl (jX (wpAny_setField_rec hZ (by simp) fun g1 hZ1 e1 => ?_)))))
 replace hZ1 : IsZip g1 z u o .ellipsis := hZ1
 refine jX ?_
 simp only [List.zipIdx_cons, List.zipIdx_nil, List.forIn_cons, List.forIn_nil]
 refine jX (jX (wpAny_onRaise ?_))
 show wpAny _ _ (Builtin.SmallTypes.nextOf (.ref i1) >>= _) _ _ _
 refine jX (d1.item _ _ { s with heap := g1 } k1 xs x _ (d1.keep _ _ _ h1 fun q e => e1.extBut _ _ D.i1z e) (d1.srck _ _ _ hl1 fun q e => e1.extBut _ _ D.l1z e) hx fun g2 h1' e2 => jW ?_)
 have hO2 : IsPair g2 o a b := e2.extBut _ _ D.TOi1 (e1.extBut _ _ D.TOz hO)
 refine jX (wpAny_seqItems hO2 rfl (jX (wpAny_updateSeq_pair hO2 fun g3 hO3 e3 => ?_)))
 replace hO3 : IsPair g3 o x b := hO3
 refine jX (wpAny_letGo (jW ?_))
 refine jX (jX (wpAny_onRaise ?_))
 show wpAny _ _ (Builtin.SmallTypes.nextOf (.ref i2) >>= _) _ _ _
 refine jX (d2.item _ _ { s with heap := g3 } k2 ys y _ (d2.keep _ _ _ h2 fun q e => e3.extBut _ _ D.TOi2.symm (e2.extBut _ _ D.i12.symm (e1.extBut _ _ D.i2z e)))
  (d2.srck _ _ _ hl2 fun q e => e3.extBut _ _ D.l2TO (e2.extBut _ _ D.l2i1 (e1.extBut _ _ D.l2z e))) hy fun g4 h2' e4 => jW ?_)
 have hO4 : IsPair g4 o x b := e4.extBut _ _ D.TOi2 hO3
 refine jX (wpAny_seqItems hO4 rfl (jX (wpAny_updateSeq_pair hO4 fun g5 hO5 e5 => ?_)))
 replace hO5 : IsPair g5 o x y := hO5
 refine jX (wpAny_letGo (jW (jW ?_)))
 refine jX (wpAny_seqItems hO5 rfl (jX (wpAny_newTuple ?_)))
 have hsz : g5.objs.size = s.heap.objs.size := by rw [e5.1, e4.1, e3.1, e2.1, e1.1]
 have hZ5 : IsZip g5 z u o .ellipsis := e5.extBut _ _ D.TOz.symm (e4.extBut _ _ D.i2z.symm (e3.extBut _ _ D.TOz.symm (e2.extBut _ _ D.i1z.symm hZ1)))
 have hk5 : ∀ c q, c ≠ z → c ≠ o → c ≠ i1 → c ≠ i2 → s.heap.get? c = some q → g5.get? c = some q := fun c q c1 c2 c3 c4 e =>
  e5.extBut _ _ c2 (e4.extBut _ _ c4 (e3.extBut _ _ c2 (e2.extBut _ _ c3 (e1.extBut _ _ c1 e))))
 have s15 : st1 (k1 + 1) g5 := d1.keep _ _ _ h1' fun q e => e5.extBut _ _ D.TOi1.symm (e4.extBut _ _ D.i12 (e3.extBut _ _ D.TOi1.symm e))
 have s25 : st2 (k2 + 1) g5 := d2.keep _ _ _ h2' fun q e => e5.extBut _ _ D.TOi2.symm e
 have zlt : z < g5.objs.size := kJ hZ5
 show wpAny _ _ (Builtin.SmallTypes.ownedTupleHandOut (.ref z) (.ref g5.objs.size) >>= _) _ _ _
 refine jX ?_
 unfold Builtin.SmallTypes.ownedTupleHandOut
 have hZ6 : IsZip (g5.push { cls := .type "tuple", data := .seq #[x, y] }) z u o .ellipsis := jZ _ hZ5
 refine jX (wpAny_setField_rec hZ6 (by simp) fun g7 hZ7 e7 => ?_)
 replace hZ7 : IsZip g7 z u o (rawInt g5.objs.size) := hZ7
 refine wpAny_setField_rec hZ7 (by simp) fun g8 hZ8 e8 => ?_
 replace hZ8 : IsZip g8 z u o (rawInt g5.objs.size) := hZ8
 have up : ∀ c q, c ≠ z → g5.get? c = some q → g8.get? c = some q := fun c q c1 e => e8.extBut _ _ c1 (e7.extBut _ _ c1 (jZ _ e))
 have hT8 : IsPair g8 g5.objs.size x y := e8.extBut _ _ (Nat.ne_of_gt zlt) (e7.extBut _ _ (Nat.ne_of_gt zlt) (yZ _ rfl))
 have hs8 : g8.objs.size = g5.objs.size + 1 := by rw [e8.1, e7.1, jJa]
 rw [hsz] at hZ8 hT8 hs8
 refine jW ⟨_, rfl, jW ?_⟩
 show Q (some (.ref g5.objs.size)) _
 rw [hsz]
 exact hQ g8 hZ8 (up _ _ D.TOz hO5) (d1.keep _ _ _ s15 fun q e => up _ q D.i1z e) (d2.keep _ _ _ s25 fun q e => up _ q D.i2z e) hT8 hs8 fun c q c1 c2 c3 c4 e => up c q c1 (hk5 c q c1 c2 c3 c4 e)
theorem zipNext_end {Q : Option Value → Shared → Prop} (hh : A.handled = none) (d1 : Drw P w i1 l1 st1 src1) (d2 : Drw P w i2 l2 st2 src2) (D : ZipApart z u o i1 i2 l1 l2) (hZ : IsZip s.heap z u o .none) (hU : IsPair s.heap u (.ref i1) (.ref i2)) (hO : IsPair s.heap o a b)
  (h1 : st1 k1 s.heap) (h2 : st2 k2 s.heap) (hl1 : src1 xs s.heap) (hl2 : src2 ys s.heap) (hend : xs[k1]? = none ∨ ys[k2]? = none)
  (hQ : ∀ h', (∀ c q, c ≠ z → c ≠ o → c ≠ i1 → c ≠ i2 → s.heap.get? c = some q → h'.get? c = some q) → Q none { s with heap := h' }) : wpAny (model P w) A (pyNext (.ref z)) Q E s := by
 have hTy : s.TypeIs (.ref z) "zip" := ⟨_, hZ, rfl⟩
 unfold pyNext
 have fin : ∀ (h' : Heap) (e : Addr), (∀ c q, c ≠ z → c ≠ o → c ≠ i1 → c ≠ i2 → s.heap.get? c = some q → h'.get? c = some q) → (∃ o, h'.get? e = some o ∧ o.cls = .type "StopIteration") →
   wpAny (model P w) A (isInstance (.ref e) (.type "StopIteration") >>= fun b => if b = true then pure none else throw (Value.ref e)) Q E { s with heap := h' } := fun h' e hk he => by
  obtain ⟨q, hq, hc⟩ := he
  exact jX (wpAny_isInstance (T := "StopIteration") (b := true) ⟨q, hq, hc⟩ isSubtype_stop (jW (hQ _ hk)))
 refine jX (wpAny_attempt (wpAny_callSpecial?_slot (name := Str.ofString "__next__") hTy F.slot_zip_next (wpAny_call_entry F.slot_zip_next hTy F.entry_zip_next ?_ (F.args_zip_next_1 _))))
 show wpAny _ _ (field (.ref z) 2 >>= _) _ _ _
 refine jX (wpAny_field hZ rfl (x := .bool false) rfl ?_)
 show wpAny _ _ (field (.ref z) 3 >>= _) _ _ _
 refine jX (wpAny_field hZ rfl (x := .ref u) rfl (jX (wpAny_seqItems hU rfl ?_)))
 show wpAny _ _ (Builtin.SmallTypes.ownedTupleIsFree (.ref z) >>= _) _ _ _
 refine jX ?_
 unfold Builtin.SmallTypes.ownedTupleIsFree
 refine jX (wpAny_field hZ rfl (x := .none) rfl (jW ?_))
 simp only [if_true]
 refine jX (wpAny_rule (jX (wpAny_field hZ rfl (x := .ref o) rfl (jX (wpAny_setField_rec hZ (by simp) fun g1 hZ1 e1 => ?_)))))
 replace hZ1 : IsZip g1 z u o .ellipsis := hZ1
 refine jX ?_
 simp only [List.zipIdx_cons, List.zipIdx_nil, List.forIn_cons, List.forIn_nil]
 refine jX (jX (wpAny_onRaise ?_))
 show wpAny _ _ (Builtin.SmallTypes.nextOf (.ref i1) >>= _) _ _ _
 cases hx : xs[k1]? with
 | none =>
  refine jX (d1.done _ _ { s with heap := g1 } k1 xs _ hh (d1.keep _ _ _ h1 fun q e => e1.extBut _ _ D.i1z e) (d1.srck _ _ _ hl1 fun q e => e1.extBut _ _ D.l1z e) hx fun g2 e e2 he => ?_)
  obtain ⟨qe, ge, ce⟩ := he
  have hZ2 : IsZip g2 z u o .ellipsis := e2 _ _ D.i1z.symm hZ1
  have hez : e ≠ z := fun x => by subst x; rw [hZ2] at ge; cases ge; simp at ce
  refine wpAny_setField_rec hZ2 (by simp) fun g3 _ e3 => ?_
  exact fin g3 e (fun c q c1 _ c3 _ x => e3.extBut _ _ c1 (e2 _ _ c3 (e1.extBut _ _ c1 x))) ⟨qe, e3.extBut _ _ hez ge, ce⟩
 | some x =>
  have hy : ys[k2]? = none := hend.resolve_left fun h => by rw [hx] at h; cases h
  refine jX (d1.item _ _ { s with heap := g1 } k1 xs x _ (d1.keep _ _ _ h1 fun q e => e1.extBut _ _ D.i1z e) (d1.srck _ _ _ hl1 fun q e => e1.extBut _ _ D.l1z e) hx fun g2 h1' e2 => jW ?_)
  have hO2 : IsPair g2 o a b := e2.extBut _ _ D.TOi1 (e1.extBut _ _ D.TOz hO)
  refine jX (wpAny_seqItems hO2 rfl (jX (wpAny_updateSeq_pair hO2 fun g3 hO3 e3 => ?_)))
  refine jX (wpAny_letGo (jW ?_))
  refine jX (jX (wpAny_onRaise ?_))
  show wpAny _ _ (Builtin.SmallTypes.nextOf (.ref i2) >>= _) _ _ _
  refine jX (d2.done _ _ { s with heap := g3 } k2 ys _ hh (d2.keep _ _ _ h2 fun q e => e3.extBut _ _ D.TOi2.symm (e2.extBut _ _ D.i12.symm (e1.extBut _ _ D.i2z e)))
   (d2.srck _ _ _ hl2 fun q e => e3.extBut _ _ D.l2TO (e2.extBut _ _ D.l2i1 (e1.extBut _ _ D.l2z e))) hy fun g4 e e4 he => ?_)
  obtain ⟨qe, ge, ce⟩ := he
  have hZ4 : IsZip g4 z u o .ellipsis := e4 _ _ D.i2z.symm (e3.extBut _ _ D.TOz.symm (e2.extBut _ _ D.i1z.symm hZ1))
  have hez : e ≠ z := fun x => by subst x; rw [hZ4] at ge; cases ge; simp at ce
  refine wpAny_setField_rec hZ4 (by simp) fun g5 _ e5 => ?_
  exact fin g5 e (fun c q c1 c2 c3 c4 x => e5.extBut _ _ c1 (e4 _ _ c4 (e3.extBut _ _ c2 (e2.extBut _ _ c3 (e1.extBut _ _ c1 x))))) ⟨qe, e5.extBut _ _ hez ge, ce⟩
end
def itObj (n : String) (l : Addr) : Obj := { cls := .type n, data := .fields #[.ref l, .int 0 0] }
structure Itr0 (n : String) (l : Addr) (pr : Heap → Prop) : Prop where
 go : ∀ (P : Program) (w : World) (A : Around) (E : Value → Shared → Prop) (s : Shared) (Q : Value → Shared → Prop), pr s.heap → Q (.ref s.heap.objs.size) { s with heap := s.heap.push (itObj n l) } → wpAny (model P w) A (pyIter (.ref l)) Q E s
 push : ∀ h o, pr h → pr (h.push o)
theorem itr0_list (l : Addr) (xs : Array Value) : Itr0 "list_iterator" l (fun h => h.IsList l xs) := ⟨fun _ _ _ _ _ _ hl h => wpAny_pyIter_list hl h, fun _ _ hl => hl.push _⟩
theorem itr0_tup (l : Addr) (xs : Array Value) : Itr0 "tuple_iterator" l (fun h => h.IsTuple l xs) := ⟨fun _ _ _ _ _ _ hl h => wpAny_pyIter_tuple hl h, fun _ _ hl => hl.push _⟩
def zH1 (h : Heap) (n1 : String) (l1 : Addr) : Heap := h.push (itObj n1 l1)
def zH2 (h : Heap) (n1 n2 : String) (l1 l2 : Addr) : Heap := (zH1 h n1 l1).push (itObj n2 l2)
def zH3 (h : Heap) (n1 n2 : String) (l1 l2 : Addr) : Heap := (zH2 h n1 n2 l1 l2).push { cls := .type "tuple", data := .seq #[.ref h.objs.size, .ref (zH1 h n1 l1).objs.size] }
def zH4 (h : Heap) (n1 n2 : String) (l1 l2 : Addr) : Heap := (zH3 h n1 n2 l1 l2).push { cls := .type "tuple", data := .seq #[.none, .none] }
def zH5 (h : Heap) (n1 n2 : String) (l1 l2 : Addr) : Heap := (zH4 h n1 n2 l1 l2).push { cls := .type "zip", data := .fields #[.none, .bool false, .bool false, .ref (zH2 h n1 n2 l1 l2).objs.size, .ref (zH3 h n1 n2 l1 l2).objs.size] }
theorem meets_zip {n1 n2 : String} {l1 l2 : Addr} {p1 p2 : Heap → Prop} (I1 : Itr0 n1 l1 p1) (I2 : Itr0 n2 l2 p2) :
  Meets (Builtin.«zip.__new__» ⟨[.type "zip", .ref l1, .ref l2], []⟩) (fun _ R s => p1 s.heap ∧ p2 s.heap ∧ R (.ok (.ret (.ref (zH4 s.heap n1 n2 l1 l2).objs.size))) { s with heap := zH5 s.heap n1 n2 l1 l2 }) :=
 .of_wp fun prog w A R s h => by
  obtain ⟨hp, g, d, tk, os⟩ := s
  obtain ⟨q1, q2, h⟩ := h
  have hsub := sub_zip
  have f1 := fun (A : Around) (E : Value → Shared → Prop) (Q : Value → Shared → Prop) => I1.go prog w A E ⟨hp, g, d, tk, os⟩ Q q1
  have f2 := fun (A : Around) (E : Value → Shared → Prop) (Q : Value → Shared → Prop) => I2.go prog w A E ⟨hp.push (itObj n1 l1), g, d, tk, os⟩ Q (I2.push _ _ q2)
  wp_walk using f1 _ _ _, f2 _ _ _
  exact ⟨_, rfl, h⟩
def Sq (K : Fg) (m : Bool) (H : Hp) (a : Addr) (xs : List V) : Prop := if m = true then SqL K H a xs else SqT K H a xs
def itN (m : Bool) : String := if m = true then "list_iterator" else "tuple_iterator"
def itSt (m : Bool) (it l : Addr) (i : Nat) (h : Heap) : Prop := if m = true then h.IsListIter it l i else h.IsTupleIter it l i
def itSrc (m : Bool) (l : Addr) (xs : List Value) (h : Heap) : Prop := if m = true then h.IsList l xs.toArray else h.IsTuple l xs.toArray
theorem drw_of {P : Program} {w : World} (m : Bool) (it l : Addr) : Drw P w it l (itSt m it l) (itSrc m l) := by
 cases m
 ·exact drw_tup it l
 ·exact drw_list it l
theorem itr0_of (m : Bool) (l : Addr) (xs : List Value) : Itr0 (itN m) l (itSrc m l xs) := by
 cases m
 ·exact itr0_tup l xs.toArray
 ·exact itr0_list l xs.toArray
theorem itSt_new (m : Bool) {h : Heap} {it l : Addr} (e : h.get? it = some (itObj (itN m) l)) : itSt m it l 0 h := by
 cases m
 ·exact ⟨_, e, rfl, rfl⟩
 ·exact ⟨_, e, rfl, rfl⟩
section
variable {X : Cx} {pins : List (Addr × Obj)} {σ : St} {H : Hp} {s : Shared}
theorem Inv.sq {m : Bool} {a : Addr} {xs : List V} (I : Inv X pins σ H s) (h : Sq X.K m H a xs) : ∃ its : List Value, Vals xs its ∧ itSrc m a its s.heap ∧ xs.length ≤ sizeLine := by
 cases m
 ·obtain ⟨its, rv, p, hz⟩ := I.tuple h
  exact ⟨its, rv, p, by first | exact hz | lia⟩
 ·obtain ⟨its, rv, p, hz⟩ := I.list h
  exact ⟨its, rv, p.isList, by first | exact hz | lia⟩
theorem Inv.sq_inj {m : Bool} {a : Addr} {xs ys : List V} (I : Inv X pins σ H s) (h : Sq X.K m H a xs) (h' : Sq X.K m H a ys) : xs = ys := by
 cases m
 ·exact I.tuple_inj h h'
 ·exact I.list_inj h h'
theorem Inv.tupNew {xs : List V} {its : List Value} {h' : Heap} {ch : List Addr} {T : Addr} (I : Inv X pins σ H s) (hT : s.heap.objs.size ≤ T) (r : Vals xs its) (hz : xs.length ≤ sizeLine) (e : h'.get? T = some { cls := .type "tuple", data := .seq its.toArray })
  (hf : ∀ b ∈ ch, FpOk X pins H b) (k : ∀ b o, b ∉ ch → s.heap.get? b = some o → h'.get? b = some o) (th : ∀ b ∈ ch, ∃ o, h'.get? b = some o) : Inv X pins σ (upd H T (.tup xs)) { s with heap := h' } := by
 have hn : H T = none := I.hok.fresh hT
 have tr : ∀ b o, H b = some o → b ∉ ch := fun b o e z => by rw [(hf b z).1] at e; cases e
 refine I.step (g' := s.gens) (t' := s.toks) (d' := s.drawn) (ch := ch) (fun b hb => ⟨(hf b hb).2.2.2.1, (hf b hb).2.1, (hf b hb).2.2.2.2.1, (hf b hb).2.2.2.2.2⟩) (fun b o _ _ hc q _ => k b o hc q) (fun b o _ _ hc q _ => ⟨o.slots, k b o hc q⟩) (fun b o _ q n => ?_) (fun b o hc q => ⟨o, k b o hc q⟩)
  (fun b xs q => ?_) (fun b o u q => ?_) (fun b ps q => ⟨#[], ?_⟩) (fun m hm => ?_) (fun b ob q => ?_) I.bare
 ·rw [upd_ne (zJ (xX (kJ q) hT))]; exact n
 ·rw [upd_ne (ne_of_none q hn)]; exact q
 ·rw [upd_ne (ne_of_none q hn)]; exact q
 ·rw [upd_ne (ne_of_none q hn), Array.append_empty]; exact q
 ·obtain ⟨o, es, ep, q, d, r⟩ := hm
  exact ⟨o, es, ep, k _ o (fun z => (hf _ z).2.1 rfl) q, d, r⟩
 ·by_cases hb : b = T
  ·subst hb
   rw [upd_same] at q; cases q
   exact ⟨hz, its, r, _, e, rfl, _, rfl⟩
  ·rw [upd_ne hb] at q
   refine (I.hok b ob q).stay (fun c v hc r => k c v ?_ r) (fun c r => by rw [upd_ne (ne_of_none r hn)]; exact r) fun c xs r => by rw [upd_ne (ne_of_none r hn)]; exact r
   rcases hc with rfl | hc
   ·exact tr _ _ q
   ·exact tr _ _ hc
end
def Itz (K : Fg) (m1 m2 : Bool) (a b : Addr) : It :=
  ⟨fun i H => ∃ xs ys x y, Sq K m1 H a xs ∧ Sq K m2 H b ys ∧ xs[i]? = some x ∧ ys[i]? = some y,
   fun i H v H' => ∃ T x y, v = .ref T ∧ H T = none ∧ H' = upd H T (.tup [x, y]) ∧ (∀ xs, Sq K m1 H a xs → xs[i]? = some x) ∧ ∀ ys, Sq K m2 H b ys → ys[i]? = some y,
   fun i H => ∃ xs ys, Sq K m1 H a xs ∧ Sq K m2 H b ys ∧ (xs.length ≤ i ∨ ys.length ≤ i)⟩
def zTn (m1 m2 : Bool) (z u o i1 i2 a b : Addr) (i : Nat) (h : Heap) : Prop := IsZip h z u o .none ∧ IsPair h u (.ref i1) (.ref i2) ∧ (∃ p q, IsPair h o p q) ∧ itSt m1 i1 a i h ∧ itSt m2 i2 b i h
theorem turn_zip {P : Program} {w : World} {K : Fg} {es : List Expr} {kk : Nat} {tp : Pos} {m1 m2 : Bool} {z u o i1 i2 a b : Addr} (D : ZipApart z u o i1 i2 a b) :
  Turn P w K (.Tuple es kk tp) (Itz K m1 m2 a b) [z, u, o, i1, i2] z (zTn m1 m2 z u o i1 i2 a b) where
 mem := by simp
 obj := fun i h st c hc => by
  obtain ⟨h1, h2, ⟨p, q, h3⟩, h4, h5⟩ := st
  simp only [zX, wQ, or_false] at hc
  rcases hc with rfl | rfl | rfl | rfl | rfl
  ·exact ⟨_, h1, fun v z => by cases z⟩
  ·exact ⟨_, h2, fun v z => by cases z⟩
  ·exact ⟨_, h3, fun v z => by cases z⟩
  ·exact (drw_of (P := P) (w := w) m1 c a).obj i h h4
  ·exact (drw_of (P := P) (w := w) m2 c b).obj i h h5
 keep := fun i h h' st k => by
  obtain ⟨h1, h2, ⟨p, q, h3⟩, h4, h5⟩ := st
  exact ⟨k z (by simp) _ h1, k u (by simp) _ h2, ⟨p, q, k o (by simp) _ h3⟩, (drw_of (P := P) (w := w) m1 i1 a).keep i h h' h4 (k i1 (by simp)), (drw_of (P := P) (w := w) m2 i2 b).keep i h h' h5 (k i2 (by simp))⟩
 item := by
  intro X hP hw hK hc i pins s σ H E I hf st hg
  subst hP hw hK
  obtain ⟨xs, ys, x, y, q1, q2, hx, hy⟩ := hg
  obtain ⟨is1, r1, p1, z1⟩ := I.sq q1
  obtain ⟨is2, r2, p2, z2⟩ := I.sq q2
  obtain ⟨v1, e1, rv1⟩ := r1.get hx
  obtain ⟨v2, e2, rv2⟩ := r2.get hy
  obtain ⟨hZ, hU, ⟨p, q, hO⟩, s1, s2⟩ := st
  refine zipNext_item (drw_of m1 i1 a) (drw_of m2 i2 b) D hZ hU hO s1 s2 p1 p2 e1 e2 fun h' a1 a2 a3 a4 a5 a6 a7 => ⟨_, rfl, ?_⟩
  have hf' : ∀ c ∈ [z, o, i1, i2], FpOk X pins H c := fun c hc => hf c (by simp only [zX, wQ, or_false] at hc ⊢; rcases hc with rfl | rfl | rfl | rfl <;> simp)
  have I1 : Inv X pins σ (upd H s.heap.objs.size (.tup [x, y])) { s with heap := h' } := I.tupNew (ch := [z, o, i1, i2]) (jJ _) (.cons rv1 (.cons rv2 .nil)) (by show 2 ≤ sizeLine; decide) a5 hf'
   (fun c q hc e => by simp only [zX, wQ, or_false, not_or] at hc; exact a7 c q hc.1 hc.2.1 hc.2.2.1 hc.2.2.2 e)
   (fun c hc => by
    simp only [zX, wQ, or_false] at hc
    rcases hc with rfl | rfl | rfl | rfl
    ·exact ⟨_, a1⟩
    ·exact ⟨_, a2⟩
    ·obtain ⟨q, e, _⟩ := (drw_of (P := X.prog) (w := X.w) m1 c a).obj _ _ a3; exact ⟨q, e⟩
    ·obtain ⟨q, e, _⟩ := (drw_of (P := X.prog) (w := X.w) m2 c b).obj _ _ a4; exact ⟨q, e⟩)
  refine wpAny_letOwnedTupleGo_zip (s := { s with heap := h' }) a1 fun h2 g1 g2 => ?_
  obtain ⟨f0, f1, f2, f3, f4, f5⟩ := hf z (by simp)
  have ltz : z < s.heap.objs.size := kJ hZ
  have I2 : Inv X pins σ (upd H s.heap.objs.size (.tup [x, y])) { s with heap := h2 } := I1.turned (h' := h2) (t' := s.toks) (fun c q hc e => g2.extBut c q hc e) (by rw [upd_ne (zJ ltz)]; exact f0) f1 f3 f4 f5
  have hU' : IsPair h' u (.ref i1) (.ref i2) := a7 u _ D.TIz D.TITO D.TIi1 D.TIi2 hU
  refine ⟨.ref s.heap.objs.size, _, I2, rfl, ⟨_, x, y, rfl, I.hok.fresh (jJ _), rfl, fun xs' hq => by rw [I.sq_inj hq q1]; exact hx, fun ys' hq => by rw [I.sq_inj hq q2]; exact hy⟩, ?_, fun c hc => ?_⟩
  ·exact ⟨g1, g2.extBut _ _ D.TIz hU', ⟨_, _, g2.extBut _ _ D.TOz a2⟩, (drw_of (P := X.prog) (w := X.w) m1 i1 a).keep _ _ _ a3 fun q e => g2.extBut _ _ D.i1z e, (drw_of (P := X.prog) (w := X.w) m2 i2 b).keep _ _ _ a4 fun q e => g2.extBut _ _ D.i2z e⟩
  ·have hlt : c ≠ s.heap.objs.size := by
    have st' : zTn m1 m2 z u o i1 i2 a b i s.heap := ⟨hZ, hU, ⟨p, q, hO⟩, s1, s2⟩
    simp only [zX, wQ, or_false] at hc
    rcases hc with rfl | rfl | rfl | rfl | rfl
    ·exact zJ ltz
    ·exact zJ (kJ hU)
    ·exact zJ (kJ hO)
    ·obtain ⟨q, e, _⟩ := (drw_of (P := X.prog) (w := X.w) m1 c a).obj _ _ s1; exact zJ (kJ e)
    ·obtain ⟨q, e, _⟩ := (drw_of (P := X.prog) (w := X.w) m2 c b).obj _ _ s2; exact zJ (kJ e)
   rw [upd_ne hlt]
   exact (hf c hc).1
 done := by
  intro X hP hw hK hc i pins s σ H E I hf st hg
  subst hP hw hK
  obtain ⟨xs, ys, q1, q2, hx⟩ := hg
  obtain ⟨is1, r1, p1, z1⟩ := I.sq q1
  obtain ⟨is2, r2, p2, z2⟩ := I.sq q2
  obtain ⟨hZ, hU, ⟨p, q, hO⟩, s1, s2⟩ := st
  have l1 := r1.length
  have l2 := r2.length
  refine zipNext_end (I.ok.hd hc) (drw_of m1 i1 a) (drw_of m2 i2 b) D hZ hU hO s1 s2 p1 p2 (by
   rcases hx with h | h
   ·exact .inl (jQb.mpr (by lia))
   ·exact .inr (jQb.mpr (by lia))) fun h' k => ⟨rfl, ?_⟩
  have hf' : ∀ c ∈ [z, o, i1, i2], FpOk X pins H c := fun c hc => hf c (by simp only [zX, wQ, or_false] at hc ⊢; rcases hc with rfl | rfl | rfl | rfl <;> simp)
  have tr : ∀ c q, H c = some q → c ∉ [z, o, i1, i2] := fun c q e y => by rw [(hf' c y).1] at e; cases e
  have kk : ∀ c q, c ∉ [z, o, i1, i2] → s.heap.get? c = some q → h'.get? c = some q := fun c q hc e => by
   simp only [zX, wQ, or_false, not_or] at hc
   exact k c q hc.1 hc.2.1 hc.2.2.1 hc.2.2.2 e
  refine I.step (g' := s.gens) (t' := s.toks) (d' := s.drawn) (ch := [z, o, i1, i2]) (fun b hb => ⟨(hf' b hb).2.2.2.1, (hf' b hb).2.1, (hf' b hb).2.2.2.2.1, (hf' b hb).2.2.2.2.2⟩) (fun b o _ _ hc q _ => kk b o hc q) (fun b o _ _ hc q _ => ⟨o.slots, kk b o hc q⟩) (fun b o _ q n => n) (fun b o hc q => ⟨o, kk b o hc q⟩)
   (fun b xs q => q) (fun b o u q => q) (fun b ps q => ⟨#[], by rw [Array.append_empty]; exact q⟩) (fun m hm => ?_) (fun b ob q => ?_) I.bare
  ·obtain ⟨o, es, ep, q, d, r⟩ := hm
   exact ⟨o, es, ep, kk _ o (fun z => (hf' _ z).2.1 rfl) q, d, r⟩
  ·refine (I.hok b ob q).stay (fun c v hc r => kk c v ?_ r) (fun c r => r) fun c xs r => r
   rcases hc with rfl | hc
   ·exact tr _ _ q
   ·exact tr _ _ hc
 self := fun _ _ _ _ _ st h => wpAny_pyIter_zip st.1 h
section
variable {X : Cx}
inductive IiZip (K : Fg) (m1 : Bool) (m2 : Bool) (R : (It → Hp → Prop)) (vs : List V) (H1 : Hp) : Prop
 | mk (a : _) (b : _) (h1 : vs = [.ref a, .ref b]) (h2 : (∃ xs, Sq K m1 H1 a xs)) (h3 : (∃ ys, Sq K m2 H1 b ys)) (h4 : R (Itz K m1 m2 a b) H1)
def iZip (K : Fg) (m1 m2 : Bool) (ta : TA) : TI := fun σ H R => ta σ H fun vs H1 => IiZip K m1 m2 R vs H1
theorem call_zipM {P : Program} {w : World} {A : Around} {E : Value → Shared → Prop} {s : Shared} {m1 m2 : Bool} {a b : Addr} {xs ys : List Value} {Q : Value → Shared → Prop} (h1 : itSrc m1 a xs s.heap) (h2 : itSrc m2 b ys s.heap)
  (h : ∀ h', IsZip h' (s.heap.objs.size + 4) (s.heap.objs.size + 2) (s.heap.objs.size + 3) .none → IsPair h' (s.heap.objs.size + 2) (.ref s.heap.objs.size) (.ref (s.heap.objs.size + 1)) → IsPair h' (s.heap.objs.size + 3) .none .none →
   itSt m1 s.heap.objs.size a 0 h' → itSt m2 (s.heap.objs.size + 1) b 0 h' → (∀ c o, s.heap.get? c = some o → h'.get? c = some o) → Q (.ref (s.heap.objs.size + 4)) { s with heap := h' }) :
  wpAny (model P w) A (call (.type "zip") [.ref a, .ref b]) Q E s := by
 refine callType_new F.called_zip (by decide) (F.typeCall_zip_2 _ _) (F.newCall_zip_2 _ _) (fun obj => F.args_object_init_3 obj _ _) F.entry_zip_new (meets_zip (itr0_of m1 a xs) (itr0_of m2 b ys)) ⟨h1, h2, ?_⟩
 have z1 : (zH1 s.heap (itN m1) a).objs.size = s.heap.objs.size + 1 := jJa ..
 have z2 : (zH2 s.heap (itN m1) (itN m2) a b).objs.size = s.heap.objs.size + 2 := by unfold zH2; rw [jJa, z1]
 have z3 : (zH3 s.heap (itN m1) (itN m2) a b).objs.size = s.heap.objs.size + 3 := by unfold zH3; rw [jJa, z2]
 have z4 : (zH4 s.heap (itN m1) (itN m2) a b).objs.size = s.heap.objs.size + 4 := by unfold zH4; rw [jJa, z3]
 have g5 : (zH5 s.heap (itN m1) (itN m2) a b).get? (zH4 s.heap (itN m1) (itN m2) a b).objs.size = some { cls := .type "zip", data := .fields #[.none, .bool false, .bool false, .ref (zH2 s.heap (itN m1) (itN m2) a b).objs.size, .ref (zH3 s.heap (itN m1) (itN m2) a b).objs.size] } := yZ _ rfl
 have up4 : ∀ c o, (zH4 s.heap (itN m1) (itN m2) a b).get? c = some o → (zH5 s.heap (itN m1) (itN m2) a b).get? c = some o := fun c o e => jZ _ e
 have up3 : ∀ c o, (zH3 s.heap (itN m1) (itN m2) a b).get? c = some o → (zH5 s.heap (itN m1) (itN m2) a b).get? c = some o := fun c o e => up4 c o (jZ _ e)
 have up2 : ∀ c o, (zH2 s.heap (itN m1) (itN m2) a b).get? c = some o → (zH5 s.heap (itN m1) (itN m2) a b).get? c = some o := fun c o e => up3 c o (jZ _ e)
 have up1 : ∀ c o, (zH1 s.heap (itN m1) a).get? c = some o → (zH5 s.heap (itN m1) (itN m2) a b).get? c = some o := fun c o e => up2 c o (jZ _ e)
 have g4 : (zH5 s.heap (itN m1) (itN m2) a b).get? (zH3 s.heap (itN m1) (itN m2) a b).objs.size = some { cls := .type "tuple", data := .seq #[.none, .none] } := up4 _ _ (yZ _ rfl)
 have g3 : (zH5 s.heap (itN m1) (itN m2) a b).get? (zH2 s.heap (itN m1) (itN m2) a b).objs.size = some { cls := .type "tuple", data := .seq #[.ref s.heap.objs.size, .ref (zH1 s.heap (itN m1) a).objs.size] } := up3 _ _ (yZ _ rfl)
 have g2 : (zH5 s.heap (itN m1) (itN m2) a b).get? (zH1 s.heap (itN m1) a).objs.size = some (itObj (itN m2) b) := up2 _ _ (yZ _ rfl)
 have g1 : (zH5 s.heap (itN m1) (itN m2) a b).get? s.heap.objs.size = some (itObj (itN m1) a) := up1 _ _ (yZ _ rfl)
 show _ ∧ _
 rw [z2, z3, z4] at g5
 rw [z1, z2] at g3
 rw [z3] at g4
 rw [z1] at g2
 rw [z4]
 exact ⟨⟨_, g5, rfl⟩, h _ g5 g3 g4 (itSt_new m1 g1) (itSt_new m2 g2) fun c o x => up1 c o (jZ _ x)⟩
theorem zipApartN {n l1 l2 : Addr} (h1 : l1 < n) (h2 : l2 < n) : ZipApart (n + 4) (n + 2) (n + 3) n (n + 1) l1 l2 := by
 have h1' : @LT.lt Nat _ l1 n := h1
 have h2' : @LT.lt Nat _ l2 n := h2
 constructor <;> (show @Ne Nat _ _) <;> lia
theorem itSrc_lt {m : Bool} {a : Addr} {xs : List Value} {h : Heap} (e : itSrc m a xs h) : a < h.objs.size := by
 cases m
 ·obtain ⟨o, e, _⟩ := e; exact kJ e
 ·obtain ⟨o, e, _⟩ := e; exact kJ e
theorem pi_zip {a b : Expr} {ta : TA} {p pos tp : Pos} {es : List Expr} {kk : Nat} (m1 m2 : Bool) (hg : Gl X "zip") (hm : X.mg "zip" = none) (ha : PA X [a, b] ta) (hs : autoParam (starEach [a, b] X.env = [(false, eval a X.env), (false, eval b X.env)]) L2.aRfl._auto_1) (hs2 : autoParam (starEach [b] X.env = [(false, eval b X.env)]) L2.aRfl._auto_1) :
  PI X (.Tuple es kk tp) (.Call (.Name "zip" p) [a, b] [] pos) (iZip X.K m1 m2 ta) := by
 intro pins s σ H R I h
 refine Call_ (ld_blt I hg hm (u := .type "zip") (by rfl) (PyProof.Rows.callWith_type1 (thn (ha pos pins s σ H _ I h) fun us s1 hqP => ?_) (by rw [hs, hs2]) (by rw [hs2]; rfl)))
 obtain ⟨vs, H1, I1, r1, q1⟩ := hqP
 obtain ⟨l1, l2, e, ⟨xs, q1⟩, ⟨ys, q2⟩, q⟩ := q1
 subst e
 obtain ⟨u1, u2, rfl, e1, e2⟩ := r1.two
 cases e1
 cases e2
 obtain ⟨is1, r1, p1, z1⟩ := I1.sq q1
 obtain ⟨is2, r2, p2, z2⟩ := I1.sq q2
 refine call_zipM p1 p2 fun h' a1 a2 a3 a4 a5 a6 => ?_
 have I2 : Inv X pins σ H1 { s1 with heap := h' } := I1.kept (t' := s1.toks) a6
 refine wpAny_pyIter_zip (s := { s1 with heap := h' }) a1 ⟨_, [s1.heap.objs.size + 4, s1.heap.objs.size + 2, s1.heap.objs.size + 3, s1.heap.objs.size, s1.heap.objs.size + 1], _, _, H1, rfl, I2, turn_zip (zipApartN (itSrc_lt p1) (itSrc_lt p2)), ⟨a1, a2, ⟨_, _, a3⟩, a4, a5⟩, fun c hc => ?_, q⟩
 have hle : s1.heap.objs.size ≤ c := by
  simp only [zX, wQ, or_false] at hc
  rcases hc with rfl | rfl | rfl | rfl | rfl
  ·exact jJb _ _
  ·exact jJb _ _
  ·exact jJb _ _
  ·exact jJ _
  ·exact jJb _ _
 exact I1.fpOk hle (I1.hok.fresh hle)
end
section
variable {X : Cx}
inductive Ccall_sumI (KX : Fg) (xs : List V) (H : Hp) (Q : VK) : Prop
 | mk (a : Addr) (ns : List Int) (h1 : xs = [.ref a]) (h2 : SqL KX H a (ns.map V.int)) (h3 : Q (.int ns.sum) H)
theorem call_sumI (hc : X.calm = true) : CallR X (.builtin "sum") (fun xs H Q => Ccall_sumI X.K xs H Q) := by
 intro pins s σ H xs us Q I rv h
 obtain ⟨a, ns, rfl, hq, q⟩ := h
 obtain ⟨u, rfl, ru⟩ := rv.one
 cases ru
 obtain ⟨its, r, p, hz⟩ := I.list hq
 have hi : IntsAre its.toArray.toList ns := intsAre_of r
 have hall : AllInts its.toArray := hi.allInts
 obtain ⟨xs, hx⟩ := hall.items
 have hl' : s.heap.IsList a (intItems xs) := hx ▸ p.isList
 refine sum_intListG (I.ok.hd hc) hl' fun h' tk t' hk => ?_
 have e1 : ns = xs.toList.map (·.1) := by
  rw [← nums_intItems, ← hx]
  exact (show numsOf its.toArray.toList = ns from hi.numsOf).symm
 have e2 : preSum (numAt xs) xs.size = ns.sum := by
  rw [preSum_eq, xQ (by simp), e1]
 rw [e2]
 exact ⟨.int ns.sum, H, I.kept hk, ⟨_, rfl⟩, q⟩
theorem boolsAt {bs : List Bool} {its : List Value} (r : Vals (bs.map V.bl) its) {i : Nat} {v : Value} (h : its[i]? = some v) : ∃ b, bs[i]? = some b ∧ v = .bool b := by
 have hl := r.length
 obtain ⟨hi, _⟩ := yQ.mp h
 rw [jQ] at hl
 have hb : bs[i]? = some bs[i] := gE (by lia)
 obtain ⟨u, h1, h2⟩ := r.get (i := i) (x := .bl bs[i]) (by rw [jK, hb]; rfl)
 rw [h] at h1; cases h1
 exact ⟨_, hb, h2⟩
theorem rangeAll (bs : List Bool) : ((List.range bs.length).all fun i => (bs[i]?).getD true) = bs.all id := by
 rw [wY]
 simp only [xV, wX, id]
 constructor
 ·intro h b hb
  obtain ⟨i, hi, e⟩ := jZf hb
  have := h i hi
  rw [gE hi] at this
  simpa [e] using this
 ·intro h i hi
  rw [gE hi]
  exact h _ (wZ hi)
theorem rangeAny (bs : List Bool) : ((List.range bs.length).any fun i => (bs[i]?).getD false) = bs.any id := by
 rw [wY]
 simp only [List.any_eq_true, wX, id]
 constructor
 ·rintro ⟨i, hi, h⟩
  rw [gE hi] at h
  exact ⟨_, wZ hi, h⟩
 ·rintro ⟨b, hb, h⟩
  obtain ⟨i, hi, e⟩ := jZf hb
  exact ⟨i, hi, by rw [gE hi]; simpa [e] using h⟩
theorem keptNew {h h' : Heap} {o : Obj} (hk : ∀ b x, b ∉ [h.objs.size] → (h.push o).get? b = some x → h'.get? b = some x) : ∀ b x, h.get? b = some x → h'.get? b = some x := fun b x e =>
 hk b x (fun hm => by rw [yK.mp hm] at e; exact jYb _ (kJ e)) (jZ _ e)
inductive Ccall_allB (KX : Fg) (xs : List V) (H : Hp) (Q : VK) : Prop
 | mk (a : Addr) (bs : List Bool) (h1 : xs = [.ref a]) (h2 : SqL KX H a (bs.map V.bl)) (h3 : Q (.bl (bs.all id)) H)
theorem call_allB (hc : X.calm = true) : CallR X (.builtin "all") (fun xs H Q => Ccall_allB X.K xs H Q) := by
 intro pins s σ H xs us Q I rv h
 obtain ⟨a, bs, rfl, hq, q⟩ := h
 obtain ⟨u, rfl, ru⟩ := rv.one
 cases ru
 obtain ⟨its, r, p, hz⟩ := I.list hq
 have hlt : a < s.heap.objs.size := by obtain ⟨_, e, _⟩ := p.isList; exact kJ e
 have hl := r.length
 rw [jQ] at hl
 refine call_all_walk (wpAny_pyIter_list p.isList ?_)
 refine ⟨s.heap.objs.size, [s.heap.objs.size, a], [s.heap.objs.size], its.toArray.size, _, _, fun i => (bs[i]?).getD true, rfl, Walks.list (A := X.A.in1) (I.ok.hd hc) _ a (zJ hlt) its.toArray, ⟨⟨_, yZ _ rfl, rfl, rfl⟩, p.isList.push _⟩, fun i v s' Q' E' hP hQ => ?_, fun h' tk hk => ?_⟩
 ·obtain ⟨b, e, rfl⟩ := boolsAt r (by simpa using hP)
  simp only [e, Option.getD_some] at hQ
  exact wpAny_truthy_bool hQ
 ·rw [jV, ← hl, rangeAll]
  exact ⟨.bl (bs.all id), H, I.kept (keptNew hk), rfl, q⟩
inductive Ccall_anyB (KX : Fg) (xs : List V) (H : Hp) (Q : VK) : Prop
 | mk (a : Addr) (bs : List Bool) (h1 : xs = [.ref a]) (h2 : SqL KX H a (bs.map V.bl)) (h3 : Q (.bl (bs.any id)) H)
theorem call_anyB (hc : X.calm = true) : CallR X (.builtin "any") (fun xs H Q => Ccall_anyB X.K xs H Q) := by
 intro pins s σ H xs us Q I rv h
 obtain ⟨a, bs, rfl, hq, q⟩ := h
 obtain ⟨u, rfl, ru⟩ := rv.one
 cases ru
 obtain ⟨its, r, p, hz⟩ := I.list hq
 have hlt : a < s.heap.objs.size := by obtain ⟨_, e, _⟩ := p.isList; exact kJ e
 have hl := r.length
 rw [jQ] at hl
 refine call_any_walk (wpAny_pyIter_list p.isList ?_)
 refine ⟨s.heap.objs.size, [s.heap.objs.size, a], [s.heap.objs.size], its.toArray.size, _, _, fun i => (bs[i]?).getD false, rfl, Walks.list (A := X.A.in1) (I.ok.hd hc) _ a (zJ hlt) its.toArray, ⟨⟨_, yZ _ rfl, rfl, rfl⟩, p.isList.push _⟩, fun i v s' Q' E' hP hQ => ?_, fun h' tk hk => ?_⟩
 ·obtain ⟨b, e, rfl⟩ := boolsAt r (by simpa using hP)
  simp only [e, Option.getD_some] at hQ
  exact wpAny_truthy_bool hQ
 ·rw [jV, ← hl, rangeAny]
  exact ⟨.bl (bs.any id), H, I.kept (keptNew hk), rfl, q⟩
end
inductive D where
 | non | bl (b : Bool) | int (i : Int) | tup (xs : List D) | lst (xs : List D)
inductive HasD (K : Fg) (H : Hp) : V → D → Prop
 | non : HasD K H .non .non
 | bl (b) : HasD K H (.bl b) (.bl b)
 | int (i) : HasD K H (.int i) (.int i)
 | tup {a vs xs} : SqT K H a vs → vs.length = xs.length → (∀ (i : Nat) v x, vs[i]? = some v → xs[i]? = some x → HasD K H v x) → HasD K H (.ref a) (.tup xs)
 | lst {a vs xs} : SqL K H a vs → vs.length = xs.length → (∀ (i : Nat) v x, vs[i]? = some v → xs[i]? = some x → HasD K H v x) → HasD K H (.ref a) (.lst xs)
inductive Alike : Nat → D → D → Prop
 | non {n} : Alike n .non .non
 | bl {n} (a b) : Alike n (.bl a) (.bl b)
 | int {n} (a b) : Alike n (.int a) (.int b)
 | tup {n xs ys} : (∀ (i : Nat) x y, xs[i]? = some x → ys[i]? = some y → Alike n x y) → Alike (n + 1) (.tup xs) (.tup ys)
 | lst {n xs ys} : (∀ (i : Nat) x y, xs[i]? = some x → ys[i]? = some y → Alike n x y) → Alike (n + 1) (.lst xs) (.lst ys)
section
variable {X : Cx} {pins : List (Addr × Obj)} {σ : St} {H : Hp} {s : Shared}
theorem ext_all {α : Type} {xs ys : List α} (hl : xs.length = ys.length) (h : ∀ (i : Nat) x y, xs[i]? = some x → ys[i]? = some y → x = y) : xs = ys := by
 refine kQc fun i => ?_
 by_cases hi : i < xs.length
 ·rw [gE hi, gE (by lia : i < ys.length)]
  exact congrArg some (h i _ _ (gE hi) (gE (by lia)))
 ·rw [jZa (by lia), jZa (by lia)]
theorem Inv.noTL {a : Addr} {xs ys : List V} (I : Inv X pins σ H s) (h : SqT X.K H a xs) (h' : SqL X.K H a ys) : False := by
 obtain ⟨_, _, ⟨o, e, c, _⟩, _⟩ := I.tuple h
 obtain ⟨_, _, p, _⟩ := I.list h'
 obtain ⟨o', e', c', _⟩ := p.isList
 rw [e] at e'; cases e'
 rw [c] at c'
 injection c' with z
 exact absurd z (by decide)
theorem hasD_inj (I : Inv X pins σ H s) {x : V} {d : D} (h : HasD X.K H x d) : ∀ e, HasD X.K H x e → d = e := by
 induction h with
 | non => intro e h; cases h; rfl
 | bl b => intro e h; cases h; rfl
 | int i => intro e h; cases h; rfl
 | tup hq hl hs ih =>
  intro e h
  cases h with
  | tup hq' hl' hs' =>
   obtain rfl := I.tuple_inj hq hq'
   refine congrArg D.tup (ext_all (hl.symm.trans hl') fun i x y ex ey => ?_)
   have hi : i < _ := (yQ.mp ex).1
   rw [← hl] at hi
   exact ih i _ x (gE hi) ex y (hs' i _ y (gE hi) ey)
  | lst hq' hl' hs' => exact (I.noTL hq hq').elim
 | lst hq hl hs ih =>
  intro e h
  cases h with
  | lst hq' hl' hs' =>
   obtain rfl := I.list_inj hq hq'
   refine congrArg D.lst (ext_all (hl.symm.trans hl') fun i x y ex ey => ?_)
   have hi : i < _ := (yQ.mp ex).1
   rw [← hl] at hi
   exact ih i _ x (gE hi) ex y (hs' i _ y (gE hi) ey)
  | tup hq' hl' hs' => exact (I.noTL hq' hq).elim
theorem allRange {n : Nat} {e : Nat → Bool} : (List.range n).all e = true ↔ ∀ i, i < n → e i = true := by simp [xV]
open PySem.SeqAt Classical in
theorem eqAt_D {n : Nat} {d e : D} (h : Alike n d e) : ∀ {A : Around} {x y : V} {u v : Value}, A.units + n < cLine → Inv X pins σ H s → RelV x u → RelV y v → HasD X.K H x d → HasD X.K H y e →
  ∃ b : Bool, (b = true ↔ d = e) ∧ EqAt A s u v b ∧ (∀ a c, u = .ref a → v = .ref c → RcAt A s u v b ∧ RcNeAt A s u v (!b)) := by
 induction h with
 | non =>
  intro A x y u v hu I ru rv hd he
  cases hd
  cases he
  cases ru
  cases rv
  exact ⟨true, by simp, EqAt.same _, fun a c e _ => nomatch e⟩
 | bl a b =>
  intro A x y u v hu I ru rv hd he
  cases hd
  cases he
  cases ru
  cases rv
  exact ⟨a == b, by simp, EqAt.bool_bool a b, fun a c e _ => nomatch e⟩
 | int a b =>
  intro A x y u v hu I ru rv hd he
  cases hd
  cases he
  obtain ⟨t, rfl⟩ := ru
  obtain ⟨t', rfl⟩ := rv
  exact ⟨a == b, by simp, EqAt.int_int a t b t', fun a c e _ => nomatch e⟩
 | @tup m xs ys hs ih =>
  intro A x y u v hu I ru rv hd he
  have hd' := hd
  have he' := he
  cases hd with
  | @tup p vs _ hq hl hv =>
  cases he with
  | @tup q ws _ hq' hl' hv' =>
  cases ru
  cases rv
  obtain ⟨its, r, pt, _⟩ := I.tuple hq
  obtain ⟨its', r', pt', _⟩ := I.tuple hq'
  have l1 := r.length
  have l2 := r'.length
  have key : ∀ j (h1 : j < its.toArray.size) (h2 : j < its'.toArray.size), EqAt A.in1 s its.toArray[j] its'.toArray[j] (decide (xs[j]? = ys[j]?)) := fun j h1 h2 => by
   rw [jV] at h1 h2
   have j1 : j < vs.length := by lia
   have j2 : j < ws.length := by lia
   have j3 : j < xs.length := by lia
   have j4 : j < ys.length := by lia
   obtain ⟨u1, e1, ru1⟩ := r.get (gE j1)
   obtain ⟨u2, e2, ru2⟩ := r'.get (gE j2)
   obtain ⟨b, hb, eq, _⟩ := ih j _ _ (gE j3) (gE j4) (A := A.in1) (by show A.units + 1 + m < cLine; lia) I ru1 ru2 (hv j _ _ (gE j1) (gE j3)) (hv' j _ _ (gE j2) (gE j4))
   have z1 : its.toArray[j] = u1 := by rw [gE (by lia)] at e1; simpa using e1
   have z2 : its'.toArray[j] = u2 := by rw [gE (by lia)] at e2; simpa using e2
   rw [z1, z2]
   have : (decide (xs[j]? = ys[j]?)) = b := by
    rw [wY, decide_eq_true_iff, hb, gE j3, gE j4]
    exact ⟨fun z => Option.some.inj z, fun z => congrArg some z⟩
   rw [this]
   exact eq
  have hb : ((List.range (min its.toArray.size its'.toArray.size)).all (fun j => decide (xs[j]? = ys[j]?)) && its.toArray.size == its'.toArray.size) = true ↔ D.tup xs = D.tup ys := by
   rw [xK, allRange, jV, jV, beq_iff_eq]
   constructor
   ·rintro ⟨z1, z2⟩
    refine congrArg D.tup (ext_all (by lia) fun i x y ex ey => ?_)
    have hi := (yQ.mp ex).1
    have := yV (z1 i (by lia))
    rw [ex, ey] at this
    exact Option.some.inj this
   ·intro z
    injection z with z
    subst z
    exact ⟨fun i _ => kY rfl, by lia⟩
  refine ⟨_, hb, ?_, fun a c _ _ => ⟨RcAt.tuples pt pt' (by lia) key, RcNeAt.tuples pt pt' (by lia) key⟩⟩
  by_cases hpq : p = q
  ·subst hpq
   rw [hb.mpr (hasD_inj I hd' _ he')]
   exact EqAt.same _
  ·exact EqAt.of_refs hpq (RcAt.tuples pt pt' (by lia) key)
 | @lst m xs ys hs ih =>
  intro A x y u v hu I ru rv hd he
  have hd' := hd
  have he' := he
  cases hd with
  | @lst p vs _ hq hl hv =>
  cases he with
  | @lst q ws _ hq' hl' hv' =>
  cases ru
  cases rv
  obtain ⟨its, r, pt, _⟩ := I.list hq
  obtain ⟨its', r', pt', _⟩ := I.list hq'
  have l1 := r.length
  have l2 := r'.length
  have key : ∀ j (h1 : j < its.toArray.size) (h2 : j < its'.toArray.size), EqAt A.in1 s its.toArray[j] its'.toArray[j] (decide (xs[j]? = ys[j]?)) := fun j h1 h2 => by
   rw [jV] at h1 h2
   have j1 : j < vs.length := by lia
   have j2 : j < ws.length := by lia
   have j3 : j < xs.length := by lia
   have j4 : j < ys.length := by lia
   obtain ⟨u1, e1, ru1⟩ := r.get (gE j1)
   obtain ⟨u2, e2, ru2⟩ := r'.get (gE j2)
   obtain ⟨b, hb, eq, _⟩ := ih j _ _ (gE j3) (gE j4) (A := A.in1) (by show A.units + 1 + m < cLine; lia) I ru1 ru2 (hv j _ _ (gE j1) (gE j3)) (hv' j _ _ (gE j2) (gE j4))
   have z1 : its.toArray[j] = u1 := by rw [gE (by lia)] at e1; simpa using e1
   have z2 : its'.toArray[j] = u2 := by rw [gE (by lia)] at e2; simpa using e2
   rw [z1, z2]
   have : (decide (xs[j]? = ys[j]?)) = b := by
    rw [wY, decide_eq_true_iff, hb, gE j3, gE j4]
    exact ⟨fun z => Option.some.inj z, fun z => congrArg some z⟩
   rw [this]
   exact eq
  by_cases hsz : its.toArray.size = its'.toArray.size
  ·have hb : ((List.range its.toArray.size).all (fun j => decide (xs[j]? = ys[j]?))) = true ↔ D.lst xs = D.lst ys := by
    rw [jV, jV] at hsz
    rw [allRange, jV]
    constructor
    ·intro z1
     refine congrArg D.lst (ext_all (by lia) fun i x y ex ey => ?_)
     have hi := (yQ.mp ex).1
     have := yV (z1 i (by lia))
     rw [ex, ey] at this
     exact Option.some.inj this
    ·intro z
     injection z with z
     subst z
     exact fun i _ => kY rfl
   refine ⟨_, hb, ?_, fun a c _ _ => ⟨RcAt.lists pt.isList pt'.isList hsz (by lia) key, RcNeAt.lists pt.isList pt'.isList hsz (by lia) key⟩⟩
   by_cases hpq : p = q
   ·subst hpq
    rw [hb.mpr (hasD_inj I hd' _ he')]
    exact EqAt.same _
   ·exact EqAt.of_refs hpq (RcAt.lists pt.isList pt'.isList hsz (by lia) key)
  ·have hne : (its.toArray.size != its'.toArray.size) = true := by simpa using hsz
   have hb : false = true ↔ D.lst xs = D.lst ys := by
    rw [jV, jV] at hsz
    constructor
    ·intro z; cases z
    ·intro z
     injection z with z
     subst z
     lia
   refine ⟨false, hb, ?_, fun a c _ _ => ⟨RcAt.lists_lengths pt.isList pt'.isList hne (by lia), RcNeAt.lists_lengths pt.isList pt'.isList hne (by lia)⟩⟩
   by_cases hpq : p = q
   ·subst hpq
    obtain rfl := I.list_inj hq hq'
    rw [jV, jV] at hsz
    lia
   ·exact EqAt.of_refs hpq (RcAt.lists_lengths pt.isList pt'.isList hne (by lia))
inductive Cop_eqD (KX : Fg) (n : Nat) (x : V) (y : V) (H : Hp) (Q : VK) : Prop
 | mk (a : _) (b : _) (d : _) (e : _) (h1 : x = .ref a) (h2 : y = .ref b) (h3 : HasD KX H x d) (h4 : HasD KX H y e) (h5 : Alike n d e) (h6 : ∀ c : Bool, (c = true ↔ d = e) → Q (.bl c) H)
theorem op_eqD {n : Nat} (hu : X.A.units + n < cLine) : OpR X (compareOp .Eq) (fun x y H Q => Cop_eqD X.K n x y H Q) := by
 intro pins s σ H x y v u Q I rx ry h
 obtain ⟨a, b, d, e, rfl, rfl, h1, h2, al, q⟩ := h
 cases rx
 cases ry
 obtain ⟨c, hc, _, hr⟩ := eqAt_D al (A := X.A) (x := .ref a) (y := .ref b) (u := .ref a) (v := .ref b) hu I rfl rfl h1 h2
 exact (hr a b rfl rfl).1 _ _ _ _ ⟨.bl c, H, I, rfl, q c hc⟩
inductive Cop_neD (KX : Fg) (n : Nat) (x : V) (y : V) (H : Hp) (Q : VK) : Prop
 | mk (a : _) (b : _) (d : _) (e : _) (h1 : x = .ref a) (h2 : y = .ref b) (h3 : HasD KX H x d) (h4 : HasD KX H y e) (h5 : Alike n d e) (h6 : ∀ c : Bool, (c = true ↔ d = e) → Q (.bl (!c)) H)
theorem op_neD {n : Nat} (hu : X.A.units + n < cLine) : OpR X (compareOp .NotEq) (fun x y H Q => Cop_neD X.K n x y H Q) := by
 intro pins s σ H x y v u Q I rx ry h
 obtain ⟨a, b, d, e, rfl, rfl, h1, h2, al, q⟩ := h
 cases rx
 cases ry
 obtain ⟨c, hc, _, hr⟩ := eqAt_D al (A := X.A) (x := .ref a) (y := .ref b) (u := .ref a) (v := .ref b) hu I rfl rfl h1 h2
 exact (hr a b rfl rfl).2 _ _ _ _ ⟨.bl (!c), H, I, rfl, q c hc⟩
end
def Fn (K : Fg) (mg : Str → Option Value) (x : Str) (st : Stmt) : Prop := ∃ f fd, Fun K x x st f fd ∧ mg x = some (.ref f)
theorem fn_mk {K : Fg} {h : Heap} {mg : Str → Option Value} {x : Str} {st : Stmt} {f : Addr} {oc : Value} {od an : Option Addr} {osl : Array (Option Value)} {kV doc pm cdv ct : Value} (X : K.In h) (G : h.Ns mainGlobals mg)
  (a : PySem.W.nsIn K mainGlobals x = some (some (.ref f))) (l : K.lookup f = some ⟨oc, od, .func (PySem.W.fnOf x x (defArgs st) (defBody st) (defScope st) .none kV doc pm an cdv ct), osl⟩) (c : PySem.W.codeIn K cdv x = true) (k : PySem.W.keepIn K (.ref f) = true) : Fn K mg x st :=
 ⟨f, _, fun_mk l c k, PySem.W.mg_of X G a⟩
structure Cal (P : Program) (w : World) (K : Fg) (mg : Str → Option Value) (base : Heap) (k : Nat) (x : Str) (ps : List Str) (sp : Sp) : Prop where
 ex : ∃ f fd, FnOk P w K mg base CX0 k f fd ps sp ∧ mg x = some (.ref f) ∧ PySem.W.keepIn K (.ref f) = true ∧ Binds K fd ps []
theorem Cal.mono {P : Program} {w : World} {K : Fg} {mg : Str → Option Value} {base : Heap} {j k : Nat} {x : Str} {ps : List Str} {sp : Sp} (C : Cal P w K mg base j x ps sp) (h : j ≤ k) : Cal P w K mg base k x ps sp := by
 obtain ⟨f, fd, F, m, kp, b⟩ := C.ex
 exact ⟨f, fd, F.mono h, m, kp, b⟩
theorem cal_of {P : Program} {w : World} {K : Fg} {mg : Str → Option Value} {base : Heap} {k : Nat} {x : Str} {st : Stmt} {N ps : List Str} {sp : Sp} (F : Fn K mg x st) (S : FnScope N ps (defScope st))
  (hb : ∀ (kV doc pm : Value) (an : Option Addr) (cdv ct : Value) (us : List Value), us.length = ps.length → bindArgs (PySem.W.fnOf x x (defArgs st) (defBody st) (defScope st) .none kV doc pm an cdv ct) ⟨us, []⟩ = pure (ps.zip us)) (len : ∀ vs H Q E, sp vs H Q E → vs.length = ps.length)
  (hbody : ∀ (f : Addr) (cdv : Value) (A : Around) (outer : List Env) (s : Shared) (H : Hp) (vs : List V) (Q : VK) (E : XK), Room k (A.deeper (envOfC x (defScope st) s.heap.objs.size f cdv)) → sp vs H Q E →
   ∃ t, PSs (cxOf CX0 P w K mg base N x (defScope st) f cdv A outer s H E).nox (defBody st) t ∧ t { nx := fun _ H' => Q .non H', rt := Q } (start N vs) H) : Cal P w K mg base (k + 1) x ps sp := by
 obtain ⟨f, fd, F, m⟩ := F
 exact ⟨f, fd, F.ok S len (hbody f), m, F.kp, F.binds hb⟩
section
variable {X : Cx}
theorem pe_fn {k : Nat} {x : Str} {ps : List Str} {sp : Sp} {e : Expr} {es : List Expr} {t : TA} {p pos : Pos} (C : Cal X.prog X.w X.K X.mg X.base k x ps sp) (hr : Room k X.A) (ha : PA X (e :: es) t) (hg : autoParam (Gl X x) L2.aRfl._auto_1)
  (hdb : autoParam ((x == ("__debug__" : Str)) = false) L2.aDec._auto_1) (he : autoParam (starEach (e :: es) X.env = (false, eval e X.env) :: starEach es X.env) L2.aRfl._auto_1) (hpl : autoParam ((backTo pos (starEach es X.env)).any (·.1) = false) L2.aRfl._auto_1) :
  PE X (.Call (.Name x p) (e :: es) [] pos) (tCall sp [] E0 t) := by
 obtain ⟨f, fd, F, m, kp, b⟩ := C.ex
 exact pe_call F hr hg m kp b .nil pass0 ha hdb he hpl
theorem pe_ty {x : Str} {T : String} {pos : Pos} (hm : X.mg x = none) (hv : bootBuiltins x = some (.type T)) (hg : autoParam (Gl X x) L2.aRfl._auto_1) (hn : autoParam (x ≠ "__name__") L2.aDec._auto_1) (hd : autoParam ((x == ("__debug__" : Str)) = false) L2.aDec._auto_1) : PE X (.Name x pos) (tC (.ty T)) :=
 pe_bltn hg hm hv (v := .ty T) rfl hn hd
end
def gPair (K : Fg) (i j : Nat) : TG := gTup K 2 (gCons (gName i) (gCons (gName j) gNil))
theorem pg_pair {X : Cx} {K : Fg} {i j : Nat} {x y : Str} {px py pos : Pos} {k : Nat} (hK : X.K = K) (hc : X.calm = true) (hN : X.N.Nodup) (hi : X.N[i]? = some x) (hj : X.N[j]? = some y) (hx : X.env.scope.names.lookup x = some .local) (hy : X.env.scope.names.lookup y = some .local) :
  PG X (.Tuple [.Name x px, .Name y py] k pos) (gPair K i j) := by
 subst hK
 exact pg_tup hc (pgs_cons (pg_name hN hi (.inl hx) (.inr hx)) (pgs_cons (pg_name hN hj (.inl hy) (.inr hy)) pgs_nil))
theorem bt_len : bootBuiltins "len" = some (.builtin "len") := by decide +kernel
theorem bt_sum : bootBuiltins "sum" = some (.builtin "sum") := by decide +kernel
theorem bt_all : bootBuiltins "all" = some (.builtin "all") := by decide +kernel
theorem bt_any : bootBuiltins "any" = some (.builtin "any") := by decide +kernel
theorem bt_isinstance : bootBuiltins "isinstance" = some (.builtin "isinstance") := by decide +kernel
theorem bt_min : bootBuiltins "min" = some (.builtin "min") := by decide +kernel
theorem bt_max : bootBuiltins "max" = some (.builtin "max") := by decide +kernel
theorem bt_sorted : bootBuiltins "sorted" = some (.builtin "sorted") := by decide +kernel
theorem bt_int : bootBuiltins "int" = some (.type "int") := by decide +kernel
theorem bt_bool : bootBuiltins "bool" = some (.type "bool") := by decide +kernel
theorem bt_tuple : bootBuiltins "tuple" = some (.type "tuple") := by decide +kernel
theorem bt_list : bootBuiltins "list" = some (.type "list") := by decide +kernel
theorem bt_dict : bootBuiltins "dict" = some (.type "dict") := by decide +kernel
theorem bt_enumerate : bootBuiltins "enumerate" = some (.type "enumerate") := by decide +kernel
theorem same_new' {H : Hp} {p : Addr} (h : H p = none) (o : HO) : Same H (upd H p o) := fun b u q => by rw [upd_ne (ne_of_none q h)]; exact q
theorem Same.tup {K : Fg} {H H' : Hp} {a : Addr} {xs : List V} (e : Same H H') (h : SqT K H a xs) : SqT K H' a xs := by
 rcases h with (h | ⟨o, h⟩) | h
 ·exact .inl (.inl (e _ _ h))
 ·exact .inl (.inr ⟨o, e _ _ h⟩)
 ·exact .inr h
theorem sqT_new {K : Fg} {H : Hp} {a : Addr} {xs : List V} (h : H a = some (.tup xs)) : SqT K H a xs := .inl (.inl h)
theorem sqL_new {K : Fg} {H : Hp} {a : Addr} {xs : List V} (h : H a = some (.lst xs)) : SqL K H a xs := .inl (.inl h)
theorem for_zip {K : Fg} {m1 m2 : Bool} {a b : Addr} {xs ys : List V} {g : TG} {tb : TS} {D : Ends} {σ : St} {H : Hp} (Pv : Nat → St → Hp → Prop) (h0 : Pv 0 σ H) (hl : ∀ i σ H, i ≤ min xs.length ys.length → Pv i σ H → Sq K m1 H a xs ∧ Sq K m2 H b ys)
  (hs : ∀ i x y σ H T, xs[i]? = some x → ys[i]? = some y → Pv i σ H → H T = none → g (.ref T) σ (upd H T (.tup [x, y])) fun σ2 H2 => tb { D with nx := Pv (i + 1), ct := Pv (i + 1), bk := D.nx } σ2 H2) (hd : ∀ σ H, Pv (min xs.length ys.length) σ H → D.nx σ H) :
  ∃ W : Nat → Nat → St → Hp → Prop, (∃ m, W 0 m σ H) ∧ ∀ i m σ H, W i m σ H →
   ((Itz K m1 m2 a b).stop i H ∧ D.nx σ H) ∨ ((Itz K m1 m2 a b).go i H ∧ ∃ N : St → Hp → Prop, (∀ σ' H', N σ' H' → ∃ m', m' < m ∧ W (i + 1) m' σ' H') ∧ ∀ x H', (Itz K m1 m2 a b).yld i H x H' → g x σ H' fun σ2 H2 => tb { D with nx := N, ct := N, bk := D.nx } σ2 H2) := by
 refine ⟨fun i m σ H => m = min xs.length ys.length - i ∧ i ≤ min xs.length ys.length ∧ Pv i σ H, ⟨_, rfl, jXc _, h0⟩, ?_⟩
 rintro i m σ H ⟨rfl, hi, p⟩
 obtain ⟨q1, q2⟩ := hl i σ H hi p
 by_cases hlt : i < min xs.length ys.length
 ·have i1 : i < xs.length := by lia
  have i2 : i < ys.length := by lia
  refine .inr ⟨⟨xs, ys, xs[i], ys[i], q1, q2, by simp [i1], by simp [i2]⟩, Pv (i + 1), fun σ' H' p' => ⟨min xs.length ys.length - (i + 1), by lia, rfl, hlt, p'⟩, fun x H' y => ?_⟩
  obtain ⟨T, u, v, rfl, hT, rfl, y1, y2⟩ := y
  exact hs i u v σ H T (y1 xs q1) (y2 ys q2) p hT
 ·have e : i = min xs.length ys.length := by lia
  subst e
  exact .inl ⟨⟨xs, ys, q1, q2, by lia⟩, hd σ H p⟩
theorem lc_any {J : It} {n : Nat} {τ0 : St} {g : TG} {tt : TT} {te : TE} {H : Hp} {Q : Addr → Hp → Prop} {D : Addr} (Pv : Nat → St → List V → Hp → Prop)
  (h0 : Pv 0 τ0 [] (upd H D (.lst []))) (hD : ∀ i τ ys H, i ≤ n → Pv i τ ys H → H D = some (.lst ys) ∧ ys.length < sizeLine) (go : ∀ i τ ys H, i < n → Pv i τ ys H → J.go i H) (stop : ∀ τ ys H, Pv n τ ys H → J.stop n H)
  (hs : ∀ i τ ys H x H', i < n → Pv i τ ys H → J.yld i H x H' → g x τ H' fun σ2 H2 => tt σ2 H2 fun ok H3 => if ok = true then te σ2 H3 fun v H4 => H4 D = some (.lst ys) ∧ Pv (i + 1) σ2 (ys ++ [v]) (upd H4 D (.lst (ys ++ [v]))) else Pv (i + 1) σ2 ys H3)
  (hd : ∀ τ ys H, Pv n τ ys H → Q D H) :
  LcW J D τ0 H g tt te Q := by
 refine ⟨fun i m τ ys H => m = n - i ∧ i ≤ n ∧ Pv i τ ys H, ⟨n, by simp, jXc _, h0⟩, ?_⟩
 rintro i m τ ys H ⟨rfl, hi, p⟩
 obtain ⟨z1, z2⟩ := hD i τ ys H hi p
 refine ⟨z1, ?_⟩
 by_cases hlt : i < n
 ·refine .inr ⟨go i τ ys H hlt p, z2, fun τ v H => Pv (i + 1) τ (ys ++ [v]) (upd H D (.lst (ys ++ [v]))), fun τ H => Pv (i + 1) τ ys H, fun τ v H q => ⟨n - (i + 1), by lia, rfl, hlt, q⟩, fun τ H q => ⟨n - (i + 1), by lia, rfl, hlt, q⟩, fun x H' y => hs i τ ys H x H' hlt p y⟩
 ·have e : i = n := by lia
  subst e
  exact .inl ⟨stop τ ys H p, hd τ ys H p⟩
theorem Vals.of_get : ∀ {xs : List V} {us : List Value}, xs.length = us.length → (∀ (i : Nat) x u, xs[i]? = some x → us[i]? = some u → RelV x u) → Vals xs us
 | [], [], _, _ => .nil
 | x :: xs, u :: us, hl, h => .cons (h 0 x u rfl rfl) (Vals.of_get (by simpa using hl) fun i y v e1 e2 => h (i + 1) y v (by simpa using e1) (by simpa using e2))
 | [], _ :: _, hl, _ => by simp at hl
 | _ :: _, [], hl, _ => by simp at hl
section
variable {X : Cx}
def insV (xs : List V) (k : Nat) (y : V) : List V := xs.take k ++ y :: xs.drop k
theorem Vals.ins {xs : List V} {us : List Value} {y : V} {u : Value} (r : Vals xs us) (ry : RelV y u) (k : Nat) : Vals (insV xs k y) (us.take k ++ u :: us.drop k) :=
 (Vals.take k r).append (.cons ry (Vals.drop k r))
theorem mt_insert : MtM X "list.insert" (fun x vs H Q => ∃ l xs k y, x = .ref l ∧ vs = [.int k, y] ∧ H l = some (.lst xs) ∧ 0 ≤ k ∧ k ≤ (xs.length : Int) ∧ xs.length < sizeLine ∧ Q .non (upd H l (.lst (insV xs k.toNat y)))) := by
 intro pins s σ H x vs v us Q I rx rv h
 obtain ⟨l, xs, k, y, rfl, rfl, hH, h0, h1, hz, q⟩ := h
 cases rx
 obtain ⟨u1, u2, rfl, ⟨t, rfl⟩, ru⟩ := rv.two
 obtain ⟨z, its, n, r, hl, e⟩ := I.lstM hH
 have fit : ¬ (!Builtin.List.listFitsIndex k) = true := by
  have : Builtin.List.listFitsIndex k = true := by
   unfold Builtin.List.listFitsIndex
   have : (sizeLine : Nat) = 16777216 := by decide
   simp only [xK, decide_eq_true_eq]
   constructor <;> lia
  rw [this]; simp
 refine call_meets F.slot_list_insert ⟨_, e, rfl⟩ F.entry_list_insert (F.args_list_insert_3 _ _ _) (PySem.AutoListH.list_insert_list_int_val_1 l its.toArray n k t u2 fit (by rw [jV]; lia)) ⟨e, ?_⟩
 refine ⟨.non, _, I.lset (its' := its.take k.toNat ++ u2 :: its.drop k.toNat) hH e ?_ (Vals.ins r ru k.toNat) ?_, rfl, q⟩
 ·have e1 : (if k < 0 then (k + ((its.toArray.size : Nat) : Int)).toNat else min k.toNat its.toArray.size) = k.toNat := by
   rw [if_neg (by lia), jV]; lia
  simp only [e1]
  apply Array.toList_inj.mp
  simp
  rw [xQ (by simp)]
 ·unfold insV
  rw [kQ, kK, yX, jYe]
  lia
theorem pe_range {e : Expr} {ta : TA} {p pos : Pos} (hm : X.mg "range" = none) (ha : PA X [e] ta) (hg : autoParam (Gl X "range") L2.aRfl._auto_1) (hs : autoParam (starEach [e] X.env = [(false, eval e X.env)]) L2.aRfl._auto_1) :
  PE X (.Call (.Name "range" p) [e] [] pos) (fun σ H Q => ta σ H fun vs H1 => ∃ n : Int, vs = [.int n] ∧ ∀ r, H1 r = none → Q (.ref r) (upd H1 r (.rng 0 n))) := by
 intro pins s σ H Q I h
 refine Call_ (ld_blt I hg hm boot_range (PyProof.Rows.callWith_type1 (thn (ha pos pins s σ H _ I h) fun us s1 hqP => ?_) hs rfl))
 obtain ⟨vs, H1, I1, r1, q1⟩ := hqP
 obtain ⟨n, e, q⟩ := q1
 subst e
 obtain ⟨u, rfl, t, rfl⟩ := r1.one
 refine call_range_1 ⟨.ref s1.heap.objs.size, upd H1 s1.heap.objs.size (.rng 0 n), I1.laid (fun b u e => jZ _ e) (jJ _) ⟨_, _, _, yZ _ rfl⟩, rfl, q _ (I1.hok.fresh (jJ _))⟩
inductive Ccall_list_rng (xs : List V) (H : Hp) (Q : VK) : Prop
 | mk (r : Addr) (n : Int) (h1 : xs = [.ref r]) (h2 : H r = some (.rng 0 n)) (h3 : 0 ≤ n) (h4 : n ≤ 1000000) (h5 : ∀ l, H l = none → Q (.ref l) (upd H l (.lst ((List.range n.toNat).map fun i => V.int (i : Nat)))))
theorem call_list_rng (hc : X.calm = true) : CallR X (.type "list") (fun xs H Q => Ccall_list_rng xs H Q) := by
 intro pins s σ H xs us Q I rv h
 obtain ⟨r, n, rfl, hr, h0, h1, q⟩ := h
 obtain ⟨u, rfl, ru⟩ := rv.one
 cases ru
 obtain ⟨t, u, v, e⟩ := I.hok r _ hr
 have hz : (sizeLine : Nat) = 16777216 := by decide
 refine call_list_range (n := n.toNat) (I.ok.hd hc) e (small_one (by lia) (by lia) (by lia) (by lia)) (by rw [rangeSize_one]; split <;> lia) (by lia) fun h' tk acc' c' hk hS hI => ?_
 refine ⟨.ref s.heap.objs.size, upd H s.heap.objs.size (.lst ((List.range n.toNat).map fun i => V.int (i : Nat))), I.laid hk (jJ _) ?_, rfl, q _ (I.hok.fresh (jJ _))⟩
 refine ⟨by rw [jQ, jQd]; lia, acc'.toList, c', Vals.of_get (by rw [jQ, jQd, jQc, hI.1]) fun i x u e1 e2 => ?_, by simpa using hS⟩
 obtain ⟨t', rfl⟩ := hI.2 i u (by simpa using e2)
 rw [jK] at e1
 obtain ⟨j, ej, rfl⟩ := yJ.mp e1
 have hj := yQ.mp ej
 obtain ⟨hj1, hj2⟩ := hj
 rw [List.getElem_range] at hj2
 subst hj2
 exact ⟨t', by simp⟩
theorem ix_listK {K : Fg} (hK : X.K = K) : IxR X (rIxL K) := by subst hK; exact ix_list
theorem ix_tupK {K : Fg} (hK : X.K = K) : IxR X (rIxT K) := by subst hK; exact ix_tup
end
end L2
namespace Nb
open PySem L2
structure Mg (mg : Str → Option Value) : Prop where
 len : mg "len" = none
 min : mg "min" = none
 max : mg "max" = none
 sum : mg "sum" = none
 all : mg "all" = none
 any : mg "any" = none
 abs : mg "abs" = none
 isinstance : mg "isinstance" = none
 sorted : mg "sorted" = none
 range_ : mg "range" = none
 zip_ : mg "zip" = none
 tuple_ : mg "tuple" = none
 list_ : mg "list" = none
 int_ : mg "int" = none
 bool_ : mg "bool" = none
 dict_ : mg "dict" = none
 enumerate_ : mg "enumerate" = none
 reversed_ : mg "reversed" = none
 ValueError_ : mg "ValueError" = none
 set_ : mg "set" = none
 str_ : mg "str" = none
theorem atNs {ns : List Int} {k : Int} (h0 : 0 ≤ k) (h : k < (((ns.map V.int).length : Nat) : Int)) : ∃ v : Int, atI (ns.map V.int) k = some (.int v) := by
 have hk : k.toNat < ns.length := by rw [jQ] at h; lia
 have ek : k = ((k.toNat : Nat) : Int) := by lia
 have q : atI (ns.map V.int) ((k.toNat : Nat) : Int) = some (.int ns[k.toNat]) := atI_nat (by rw [jK, gE hk] <;> rfl)
 rw [← ek] at q
 exact ⟨_, q⟩
theorem SqT_upd {K : Fg} {H : Hp} {D a : Addr} {ys zs xs : List V} (hD : H D = some (.lst ys)) (h : SqT K H a xs) : SqT K (upd H D (.lst zs)) a xs := by
 rcases h with (h | ⟨o, h⟩) | h
 ·exact .inl (.inl (by rw [upd_ne (ne_of h hD (by intro z; cases z))]; exact h))
 ·exact .inl (.inr ⟨o, by rw [upd_ne (ne_of h hD (by intro z; cases z))]; exact h⟩)
 ·exact .inr h
def RowAt (K : Fg) (H : Hp) (t : Addr) (r : List Int × Int) : Prop := ∃ p, SqT K H t [.ref p, .int r.2] ∧ SqT K H p (r.1.map V.int)
theorem RowAt.same {K : Fg} {H H' : Hp} {t : Addr} {r : List Int × Int} (e : Same H H') (h : RowAt K H t r) : RowAt K H' t r := by obtain ⟨p, h1, h2⟩ := h; exact ⟨p, e.tup h1, e.tup h2⟩
theorem RowAt.upd {K : Fg} {H : Hp} {D t : Addr} {ys zs : List V} {r : List Int × Int} (hD : H D = some (.lst ys)) (h : RowAt K H t r) : RowAt K (upd H D (.lst zs)) t r := by obtain ⟨p, h1, h2⟩ := h; exact ⟨p, SqT_upd hD h1, SqT_upd hD h2⟩
def RowsAre (K : Fg) (H : Hp) : List V → List (List Int × Int) → Prop := Paired fun v r => ∃ t, v = .ref t ∧ RowAt K H t r
theorem RowsAre.imp {K : Fg} {H H' : Hp} {vs : List V} {rs : List (List Int × Int)} (f : ∀ t r, RowAt K H t r → RowAt K H' t r) (h : RowsAre K H vs rs) : RowsAre K H' vs rs := by
 induction h with
 | nil => exact .nil
 | cons r t ih => obtain ⟨a, e, z⟩ := r; exact .cons ⟨a, e, f _ _ z⟩ ih
theorem RowsAre.snoc {K : Fg} {H : Hp} {vs : List V} {rs : List (List Int × Int)} {t : Addr} {r : List Int × Int} (h : RowsAre K H vs rs) (z : RowAt K H t r) : RowsAre K H (vs ++ [.ref t]) (rs ++ [r]) := by
 induction h with
 | nil => exact .cons ⟨t, rfl, z⟩ .nil
 | cons q t ih => exact .cons q ih
theorem RowsAre.get {K : Fg} {H : Hp} {vs : List V} {rs : List (List Int × Int)} (h : RowsAre K H vs rs) : ∀ {i : Nat} {v : V}, vs[i]? = some v → ∃ t r, v = .ref t ∧ rs[i]? = some r ∧ RowAt K H t r := by
 induction h with
 | nil => intro i v e; simp at e
 | cons q t ih =>
  intro i v e
  cases i with
  | zero => obtain ⟨a, e1, z⟩ := q; simp at e; subst e; exact ⟨a, _, e1, rfl, z⟩
  | succ i => obtain ⟨a, r, e1, e2, z⟩ := ih (i := i) (v := v) (by simpa using e); exact ⟨a, r, e1, by simpa using e2, z⟩
theorem RowsAre.length {K : Fg} {H : Hp} {vs : List V} {rs : List (List Int × Int)} (h : RowsAre K H vs rs) : vs.length = rs.length := Paired.length h
def ProbAt (K : Fg) (H : Hp) (t : Addr) (rs : List (List Int × Int)) (cs : List Int) : Prop := ∃ l c vs, SqT K H t [.ref l, .ref c] ∧ SqL K H l vs ∧ RowsAre K H vs rs ∧ SqT K H c (cs.map V.int)
theorem ProbAt.same {K : Fg} {H H' : Hp} {t : Addr} {rs : List (List Int × Int)} {cs : List Int} (e : Same H H') (h : ProbAt K H t rs cs) : ProbAt K H' t rs cs := by
 obtain ⟨l, c, vs, h1, h2, h3, h4⟩ := h; exact ⟨l, c, vs, e.tup h1, e.seq h2, h3.imp fun _ _ z => z.same e, e.tup h4⟩
theorem at0 {x y : V} : atI [x, y] 0 = some x := by rfl
theorem at1 {x y : V} : atI [x, y] 1 = some y := by rfl
def dot (ns ms : List Int) : Int := (List.zipWith (· * ·) ns ms).sum
def keepB (ms : List Int) (r : List Int × Int) : Bool := decide (r.2 ≤ dot r.1 ms)
theorem takeS {α : Type} {l : List α} {i : Nat} {x : α} (h : l[i]? = some x) : l.take (i + 1) = l.take i ++ [x] := by rw [List.take_succ, h]; rfl
theorem getMapI {ns : List Int} {i : Nat} {v : V} (h : (ns.map V.int)[i]? = some v) : ∃ n, ns[i]? = some n ∧ v = .int n := by
 rw [jK] at h
 cases e : ns[i]? with
 | none => rw [e] at h; cases h
 | some n => rw [e] at h; exact ⟨n, rfl, (Option.some.inj h).symm⟩
theorem getZip {ns ms : List Int} {i : Nat} {n m : Int} (h1 : ns[i]? = some n) (h2 : ms[i]? = some m) : (List.zipWith (· * ·) ns ms)[i]? = some (n * m) := by
 rw [List.getElem?_zipWith, h1, h2]
theorem memI {ms : List Int} {i : Nat} {m : Int} (h : ms[i]? = some m) : m ∈ ms := kX h
inductive IspWeighed (K : Fg) (vs : List V) (H : Hp) (Q : VK) : Prop
 | mk (a b : Addr) (ns ms : List Int) (h1 : vs = [.ref a, .ref b]) (h2 : SqT K H a (ns.map V.int)) (h3 : SqT K H b (ms.map V.int)) (h4 : ns.length ≤ 1000) (h5 : (∀ m ∈ ms, m = 0 ∨ m = 1)) (h6 : ∀ H', Same H H' → Q (.int (dot ns ms)) H')
def spWeighed (K : Fg) : Sp := fun vs H Q _ => IspWeighed K vs H Q
def rowD (r : List Int × Int) : D := .tup [.tup (r.1.map .int), .int r.2]
def probD (rs : List (List Int × Int)) (cs : List Int) : D := .tup [.lst (rs.map rowD), .tup (cs.map .int)]
theorem intsD {K : Fg} {H : Hp} {a : Addr} {ns : List Int} (h : SqT K H a (ns.map V.int)) : HasD K H (.ref a) (.tup (ns.map .int)) := by
 refine .tup h (by rw [jQ, jQ]) fun i v x e1 e2 => ?_
 obtain ⟨n, en, rfl⟩ := getMapI e1
 rw [jK, en] at e2
 cases e2
 exact .int n
theorem pairD {K : Fg} {H : Hp} {a : Addr} {v w : V} {d e : D} (h : SqT K H a [v, w]) (h1 : HasD K H v d) (h2 : HasD K H w e) : HasD K H (.ref a) (.tup [d, e]) := by
 refine .tup h rfl fun i v x e1 e2 => ?_
 match i with
 | 0 => simp at e1 e2; subst e1 e2; exact h1
 | 1 => simp at e1 e2; subst e1 e2; exact h2
 | i + 2 => simp at e1
theorem RowAt.hasD {K : Fg} {H : Hp} {t : Addr} {r : List Int × Int} (h : RowAt K H t r) : HasD K H (.ref t) (rowD r) := by
 obtain ⟨p, h1, h2⟩ := h
 exact pairD h1 (intsD h2) (.int _)
theorem RowsAre.hasD {K : Fg} {H : Hp} {l : Addr} {vs : List V} {rs : List (List Int × Int)} (hl : SqL K H l vs) (h : RowsAre K H vs rs) : HasD K H (.ref l) (.lst (rs.map rowD)) := by
 refine .lst hl (by rw [jQ]; exact h.length) fun i v x e1 e2 => ?_
 obtain ⟨t, r, rfl, er, hr⟩ := h.get e1
 rw [jK, er] at e2
 cases e2
 exact hr.hasD
theorem ProbAt.hasD {K : Fg} {H : Hp} {t : Addr} {rs : List (List Int × Int)} {cs : List Int} (h : ProbAt K H t rs cs) : HasD K H (.ref t) (probD rs cs) := by
 obtain ⟨l, c, vs, h1, h2, h3, h4⟩ := h
 exact pairD h1 (RowsAre.hasD h2 h3) (intsD h4)
theorem alikeInts {n : Nat} (ns ms : List Int) : Alike (n + 1) (.tup (ns.map .int)) (.tup (ms.map .int)) := by
 refine .tup fun i x y e1 e2 => ?_
 rw [jK] at e1 e2
 obtain ⟨a, _, rfl⟩ := yJ.mp e1
 obtain ⟨b, _, rfl⟩ := yJ.mp e2
 exact .int a b
theorem alikePair {n : Nat} {a b c d : D} (h1 : Alike n a c) (h2 : Alike n b d) : Alike (n + 1) (.tup [a, b]) (.tup [c, d]) := by
 refine .tup fun i x y e1 e2 => ?_
 match i with
 | 0 => simp at e1 e2; subst e1 e2; exact h1
 | 1 => simp at e1 e2; subst e1 e2; exact h2
 | i + 2 => simp at e1
theorem alikeRow {n : Nat} (r r' : List Int × Int) : Alike (n + 2) (rowD r) (rowD r') := alikePair (alikeInts _ _) (.int _ _)
theorem alikeRows {n : Nat} (rs rs' : List (List Int × Int)) : Alike (n + 3) (.lst (rs.map rowD)) (.lst (rs'.map rowD)) := by
 refine .lst fun i x y e1 e2 => ?_
 rw [jK] at e1 e2
 obtain ⟨a, _, rfl⟩ := yJ.mp e1
 obtain ⟨b, _, rfl⟩ := yJ.mp e2
 exact alikeRow a b
theorem alikeProb {n : Nat} (rs rs' : List (List Int × Int)) (cs cs' : List Int) : Alike (n + 4) (probD rs cs) (probD rs' cs') := alikePair (alikeRows rs rs') (alikeInts _ _)
def put (ns : List Int) (t : List Nat) : Nat → List Int
 | 0 => List.replicate t.length 0
 | m + 1 => (put ns t m).set (t.getD m 0) (ns.getD m 0)
theorem put_length (ns : List Int) (t : List Nat) : ∀ m, (put ns t m).length = t.length
 | 0 => zK
 | m + 1 => by show ((put ns t m).set _ _).length = _; rw [xZ, put_length ns t m]
structure IsTurn (n : Nat) (t : List Nat) : Prop where
 perm : t.Perm (List.range n)
theorem IsTurn.length {n : Nat} {t : List Nat} (h : IsTurn n t) : t.length = n := by rw [h.perm.length_eq, jQd]
theorem IsTurn.nodup {n : Nat} {t : List Nat} (h : IsTurn n t) : t.Nodup := h.perm.nodup_iff.mpr List.nodup_range
theorem IsTurn.mem {n : Nat} {t : List Nat} (h : IsTurn n t) {k : Nat} : k ∈ t ↔ k < n := by rw [h.perm.mem_iff, wX]
theorem IsTurn.lt {n : Nat} {t : List Nat} (h : IsTurn n t) {i k : Nat} (e : t[i]? = some k) : k < n := h.mem.mp (kX e)
theorem IsTurn.inj {n : Nat} {t : List Nat} (h : IsTurn n t) {i j k : Nat} (e1 : t[i]? = some k) (e2 : t[j]? = some k) : i = j := by
 obtain ⟨h1, z1⟩ := yQ.mp e1
 obtain ⟨h2, z2⟩ := yQ.mp e2
 exact (List.getElem_inj h.nodup).mp (z1.trans z2.symm)
theorem put_part {n : Nat} {ns : List Int} {t : List Nat} (h : IsTurn n t) (hl : ns.length = n) : ∀ m, m ≤ n → ∀ i k, i < m → t[i]? = some k → (put ns t m)[k]? = ns[i]?
 | 0, _, i, k, hi, _ => absurd hi (kJa _)
 | m + 1, hm, i, k, hi, e => by
  have lm : m < t.length := by rw [h.length]; lia
  show ((put ns t m).set (t.getD m 0) (ns.getD m 0))[k]? = _
  have ed : t.getD m 0 = t[m] := by simp [List.getD, lm]
  rw [ed]
  by_cases hk : t[m] = k
  ·have : i = m := h.inj e (by rw [gE lm, hk])
   subst this
   rw [hk, kZb (by rw [put_length, h.length]; exact h.lt e), gE (by lia)]
   simp [List.getD, show i < ns.length by lia]
  ·rw [jKb hk]
   refine put_part h hl m (by lia) i k ?_ e
   have : i ≠ m := by
    rintro rfl
    rw [gE lm] at e
    exact hk (Option.some.inj e)
   lia
theorem put_at {n : Nat} {ns : List Int} {t : List Nat} (h : IsTurn n t) (hl : ns.length = n) {i k : Nat} (e : t[i]? = some k) : (put ns t n)[k]? = ns[i]? :=
 put_part h hl n (jJ n) i k (by rw [← h.length]; exact (yQ.mp e).1) e
theorem put_len {n : Nat} {ns : List Int} {t : List Nat} (h : IsTurn n t) : (put ns t n).length = n := by rw [put_length, h.length]
theorem getD_of {l : List Nat} {i k : Nat} (h : l[i]? = some k) : l.getD i 0 = k := by simp [List.getD, h]
def tI (t : List Nat) : List Int := t.map (fun k : Nat => (k : Int))
theorem tI_len (t : List Nat) : (tI t).length = t.length := jQ _
theorem tI_at {t : List Nat} {i : Nat} {z : Int} (h : (tI t)[i]? = some z) : ∃ k, t[i]? = some k ∧ z = (k : Int) := by
 unfold tI at h
 rw [jK] at h
 obtain ⟨k, e, rfl⟩ := yJ.mp h
 exact ⟨k, e, rfl⟩
theorem rep1 (n : Nat) (x : V) : (List.replicate n [x]).flatten = List.replicate n x := by
 induction n with
 | zero => rfl
 | succ n ih => rw [wJ, jZd, ih, wJ]; rfl
theorem ixNat {n k : Nat} (h : k < n) : ixN n (k : Int) = some k := by
 unfold ixN
 rw [if_pos (by lia), if_pos (by lia)]
 simp
theorem atNat {α : Type} {xs : List α} {k : Nat} {x : α} (h : xs[k]? = some x) : atI xs (k : Int) = some x := atI_nat h
theorem lstD {K : Fg} {H : Hp} {a : Addr} {ns : List Int} (h : SqL K H a (ns.map V.int)) : HasD K H (.ref a) (.lst (ns.map .int)) := by
 refine .lst h (by rw [jQ, jQ]) fun i v x e1 e2 => ?_
 obtain ⟨n, en, rfl⟩ := getMapI e1
 rw [jK, en] at e2
 cases e2
 exact .int n
theorem put_next {ns : List Int} {t : List Nat} {i k : Nat} {x : Int} (e1 : ns[i]? = some x) (e2 : t[i]? = some k) : put ns t (i + 1) = (put ns t i).set k x := by
 show (put ns t i).set (t.getD i 0) (ns.getD i 0) = _
 rw [getD_of e2]
 simp [List.getD, e1]
inductive IspTurned (K : Fg) (vs : List V) (H : Hp) (Q : VK) : Prop
 | mk (r u : Addr) (row : List Int × Int) (n : Nat) (t : List Nat) (h1 : vs = [.ref r, .ref u]) (h2 : RowAt K H r row) (h3 : SqL K H u ((tI t).map V.int)) (h4 : IsTurn n t) (h5 : row.1.length = n) (h6 : n ≤ 1000) (h7 : ∀ (r' : Addr) (H' : Hp), Same H H' → RowAt K H' r' (put row.1 t n, row.2) → Q (.ref r') H')
def spTurned (K : Fg) : Sp := fun vs H Q _ => IspTurned K vs H Q
inductive IspLaw (K : Fg) (vs : List V) (H : Hp) (Q : VK) : Prop
 | mk (a : Addr) (ns : List Int) (h1 : vs = [.ref a]) (h2 : SqL K H a (ns.map V.int)) (h3 : ns.length ≤ 63) (h4 : ∀ H', Q (.bl true) H')
def spLaw (K : Fg) : Sp := fun vs H Q _ => IspLaw K vs H Q
end Nb
namespace L2
open PySem PySem.Spec PyProof.Rows
section
variable (P : Program) (w : World)
end
section
variable {P : Program} {w : World} {H H' : Hp} {h h' : Heap} {a : Addr} {o : HO}
end
section
variable {P : Program} {w : World} {H : Hp} {h h' : Heap} {x e : Addr} {o' : HO}
end
section
variable {fs fs' ex ex' : List Addr} {H H1 H2 : Hp} {h h1 h2 h' : Heap} {a x e : Addr} {o : HO}
end
section
variable {X : Cx} {pins : List (Addr × Obj)} {σ : List (Option V)} {H H' : Hp} {s : Shared} {h' : Heap}
end
section
variable {X : Cx}
variable {a b : Expr} {ta tb : TE} {pos : Pos}
variable {tA tB' : TT} {rest : List Expr}
end
section
variable {X : Cx} {pins : List (Addr × Obj)} {σ : St} {H : Hp} {s : Shared} {a : Addr} {xs ys : List V}
end
section
variable {X : Cx} {pins : List (Addr × Obj)} {σ : St} {H : Hp} {s : Shared} {E : Value → Shared → Prop}
end
section
variable {X : Cx} {st : Stmt} {rest : List Stmt} {t u : TS} {e : Expr} {te : TE} {pos : Pos}
end
section
variable {X : Cx} {pos : Pos}
end
section
variable {X : Cx} {pos : Pos}
end
section
variable {X : Cx} {tg : Expr}
end
section
variable {X : Cx} {a b c : Expr} {ta tb tc : TE} {pos : Pos}
end
section
variable {X : Cx} {a b c : Expr} {ta tb tc : TE} {pos : Pos}
end
section
variable {prog : Program} {w : World} {A : Around} {E : Value → Shared → Prop} {s : Shared} {K : Fg} {x dx C f : Addr} {mA : Str → Option Value} {name : Str} {v : Value}
end
section
variable {P : Program} {w : World} {H H' : Hp} {h h' : Heap} {a C dx : Addr} {fs fs' : List (Str × V)}
end
section
variable {X : Cx} {pins : List (Addr × Obj)} {σ : St} {H : Hp} {s : Shared} {a C dx : Addr} {fs : List (Str × V)} {f : Str} {v : V} {A : Around} {E : Value → Shared → Prop}
end
section
variable {X : Cx} {o e value : Expr} {f : Str} {pos pos' tpos : Pos} {ta tv : TE}
end
section
variable {X : Cx} {pins : List (Addr × Obj)} {σ : St} {H : Hp} {s : Shared} {A : Around} {E : Value → Shared → Prop} {Q : Value → Shared → Prop} {c : Value} {b : Bool}
end
section
variable {X : Cx} {e : Expr} {es : List Expr} {te : TE} {t : TA} {pos : Pos}
end
section
variable {X : Cx} {pins : List (Addr × Obj)} {σ : St} {H : Hp} {s s' : Shared}
end
section
variable {X : Cx} {CX : CXT} {k : Nat} {f C : Addr} {fd : FuncData} {ps : List Str} {sp : Sp} {dvs : List V} {ds : List Value} {E : XK} {x m : Str} {p pos apos : Pos} {e o : Expr} {es : List Expr} {ta : TE} {t : TA}
end
section
variable {X : Cx} {CX : CXT} {k : Nat} {f C : Addr} {fd : FuncData} {ps ks : List Str} {sp : Sp} {E : XK} {x m : Str} {p pos apos kpos : Pos} {e o : Expr} {es : List Expr} {kws : List Keyword} {te ta : TE} {t tk : TA} {nm : Option Str}
variable {g : List Value → List Value → List Value} {gV : List V → List V → List V}
end
section
variable {X : Cx} {x : Str} {p pos : Pos} {e : Expr} {es : List Expr} {t : TA} {id T : String} {r : List V → Hp → VK → Prop}
end
section
variable {κ : Type} [DecidableEq κ]
def valV (kvs : List (κ × V)) (k : κ) : Option V := (kvs.find? fun kv => decide (kv.1 = k)).map (·.2)
def putK (kvs : List (κ × V)) (k : κ) (v : V) : List (κ × V) :=
 if (kvs.any fun kv => decide (kv.1 = k)) = true then kvs.map (fun kv => if kv.1 = k then (kv.1, v) else kv) else kvs ++ [(k, v)]
theorem valV_pos {p : κ × V} {r : List (κ × V)} {k : κ} (e : p.1 = k) : valV (p :: r) k = some p.2 := by simp [valV, jJf, e]
theorem valV_neg {p : κ × V} {r : List (κ × V)} {k : κ} (e : ¬ p.1 = k) : valV (p :: r) k = valV r k := by simp [valV, jJf, e]
theorem valV_any (k : κ) : ∀ kvs : List (κ × V), (kvs.any fun kv => decide (kv.1 = k)) = (valV kvs k).isSome
 | [] => rfl
 | p :: r => by
  rw [kZa]
  by_cases e : p.1 = k
  ·simp only [valV_pos e, kY e, Bool.true_or, Option.isSome_some]
  ·rw [valV_neg e, yY e, Bool.false_or]; exact valV_any k r
theorem valV_map (k j : κ) (y : V) : ∀ kvs : List (κ × V), valV (kvs.map fun kv => if kv.1 = k then (kv.1, y) else kv) j = (valV kvs j).map fun x => if j = k then y else x
 | [] => rfl
 | p :: r => by
  have ih := valV_map k j y r
  rw [zZ]
  by_cases h : p.1 = k
  ·rw [if_pos h]
   by_cases e : p.1 = j
   ·rw [valV_pos (p := (p.1, y)) e, valV_pos e, kJb, if_pos (e.symm.trans h)]
   ·rw [valV_neg (p := (p.1, y)) e, valV_neg e, ih]
  ·rw [if_neg h]
   by_cases e : p.1 = j
   ·rw [valV_pos (p := p) e, valV_pos e, kJb, if_neg (fun z => h (e.trans z))]
   ·rw [valV_neg (p := p) e, valV_neg e, ih]
theorem valV_snoc (k j : κ) (y : V) : ∀ kvs : List (κ × V), valV kvs k = none → valV (kvs ++ [(k, y)]) j = if j = k then some y else valV kvs j
 | [], _ => by
  by_cases e : k = j
  ·rw [if_pos e.symm]; exact valV_pos (p := (k, y)) e
  ·rw [if_neg (fun z => e z.symm)]; exact valV_neg (p := (k, y)) e
 | p :: r, hn => by
  rw [List.cons_append]
  have hk : ¬ p.1 = k := fun z => by rw [valV_pos z] at hn; cases hn
  rw [valV_neg hk] at hn
  have ih := valV_snoc k j y r hn
  by_cases e : p.1 = j
  ·rw [valV_pos e, valV_pos e, if_neg (fun z => hk (e.trans z))]
  ·rw [valV_neg e, valV_neg e, ih]
theorem valV_put (kvs : List (κ × V)) (k j : κ) (y : V) : valV (putK kvs k y) j = if j = k then some y else valV kvs j := by
 unfold putK
 by_cases a : (kvs.any fun kv => decide (kv.1 = k)) = true
 ·rw [if_pos a, valV_map]
  rw [valV_any] at a
  by_cases e : j = k
  ·obtain ⟨x, hx⟩ := jZe.mp a
   rw [if_pos e, e, hx, kJb, if_pos rfl]
  ·rw [if_neg e]
   cases valV kvs j with
   | none => rfl
   | some x => rw [kJb, if_neg e]
 ·rw [if_neg a]
  refine valV_snoc k j y kvs ?_
  rw [valV_any] at a
  cases q : valV kvs k with
  | none => rfl
  | some x => rw [q] at a; exact (a rfl).elim
theorem length_putK (kvs : List (κ × V)) (k : κ) (v : V) : (putK kvs k v).length ≤ kvs.length + 1 := by
 unfold putK
 split
 ·rw [jQ]; lia
 ·rw [kQ, kK, xJ]; lia
theorem RelO.getD {o : Option V} {u : Option Value} {d : V} {d' : Value} (r : RelO o u) (rd : RelV d d') : RelV (o.getD d) (u.getD d') := by
 cases o with
 | none => cases u with
  | none => exact rd
  | some _ => exact (show False from r).elim
 | some _ => cases u with
  | none => exact (show False from r).elim
  | some _ => exact r
theorem KV.val {kvs : List (κ × V)} {vs : List (κ × Value)} (r : KV kvs vs) (k : κ) : RelO (valV kvs k) (valueAt vs k) := by
 unfold KV at r
 induction r with
 | nil => exact True.intro
 | @cons p q ps qs h t ih =>
  obtain ⟨h1, h2⟩ := h
  by_cases e : p.1 = k
  ·have e' : q.1 = k := h1.symm.trans e
   have b : valueAt (q :: qs) k = some q.2 := by simp [valueAt, jJf, e']
   rw [valV_pos e, b]; exact h2
  ·have e' : ¬ q.1 = k := fun z => e (h1.trans z)
   have b : valueAt (q :: qs) k = valueAt qs k := by simp [valueAt, jJf, e']
   rw [valV_neg e, b]; exact ih
theorem KV.any {kvs : List (κ × V)} {vs : List (κ × Value)} (r : KV kvs vs) (k : κ) : (kvs.any fun kv => decide (kv.1 = k)) = vs.any fun kv => decide (kv.1 = k) := by
 unfold KV at r
 induction r with
 | nil => rfl
 | cons h t ih => rw [kZa, kZa, ih, h.1]
theorem KV.repl {kvs : List (κ × V)} {vs : List (κ × Value)} (r : KV kvs vs) (k : κ) {y : V} {u : Value} (ry : RelV y u) :
  KV (kvs.map fun kv => if kv.1 = k then (kv.1, y) else kv) (vs.map fun kv => if kv.1 = k then (kv.1, u) else kv) := by
 unfold KV at r ⊢
 induction r with
 | nil => exact .nil
 | @cons p q ps qs h t ih =>
  rw [zZ, zZ]
  refine .cons ?_ ih
  obtain ⟨h1, h2⟩ := h
  by_cases e : p.1 = k
  ·rw [if_pos e, if_pos (h1.symm.trans e)]; exact ⟨h1, ry⟩
  ·rw [if_neg e, if_neg (fun z => e (h1.trans z))]; exact ⟨h1, h2⟩
theorem KV.put {kvs : List (κ × V)} {vs : List (κ × Value)} (r : KV kvs vs) (k : κ) {y : V} {u : Value} (ry : RelV y u) : KV (putK kvs k y) (stored vs k u) := by
 unfold putK stored
 rw [r.any k]
 by_cases e : (vs.any fun kv => decide (kv.1 = k)) = true
 ·rw [if_pos e, if_pos e]; exact r.repl k ry
 ·rw [if_neg e, if_neg e]; exact Paired.snoc r ⟨rfl, ry⟩
theorem KV.length {kvs : List (κ × V)} {vs : List (κ × Value)} (r : KV kvs vs) : kvs.length = vs.length := Paired.length r
end
theorem kV_is {P : Program} {w : World} {k : Key} {u : Value} (r : RelV (kV k) u) : (mixKind P w).is k u = true := by
 cases k with
 | inl i => obtain ⟨t, e⟩ := (show ∃ t, u = Value.int i t from r); subst e; exact mixKind_int P w i t
 | inr x => obtain ⟨t, e⟩ := (show ∃ t, u = Value.str x t from r); subst e; exact mixKind_str P w x t
theorem items_are {P : Program} {w : World} : ∀ {ks : List Key} {us : List Value}, Vals (ks.map kV) us → ItemsAre (mixKind P w) ks us
 | [], _, r => by rw [jKc] at r; cases r; exact .nil
 | k :: ks, _, r => by
  rw [zZ] at r
  cases r with
  | cons h t => exact .cons (kV_is h) (items_are t)
abbrev KT (H : Hp) : List (List Key × V) → List (List Key × Addr × Value) → Prop := Paired fun p q => p.1 = q.1 ∧ H q.2.1 = some (.tup (p.1.map kV)) ∧ RelV p.2 q.2.2
theorem KT.val {H : Hp} {kvs : List (List Key × V)} {xs : List (List Key × Addr × Value)} (r : KT H kvs xs) (k : List Key) : RelO (valV kvs k) ((atKey xs k).map (·.2)) := by
 induction r with
 | nil => exact True.intro
 | @cons p q ps qs h t ih =>
  obtain ⟨h1, _, h2⟩ := h
  by_cases e : p.1 = k
  ·have e' : q.1 = k := h1.symm.trans e
   have b : atKey (q :: qs) k = some q.2 := by simp [atKey, jJf, e']
   rw [valV_pos e, b]; exact h2
  ·have e' : ¬ q.1 = k := fun z => e (h1.trans z)
   have b : atKey (q :: qs) k = atKey qs k := by simp [atKey, jJf, e']
   rw [valV_neg e, b]; exact ih
section
variable {P : Program} {w : World} {H : Hp} {h : Heap} {a : Addr}
theorem rd_of {u : HO} (ok : HOk P w H h) (e : Rd H a u) : ObjOk P w H h a u := e.ok ok
theorem dk_rd {kvs : List (Key × V)} (ok : HOk P w H h) (e : Rd H a (.dK kvs)) : kvs.length ≤ sizeLine ∧ (a == sysModules) = false ∧ ∃ vs, KV kvs vs ∧ h.DictOf (mixKind P w) a vs :=
 show ObjOk P w H h a (.dK kvs) from rd_of ok e
theorem dk_of {kvs : List (Key × V)} (ok : HOk P w H h) (e : H a = some (.dK kvs)) : kvs.length ≤ sizeLine ∧ (a == sysModules) = false ∧ ∃ vs, KV kvs vs ∧ h.DictOf (mixKind P w) a vs := dk_rd ok (.inl e)
theorem key_of {ks : List Key} (ok : HOk P w H h) (e : H a = some (.tup (ks.map kV))) : (tupleKind (mixKind P w)).is h ks a := by
 obtain ⟨_, its, r, o, h1, h2, n, h3⟩ := (show ObjOk P w H h a (.tup (ks.map kV)) from ok a _ e)
 exact ⟨o, its.toArray, n, h1, h2, h3, by simpa using items_are r⟩
theorem dt_rd {kvs : List (List Key × V)} (ok : HOk P w H h) (e : Rd H a (.dT kvs)) : kvs.length ≤ sizeLine ∧ (a == sysModules) = false ∧
  ∃ xs, KT H kvs xs ∧ h.DictOfH (tupleKind (mixKind P w)) a xs := by
 obtain ⟨z, y, xs, r, o, es, ep, h1, h2, h3, h4, h5⟩ := (show ObjOk P w H h a (.dT kvs) from rd_of ok e)
 refine ⟨z, y, xs, r, o, es, ep, h1, h2, h3, h4, fun x hx => ?_, h5⟩
 have all : ∀ {l : List (List Key × V)} {m : List (List Key × Addr × Value)}, KT H l m → ∀ x ∈ m, (tupleKind (mixKind P w)).is h x.1 x.2.1 := by
  intro l m q
  induction q with
  | nil => intro x hx; exact nomatch hx
  | @cons p q ps qs hq t ih =>
   intro x hx
   rcases zX.mp hx with e | hx
   ·subst e
    exact key_of ok (by rw [← hq.1]; exact hq.2.1)
   ·exact ih x hx
 exact all r x hx
end
def DGet (H : Hp) (a : Addr) (y : V) (r : Option V) : Prop :=
 (∃ kvs k, Rd H a (.dK kvs) ∧ y = kV k ∧ r = valV kvs k) ∨ ∃ kvs k b, Rd H a (.dT kvs) ∧ y = .ref b ∧ H b = some (.tup (k.map kV)) ∧ r = valV kvs k
theorem DGet.k {H : Hp} {a : Addr} {kvs : List (Key × V)} {k : Key} (e : H a = some (.dK kvs)) : DGet H a (kV k) (valV kvs k) := .inl ⟨kvs, k, .inl e, rfl, rfl⟩
section
variable {X : Cx} {pins : List (Addr × Obj)} {σ : St} {H : Hp} {s : Shared} {a : Addr} {y v : V} {u r : Value} {o : Option V} {A : Around} {E : Value → Shared → Prop}
theorem Inv.big (I : Inv X pins σ H s) : sysModules < s.heap.objs.size := by
 have h : mainGlobals < s.heap.objs.size := (I.mod.glob.keeps I.bk).lt
 exact Nat.lt_trans (by decide) h
theorem d_write {h' : Heap} {t' : Nat} {ob : HO} (I : Inv X pins σ H s) (mu : Mut (H a)) (hs : Heap.SameBut a s.heap h') (he : ∃ q, h'.get? a = some q) (new : ObjOk X.prog X.w (upd H a ob) h' a ob) :
  Inv X pins σ (upd H a ob) { s with heap := h', toks := t' } :=
 I.write (x := a) (e := a) mu (.inl rfl) (fun b q hb z => (hs.2 b hb).trans z) he new
theorem dk_new {P : Program} {w : World} {H' : Hp} {h' : Heap} {kvs : List (Key × V)} {vs : List (Key × Value)} (z : kvs.length ≤ sizeLine) (hd : (a == sysModules) = false) (rel : KV kvs vs) (dd : h'.DictOf (mixKind P w) a vs) :
  ObjOk P w H' h' a (.dK kvs) := ⟨z, hd, vs, rel, dd⟩
end
section
variable {X : Cx} {pins : List (Addr × Obj)} {σ : St} {H : Hp} {s : Shared} {a : Addr} {kvs : List (Key × V)} {k : Key} {u : Value} {A : Around} {E : Value → Shared → Prop}
end
section
variable {X : Cx} {o i e value : Expr} {pos pos' tpos : Pos} {td ty tv : TE}
end
theorem dk_empty {P : Program} {w : World} {H : Hp} (h : Heap) (hb : sysModules < h.objs.size) : ObjOk P w H (h.push { cls := .type "dict", data := .dict #[] }) h.objs.size (.dK []) :=
 ⟨jXc _, beq_eq_false_iff_ne.mpr (Ne.symm (zJ hb)), [], .nil, Heap.DictOf.new h⟩
section
variable {X : Cx} {pos : Pos}
end
structure M1 (X : Cx) (o : Expr) (m : Str) (apos : Pos) (e : Expr) (cpos : Pos) : Prop where
 base : attributeBase o m X.env (eval o X.env) = eval o X.env
 few : ((backTo cpos (starEach [e] X.env)).all (fun x => !x.1) && (backToKw cpos (keywordEach [] X.env)).all (fun x => x.1.isSome)
  && decide (([e] : List Expr).length + ([] : List Keyword).length + (if ([] : List Keyword).isEmpty then 0 else 1) < 30)) = true
 line : (apos.endLine == cpos.line) = true
 trees : backTo cpos (starEach [e] X.env) = [(false, eval e X.env)]
def IsD (H : Hp) (a : Addr) : Prop := (∃ kvs, Rd H a (.dK kvs)) ∨ ∃ kvs, Rd H a (.dT kvs)
theorem isD_at {X : Cx} {pins : List (Addr × Obj)} {σ : St} {H : Hp} {s : Shared} {a : Addr} (I : Inv X pins σ H s) (d : IsD H a) :
  s.TypeIs (.ref a) "dict" ∧ (∀ b, Value.ref a = .ref b → ∃ ob, s.heap.get? b = some ob ∧ ob.dict = none) ∧ (a == sysModules) = false := by
 rcases d with ⟨kvs, e⟩ | ⟨kvs, e⟩
 ·obtain ⟨_, hd, vs, _, dd⟩ := dk_rd I.hok e
  refine ⟨dd.typeIs, fun b q => ?_, hd⟩
  cases q
  obtain ⟨ob, _, _, h1, h2, _⟩ := dd
  exact ⟨ob, h1, h2.2.1⟩
 ·obtain ⟨_, hd, xs, _, dd⟩ := dt_rd I.hok e
  refine ⟨dd.typeIs, fun b q => ?_, hd⟩
  cases q
  obtain ⟨ob, _, _, h1, h2, _⟩ := dd
  exact ⟨ob, h1, h2.2.1⟩
section
variable {X : Cx} {pins : List (Addr × Obj)} {σ : St} {H : Hp} {s : Shared} {a : Addr} {y d : V} {u r : Value} {o : Option V} {A : Around} {E : Value → Shared → Prop}
theorem d_get1 {Q : Value → Shared → Prop} (hu : A.units + 1 < cLine) (I : Inv X pins σ H s) (g : DGet H a y o) (ry : RelV y u) (h : ∀ w' s', Inv X pins σ H s' → RelV (o.getD .non) w' → Q w' s') :
  wpAny (model X.prog X.w) A (call (.builtin "dict.get") [.ref a, u]) Q E s := by
 rcases g with ⟨kvs, k, e, ey, l⟩ | ⟨kvs, k, b, e, ey, eb, l⟩
 ·subst ey
  obtain ⟨z, hd, vs, rel, dd⟩ := dk_rd I.hok e
  refine call_meetsIn PySem.F.slot_dict_get dd.typeIs PySem.F.entry_dict_get (PySem.F.args_dict_get_2 _ _) (meets_dict_get (mixKind X.prog X.w) a (kV_is ry) hd) ⟨_, dd.mapOf, h _ _ (I.tok _) ?_⟩
  rw [l]
  exact (rel.val k).getD rfl
 ·subst ey
  cases (show u = Value.ref b from ry)
  obtain ⟨z, hd, xs, rel, dd⟩ := dt_rd I.hok e
  refine call_meetsIn PySem.F.slot_dict_get dd.typeIs PySem.F.entry_dict_get (PySem.F.args_dict_get_2 _ _) (meetsH_dict_get (tupleKind (mixKind X.prog X.w)) a b hd) ⟨tupleKind_room_in1 hu, k, xs, key_of I.hok eb, dd, h _ _ (I.tok _) ?_⟩
  rw [l]
  exact (rel.val k).getD rfl
end
inductive ItDGet1 (ty : TE) (σ : St) (Q : VK) (x : V) (H1 : Hp) : Prop
 | mk (a : _) (h1 : x = .ref a) (h2 : IsD H1 a) (h3 : ty σ H1 fun y H2 => ∃ o, DGet H2 a y o ∧ Q (o.getD .non) H2)
def tDGet1 (td ty : TE) : TE := fun σ H Q => td σ H fun x H1 => ItDGet1 ty σ Q x H1
section
variable {X : Cx} {o e f : Expr} {apos cpos : Pos} {td ty tx : TE}
theorem pe_dget1 (hu : X.A.units + 1 < cLine) (ho : PE X o td) (he : PE X e ty) (m : M1 X o "get" apos e cpos) : PE X (.Call (.Attribute o "get" apos) [e] [] cpos) (tDGet1 td ty) := by
 intro pins s σ H Q I h
 refine wpAny_Call_method m.base m.few m.line PySem.F.plainAttrs_dict PySem.F.slot_dict_get PySem.F.type_dict_get (thn (ho pins s σ H _ I h) fun u s1 hqP => ?_)
 obtain ⟨x, H1, I1, rx, a, ex, d, q1⟩ := hqP
 subst ex
 obtain rfl : u = Value.ref a := rx
 obtain ⟨t1, t2, _⟩ := isD_at I1 d
 refine ⟨t1, t2, ?_⟩
 rw [m.trees]
 refine Calls.callWith_builtin rfl (Calls.evalArgs_plain (Calls.spliced_cons (thn (he pins s1 σ H1 _ I1 q1) fun iv s2 ⟨y, H2, I2, ry, ov, g, q2⟩ => Calls.spliced_nil ?_)))
 exact d_get1 hu I2 g ry fun w' s3 I3 rw' => ⟨_, H2, I3, rw', q2⟩
end
section
variable {X : Cx} {pins : List (Addr × Obj)} {σ : St} {H : Hp} {s : Shared} {a : Addr} {kvs : List (Key × V)} {A : Around} {E : Value → Shared → Prop}
end
section
variable {X : Cx} {pins : List (Addr × Obj)} {σ : St} {H : Hp} {s : Shared} {a : Addr} {y : V} {u : Value} {A : Around} {E : Value → Shared → Prop}
end
end L2
namespace Att
open PySem PySem.W PySem.Calls PyProof.Rows
section
variable {prog : Program} {w : World} {A : Around} {E : Value → Shared → Prop} {s : Shared} {K : Frag}
end
end Att
namespace L2
open PySem PySem.Spec PyProof.Rows
section
variable {P : Program} {w : World} {K : Fg} {mg : Str → Option Value} {base : Heap}
end
section
variable {X : Cx}
end
section
variable {κ : Type} [DecidableEq κ]
end
theorem lk_list_keys : typeLookup (.type "list") "keys" = pure none := by rw [typeLookup_type, builtinLookup_eq_fast]; kernel_rfl
section
variable {prog : Program} {w : World} {A : Around} {E : Value → Shared → Prop}
theorem getAttrQ_keys {s : Shared} {a : Addr} {xs : Array Value} {k : Nat} {sl : Array (Option Value)} {Q : Option Value → Shared → Prop} (hx : s.heap.get? a = some { cls := .type "list", dict := none, data := .seq xs k, slots := sl }) (hA : A.handled = none)
  (h : ∀ h' tk, (∀ b o, s.heap.get? b = some o → h'.get? b = some o) → Q none { s with heap := h', toks := tk }) : wpAny (model prog w) A (getAttr? (.ref a) "keys") Q E s := by
 obtain ⟨hp, g, d, tk, os⟩ := s
 have hT : ∀ tk', (⟨hp, g, d, tk', os⟩ : Shared).TypeIs (.ref a) "list" := fun _ => ⟨_, hx, rfl⟩
 have f1 := sub_AttributeError
 have f3 := F.slot_list_getattribute.lookup
 have f4 := F.slot_list_getattribute.bind (.ref a)
 have f5 := am_list_getattr_none
 have hname : (["__module__", "__name__", "__qualname__", "__doc__", "__annotations__"] : List Str).contains "keys" = false := by decide +kernel
 unfold getAttr? getAttrBy? getAttrBy
 repeat (any_goals (first | assumption | exact hT _ | ((with_reducible show wpAny _ _ (call (Value.builtin "list.__getattribute__") _ _) _ _ _); refine call_meets F.slot_list_getattribute (hT _) am_entry_list_getattribute (F.args_list_getattribute_2 _ _) (meets_getattribute_miss_list a xs k sl "keys" _ lk_list_keys hname (by decide +kernel)) ⟨hx, hA, fun h' tk' e hx' => ?_⟩) | wp_step))
 have hxo := hx'.of
 obtain ⟨⟨cl, dc, da, sl2⟩, vs, he, hc, _, _⟩ := hxo.there
 simp only at hc
 subst hc
 have hE : ∀ tk2, (⟨h', g, d, tk2, os⟩ : Shared).TypeIs (.ref e) "AttributeError" := fun _ => ⟨_, he, rfl⟩
 show wpAny _ _ (getattributeRaised _ _ _ _ _ _ _) _ _ _
 unfold getattributeRaised
 repeat (any_goals (first | assumption | exact hE _ | wp_step))
 all_goals exact h _ _ hxo.keeps
end
def entry_dul : entryFor table "dict.update.loop" = some Builtin.«dict.update.loop» := entryFor_of_tree (by kernel_rfl)
theorem plain_dul : plainId "dict.update.loop" = true := by decide +kernel
section
variable {X : Cx}
def PairsAre (K : Fg) (H : Hp) : List V → List (Int × V) → Prop := Paired fun v p => ∃ t, v = .ref t ∧ SqT K H t [.int p.1, p.2]
theorem PairsAre.get {K : Fg} {H : Hp} {vs : List V} {ps : List (Int × V)} (h : PairsAre K H vs ps) : ∀ {i : Nat} {v : V}, vs[i]? = some v → ∃ t p, v = .ref t ∧ ps[i]? = some p ∧ SqT K H t [.int p.1, p.2] := by
 induction h with
 | nil => intro i v e; simp at e
 | cons q t ih =>
  intro i v e
  cases i with
  | zero => obtain ⟨a, e1, z⟩ := q; simp at e; subst e; exact ⟨a, _, e1, rfl, z⟩
  | succ i => obtain ⟨a, r, e1, e2, z⟩ := ih (i := i) (v := v) (by simpa using e); exact ⟨a, r, e1, by simpa using e2, z⟩
theorem PairsAre.imp {K : Fg} {H H' : Hp} {vs : List V} {ps : List (Int × V)} (f : ∀ t xs, SqT K H t xs → SqT K H' t xs) (h : PairsAre K H vs ps) : PairsAre K H' vs ps := by
 induction h with
 | nil => exact .nil
 | cons r t ih => obtain ⟨a, e, z⟩ := r; exact .cons ⟨a, e, f _ _ z⟩ ih
theorem PairsAre.length {K : Fg} {H : Hp} {vs : List V} {ps : List (Int × V)} (h : PairsAre K H vs ps) : vs.length = ps.length := Paired.length h
def dictOf2 (ps : List (Int × V)) : List (Key × V) := ps.foldl (fun d p => putK d (Sum.inl p.1) p.2) []
theorem dictOf2_snoc {ps : List (Int × V)} {i : Nat} {p : Int × V} (h : ps[i]? = some p) : dictOf2 (ps.take (i + 1)) = putK (dictOf2 (ps.take i)) (Sum.inl p.1) p.2 := by
 unfold dictOf2
 rw [List.take_succ, h, kQd]
 rfl
theorem dictOf2_len (ps : List (Int × V)) : (dictOf2 ps).length ≤ ps.length := by
 have : ∀ (l : List (Int × V)) (d : List (Key × V)), (l.foldl (fun d p => putK d (Sum.inl p.1) p.2) d).length ≤ d.length + l.length := by
  intro l
  induction l with
  | nil => intro d; simp
  | cons p r ih => intro d; have := ih (putK d (Sum.inl p.1) p.2); have h2 := length_putK d (Sum.inl p.1 : Key) p.2; simp only [jXf, kK] at *; lia
 exact wW (this ps []) (by simp)
theorem upd_loop {pins : List (Addr × Obj)} {σ : St} {H : Hp} {d it l : Addr} {vs : List V} {ps : List (Int × V)} {A : Around} {R : Result → Shared → Prop} (hh : A.handled = none) (hd : H d = none) (hl : SqL X.K H l vs) (hp : PairsAre X.K H vs ps) (hz : ps.length < sizeLine)
  (hR : ∀ s', Inv X pins σ (upd H d (.dK (dictOf2 ps))) s' → R (.ok (.ret .none)) s') :
  ∀ (k i : Nat) (s : Shared), ps.length - i = k → i ≤ ps.length → Inv X pins σ (upd H d (.dK (dictOf2 (ps.take i)))) s → s.heap.IsListIter it l i → FpOk X pins (upd H d (.dK (dictOf2 (ps.take i)))) it →
   codeAny (model X.prog X.w) A (.builtin "dict.update.loop" ⟨[.ref d, .ref it, rawInt i, .none], []⟩) R s := by
 intro k
 induction k with
 | zero =>
  intro i s hk hi I st f
  have ei : i = ps.length := by lia
  subst ei
  rw [xW] at I f
  have sm : Same H (upd H d (.dK (dictOf2 ps))) := same_new' hd _
  obtain ⟨its, r, p, _⟩ := I.list (sm.seq hl)
  have lv := hp.length
  have lr := r.length
  refine codeAny_builtin entry_dul ?_
  rw [Around.under_plainId plain_dul _]
  show wpAny _ A.in1 (pyNext (.ref it) >>= _) _ _ s
  refine jX (wpAny_pyNext_list_end (A := A.in1) hh st p.isList (by simp; lia) fun h' eb => ?_)
  refine jX (jW (jW ?_))
  exact hR _ (I.turned (t' := s.toks) (fun b o hb e => eb b o hb e) f.1 f.2.1 f.2.2.2.1 f.2.2.2.2.1 f.2.2.2.2.2)
 | succ k ih =>
  intro i s hk hi I st f
  have sm : Same H (upd H d (.dK (dictOf2 (ps.take i)))) := same_new' hd _
  obtain ⟨its, r, p, _⟩ := I.list (sm.seq hl)
  have lv := hp.length
  have hlt : i < vs.length := by lia
  obtain ⟨t, pr, ev, ep, hT⟩ := hp.get (gE hlt)
  obtain ⟨u, hu, ru⟩ := r.get (gE hlt)
  rw [ev] at ru
  cases ru
  refine codeAny_builtin entry_dul ?_
  rw [Around.under_plainId plain_dul _]
  show wpAny _ A.in1 (pyNext (.ref it) >>= _) _ _ s
  refine jX (wpAny_pyNext_list_item st p.isList (x := .ref t) (by simpa using hu) fun h' st' sb => ?_)
  have I1 : Inv X pins σ (upd H d (.dK (dictOf2 (ps.take i)))) { s with heap := h' } := I.turned (t' := s.toks) (fun b o hb e => (sb.2 b hb).trans e) f.1 f.2.1 f.2.2.2.1 f.2.2.2.2.1 f.2.2.2.2.2
  obtain ⟨its2, r2, ⟨ot, gt, ct, nt, dt⟩, _⟩ := I1.tuple (sm.tup hT)
  obtain ⟨u1, u2, rfl, ⟨tk1, rfl⟩, ru2⟩ := r2.two
  refine jX (wpAny_holding ?_)
  refine jX (wpAny_tryCatch ?_)
  unfold Builtin.Dict.pairItems
  refine jX (wpAny_typeOf (T := "tuple") ⟨ot, gt, ct⟩ ?_)
  rw [if_pos (by simp)]
  refine jX (wpAny_seqItems gt dt (jW ?_))
  show wpAny _ _ (holding [Value.int pr.1 tk1, u2] (dictSet d (Value.int pr.1 tk1) u2)) _ _ _
  obtain ⟨z, hdS, kv, rel, dd⟩ := dk_of I1.hok (upd_same (H := H) (a := d) (o := .dK (dictOf2 (ps.take i))))
  have l1 := dictOf2_len (ps.take i)
  rw [yX] at l1
  have hz2 : kv.length ≤ sizeLine := by rw [← rel.length]; exact z
  refine wpAny_holding (wpAny_dictSet_pairs (hsz := hz2) (knd := mixKind X.prog X.w) (k := (Sum.inl pr.1 : Key)) (mixKind_int _ _ _ _) dd fun h2 dd' hs2 => ?_)
  have he2 : ∃ q, h2.get? d = some q := let ⟨q, _, _, hq, _⟩ := dd'; ⟨q, hq⟩
  have l2 := length_putK (dictOf2 (ps.take i)) (Sum.inl pr.1 : Key) pr.2
  have I2 : Inv X pins σ (upd (upd H d (.dK (dictOf2 (ps.take i)))) d (.dK (putK (dictOf2 (ps.take i)) (Sum.inl pr.1) pr.2))) { s with heap := h2, toks := s.toks + 1 } :=
   d_write (s := { s with heap := h' }) I1 (by rw [upd_same]; exact True.intro) hs2 he2 (dk_new (by lia) hdS (rel.put _ ru2) dd')
  rw [upd_upd, ← dictOf2_snoc ep] at I2
  have nit : it ≠ d := fun e => by have := f.1; rw [e, upd_same] at this; cases this
  refine jW ⟨kXa plain_dul _, ?_⟩
  have ei : rawInt ((i : Int) + 1) = rawInt ((i + 1 : Nat) : Int) := by push_cast; rfl
  rw [ei]
  refine ih (i + 1) _ (by lia) (by lia) I2 (st'.at fun o e => hs2.extBut _ _ nit e) ⟨?_, f.2⟩
  have := f.1
  rw [upd_ne nit] at this ⊢
  exact this
inductive Ccall_dict_of (KX : Fg) (xs : List V) (H : Hp) (Q : VK) : Prop
 | mk (l : Addr) (vs : List V) (ps : List (Int × V)) (h1 : xs = [.ref l]) (h2 : SqL KX H l vs) (h3 : PairsAre KX H vs ps) (h4 : ps.length < sizeLine) (h5 : ∀ d, H d = none → Q (.ref d) (upd H d (.dK (dictOf2 ps))))
theorem call_dict_of (hc : X.calm = true) : CallR X (.type "dict") (fun xs H Q => Ccall_dict_of X.K xs H Q) := by
 intro pins s σ H xs us Q I rv h
 obtain ⟨l, vs, ps, rfl, hl, hp, hz, q⟩ := h
 obtain ⟨u, rfl, ru⟩ := rv.one
 cases ru
 refine callType_codes (Q₁ := fun obj s1 => obj = .ref s.heap.objs.size ∧ s1 = { s with heap := s.heap.push { cls := .type "dict", data := .dict #[] } }) F.kt_called_dict (F.kt_typeCall_dict_1 _) F.entry_dict_init (kt_code_dict_new _ ⟨rfl, rfl⟩) ?_
 rintro obj s1 ⟨rfl, rfl⟩
 have hd : H s.heap.objs.size = none := I.hok.fresh (jJ _)
 have I1 : Inv X pins σ (upd H s.heap.objs.size (.dK [])) { s with heap := s.heap.push { cls := .type "dict", data := .dict #[] } } := I.laid (t' := s.toks) (fun _ _ q => jZ _ q) (jJ _) (dk_empty s.heap I.big)
 have sm : Same H (upd H s.heap.objs.size (.dK [])) := same_new' hd _
 obtain ⟨z, hdS, kv, rel, dd⟩ := dk_of I1.hok (upd_same (H := H) (a := s.heap.objs.size) (o := .dK []))
 refine ⟨dd.typeIs, F.args_dict_init_2 _ _, ?_⟩
 unfold Builtin.«dict.__init__»
 refine jX ?_
 unfold Builtin.Dict.selfAndRest
 refine jX (wpAny_notOrdered_dict dd.typeIs ?_)
 show wpAny _ _ (pure (s.heap.objs.size, [Value.ref l])) _ _ _
 refine jW ?_
 show wpAny _ _ (Builtin.Dict.updateFrom "dict.__init__" s.heap.objs.size (.ref l) [] .none) _ _ _
 unfold Builtin.Dict.updateFrom
 obtain ⟨its, r, ⟨o, n, e, c, dn, sl⟩, _⟩ := I1.list (sm.seq hl)
 obtain ⟨cls, dct, dat, sls⟩ := o
 simp only at c dn sl
 subst c dn sl
 refine jX (wpAny_typeOf (T := "list") ⟨_, e, rfl⟩ ?_)
 rw [if_pos (by decide)]
 refine jX (getAttrQ_keys (s := { s with heap := s.heap.push { cls := .type "dict", data := .dict #[] } }) e (by exact I.ok.hd hc) fun h2 tk2 hk2 => ?_)
 have I2 : Inv X pins σ (upd H s.heap.objs.size (.dK [])) { s with heap := h2, toks := tk2 } := I1.kept hk2
 rw [if_pos (by rfl)]
 refine jX (wpAny_rule (jX ?_))
 obtain ⟨its2, r2, p2, _⟩ := I2.list (sm.seq hl)
 refine wpAny_pyIter_list (s := { s with heap := h2, toks := tk2 }) p2.isList ?_
 refine jW ⟨kXa plain_dul _, ?_⟩
 have I3 : Inv X pins σ (upd H s.heap.objs.size (.dK [])) { s with heap := h2.push { cls := .type "list_iterator", data := .fields #[.ref l, .int 0 0] }, toks := tk2 } := I2.kept (t' := tk2) fun b o e => jZ _ e
 have hfr := I2.hok.fresh (a := h2.objs.size) (jJ _)
 refine upd_loop (X := X) (pins := pins) (σ := σ) (H := H) (vs := vs) (ps := ps) (A := X.A.in1) (by exact I.ok.hd hc) hd hl hp hz (fun s' I' => ⟨rfl, .ref s.heap.objs.size, _, I', rfl, q _ hd⟩) ps.length 0 _ (by lia) (jXc _) I3 ⟨_, yZ _ rfl, rfl, rfl⟩ (I2.fpOk (jJ _) hfr)
end
section
variable {P : Program} {w : World} {A : Around} {E : Value → Shared → Prop} {s : Shared} {e it l : Addr} {st : Nat → Heap → Prop} {src : List Value → Heap → Prop} {i : Nat} {xs : List Value} {old : Value}
theorem enumNext_item {x : Value} {Q : Option Value → Shared → Prop} (dr : Drw P w it l st src) (hE : IsEnum s.heap e it i old) (hI : st i s.heap) (hl : src xs s.heap) (hx : xs[i]? = some x) (hne : e ≠ it)
  (hQ : ∀ h', IsEnumOut h' e it ((i : Int) + 1) x s.heap.objs.size → st (i + 1) h' → h'.get? s.heap.objs.size = some { cls := .type "tuple", data := .seq #[.int i s.toks, x] } →
   (∀ b o, b ≠ e → b ≠ it → s.heap.get? b = some o → h'.get? b = some o) → Q (some (.ref s.heap.objs.size)) { s with heap := h', toks := s.toks + 1 }) : wpAny (model P w) A (pyNext (.ref e)) Q E s := by
 have hTy : s.TypeIs (.ref e) "enumerate" := ⟨_, hE, rfl⟩
 unfold pyNext
 refine jX (wpAny_attempt (wpAny_callSpecial?_slot (name := Str.ofString "__next__") hTy F.slot_enumerate_next (wpAny_call_entry F.slot_enumerate_next hTy F.entry_enumerate_next ?_ (F.args_enumerate_next_1 _))))
 obtain ⟨hp, g, d, tk, os⟩ := s
 show wpAny _ _ (field (.ref e) 2 >>= _) _ _ _
 refine jX (wpAny_field hE rfl (x := .ref it) rfl ?_)
 refine jX (dr.item _ _ ⟨hp, g, d, tk, os⟩ i xs x _ hI hl hx fun g1 hI1 e1 => ?_)
 replace e1 : Heap.SameBut it hp g1 := e1
 have hE1 : IsEnum g1 e it i old := (e1.2 e hne).trans hE
 show wpAny _ _ (field (.ref e) 3 >>= _) _ _ ⟨g1, g, d, tk, os⟩
 refine jX (wpAny_field hE1 rfl (x := rawInt i) rfl ?_)
 show wpAny _ _ (field (.ref e) 4 >>= _) _ _ ⟨g1, g, d, tk, os⟩
 refine jX (wpAny_field hE1 rfl (x := .none) rfl ?_)
 show wpAny _ _ (mkInt i >>= _) _ _ ⟨g1, g, d, tk, os⟩
 refine jX (wpAny_mkInt ?_)
 show wpAny _ _ (setField (.ref e) 3 (rawInt ((i : Int) + 1)) >>= _) _ _ ⟨g1, g, d, tk + 1, os⟩
 refine jX (wpAny_setField_rec hE1 (by simp) fun g2 hE2 e2 => ?_)
 replace e2 : Heap.SameBut e g1 g2 := e2
 replace hE2 : IsEnum g2 e it ((i : Int) + 1) old := hE2
 show wpAny _ _ (setField (.ref e) 4 .none >>= _) _ _ ⟨g2, g, d, tk + 1, os⟩
 refine jX (wpAny_setField_rec hE2 (by simp) fun g3 hE3 e3 => ?_)
 replace e3 : Heap.SameBut e g2 g3 := e3
 replace hE3 : IsEnum g3 e it ((i : Int) + 1) old := hE3
 show wpAny _ _ (newTuple [.int i tk, x] >>= _) _ _ ⟨g3, g, d, tk + 1, os⟩
 refine jX (wpAny_newTuple ?_)
 have hE4 : IsEnum (g3.push { cls := .type "tuple", data := .seq #[.int i tk, x] }) e it ((i : Int) + 1) old := jZ _ hE3
 generalize hg4 : g3.push { cls := .type "tuple", data := .seq #[.int i tk, x] } = g4 at hE4
 have hsz : g3.objs.size = hp.objs.size := by rw [e3.1, e2.1, e1.1]
 have hel : e < hp.objs.size := kJ hE
 have hT4 : g4.get? hp.objs.size = some { cls := .type "tuple", data := .seq #[.int i tk, x] } := by rw [← hg4, ← hsz]; exact yZ _ rfl
 have hk4 : ∀ b o, b ≠ e → b ≠ it → hp.get? b = some o → g4.get? b = some o := fun b o hbe hbi hb => by
  rw [← hg4]; exact jZ _ (e3.extBut b o hbe (e2.extBut b o hbe (e1.extBut b o hbi hb)))
 have hI4 : st (i + 1) g4 := dr.keep _ _ _ hI1 fun q z => by rw [← hg4]; exact jZ _ (e3.extBut _ _ hne.symm (e2.extBut _ _ hne.symm z))
 show wpAny _ _ (Builtin.SmallTypes.ownedTupleIsFree (.ref e) >>= _) _ _ ⟨g4, g, d, tk + 1, os⟩
 rw [hsz]
 clear hg4 hE3 e3 hE2 e2 hE1 e1 hI1 hsz
 refine jX ?_
 unfold Builtin.SmallTypes.ownedTupleIsFree
 refine jX (wpAny_field hE4 rfl (x := .none) rfl (jW ?_))
 simp only [if_true]
 refine jX (wpAny_rule (jX (wpAny_field hE4 rfl (x := old) rfl (jX (wpAny_setField_rec hE4 (by simp) fun g5 hE5 e5 => ?_)))))
 replace e5 : Heap.SameBut e g4 g5 := e5
 replace hE5 : IsEnum g5 e it ((i : Int) + 1) x := hE5
 show wpAny _ _ (Builtin.SmallTypes.ownedTupleHandOut (.ref e) (.ref hp.objs.size) >>= _) _ _ ⟨g5, g, d, tk + 1, os⟩
 refine jX ?_
 unfold Builtin.SmallTypes.ownedTupleHandOut
 refine jX (wpAny_setField_rec hE5 (by simp) fun g6 hE6 e6 => ?_)
 replace e6 : Heap.SameBut e g5 g6 := e6
 replace hE6 : IsEnumOut g6 e it ((i : Int) + 1) x hp.objs.size := hE6
 refine wpAny_setField_rec hE6 (by simp) fun g7 hE7 e7 => ?_
 replace e7 : Heap.SameBut e g6 g7 := e7
 replace hE7 : IsEnumOut g7 e it ((i : Int) + 1) x hp.objs.size := hE7
 have up : ∀ b o, b ≠ e → g4.get? b = some o → g7.get? b = some o := fun b o hb z => e7.extBut b o hb (e6.extBut b o hb (e5.extBut b o hb z))
 refine jX (wpAny_letGo (jW ⟨_, rfl, jW (hQ g7 hE7 ?_ ?_ ?_)⟩))
 ·exact dr.keep _ _ _ hI4 fun q z => up _ _ hne.symm z
 ·exact up _ _ (Nat.ne_of_gt hel) hT4
 ·exact fun b o hbe hbi hb => up b o hbe (hk4 b o hbe hbi hb)
theorem enumNext_end {Q : Option Value → Shared → Prop} (hh : A.handled = none) (dr : Drw P w it l st src) (hE : IsEnum s.heap e it i old) (hI : st i s.heap) (hl : src xs s.heap) (hx : xs[i]? = none)
  (hQ : ∀ h', Heap.ExtBut it s.heap h' → Q none { s with heap := h' }) : wpAny (model P w) A (pyNext (.ref e)) Q E s := by
 have hTy : s.TypeIs (.ref e) "enumerate" := ⟨_, hE, rfl⟩
 unfold pyNext
 refine jX (wpAny_attempt (wpAny_callSpecial?_slot (name := Str.ofString "__next__") hTy F.slot_enumerate_next (wpAny_call_entry F.slot_enumerate_next hTy F.entry_enumerate_next ?_ (F.args_enumerate_next_1 _))))
 show wpAny _ _ (field (.ref e) 2 >>= _) _ _ _
 refine jX (wpAny_field hE rfl (x := .ref it) rfl ?_)
 refine jX (dr.done _ _ s i xs _ hh hI hl hx fun h' x eb hx' => ?_)
 obtain ⟨o, ho, hc⟩ := hx'
 refine jX (wpAny_isInstance (T := "StopIteration") (b := true) ⟨o, ho, hc⟩ isSubtype_stop (jW (hQ _ eb)))
end
theorem meets_enum {n : String} {l : Addr} {p : Heap → Prop} (I : Itr0 n l p) :
  Meets (Builtin.«enumerate.__new__» ⟨[.type "enumerate", .ref l], []⟩) (fun _ R s => p s.heap ∧ R (.ok (.ret (.ref (s.heap.push (itObj n l)).objs.size))) { s with heap := (s.heap.push (itObj n l)).push { cls := .type "enumerate", data := .fields #[.none, .bool false, .ref s.heap.objs.size, rawInt 0, .none, .none] } }) :=
 .of_wp fun prog w A R s h => by
  obtain ⟨hp, g, d, tk, os⟩ := s
  obtain ⟨q, h⟩ := h
  have hsub := sub_enumerate
  have f1 := fun (A : Around) (E : Value → Shared → Prop) (Q : Value → Shared → Prop) => I.go prog w A E ⟨hp, g, d, tk, os⟩ Q q
  wp_walk
  refine wpAny_stack_any fun stk => jW ?_
  split
  ·rename_i c _ _ _ _ _
   cases (c == Value.type "enumerate")
   ·wp_walk using f1 _ _ _
    exact ⟨_, rfl, h⟩
   ·wp_walk using f1 _ _ _
    exact ⟨_, rfl, h⟩
  ·wp_walk using f1 _ _ _
   exact ⟨_, rfl, h⟩
def Ite (K : Fg) (m : Bool) (a : Addr) : It :=
  ⟨fun i H => ∃ xs x, Sq K m H a xs ∧ xs[i]? = some x,
   fun i H v H' => ∃ T x, v = .ref T ∧ H T = none ∧ H' = upd H T (.tup [.int (i : Nat), x]) ∧ (∀ xs, Sq K m H a xs → xs[i]? = some x),
   fun i H => ∃ xs, Sq K m H a xs ∧ xs.length ≤ i⟩
def eTn (m : Bool) (e it a : Addr) (i : Nat) (h : Heap) : Prop := (∃ old, IsEnum h e it i old) ∧ itSt m it a i h
theorem turn_enum {P : Program} {w : World} {K : Fg} {es : List Expr} {kk : Nat} {tp : Pos} {m : Bool} {e it a : Addr} (hne : e ≠ it) (hea : a ≠ e) (hia : a ≠ it) :
  Turn P w K (.Tuple es kk tp) (Ite K m a) [e, it] e (eTn m e it a) where
 mem := by simp
 obj := fun i h st c hc => by
  obtain ⟨⟨old, h1⟩, h2⟩ := st
  simp only [zX, wQ, or_false] at hc
  rcases hc with rfl | rfl
  ·exact ⟨_, h1, fun v z => by cases z⟩
  ·exact (drw_of (P := P) (w := w) m c a).obj i h h2
 keep := fun i h h' st k => by
  obtain ⟨⟨old, h1⟩, h2⟩ := st
  exact ⟨⟨old, k e (by simp) _ h1⟩, (drw_of (P := P) (w := w) m it a).keep i h h' h2 (k it (by simp))⟩
 item := by
  intro X hP hw hK hc i pins s σ H E I hf st hg
  subst hP hw hK
  obtain ⟨xs, x, q1, hx⟩ := hg
  obtain ⟨is1, r1, p1, z1⟩ := I.sq q1
  obtain ⟨v1, e1, rv1⟩ := r1.get hx
  obtain ⟨⟨old, hE⟩, s1⟩ := st
  refine enumNext_item (drw_of m it a) hE s1 p1 e1 hne fun h' a1 a2 a3 a4 => ⟨_, rfl, ?_⟩
  have kk : ∀ c q, c ∉ [e, it] → s.heap.get? c = some q → h'.get? c = some q := fun c q hc e => by
   simp only [zX, wQ, or_false, not_or] at hc
   exact a4 c q hc.1 hc.2 e
  have I1 : Inv X pins σ (upd H s.heap.objs.size (.tup [.int (i : Nat), x])) { s with heap := h' } := I.tupNew (ch := [e, it]) (its := [.int i s.toks, v1]) (jJ _) (.cons ⟨_, rfl⟩ (.cons rv1 .nil)) (by show 2 ≤ sizeLine; decide) a3 hf kk (fun c hc => by
   simp only [zX, wQ, or_false] at hc
   rcases hc with rfl | rfl
   ·exact ⟨_, a1⟩
   ·obtain ⟨q, z, _⟩ := (drw_of (P := X.prog) (w := X.w) m c a).obj _ _ a2; exact ⟨q, z⟩)
  refine wpAny_letOwnedTupleGo_enum (s := { s with heap := h', toks := s.toks + 1 }) a1 fun h2 g1 g2 => ?_
  obtain ⟨f0, f1, f2, f3, f4, f5⟩ := hf e (by simp)
  have lte : e < s.heap.objs.size := kJ hE
  have I2 : Inv X pins σ (upd H s.heap.objs.size (.tup [.int (i : Nat), x])) { s with heap := h2, toks := s.toks + 1 } := I1.turned (h' := h2) (t' := s.toks + 1) (fun c q hc z => g2.extBut c q hc z) (by rw [upd_ne (zJ lte)]; exact f0) f1 f3 f4 f5
  refine ⟨.ref s.heap.objs.size, _, I2, rfl, ⟨_, x, rfl, I.hok.fresh (jJ _), rfl, fun xs' hq => by rw [I.sq_inj hq q1]; exact hx⟩, ⟨⟨_, by exact_mod_cast g1⟩, (drw_of (P := X.prog) (w := X.w) m it a).keep _ _ _ a2 fun q z => g2.extBut _ _ hne.symm z⟩, fun c hc => ?_⟩
  have hlt : c ≠ s.heap.objs.size := by
   simp only [zX, wQ, or_false] at hc
   rcases hc with rfl | rfl
   ·exact zJ lte
   ·obtain ⟨q, z, _⟩ := (drw_of (P := X.prog) (w := X.w) m c a).obj _ _ s1; exact zJ (kJ z)
  rw [upd_ne hlt]
  exact (hf c hc).1
 done := by
  intro X hP hw hK hc i pins s σ H E I hf st hg
  subst hP hw hK
  obtain ⟨xs, q1, hx⟩ := hg
  obtain ⟨is1, r1, p1, z1⟩ := I.sq q1
  obtain ⟨⟨old, hE⟩, s1⟩ := st
  have l1 := r1.length
  obtain ⟨f0, f1, f2, f3, f4, f5⟩ := hf it (by simp)
  exact enumNext_end (I.ok.hd hc) (drw_of m it a) hE s1 p1 (jQb.mpr (by lia)) fun h' eb => ⟨rfl, I.turned (t' := s.toks) (fun b o hb z => eb b o hb z) f0 f1 f3 f4 f5⟩
 self := fun _ _ _ _ _ st h => by
  obtain ⟨⟨old, h1⟩, _⟩ := st
  exact wpAny_pyIter_enum h1 h
section
variable {X : Cx}
inductive IiEnum (K : Fg) (m : Bool) (R : (It → Hp → Prop)) (vs : List V) (H1 : Hp) : Prop
 | mk (a : _) (h1 : vs = [.ref a]) (h2 : (∃ xs, Sq K m H1 a xs)) (h3 : R (Ite K m a) H1)
def iEnum (K : Fg) (m : Bool) (ta : TA) : TI := fun σ H R => ta σ H fun vs H1 => IiEnum K m R vs H1
theorem pi_enum {a : Expr} {ta : TA} {p pos tp : Pos} {es : List Expr} {kk : Nat} (m : Bool) (hg : Gl X "enumerate") (hm : X.mg "enumerate" = none) (ha : PA X [a] ta) (hs : autoParam (starEach [a] X.env = [(false, eval a X.env)]) L2.aRfl._auto_1) :
  PI X (.Tuple es kk tp) (.Call (.Name "enumerate" p) [a] [] pos) (iEnum X.K m ta) := by
 intro pins s σ H R I h
 refine Call_ (ld_blt I hg hm bt_enumerate (PyProof.Rows.callWith_type1 (thn (ha pos pins s σ H _ I h) fun us s1 hqP => ?_) hs rfl))
 obtain ⟨vs, H1, I1, r1, q1⟩ := hqP
 obtain ⟨l1, e, ⟨xs, q1⟩, q⟩ := q1
 subst e
 obtain ⟨u1, rfl, e1⟩ := r1.one
 cases e1
 obtain ⟨is1, r1, p1, z1⟩ := I1.sq q1
 refine callType_new F.called_enumerate (by decide) (F.typeCall_enumerate_1 _) (F.newCall_enumerate_1 _) (fun obj => F.args_object_init_2 obj _) F.entry_enumerate_new (meets_enum (itr0_of m l1 is1)) ⟨p1, ?_⟩
 have z2 : (s1.heap.push (itObj (itN m) l1)).objs.size = s1.heap.objs.size + 1 := jJa ..
 have g2 : ((s1.heap.push (itObj (itN m) l1)).push { cls := .type "enumerate", data := .fields #[.none, .bool false, .ref s1.heap.objs.size, rawInt 0, .none, .none] }).get? (s1.heap.push (itObj (itN m) l1)).objs.size = some { cls := .type "enumerate", data := .fields #[.none, .bool false, .ref s1.heap.objs.size, rawInt 0, .none, .none] } := yZ _ rfl
 have g1 : ((s1.heap.push (itObj (itN m) l1)).push { cls := .type "enumerate", data := .fields #[.none, .bool false, .ref s1.heap.objs.size, rawInt 0, .none, .none] }).get? s1.heap.objs.size = some (itObj (itN m) l1) := jZ _ (yZ _ rfl)
 rw [z2] at g2
 show _ ∧ _
 rw [z2]
 have kp : ∀ b o, s1.heap.get? b = some o → ((s1.heap.push (itObj (itN m) l1)).push { cls := .type "enumerate", data := .fields #[.none, .bool false, .ref s1.heap.objs.size, rawInt 0, .none, .none] }).get? b = some o := fun b o z => jZ _ (jZ _ z)
 generalize (s1.heap.push (itObj (itN m) l1)).push { cls := .type "enumerate", data := .fields #[.none, .bool false, .ref s1.heap.objs.size, rawInt 0, .none, .none] } = h' at g1 g2 kp
 have I2 : Inv X pins σ H1 { s1 with heap := h' } := I1.kept (t' := s1.toks) kp
 have ltl : l1 < s1.heap.objs.size := itSrc_lt p1
 refine ⟨⟨_, g2, rfl⟩, wpAny_pyIter_enum (s := { s1 with heap := h' }) g2 ⟨_, [s1.heap.objs.size + 1, s1.heap.objs.size], _, _, H1, rfl, I2, turn_enum (m := m) (a := l1) (Nat.succ_ne_self _) (zJ (Nat.lt_succ_of_lt ltl)) (zJ ltl), ⟨⟨_, g2⟩, itSt_new m g1⟩, fun c hc => ?_, q⟩⟩
 have hle : s1.heap.objs.size ≤ c := by
  simp only [zX, wQ, or_false] at hc
  rcases hc with rfl | rfl
  ·exact jJb _ _
  ·exact jJ _
 exact I1.fpOk hle (I1.hok.fresh hle)
end
theorem for_enum {K : Fg} {m : Bool} {a : Addr} {xs : List V} {g : TG} {tb : TS} {D : Ends} {σ : St} {H : Hp} (Pv : Nat → St → Hp → Prop) (h0 : Pv 0 σ H) (hl : ∀ i σ H, i ≤ xs.length → Pv i σ H → Sq K m H a xs)
  (hs : ∀ i x σ H T, xs[i]? = some x → Pv i σ H → H T = none → g (.ref T) σ (upd H T (.tup [.int (i : Nat), x])) fun σ2 H2 => tb { D with nx := Pv (i + 1), ct := Pv (i + 1), bk := D.nx } σ2 H2) (hd : ∀ σ H, Pv xs.length σ H → D.nx σ H) :
  ∃ W : Nat → Nat → St → Hp → Prop, (∃ m, W 0 m σ H) ∧ ∀ i n σ H, W i n σ H →
   ((Ite K m a).stop i H ∧ D.nx σ H) ∨ ((Ite K m a).go i H ∧ ∃ N : St → Hp → Prop, (∀ σ' H', N σ' H' → ∃ m', m' < n ∧ W (i + 1) m' σ' H') ∧ ∀ x H', (Ite K m a).yld i H x H' → g x σ H' fun σ2 H2 => tb { D with nx := N, ct := N, bk := D.nx } σ2 H2) := by
 refine ⟨fun i n σ H => n = xs.length - i ∧ i ≤ xs.length ∧ Pv i σ H, ⟨_, rfl, jXc _, h0⟩, ?_⟩
 rintro i n σ H ⟨rfl, hi, p⟩
 have q1 := hl i σ H hi p
 by_cases hlt : i < xs.length
 ·refine .inr ⟨⟨xs, xs[i], q1, by simp [hlt]⟩, Pv (i + 1), fun σ' H' p' => ⟨xs.length - (i + 1), by lia, rfl, hlt, p'⟩, fun x H' y => ?_⟩
  obtain ⟨T, u, rfl, hT, rfl, y1⟩ := y
  exact hs i u σ H T (y1 xs q1) p hT
 ·have e : i = xs.length := by lia
  subst e
  exact .inl ⟨⟨xs, q1, jJ _⟩, hd σ H p⟩
section
variable {prog : Program} {w : World} {A : Around} {E : Value → Shared → Prop} {s : Shared}
end
section
variable {X : Cx}
end
section
variable {P : Program} {w : World} {A : Around} {E : Value → Shared → Prop} {s : Shared}
end
section
variable {P : Program} {w : World} {A : Around} {E : Value → Shared → Prop} {s : Shared} {z u o i1 i2 l1 l2 : Addr} {st1 st2 : Nat → Heap → Prop} {src1 src2 : List Value → Heap → Prop} {k1 k2 : Nat} {xs ys : List Value}
end
section
variable {X : Cx} {pins : List (Addr × Obj)} {σ : St} {H : Hp} {s : Shared} {m1 m2 : Bool} {z u o i1 i2 a b : Addr} {i : Nat} {xs ys : List V} {E : Value → Shared → Prop} {A : Around}
end
section
variable {X : Cx}
end
def Itr3 (lo c : Int) (n : Nat) : It := ⟨fun i _ => i < n, fun i H x H' => H' = H ∧ x = .int (lo + (i : Nat) * c), fun i _ => n ≤ i⟩
theorem turn_range3 {P : Program} {w : World} {K : Fg} {tg : Expr} (it : Addr) (lo c : Int) (n : Nat) : Turn P w K tg (Itr3 lo c n) [it] it (fun i h => IsRangeIter h it (lo + (i : Nat) * c) ((n : Int) - (i : Nat)) c) where
 mem := by simp
 obj := fun i h st b hb => by
  have e : b = it := by simpa using hb
  subst e
  exact ⟨_, st, fun v z => by
   have z' : Data.fields _ = Data.cell v := z
   cases z'⟩
 keep := fun i h h' st k => k it (by simp) _ st
 item := by
  intro X hP hw hK hc i pins s σ H E I hf st hg
  subst hP hw hK
  obtain ⟨f0, f1, f2, f3, f4, f5⟩ := hf it (by simp)
  have W := Walks.range (prog := X.prog) (w := X.w) (I.ok.hd hc) it lo c n
  refine W.item i s _ _ hg st fun v h' tk hv st' kk => ?_
  obtain ⟨t, rfl⟩ := hv
  have I1 : Inv X pins σ H { s with heap := h', toks := tk } := I.turned (fun b o hb e => kk b o (by simpa using hb) e) f0 f1 f3 f4 f5
  exact ⟨_, rfl, go_of (s := { s with heap := h', toks := tk }) (n := "range_iterator") st' rfl rfl (by decide) ⟨.int (lo + (i : Nat) * c), H, I1, ⟨t, rfl⟩, ⟨rfl, rfl⟩, st', fun b hb => (hf b hb).1⟩⟩
 done := by
  intro X hP hw hK hc i pins s σ H E I hf st hg
  subst hP hw hK
  obtain ⟨f0, f1, f2, f3, f4, f5⟩ := hf it (by simp)
  exact wpAny_pyNext_range_end (I.ok.hd hc) st (by have : n ≤ i := hg; lia) fun h' eb => ⟨rfl, I.turned (t' := s.toks) (fun b o hb e => eb b o hb e) f0 f1 f3 f4 f5⟩
 self := fun _ _ _ _ _ st h => wpAny_pyIter_rangeiter st h
theorem size_nonneg (a b c : Int) (hc : c ≠ 0) : 0 ≤ Builtin.Range.rangeSize a b c := by
 unfold Builtin.Range.rangeSize
 split
 ·split
  ·have := Int.ediv_nonneg (a := b - a - 1) (b := c) (by lia) (by lia); lia
  ·exact jYc 0
 ·split
  ·have := Int.ediv_nonneg (a := a - b - 1) (b := -c) (by lia) (by lia); lia
  ·exact jYc 0
section
variable {X : Cx} {tg : Expr}
inductive IiRng3 (R : (It → Hp → Prop)) (vs : List V) (H1 : Hp) : Prop
 | mk (i j c : Int) (h1 : vs = [.int i, .int j, .int c]) (h2 : (c ≠ 0 ∧ c.natAbs < 1073741824 ∧ Builtin.Range.small i j c = true)) (h3 : R (Itr3 i c (Builtin.Range.rangeSize i j c).toNat) H1)
def iRng3 (ta : TA) : TI := fun σ H R => ta σ H fun vs H1 => IiRng3 R vs H1
theorem pi_range3 {a b c : Expr} {ta : TA} {p pos : Pos} (hg : Gl X "range") (hm : X.mg "range" = none) (ha : PA X [a, b, c] ta) (hs : autoParam (starEach [a, b, c] X.env = [(false, eval a X.env), (false, eval b X.env), (false, eval c X.env)]) L2.aRfl._auto_1) (hs2 : autoParam (starEach [b, c] X.env = [(false, eval b X.env), (false, eval c X.env)]) L2.aRfl._auto_1) :
  PI X tg (.Call (.Name "range" p) [a, b, c] [] pos) (iRng3 ta) := by
 intro pins s σ H R I h
 refine Call_ (ld_blt I hg hm boot_range (PyProof.Rows.callWith_type1 (thn (ha pos pins s σ H _ I h) fun us s1 hqP => ?_) (by rw [hs, hs2]) (by rw [hs2]; rfl)))
 obtain ⟨vs, H1, I1, r1, q1⟩ := hqP
 obtain ⟨i, j, k, e, ⟨h1, h2, h3⟩, q⟩ := q1
 subst e
 cases r1 with
 | cons r rr =>
  cases rr with
  | cons r' rr =>
   cases rr with
   | cons r'' rr =>
    cases rr
    obtain ⟨t, rfl⟩ := r
    obtain ⟨t', rfl⟩ := r'
    obtain ⟨t'', rfl⟩ := r''
    refine call_range_3 h1 ?_ (.inl (PyProof.noPylong_small h2))
    refine wpAny_pyIter_range (IsRange.new ..) h3 ?_
    have I2 : Inv X pins σ H1 { s1 with heap := s1.heap.push { cls := .type "range", data := .fields #[.int i t, .int j t', .int k t''] }, toks := s1.toks } := I1.kept fun b o e => jZ _ e
    refine ⟨(s1.heap.push { cls := .type "range", data := .fields #[.int i t, .int j t', .int k t''] }).objs.size, [(s1.heap.push { cls := .type "range", data := .fields #[.int i t, .int j t', .int k t''] }).objs.size], _, _, H1, rfl,
     I2.kept (t' := s1.toks) fun b o e => jZ _ e, turn_range3 _ i k (Builtin.Range.rangeSize i j k).toNat, ?_, fun b hb => ?_, q⟩
    ·have e1 : i + ((0 : Nat) : Int) * k = i := by simp
     have e2 : (((Builtin.Range.rangeSize i j k).toNat : Nat) : Int) - ((0 : Nat) : Int) = Builtin.Range.rangeSize i j k := by have := size_nonneg i j k h1; lia
     show IsRangeIter _ _ (i + ((0 : Nat) : Int) * k) ((((Builtin.Range.rangeSize i j k).toNat : Nat) : Int) - ((0 : Nat) : Int)) k
     rw [e1, e2]
     exact yZ _ rfl
    ·have e : b = (s1.heap.push { cls := .type "range", data := .fields #[.int i t, .int j t', .int k t''] }).objs.size := by simpa using hb
     subst e
     exact I2.fpOk (jJ _) (I2.hok.fresh (jJ _))
end
theorem for_range3 {lo c : Int} {n : Nat} {g : TG} {tb : TS} {D : Ends} {σ : St} {H : Hp} (Pv : Nat → St → Hp → Prop) (h0 : Pv 0 σ H)
  (hs : ∀ i σ H, i < n → Pv i σ H → g (.int (lo + (i : Nat) * c)) σ H fun σ2 H2 => tb { D with nx := Pv (i + 1), ct := Pv (i + 1), bk := D.nx } σ2 H2) (hd : ∀ σ H, Pv n σ H → D.nx σ H) :
  ∃ W : Nat → Nat → St → Hp → Prop, (∃ m, W 0 m σ H) ∧ ∀ i m σ H, W i m σ H →
   ((Itr3 lo c n).stop i H ∧ D.nx σ H) ∨ ((Itr3 lo c n).go i H ∧ ∃ N : St → Hp → Prop, (∀ σ' H', N σ' H' → ∃ m', m' < m ∧ W (i + 1) m' σ' H') ∧ ∀ x H', (Itr3 lo c n).yld i H x H' → g x σ H' fun σ2 H2 => tb { D with nx := N, ct := N, bk := D.nx } σ2 H2) := by
 refine ⟨fun i m σ H => m = n - i ∧ i ≤ n ∧ Pv i σ H, ⟨n, by simp, jXc _, h0⟩, ?_⟩
 rintro i m σ H ⟨rfl, hi, p⟩
 by_cases hlt : i < n
 ·refine .inr ⟨hlt, Pv (i + 1), fun σ' H' p' => ⟨n - (i + 1), by lia, rfl, hlt, p'⟩, fun x H' y => ?_⟩
  obtain ⟨e, y⟩ := y
  subst e y
  exact hs i σ _ hlt p
 ·have e : i = n := by lia
  subst e
  exact .inl ⟨jJ _, hd σ H p⟩
end L2
namespace L2
open PySem PySem.Spec PyProof.Rows PySem.W
theorem get_list {X : Cx} : PGet X (rIxL X.K) := by
 intro pins s σ H o i ov iv Q I ro ri h
 obtain ⟨p, xs, k, z, rfl, rfl, hq, he, q⟩ := h
 cases ro
 obtain ⟨t, rfl⟩ := ri
 obtain ⟨its, r, pl, hz⟩ := I.list hq
 obtain ⟨j, h1, h2, h3, h4, h5⟩ := atI_get he
 obtain ⟨w, ew, rw'⟩ := r.get h2
 have hl := r.length
 have hn := line63
 have fin : EP X pins σ Q w s := ⟨z, H, I, rw', q⟩
 by_cases h0 : 0 ≤ k
 ·have hj : k.toNat = j := by
   rw [seqIndex_of h0 h5] at h1
   exact Option.some.inj h1
  exact wpAny_getItem_list pl.isList h0 (by lia) (by rw [hj]; simpa using ew) fin
 ·have hj : (k + (its.toArray.size : Int)).toNat = j := by
   rw [seqIndex_neg (by lia) h4] at h1
   rw [jV, ← hl]
   exact Option.some.inj h1
  exact wpAny_getItem_list_neg pl.isList (by lia) (by rw [jV] <;> lia) (by lia) (by rw [hj]; simpa using ew) fin
inductive IsT : String → Prop
 | int : IsT "int"
 | bool : IsT "bool"
 | tuple : IsT "tuple"
 | list : IsT "list"
 | str : IsT "str"
def isiW (K : Fg) (H : Hp) : V → String → Bool → Prop
 | .non, _, b => b = false
 | .int _, T, b => b = decide (T = "int")
 | .bl _, T, b => b = decide (T = "int" ∨ T = "bool")
 | .str _, T, b => b = decide (T = "str")
 | .ref a, T, b => ((∃ xs, SqT K H a xs) ∧ b = decide (T = "tuple")) ∨ ((∃ xs, SqL K H a xs) ∧ b = decide (T = "list"))
 | _, _, _ => False
inductive Ccall_isiW (KX : Fg) (xs : List V) (H : Hp) (Q : VK) : Prop
 | mk (x : _) (T : _) (b : _) (h1 : xs = [x, .ty T]) (h2 : IsT T) (h3 : isiW KX H x T b) (h4 : Q (.bl b) H)
theorem call_isiW {X : Cx} : CallR X (.builtin "isinstance") (fun xs H Q => Ccall_isiW X.K xs H Q) := by
 intro pins s σ H xs us Q I rv h
 obtain ⟨x, T, b, rfl, hT, hi, q⟩ := h
 obtain ⟨u, v, rfl, ru, rT⟩ := rv.two
 cases rT
 have fin : ∀ (tk : Nat), EP X pins σ Q (.bool b) { s with toks := tk } := fun tk => ⟨.bl b, H, I.tok tk, rfl, q⟩
 cases x with
 | int n =>
  obtain ⟨t, rfl⟩ := ru
  cases hT <;> (subst hi)
  ·exact IsiPair.int_int (fin s.toks)
  ·exact IsiPair.int_bool (fin _)
  ·exact IsiPair.int_tuple (fin _)
  ·exact IsiPair.int_list (fin _)
  ·exact IsiPair.int_str (fin _)
 | bl n =>
  cases ru
  cases hT <;> (subst hi)
  ·exact IsiPair.bool_int (fin s.toks)
  ·exact IsiPair.bool_bool (fin s.toks)
  ·exact IsiPair.bool_tuple (fin _)
  ·exact IsiPair.bool_list (fin _)
  ·exact IsiPair.bool_str (fin _)
 | str n =>
  obtain ⟨t, rfl⟩ := ru
  cases hT <;> (subst hi)
  ·exact IsiPair.str_int (fin _)
  ·exact IsiPair.str_bool (fin _)
  ·exact IsiPair.str_tuple (fin _)
  ·exact IsiPair.str_list (fin _)
  ·exact IsiPair.str_str (fin s.toks)
 | non =>
  cases ru
  cases hT <;> (subst hi)
  ·exact IsiPair.NoneType_int (fin _)
  ·exact IsiPair.NoneType_bool (fin _)
  ·exact IsiPair.NoneType_tuple (fin _)
  ·exact IsiPair.NoneType_list (fin _)
  ·exact IsiPair.NoneType_str (fin _)
 | ref a =>
  cases ru
  rcases hi with ⟨⟨xs, hq⟩, hi⟩ | ⟨⟨xs, hq⟩, hi⟩
  ·obtain ⟨its, r, ⟨o, e, c, _⟩, _⟩ := I.tuple hq
   cases hT <;> (subst hi)
   ·exact IsiPair.tuple_int e c (fin _)
   ·exact IsiPair.tuple_bool e c (fin _)
   ·exact IsiPair.tuple_tuple e c (fin s.toks)
   ·exact IsiPair.tuple_list e c (fin _)
   ·exact IsiPair.tuple_str e c (fin _)
  ·obtain ⟨its, r, pl, _⟩ := I.list hq
   obtain ⟨o, e, c, _⟩ := pl.isList
   cases hT <;> (subst hi)
   ·exact IsiPair.list_int e c (fin _)
   ·exact IsiPair.list_bool e c (fin _)
   ·exact IsiPair.list_tuple e c (fin _)
   ·exact IsiPair.list_list e c (fin s.toks)
   ·exact IsiPair.list_str e c (fin _)
 | byt _ => exact hi.elim
 | flt _ => exact hi.elim
 | ty _ => exact hi.elim
open Att in
section
variable {prog : Program} {w : World} {A : Around} {R : Result → Shared → Prop} {I : Addr} {fp wr : List Addr} {n : Nat} {P : Nat → Value → Prop} {St : Nat → Heap → Prop}
end
section
variable {prog : Program} {w : World} {A : Around} {E : Value → Shared → Prop} {s : Shared} {l : Addr} {xs : Array (Int × Tok)}
end
section
variable {X : Cx}
end
end L2
namespace L2
open PySem PySem.Spec PySem.Calls PyProof.Rows PySem.W
section
variable {P : Program} {w : World} {K : Fg} {mg : Str → Option Value} {base : Heap} {N : List Str} {qual : Str} {scope : Scope} {f : Addr} {cd : Value} {A : Around} {outer : List Env} {s₀ : Shared} {H₀ : Hp} {E : XK} {C : Addr}
 {pins : List (Addr × Obj)} {σ : St} {H : Hp} {s : Shared}
end
end L2
namespace L2
open PySem PySem.Spec PySem.Calls PyProof.Rows PySem.W
section
variable {X : Cx} {pins : List (Addr × Obj)} {σ : St} {H H' : Hp} {s : Shared} {e : Addr}
end
section
variable {X : Cx} {k : Nat} {f C D : Addr} {fd : FuncData} {ps : List Str} {sp : Sp} {g x n c : Str} {p np pc pn cpos epos hpos apos pos : Pos} {a : Expr} {es : List Expr} {t : TA} {i j : Nat}
end
end L2
namespace L2
open PySem PySem.Spec PySem.Calls PyProof.Rows PySem.W
section
variable {prog : Program} {w : World} {A : Around} {E : Value → Shared → Prop} {h : Heap} {g : Array GenState} {d : Drawn} {t : Nat} {os : OsState} {a C : Addr} {o : Obj} {K : Frag}
open Builtin Builtin.ObjectAttr Builtin.Getset_descriptor in
end
end L2
namespace L2
open PySem PySem.Spec PySem.Calls PyProof.Rows PySem.W
section
variable {X : Cx}
end
def Big (i : Int) : Prop := i.natAbs < 2 ^ 4000
section
variable {X : Cx}
theorem op_fdivG : OpR X (binaryOp .FloorDiv) (rI (fun _ j => j ≠ 0 ∧ Big j) fun i j => .int (i.fdiv j)) := opI fun i j _ _ _ _ _ hc q => floordiv_int hc.1 q (.inl (PyProof.noPylong_of_log2 (xX ((Nat.log2_lt (by have := hc.1; lia)).mpr hc.2) (by decide))))
end
section
variable {P : Program} {w : World} {K : Fg} {mg : Str → Option Value} {base : Heap} {N : List Str} {qual : Str} {scope : Scope} {f : Addr} {cd : Value} {A : Around} {outer : List Env} {s₀ : Shared} {H₀ : Hp} {E : XK} {C : Addr}
end
end L2
namespace L2
open PySem PySem.Spec PySem.Calls PyProof.Rows PySem.W
section
variable {X : Cx}
end
inductive IrCatG (K : Fg) (x : V) (y : V) (H : Hp) (Q : VK) : Prop
 | mk (a : _) (b : _) (xs : _) (ys : _) (h1 : x = .ref a) (h2 : y = .ref b) (h3 : SqT K H a xs) (h4 : SqT K H b ys) (h5 : ys ≠ []) (h6 : xs.length + ys.length ≤ sizeLine) (h7 : ∀ (p : Addr) (H' : Hp), Same H H' → SqT K H' p (xs ++ ys) → Q (.ref p) H')
def rCatG (K : Fg) : R2 := fun x y H Q => IrCatG K x y H Q
theorem op_catG {X : Cx} : OpR X (binaryOp .Add) (rCatG X.K) := by
 intro pins s σ H x y v u Q I rx ry h
 obtain ⟨a, b, xs, ys, rfl, rfl, ha, hb, hy, hz, q⟩ := h
 by_cases hx : xs = []
 ·subst hx
  cases rx
  cases ry
  obtain ⟨its, r1, p1, _⟩ := I.tuple ha
  obtain ⟨its2, r2, p2, _⟩ := I.tuple hb
  have e0 : its = [] := r1.nil_iff.mpr rfl
  subst e0
  obtain ⟨⟨c1, d1, da1, sl1⟩, ho, hc, n, hd⟩ := id p1
  obtain ⟨⟨c2, d2, da2, sl2⟩, ho2, hc2, n2, hd2⟩ := id p2
  simp only at hc hd hc2 hd2
  subst hc hd hc2 hd2
  exact concat_meets ⟨_, ho, rfl⟩ ⟨_, ho2, rfl⟩ noFill_tuple_add seq_tuple_add PySem.F.slot_tuple_add PySem.F.entry_tuple_add (PySem.F.args_tuple_add_2 _ _) (tuple_addW0 a b ([] : List Value).toArray its2.toArray n n2 d1 d2 sl1 sl2 (by simp)) ⟨ho, ho2, ⟨.ref b, H, I, rfl, q b H (Same.refl H) hb⟩⟩
 ·exact op_catT pins s σ H (.ref a) (.ref b) v u Q I rx ry ⟨a, b, xs, ys, rfl, rfl, ha, hb, hx, hz, fun z => absurd z hy, fun _ p hp => q p _ (same_new' hp _) (sqT_new upd_same)⟩
theorem op_catGK {X : Cx} {K : Fg} (hK : X.K = K) : OpR X (binaryOp .Add) (rCatG K) := by subst hK; exact op_catG
end L2
namespace L2
open PySem PySem.W PyProof.Rows
def kGood {α : Type} (f : Nat → Nat → Bool) (n : Nat) : KasT α → (α → Prop) → Prop
 | .ret a, Q => Q a
 | .ask i j k, Q => i < n ∧ j < n ∧ kGood f n (k (f i j)) Q
theorem kGood.bind {α β : Type} {f : Nat → Nat → Bool} {n : Nat} {g : α → KasT β} {Q : β → Prop} : ∀ (t : KasT α), kGood f n t (fun a => kGood f n (g a) Q) → kGood f n (t.bind g) Q
 | .ret a, h => h
 | .ask i j k, h => ⟨h.1, h.2.1, kGood.bind (k (f i j)) h.2.2⟩
theorem kGood.mono {α : Type} {f : Nat → Nat → Bool} {n : Nat} {Q Q' : α → Prop} (hq : ∀ a, Q a → Q' a) : ∀ (t : KasT α), kGood f n t Q → kGood f n t Q'
 | .ret a, h => hq a h
 | .ask i j k, h => ⟨h.1, h.2.1, kGood.mono hq (k (f i j)) h.2.2⟩
theorem kGood.wp {α : Type} {f : Nat → Nat → Bool} {n : Nat} {cmp : Nat → Nat → (Bool → Shared → Prop) → Shared → Prop} {s : Shared} (hc : ∀ i j C, i < n → j < n → C (f i j) s → cmp i j C s) {Q : α → Prop} {R : α → Shared → Prop} (hR : ∀ a, Q a → R a s) :
  ∀ (t : KasT α), kGood f n t Q → t.kasWp cmp R s
 | .ret a, h => hR a h
 | .ask i j k, h => hc i j _ h.1 h.2.1 (kGood.wp hc hR (k (f i j)) h.2.2)
theorem mono_adj {g : Nat → Int} {m : Nat} (h : ∀ i, i + 1 < m → g i ≤ g (i + 1)) : ∀ j i, i ≤ j → j < m → g i ≤ g j
 | 0, i, hi, _ => by rw [Nat.le_zero.mp hi]; exact jYc _
 | j + 1, i, hi, hj => by
  by_cases e : i = j + 1
  ·rw [e]; exact jYc _
  ·exact Int.le_trans (mono_adj h j i (by lia) (by lia)) (h j hj)
section
variable {r : Nat → Int} {n : Nat}
def rk (r : Nat → Int) (p : Array Nat) (i : Nat) : Int := r (p.getD i 0)
def lessR (r : Nat → Int) (i j : Nat) : Bool := decide (r i < r j)
def PermN (n : Nat) (p : Array Nat) : Prop := p.Perm (List.toArray (List.range n))
theorem gD {p q : Array Nat} {i j : Nat} (h : p[i]? = q[j]?) : p.getD i 0 = q.getD j 0 := by rw [jYa, jYa, h]
theorem rk_eq {p q : Array Nat} {i j : Nat} (h : p[i]? = q[j]?) : rk r p i = rk r q j := congrArg r (gD h)
theorem PermN.size {p : Array Nat} (h : PermN n p) : p.size = n := by have := h.size_eq; simpa using this
theorem PermN.lt {p : Array Nat} (h : PermN n p) (hn : 0 < n) (i : Nat) : p.getD i 0 < n := by
 rw [jYa]
 cases e : p[i]? with
 | none => exact hn
 | some v =>
  have hm : v ∈ p := Array.mem_of_getElem? e
  have := h.mem_iff.mp hm
  simpa using this
theorem PermN.rev {p : Array Nat} (h : PermN n p) (i j : Nat) : PermN n (kas_rev p i j) := (mirror_perm p i j _).trans h
theorem rk_rev {p : Array Nat} {i j : Nat} (hj : j ≤ p.size) (k : Nat) : rk r (kas_rev p i j) k = if i ≤ k ∧ k < j then rk r p (i + j - 1 - k) else rk r p k := by
 have e := getElem?_mirror_all (i := i) hj k
 by_cases c : i ≤ k ∧ k < j
 ·rw [if_pos c] at e ⊢; exact rk_eq e
 ·rw [if_neg c] at e ⊢; exact rk_eq e
theorem asc_good {p : Array Nat} (hp : PermN n p) (hn : 0 < n) : ∀ (f a : Nat), kGood (lessR r) n (kas_asc p f a) fun m => a ≤ m ∧ m ≤ a + f ∧ (∀ i, a ≤ i → i < m → rk r p (i - 1) ≤ rk r p i) ∧ (m < a + f → rk r p m < rk r p (m - 1))
 | 0, a => ⟨jJ _, jJ _, fun i h1 h2 => by lia, fun h => by lia⟩
 | f + 1, a => by
  refine ⟨hp.lt hn _, hp.lt hn _, ?_⟩
  by_cases c : rk r p a < rk r p (a - 1)
  ·rw [show lessR r (p.getD a 0) (p.getD (a - 1) 0) = true from kY c]; dsimp only; rw [if_pos rfl]
   exact ⟨jJ _, by lia, fun i h1 h2 => by lia, fun _ => c⟩
  ·rw [show lessR r (p.getD a 0) (p.getD (a - 1) 0) = false from yY c]; dsimp only; rw [if_neg kZ]
   refine kGood.mono (fun m h => ?_) _ (asc_good hp hn f (a + 1))
   obtain ⟨h1, h2, h3, h4⟩ := h
   refine ⟨by lia, by lia, fun i i1 i2 => ?_, fun z => h4 (by lia)⟩
   by_cases e : i = a
   ·subst e; lia
   ·exact h3 i (by lia) i2
def Falls (r : Nat → Int) (p : Array Nat) (m : Nat) : Prop := ∀ i, 1 ≤ i → i < m → rk r p i ≤ rk r p (i - 1)
def Flat (r : Nat → Int) (p : Array Nat) (m q : Nat) : Prop := q + 1 ≤ m ∧ ∀ i, m - (q + 1) ≤ i → i < m → rk r p i = rk r p (m - 1)
theorem rev_flat {p : Array Nat} (hp : PermN n p) {m q : Nat} (hm : m ≤ n) (h : Flat r p m q) (k : Nat) : rk r (kas_rev p (m - (q + 1)) m) k = rk r p k := by
 rw [rk_rev (by rw [hp.size]; exact hm)]
 have h0 := h.1
 by_cases c : m - (q + 1) ≤ k ∧ k < m
 ·rw [if_pos c, h.2 k c.1 c.2, h.2 _ (by lia) (by lia)]
 ·rw [if_neg c]
theorem desc_good (hn : 0 < n) : ∀ (f : Nat) (p : Array Nat) (a q : Nat), PermN n p → a + f ≤ n → 1 ≤ a → Falls r p a → Flat r p a q → kGood (lessR r) n (kas_desc f p a q) fun x => PermN n x.1 ∧ a ≤ x.2.1 ∧ x.2.1 ≤ a + f ∧ Falls r x.1 x.2.1 ∧ Flat r x.1 x.2.1 x.2.2
 | 0, p, a, q, hp, _, _, h1, h2 => ⟨hp, jJ _, jJ _, h1, h2⟩
 | f + 1, p, a, q, hp, hf, ha, h1, h2 => by
  refine ⟨hp.lt hn _, hp.lt hn _, ?_⟩
  have flat0 : ∀ p' : Array Nat, Flat r p' (a + 1) 0 := fun p' => ⟨by lia, fun i i1 i2 => by rw [show i = a by lia]; rfl⟩
  by_cases c : rk r p a < rk r p (a - 1)
  ·rw [show lessR r (p.getD a 0) (p.getD (a - 1) 0) = true from kY c]; dsimp only; rw [if_pos rfl]
   by_cases hq : q > 0
   ·rw [if_pos hq]
    have e := rev_flat hp (by lia) h2
    refine kGood.mono (fun x h => ⟨h.1, by have := h.2.1; lia, by have := h.2.2.1; lia, h.2.2.2⟩) _ (desc_good hn f _ (a + 1) 0 (hp.rev _ _) (by lia) (by lia) (fun i i1 i2 => ?_) (flat0 _))
    rw [e, e]
    by_cases ei : i = a
    ·subst ei; lia
    ·exact h1 i i1 (by lia)
   ·rw [if_neg hq]
    refine kGood.mono (fun x h => ⟨h.1, by have := h.2.1; lia, by have := h.2.2.1; lia, h.2.2.2⟩) _ (desc_good hn f _ (a + 1) 0 hp (by lia) (by lia) (fun i i1 i2 => ?_) (flat0 _))
    by_cases ei : i = a
    ·subst ei; lia
    ·exact h1 i i1 (by lia)
  ·rw [show lessR r (p.getD a 0) (p.getD (a - 1) 0) = false from yY c]; dsimp only; rw [if_neg kZ]
   refine ⟨hp.lt hn _, hp.lt hn _, ?_⟩
   by_cases d : rk r p (a - 1) < rk r p a
   ·rw [show lessR r (p.getD (a - 1) 0) (p.getD a 0) = true from kY d]; dsimp only; rw [if_pos rfl]
    exact ⟨hp, jJ _, jJb _ _, h1, h2⟩
   ·rw [show lessR r (p.getD (a - 1) 0) (p.getD a 0) = false from yY d]; dsimp only; rw [if_neg kZ]
    refine kGood.mono (fun x h => ⟨h.1, by have := h.2.1; lia, by have := h.2.2.1; lia, h.2.2.2⟩) _ (desc_good hn f _ (a + 1) (q + 1) hp (by lia) (by lia) (fun i i1 i2 => ?_) ⟨by have := h2.1; lia, fun i i1 i2 => ?_⟩)
    ·by_cases ei : i = a
     ·subst ei; lia
     ·exact h1 i i1 (by lia)
    ·have := h2.1
     show rk r p i = rk r p a
     by_cases ei : i = a
     ·rw [ei]
     ·rw [h2.2 i (by lia) (by lia)]; lia
def Rises (r : Nat → Int) (p : Array Nat) (m : Nat) : Prop := ∀ i j, i ≤ j → j < m → rk r p i ≤ rk r p j
theorem rises_of {p : Array Nat} {m : Nat} (h : ∀ i, 1 ≤ i → i < m → rk r p (i - 1) ≤ rk r p i) : Rises r p m := fun i j => mono_adj (fun i hi => h (i + 1) (by lia) hi) j i
theorem tail3_good (hn : 0 < n) {p : Array Nat} {m : Nat} (hp : PermN n p) (h1 : 1 ≤ m) (hm : m ≤ n) (h : Falls r p m) : kGood (lessR r) n (kas_tail3 m n p) fun x => PermN n x.2 ∧ 1 ≤ x.1 ∧ x.1 ≤ n ∧ Rises r x.2 x.1 := by
 refine kGood.bind _ (kGood.mono (fun k hk => ?_) _ (asc_good (hp.rev 0 m) hn (n - m) m))
 obtain ⟨k1, k2, k3, _⟩ := hk
 refine ⟨hp.rev _ _, by show 1 ≤ k; lia, by show k ≤ n; lia, rises_of fun i i1 i2 => ?_⟩
 by_cases c : i < m
 ·have hs : m ≤ p.size := by rw [hp.size]; exact hm
  rw [rk_rev hs, rk_rev hs, if_pos ⟨by lia, by lia⟩, if_pos ⟨by lia, c⟩]
  have := h (0 + m - 1 - (i - 1)) (by lia) (by lia)
  rw [show 0 + m - 1 - (i - 1) - 1 = 0 + m - 1 - i by lia] at this
  exact this
 ·exact k3 i (by lia) i2
theorem descPart_good (hn : 0 < n) {p : Array Nat} {m : Nat} (hp : PermN n p) (h1 : 1 ≤ m) (hm : m < n) (h : Falls r p (m + 1)) : kGood (lessR r) n (kas_descPart m n p) fun x => PermN n x.2 ∧ 1 ≤ x.1 ∧ x.1 ≤ n ∧ Rises r x.2 x.1 := by
 refine kGood.bind _ (kGood.mono (fun x hx => ?_) _ (desc_good hn (n - (m + 1)) p (m + 1) 0 hp (by lia) (by lia) h ⟨by lia, fun i i1 i2 => by rw [show i = m by lia]; rfl⟩))
 obtain ⟨x1, x2, x3, x4, x5⟩ := hx
 by_cases c : x.2.2 > 0
 ·rw [if_pos c]
  have e := rev_flat x1 (by lia) x5
  exact tail3_good hn (x1.rev _ _) (by lia) (by lia) fun i i1 i2 => by rw [e, e]; exact x4 i i1 i2
 ·rw [if_neg c]
  exact tail3_good hn x1 (by lia) (by lia) x4
theorem count_good (hn : 0 < n) {p : Array Nat} (hp : PermN n p) : kGood (lessR r) n (kas_count n p) fun x => PermN n x.2 ∧ 1 ≤ x.1 ∧ x.1 ≤ n ∧ Rises r x.2 x.1 := by
 refine kGood.bind _ (kGood.mono (fun m hm => ?_) _ (asc_good hp hn (n - 1) 1))
 obtain ⟨m1, m2, m3, m4⟩ := hm
 have up : Rises r p m := rises_of m3
 by_cases c : (m == n) = true
 ·rw [if_pos c]
  exact ⟨hp, m1, by show m ≤ n; lia, up⟩
 ·rw [if_neg c]
  have c' : m ≠ n := fun z => c (by rw [z]; exact beq_self_eq_true n)
  have dn := m4 (by lia)
  by_cases c1 : m > 1
  ·rw [if_pos c1]
   refine ⟨hp.lt hn _, hp.lt hn _, ?_⟩
   by_cases d : rk r p 0 < rk r p (m - 1)
   ·rw [show lessR r (p.getD 0 0) (p.getD (m - 1) 0) = true from kY d]; dsimp only; rw [if_pos rfl]
    exact ⟨hp, m1, by show m ≤ n; lia, up⟩
   ·rw [show lessR r (p.getD 0 0) (p.getD (m - 1) 0) = false from yY d]; dsimp only; rw [if_neg kZ]
    have fl : Flat r p m (m - 1) := ⟨by lia, fun i i1 i2 => by
     have a1 := up 0 i (by lia) i2
     have a2 := up i (m - 1) (by lia) (by lia)
     lia⟩
    have e := rev_flat hp (by lia) fl
    rw [show m - (m - 1 + 1) = 0 by lia] at e
    refine descPart_good hn (hp.rev _ _) m1 (by lia) fun i i1 i2 => ?_
    rw [e, e]
    by_cases ei : i = m
    ·subst ei; lia
    ·rw [fl.2 i (by lia) (by lia), fl.2 (i - 1) (by lia) (by lia)]; exact jYc _
  ·rw [if_neg c1]
   refine descPart_good hn hp m1 (by lia) fun i i1 i2 => ?_
   have : i = m := by lia
   subst this; lia
theorem place_good (hn : 0 < n) {p : Array Nat} (hp : PermN n p) {k : Nat} (up : Rises r p k) : ∀ (f a b : Nat), a ≤ b → b ≤ k → b - a ≤ f → (∀ i, i < a → rk r p i ≤ rk r p k) → (∀ i, b ≤ i → i < k → rk r p k ≤ rk r p i) →
  kGood (lessR r) n (kas_place p k f a b) fun l => l ≤ k ∧ (∀ i, i < l → rk r p i ≤ rk r p k) ∧ ∀ i, l ≤ i → i < k → rk r p k ≤ rk r p i
 | 0, a, b, h1, h2, h3, h4, h5 => ⟨by lia, h4, fun i i1 i2 => h5 i (by lia) i2⟩
 | f + 1, a, b, h1, h2, h3, h4, h5 => by
  unfold kas_place
  by_cases c : a ≥ b
  ·rw [if_pos c]
   exact ⟨by lia, h4, fun i i1 i2 => h5 i (by lia) i2⟩
  ·rw [if_neg c]
   refine ⟨hp.lt hn _, hp.lt hn _, ?_⟩
   by_cases d : rk r p k < rk r p ((a + b) / 2)
   ·rw [show lessR r (p.getD k 0) (p.getD ((a + b) / 2) 0) = true from kY d]; dsimp only; rw [if_pos rfl]
    refine place_good hn hp up f a ((a + b) / 2) (by lia) (by lia) (by lia) h4 fun i i1 i2 => ?_
    have := up ((a + b) / 2) i i1 i2
    lia
   ·rw [show lessR r (p.getD k 0) (p.getD ((a + b) / 2) 0) = false from yY d]; dsimp only; rw [if_neg kZ]
    refine place_good hn hp up f ((a + b) / 2 + 1) b (by lia) (by lia) (by lia) (fun i hi => ?_) h5
    have := up i ((a + b) / 2) (by lia) (by lia)
    lia
theorem bin_good (hn : 0 < n) : ∀ (f : Nat) (p : Array Nat) (k : Nat), PermN n p → k + f = n → Rises r p k → kGood (lessR r) n (kas_bin f p k) fun x => PermN n x ∧ Rises r x n
 | 0, p, k, hp, hk, up => ⟨hp, (show k = n by lia) ▸ up⟩
 | f + 1, p, k, hp, hk, up => by
  unfold kas_bin
  refine kGood.bind _ (kGood.mono (fun l hl => ?_) _ (place_good hn hp up k 0 k (jXc _) (jJ _) (by lia) (fun i hi => by lia) (fun i i1 i2 => by lia)))
  obtain ⟨l1, l2, l3⟩ := hl
  refine bin_good hn f _ (k + 1) ((bubble_perm _ _ _).trans hp) (by lia) ?_
  have eb : ∀ i, rk r (bubble p k (k - l)) i = if i = l then rk r p k else if l < i ∧ i ≤ k then rk r p (i - 1) else rk r p i := fun i => by
   have e := getElem?_bubble (xs := p) (src := k) (by rw [hp.size]; lia) (k - l) (by lia) i
   rw [show k - (k - l) = l by lia] at e
   by_cases c1 : i = l
   ·rw [if_pos c1] at e ⊢; exact rk_eq e
   ·rw [if_neg c1] at e ⊢
    by_cases c2 : l < i ∧ i ≤ k
    ·rw [if_pos c2] at e ⊢; exact rk_eq e
    ·rw [if_neg c2] at e ⊢; exact rk_eq e
  intro i j hij hj
  rw [eb, eb]
  by_cases a1 : i = l
  ·rw [if_pos a1]
   by_cases b1 : j = l
   ·rw [if_pos b1]; exact jYc _
   ·rw [if_neg b1, if_pos ⟨by lia, by lia⟩]
    exact l3 (j - 1) (by lia) (by lia)
  ·rw [if_neg a1]
   by_cases a2 : l < i ∧ i ≤ k
   ·rw [if_pos a2, if_neg (by lia), if_pos ⟨by lia, by lia⟩]
    exact up (i - 1) (j - 1) (by lia) (by lia)
   ·rw [if_neg a2]
    by_cases b1 : j = l
    ·rw [if_pos b1]; exact l2 i (by lia)
    ·rw [if_neg b1]
     by_cases b2 : l < j ∧ j ≤ k
     ·rw [if_pos b2]; exact up i (j - 1) (by lia) (by lia)
     ·rw [if_neg b2]; exact up i j hij (by lia)
theorem sort_good (hn : 0 < n) : kGood (lessR r) n (kas_sort n) fun x => PermN n x ∧ Rises r x n := by
 refine kGood.bind _ (kGood.mono (fun x hx => ?_) _ (count_good hn (p := List.toArray (List.range n)) (Array.Perm.refl _)))
 obtain ⟨x1, x2, x3, x4⟩ := hx
 by_cases c : x.1 < n
 ·rw [if_pos c, show max x.1 1 = x.1 by lia]
  exact bin_good hn _ _ _ x1 (by lia) x4
 ·rw [if_neg c]
  have e : x.1 = n := by lia
  rw [e] at x4
  exact ⟨x1, x4⟩
end
end L2
namespace L2
open PySem PySem.Spec PySem.W PyProof.Rows
open PySem.SeqAt
theorem cons_lt {a b : Int} {as bs : List Int} : decide (a :: as < b :: bs) = if a = b then decide (as < bs) else decide (a < b) := by
 rw [wY]
 by_cases e : a = b
 ·subst e
  rw [if_pos rfl, decide_eq_true_iff, decide_eq_true_iff, List.cons_lt_cons_iff]
  constructor
  ·rintro (h | ⟨_, h⟩)
   ·lia
   ·exact h
  ·intro h; exact .inr ⟨rfl, h⟩
 ·rw [if_neg e, decide_eq_true_iff, decide_eq_true_iff, List.cons_lt_cons_iff]
  constructor
  ·rintro (h | ⟨h, _⟩)
   ·exact h
   ·exact absurd h e
  ·intro h; exact .inl h
theorem tuple_ltAt (l b : Addr) (items items2 : Array Value) (n n2 : Nat) (dd dd2 : Option Addr) (sl sl2 : Array (Option Value)) (ns ms : List Int) (i1 : IntsAre items.toList ns) (i2 : IntsAre items2.toList ms) :
  Meets (Builtin.«tuple.__lt__» ⟨[.ref l, .ref b], []⟩)
   (fun A R s => s.heap.get? l = some { cls := .type "tuple", dict := dd, data := .seq items n, slots := sl } ∧ s.heap.get? b = some { cls := .type "tuple", dict := dd2, data := .seq items2 n2, slots := sl2 } ∧
    R (.ok (.ret (.bool (decide (ns < ms))))) s) :=
 .of_wp fun prog w A R s h => by
  obtain ⟨hp, g, d, tk, os⟩ := s; obtain ⟨hl, hb, h⟩ := h
  have f2 := AutoSeq1.sub_tuple_tuple
  wp_walk using wpAny_loadPart' hl, wpAny_loadPart' hb, wpAny_forIn_list _ (fun rest b s' => b.1 = none ∧ s' = ⟨hp, g, d, tk, os⟩ ∧ ∃ ys xs ns' ms' c, rest = List.zip ys xs ∧ IntsAre ys ns' ∧ IntsAre xs ms' ∧ ys.length + c = items.size ∧ xs.length + c = items2.size ∧
   R (.ok (.ret (.bool (decide (ns' < ms'))))) ⟨hp, g, d, tk, os⟩) _
  case turn =>
   rintro ⟨y, x⟩ rest b s' ⟨hb', rfl, ys, xs, ns', ms', c, hz, j1, j2, k1, k2, hR⟩
   cases j1 with
   | nil => cases hz
   | cons a t j1 =>
    cases j2 with
    | nil => cases hz
    | cons a' t' j2 =>
     rw [kYa] at hz
     injection hz with hz1 hz2
     injection hz1 with hy hx
     subst hy hx
     rw [cons_lt] at hR
     rw [kK] at k1 k2
     refine jX (EqAt.int_int a t a' t' prog w _ _ ?_)
     by_cases e : a = a'
     ·subst e
      rw [if_pos rfl] at hR
      rw [beq_self_eq_true]
      wp_walk
      exact ⟨rfl, rfl, _, _, _, _, c + 1, hz2, j1, j2, by lia, by lia, hR⟩
     ·rw [if_neg e] at hR
      rw [show (a == a') = false from by simpa using e]
      wp_walk using (show wpAny (model prog w) _ (richCompare .Lt (.int a t) (.int a' t')) _ _ _ from lt_int ?_)
      exact ⟨_, rfl, hR⟩
  case fin =>
   rintro ⟨b1, b2⟩ s' ⟨hb', rfl, ys, xs, ns', ms', c, hz, j1, j2, k1, k2, hR⟩
   simp only at hb'
   subst hb'
   wp_walk
   refine ⟨_, rfl, ?_⟩
   have e : decide (ns' < ms') = decide (items.size < items2.size) := by
    cases j1 with
    | nil =>
     cases j2 with
     | nil => rw [← k1, ← k2, yY (jYb _)]; rfl
     | cons a t j2 =>
      rw [kK] at k2
      rw [xJ] at k1
      rw [kY (show items.size < items2.size by lia)]
      exact kY (List.nil_lt_cons _ _)
    | cons a t j1 =>
     cases j2 with
     | nil =>
      rw [kK] at k1
      rw [xJ] at k2
      rw [yY (show ¬ items.size < items2.size by lia)]
      exact yY (List.not_lt_nil _)
     | cons a' t' j2 => rw [kYa] at hz; cases hz
   rw [e] at hR
   exact hR
  case h =>
   exact ⟨rfl, rfl, _, _, _, _, 0, rfl, i1, i2, by simp, by simp, h⟩
section
variable {prog : Program} {w : World} {A : Around} {E : Value → Shared → Prop} {s : Shared}
theorem lt_tups {l b : Addr} {items items2 : Array Value} {ns ms : List Int} {Q : Value → Shared → Prop} (hl : s.heap.IsTuple l items) (hb : s.heap.IsTuple b items2) (i1 : IntsAre items.toList ns) (i2 : IntsAre items2.toList ms) (hu : A.units < cLine)
  (h : Q (.bool (decide (ns < ms))) s) : wpAny (model prog w) A (compareOp .Lt (.ref l) (.ref b)) Q E s := by
 obtain ⟨⟨cls, dd, data, sl⟩, ho, hc, n, hd⟩ := id hl
 obtain ⟨⟨cls2, dd2, data2, sl2⟩, ho2, hc2, n2, hd2⟩ := id hb
 simp only at hc hd hc2 hd2
 subst hc hd hc2 hd2
 exact richCompare_meets_room (op := .Lt) ⟨_, ho, rfl⟩ ⟨_, ho2, rfl⟩ F.slot_tuple_lt F.entry_tuple_lt (F.args_tuple_lt_2 _ _) (tuple_ltAt l b items items2 n n2 dd dd2 sl sl2 ns ms i1 i2)
  ⟨ho, ho2, show Value.bool (decide (ns < ms)) ≠ Value.notImplemented ∧ Q (.bool (decide (ns < ms))) s from ⟨(fun x => nomatch x), h⟩⟩ hu
theorem IntsAre_inj {vs : List Value} {ns ms : List Int} (h : IntsAre vs ns) (g : IntsAre vs ms) : ns = ms := by
 induction h generalizing ms with
 | nil => cases g; rfl
 | cons n t h ih =>
  cases g with
  | cons _ _ h' => rw [ih h']
theorem IntsAre_get : ∀ {vs : List Value} {ns : List Int}, IntsAre vs ns → ∀ (j : Nat) (h : j < vs.length), ∃ n t, ns[j]? = some n ∧ vs[j] = .int n t
 | _, _, .nil, j, h => by simp at h
 | _, _, .cons n t h', 0, h => ⟨n, t, rfl, rfl⟩
 | _, _, .cons n t h', j + 1, h => by
  obtain ⟨m, u, e1, e2⟩ := IntsAre_get h' j (by simpa using h)
  exact ⟨m, u, by simpa using e1, by simpa using e2⟩
theorem IntsAre_len : ∀ {vs : List Value} {ns : List Int}, IntsAre vs ns → vs.length = ns.length
 | _, _, .nil => rfl
 | _, _, .cons n t h => by rw [kK, kK, IntsAre_len h]
theorem eq_tups {l b : Addr} {items items2 : Array Value} {ns ms : List Int} (hl : s.heap.IsTuple l items) (hb : s.heap.IsTuple b items2) (i1 : IntsAre items.toList ns) (i2 : IntsAre items2.toList ms) (hu : A.units < cLine) :
  EqAt A s (.ref l) (.ref b) (decide (ns = ms)) := by
 by_cases e : l = b
 ·subst e
  obtain ⟨o, ho, _, n, hd⟩ := hl
  obtain ⟨o2, ho2, _, n2, hd2⟩ := hb
  rw [ho] at ho2
  cases ho2
  rw [hd] at hd2
  injection hd2 with hd2
  subst hd2
  rw [kY (IntsAre_inj i1 i2)]
  exact EqAt.same _
 ·have l1 := IntsAre_len i1
  have l2 := IntsAre_len i2
  rw [jQc] at l1 l2
  have key := RcAt.tuples (A := A) (s := s) (e := fun j => decide (ns[j]? = ms[j]?)) hl hb hu fun j h1 h2 => by
   obtain ⟨x, t, ex, vx⟩ := IntsAre_get i1 j (by rw [jQc]; exact h1)
   obtain ⟨y, u, ey, vy⟩ := IntsAre_get i2 j (by rw [jQc]; exact h2)
   rw [Array.getElem_toList] at vx vy
   rw [vx, vy, ex, ey]
   have : decide (some x = some y) = (x == y) := by
    rw [wY, decide_eq_true_iff, beq_iff_eq]
    exact ⟨fun h => Option.some.inj h, fun h => congrArg some h⟩
   rw [this]
   exact EqAt.int_int x t y u
  have eq : ((List.range (min items.size items2.size)).all (fun j => decide (ns[j]? = ms[j]?)) && items.size == items2.size) = decide (ns = ms) := by
   rw [wY, decide_eq_true_iff, xK, xV, beq_iff_eq]
   constructor
   ·rintro ⟨h1, h2⟩
    refine kQc fun j => ?_
    by_cases hj : j < ns.length
    ·exact yV (h1 j (wX.mpr (by lia)))
    ·rw [jZa (by lia), jZa (by lia)]
   ·rintro rfl
    exact ⟨fun j _ => kY rfl, by lia⟩
  rw [eq] at key
  exact EqAt.of_refs e key
end
abbrev Row := List Int × Int
def rowLt (r q : Row) : Bool := if r.1 = q.1 then decide (r.2 < q.2) else decide (r.1 < q.1)
theorem rowLt_iff {r q : Row} : rowLt r q = true ↔ r.1 < q.1 ∨ (r.1 = q.1 ∧ r.2 < q.2) := by
 unfold rowLt
 by_cases e : r.1 = q.1
 ·rw [if_pos e, decide_eq_true_iff]
  constructor
  ·intro h; exact .inr ⟨e, h⟩
  ·rintro (h | ⟨_, h⟩)
   ·rw [e] at h; exact absurd h (kYb _)
   ·exact h
 ·rw [if_neg e, decide_eq_true_iff]
  constructor
  ·intro h; exact .inl h
  ·rintro (h | ⟨h, _⟩)
   ·exact h
   ·exact absurd h e
theorem rowLt_irrefl (r : Row) : rowLt r r = false := by
 rw [← Bool.not_eq_true, rowLt_iff]
 rintro (h | ⟨_, h⟩)
 ·exact absurd h (kYb _)
 ·lia
theorem rowLt_trans {a b c : Row} (h1 : rowLt a b = true) (h2 : rowLt b c = true) : rowLt a c = true := by
 rw [rowLt_iff] at *
 rcases h1 with h1 | ⟨e1, h1⟩ <;> rcases h2 with h2 | ⟨e2, h2⟩
 ·exact .inl (List.lt_trans h1 h2)
 ·exact .inl (e2 ▸ h1)
 ·exact .inl (e1 ▸ h2)
 ·exact .inr ⟨e1.trans e2, by lia⟩
theorem rowLt_total {a b : Row} (h1 : rowLt a b = false) (h2 : rowLt b a = false) : a = b := by
 rw [← Bool.not_eq_true, rowLt_iff] at h1 h2
 have e : a.1 = b.1 := List.le_antisymm (List.not_lt.mp fun z => h2 (.inl z)) (List.not_lt.mp fun z => h1 (.inl z))
 have e2 : a.2 = b.2 := by
  have : ¬ a.2 < b.2 := fun z => h1 (.inr ⟨e, z⟩)
  have : ¬ b.2 < a.2 := fun z => h2 (.inr ⟨e.symm, z⟩)
  lia
 exact Prod.ext e e2
def rankIn (S : List Row) (x : Row) : Int := ((S.countP fun y => rowLt y x : Nat) : Int)
theorem count_lt {p q : Row → Bool} {x : Row} : ∀ {S : List Row}, (∀ y, p y = true → q y = true) → x ∈ S → p x = false → q x = true → S.countP p < S.countP q
 | y :: S, h, hx, h1, h2 => by
  rw [List.countP_cons, List.countP_cons]
  have le : S.countP p ≤ S.countP q := List.countP_mono_left fun z _ => h z
  rcases zX.mp hx with e | hx
  ·subst e
   rw [h1, h2]
   simp
   lia
  ·have := count_lt h hx h1 h2
   have : (if p y = true then 1 else 0) ≤ (if q y = true then 1 else 0) := by
    by_cases e : p y = true
    ·rw [if_pos e, if_pos (h y e)]; exact jJ _
    ·rw [if_neg e]; exact jXc _
   lia
theorem rank_lt {S : List Row} {x y : Row} (hx : x ∈ S) (hy : y ∈ S) : decide (rankIn S x < rankIn S y) = rowLt x y := by
 have up : ∀ {a b : Row}, a ∈ S → rowLt a b = true → rankIn S a < rankIn S b := fun {a b} ha h => by
  have := count_lt (p := fun y => rowLt y a) (q := fun y => rowLt y b) (fun z hz => rowLt_trans hz h) ha (rowLt_irrefl a) h
  unfold rankIn
  lia
 cases e : rowLt x y with
 | true => exact kY (up hx e)
 | false =>
  refine yY fun z => ?_
  cases e2 : rowLt y x with
  | true => have := up hy e2; lia
  | false => rw [rowLt_total e e2] at z; lia
def RowIn (h : Heap) (v : Value) (r : Row) : Prop := ∃ (a b : Addr) (its : Array Value) (t : Tok), v = .ref a ∧ h.IsTuple a #[.ref b, .int r.2 t] ∧ h.IsTuple b its ∧ IntsAre its.toList r.1
theorem IsTuple_ext {h h' : Heap} (k : ∀ b o, h.get? b = some o → h'.get? b = some o) {a : Addr} {its : Array Value} (z : h.IsTuple a its) : h'.IsTuple a its := by obtain ⟨o, e, r⟩ := z; exact ⟨o, k _ _ e, r⟩
theorem RowIn.ext {h h' : Heap} (k : ∀ b o, h.get? b = some o → h'.get? b = some o) {v : Value} {r : Row} (z : RowIn h v r) : RowIn h' v r := by
 obtain ⟨a, b, its, t, e, z1, z2, z3⟩ := z; exact ⟨a, b, its, t, e, IsTuple_ext k z1, IsTuple_ext k z2, z3⟩
section
variable {prog : Program} {w : World} {A : Around} {E : Value → Shared → Prop} {s : Shared}
theorem key_lt {x y : Value} {r q : Row} {Q : Bool → Shared → Prop} (hx : RowIn s.heap x r) (hy : RowIn s.heap y q) (hu : A.units + 1 < cLine) (h : Q (rowLt r q) s) : wpAny (model prog w) A (keyLt' (tuples' false) x y) Q E s := by
 obtain ⟨a, b, its, t, rfl, x1, x2, x3⟩ := hx
 obtain ⟨a', b', its', t', rfl, y1, y2, y3⟩ := hy
 obtain ⟨o, ho, _, n, hd⟩ := x1
 obtain ⟨o', ho', _, n', hd'⟩ := y1
 refine kat_lt ho hd ho' hd' (kat_cons (eq_tups x2 y2 x3 y3 (by lia) _ _ _ _ ?_))
 unfold rowLt at h
 by_cases e : r.1 = q.1
 ·rw [if_pos e] at h
  rw [kY e]
  refine kat_yes (kat_cons (EqAt.int_int _ _ _ _ _ _ _ _ ?_))
  by_cases e2 : r.2 = q.2
  ·rw [show (r.2 == q.2) = true by simpa using e2]
   refine kat_yes (kat_nil ?_)
   rw [e2, yY (Int.lt_irrefl _)] at h
   exact h
  ·rw [show (r.2 == q.2) = false by simpa using e2]
   exact kat_no (kat_one _ _ (lt_int h))
 ·rw [if_neg e] at h
  rw [yY e]
  exact kat_no (kat_one _ _ (lt_tups x2 y2 x3 y3 (by lia) h))
theorem rows_tups {h : Heap} : ∀ {vs : List Value} {rs : List Row}, Paired (RowIn h) vs rs → ∃ fs, KatTups h vs fs ∧ fs.length = vs.length ∧ ∀ f ∈ fs, ∃ b its, f = .ref b ∧ h.IsTuple b its
 | _, _, .nil => ⟨[], trivial, rfl, fun f hf => nomatch hf⟩
 | _, _, .cons z r => by
  obtain ⟨a, b, its, t, rfl, ⟨o, ho, hc, n, hd⟩, z2, z3⟩ := z
  obtain ⟨fs, k, l, p⟩ := rows_tups r
  refine ⟨.ref b :: fs, .cons ho hc hd rfl k, by rw [kK, kK, l], fun f hf => ?_⟩
  rcases zX.mp hf with e | hf
  ·exact ⟨b, its, e, z2⟩
  ·exact p f hf
theorem key_kind {vs : List Value} {rs : List Row} {Q : SortKind → Shared → Prop} (hr : Paired (RowIn s.heap) vs rs) (h1 : 0 < vs.length) (h : Q (tuples' false) s) : wpAny (model prog w) A (keyKind' vs.toArray) Q E s := by
 obtain ⟨fs, k, l, p⟩ := rows_tups hr
 refine kat_kind (T := .type "tuple") k (by lia) (fun v hv => ?_) (by decide) h
 obtain ⟨b, its, rfl, o, ho, hc, _⟩ := p v hv
 rw [← hc]
 exact (Looks.ld ho).andThen .now
end
end L2
namespace L2
open PySem PySem.Spec PySem.W PyProof.Rows
open PySem.SeqAt
theorem Paired.getR {α β : Type} {R : α → β → Prop} {xs : List α} {ys : List β} (h : Paired R xs ys) : ∀ {i : Nat} {x : α}, xs[i]? = some x → ∃ y, ys[i]? = some y ∧ R x y := by
 induction h with
 | nil => intro i x e; simp at e
 | cons r t ih =>
  intro i x e
  cases i with
  | zero => simp at e; subst e; exact ⟨_, rfl, r⟩
  | succ i => obtain ⟨y, e1, e2⟩ := ih (i := i) (by simpa using e); exact ⟨y, by simpa using e1, e2⟩
theorem Paired.pick {α β : Type} {R : α → β → Prop} {xs : List α} {ys : List β} (h : Paired R xs ys) (a : α) (b : β) : ∀ (is : List Nat), (∀ i ∈ is, i < xs.length) → Paired R (is.map fun i => xs.getD i a) (is.map fun i => ys.getD i b)
 | [], _ => .nil
 | i :: is, hi => by
  have hlt := hi i zQ
  obtain ⟨y, e1, e2⟩ := Paired.getR h (gE hlt)
  have f1 : xs.getD i a = xs[i] := by rw [jY, gE hlt]; rfl
  have f2 : ys.getD i b = y := by rw [jY, e1]; rfl
  refine .cons ?_ (Paired.pick h a b is fun j hj => hi j (yW _ hj))
  show R (xs.getD i a) (ys.getD i b)
  rw [f1, f2]; exact e2
theorem range_get {α : Type} (l : List α) (d : α) : (List.range l.length).map (fun i => l.getD i d) = l := by
 refine kQc fun i => ?_
 rw [jK]
 by_cases hi : i < l.length
 ·rw [List.getElem?_range hi, gE hi]
  show some (l.getD i d) = _
  rw [jY, gE hi]; rfl
 ·rw [jZa (by rw [jQd]; lia), jZa (by lia)]; rfl
theorem order_rows {rs : List Row} {p : Array Nat} (hp : PermN rs.length p) (up : Rises (fun i => rankIn rs (rs.getD i ([], 0))) p rs.length) :
  (p.toList.map fun i => rs.getD i ([], 0)).Perm rs ∧ (p.toList.map fun i => rs.getD i ([], 0)).Pairwise fun x y => rowLt y x = false := by
 have pl : p.toList.Perm (List.range rs.length) := by simpa using Array.perm_iff_toList_perm.mp hp
 have sz := hp.size
 have gm : ∀ i, i < rs.length → rs.getD i ([], 0) ∈ rs := fun i hi => by
  rw [jY, gE hi]; exact wZ hi
 constructor
 ·have := pl.map (fun i => rs.getD i ([], 0))
  rw [range_get] at this
  exact this
 ·rw [kYe, List.pairwise_iff_getElem]
  intro i j hi hj hij
  rw [jQc] at hi hj
  have u := up i j (kXb hij) (by lia)
  have ei : p.getD i 0 = p.toList[i] := by rw [jYa, Array.getElem?_eq_getElem hi]; rfl
  have ej : p.getD j 0 = p.toList[j] := by rw [jYa, Array.getElem?_eq_getElem hj]; rfl
  unfold rk at u
  rw [ei, ej] at u
  dsimp only at u
  have li : p.toList[i] < rs.length := wX.mp (pl.mem_iff.mp (wZ _))
  have lj : p.toList[j] < rs.length := wX.mp (pl.mem_iff.mp (wZ _))
  rw [← rank_lt (S := rs) (gm _ lj) (gm _ li)]
  exact yY (by lia)
section
variable {prog : Program} {w : World} {A : Around} {E : Value → Shared → Prop} {s : Shared}
theorem runs_rows {vs : List Value} {rs : List Row} {Q : SortSt → Shared → Prop} (hr : Paired (RowIn s.heap) vs rs) (h2 : 2 ≤ vs.length) (h64 : vs.length < 64) (hu : A.units + 1 < cLine)
  (h : ∀ (st' : SortSt) (p : Array Nat), PermN vs.length p → (arrOf st').map (·.2) = List.toArray (p.toList.map fun i => vs.getD i Value.none) → failedOf st' = none →
   (p.toList.map fun i => rs.getD i ([], 0)).Perm rs → (p.toList.map fun i => rs.getD i ([], 0)).Pairwise (fun x y => rowLt y x = false) → Q st' s) :
  wpAny (model prog w) A ((sortRuns').run (SortSt.mk' (tuples' false) (vs.toArray.zip vs.toArray) #[] 7 none)) (fun r s' => Q r.2 s') E s := by
 have ln : vs.length = rs.length := Paired.length hr
 refine kat_run (G := fun p s' => s' = s ∧ PermN vs.length p ∧ Rises (fun i => rankIn rs (rs.getD i ([], 0))) p vs.length) rfl h2 h64 (fun p st' s' h1 h2 h3 h4 => ?_) ?_
 ·obtain ⟨rfl, g1, g2⟩ := h4
  rw [ln] at g2
  have o := order_rows (ln ▸ g1) g2
  exact h st' p g1 (kat_snds rfl h2) h3 o.1 o.2
 ·refine kGood.wp (f := lessR fun i => rankIn rs (rs.getD i ([], 0))) (n := vs.length) (fun i j C hi hj hC => ?_) (fun p hp => ⟨rfl, hp⟩) _ (sort_good (by lia))
  obtain ⟨r, er, zr⟩ := Paired.getR hr (gE hi)
  obtain ⟨q, eq, zq⟩ := Paired.getR hr (gE hj)
  have f1 : vs.getD i Value.none = vs[i] := by rw [jY, gE hi]; rfl
  have f2 : vs.getD j Value.none = vs[j] := by rw [jY, gE hj]; rfl
  have g1 : rs.getD i ([], 0) = r := by rw [jY, er]; rfl
  have g2 : rs.getD j ([], 0) = q := by rw [jY, eq]; rfl
  unfold kas_ask
  rw [f1, f2]
  refine key_lt zr zq hu ?_
  rw [← rank_lt (S := rs) (kX er) (kX eq)]
  have hC' : C (decide (rankIn rs (rs.getD i ([], 0)) < rankIn rs (rs.getD j ([], 0)))) s := hC
  rw [g1, g2] at hC'
  exact hC'
theorem sort_rows {a : Addr} {vs : List Value} {rs : List Row} {n : Nat} {P : PySem.Fin → Shared → Prop} (ho : s.heap.get? a = some (seqObj "list" vs.toArray n)) {h₀ : Heap} (ext : ∀ b o, h₀.get? b = some o → b ≠ a ∧ s.heap.get? b = some o) (hr : Paired (RowIn h₀) vs rs)
  (h64 : vs.length < 64) (hu : A.units + 1 < cLine)
  (h : ∀ (p : List Nat), (∀ i ∈ p, i < vs.length) → (p.map fun i => rs.getD i ([], 0)).Perm rs → (p.map fun i => rs.getD i ([], 0)).Pairwise (fun x y => rowLt y x = false) →
   P (.done (.ret .none)) { s with heap := sortedHeap s.heap a vs (List.toArray (p.map fun i => vs.getD i Value.none)) }) :
  wpAny (model prog w) A (Builtin.«list.sort» ⟨[.ref a], []⟩) P E s := by
 have ln : vs.length = rs.length := Paired.length hr
 have ha : a < s.heap.objs.size := kJ ho
 obtain ⟨e1, ho1⟩ : ∃ e1, (s.heap.update a (Obj.mapSeq fun _ => #[])).get? a = some (seqObj "list" #[] e1) := ⟨_, get?_update_seq ho (fun _ => #[])⟩
 have keep : ∀ b o, h₀.get? b = some o → (((s.heap.update a (Obj.mapSeq fun _ => #[])).push (seqObj "tuple" vs.toArray 0)).push (seqObj "list" #[] 0)).get? b = some o := fun b o e => by
  obtain ⟨n1, e1⟩ := ext b o e
  refine jZ _ (jZ _ ?_)
  rw [Heap.get?_update_ne _ _ _ _ n1]; exact e1
 have ho6 : (((s.heap.update a (Obj.mapSeq fun _ => #[])).push (seqObj "tuple" vs.toArray 0)).push (seqObj "list" #[] 0)).get? a = some (seqObj "list" #[] e1) := jZ _ (jZ _ ho1)
 have fin : ∀ (st' : SortSt) (out : List Value), (arrOf st').map (·.2) = List.toArray out → failedOf st' = none → out.length = vs.length → P (.done (.ret .none)) { s with heap := sortedHeap s.heap a vs (List.toArray out) } →
   wpAny (model prog w) A (do
    let sorted := (arrOf st').map (·.2)
    let touched := (← seqEpoch a) != e1
    Builtin.List.listUpdate (.ref a) fun _ => sorted
    if let some e := failedOf st' then rule "list.sort.comparison-raised"; throw e
    if touched then rule "list.sort.modified"; raiseError "ValueError" "list modified during sort"
    ret .none) P E { s with heap := ((s.heap.update a (Obj.mapSeq fun _ => #[])).push (seqObj "tuple" vs.toArray 0)).push (seqObj "list" #[] 0) } := fun st' out h1 h2 h3 h4 => by
  dsimp only
  rw [h1]
  refine jX (seqEpoch_at ho6 rfl ?_)
  refine jX (listUpdate_at ho6 rfl ?_ (hsz2 := by rw [jV, sizeLine_eq]; lia))
  rw [h2]
  simp only [bne_self_eq_false, kQa, if_false]
  exact jW h4
 rw [list_sort_plain]
 refine jX (listItems_at ho rfl ?_)
 refine jX (listUpdate_at ho rfl ?_)
 refine jX (seqEpoch_at ho1 rfl ?_)
 refine jX (wpAny_newTuple ?_)
 refine jX (wpAny_newList ?_)
 refine wpAny_holding ?_
 show wpAny (model prog w) A _ P E { s with heap := ((s.heap.update a (Obj.mapSeq fun _ => #[])).push (seqObj "tuple" vs.toArray 0)).push (seqObj "list" #[] 0) }
 dsimp only
 have hsz : vs.toArray.size = vs.length := by simp
 by_cases h2 : vs.toArray.size < 2
 ·rw [if_pos h2, if_pos h2]
  refine jX (jW ?_)
  rw [StateT.run_pure]
  refine jX (jW ?_)
  have one : (List.range vs.length).map (fun i => rs.getD i ([], 0)) = rs := by rw [ln]; exact range_get _ _
  have o := h (List.range vs.length) (fun i hi => wX.mp hi) (by rw [one]) (by
   rw [one, List.pairwise_iff_getElem]
   intro i j hi hj hij
   lia)
  rw [range_get] at o
  refine fin (SortSt.mk' general' (vs.toArray.zip vs.toArray) #[] 7 none) vs ?_ rfl rfl o
  show (vs.toArray.zip vs.toArray).map (·.2) = _
  apply Array.toList_inj.mp
  simp
  exact List.map_snd_zip (jJ _)
 ·rw [if_neg h2, if_neg h2]
  have hr' : Paired (RowIn (((s.heap.update a (Obj.mapSeq fun _ => #[])).push (seqObj "tuple" vs.toArray 0)).push (seqObj "list" #[] 0))) vs rs := Paired.imp' (fun _ _ z => RowIn.ext keep z) hr
  refine jX (key_kind (s := { s with heap := ((s.heap.update a (Obj.mapSeq fun _ => #[])).push (seqObj "tuple" vs.toArray 0)).push (seqObj "list" #[] 0) }) hr' (by lia) ?_)
  refine jX (wpAny_mono (runs_rows (s := { s with heap := ((s.heap.update a (Obj.mapSeq fun _ => #[])).push (seqObj "tuple" vs.toArray 0)).push (seqObj "list" #[] 0) })
   (Q := fun st' s' => s' = { s with heap := ((s.heap.update a (Obj.mapSeq fun _ => #[])).push (seqObj "tuple" vs.toArray 0)).push (seqObj "list" #[] 0) } ∧ ∃ p : Array Nat, PermN vs.length p ∧ (arrOf st').map (·.2) = List.toArray (p.toList.map fun i => vs.getD i Value.none) ∧ failedOf st' = none ∧
    (p.toList.map fun i => rs.getD i ([], 0)).Perm rs ∧ (p.toList.map fun i => rs.getD i ([], 0)).Pairwise (fun x y => rowLt y x = false))
   hr' (by lia) h64 hu fun st' p h1 h2 h3 h4 h5 => ⟨rfl, p, h1, h2, h3, h4, h5⟩) ?_ fun _ _ e => e)
  rintro ⟨⟨⟩, st'⟩ s' ⟨rfl, p, g1, g2, g3, g4, g5⟩
  have pl : p.toList.Perm (List.range vs.length) := by simpa using Array.perm_iff_toList_perm.mp g1
  refine fin st' _ g2 g3 (by rw [jQ, jQc, g1.size]) (h p.toList (fun i hi => wX.mp (pl.mem_iff.mp hi)) g4 g5)
theorem sorted_rows {l : Addr} {vs : List Value} {rs : List Row} {Q : Value → Shared → Prop} (hl : s.heap.IsList l vs.toArray) (hr : Paired (RowIn s.heap) vs rs) (h64 : vs.length < 64) (hu : A.units + 3 < cLine)
  (h : ∀ (p : List Nat), (∀ i ∈ p, i < vs.length) → (p.map fun i => rs.getD i ([], 0)).Perm rs → (p.map fun i => rs.getD i ([], 0)).Pairwise (fun x y => rowLt y x = false) →
   Q (.ref (s.heap.objs.size + 1)) { s with heap := sortedAll s.heap vs (List.toArray (p.map fun i => vs.getD i Value.none)) }) :
  wpAny (model prog w) A (call (.builtin "sorted") [.ref l]) Q E s := by
 refine Calls.call_function_entry kind_sorted plain_sorted entry_sorted (args_sorted1 _) ?_
 unfold Builtin.«sorted»
 refine jX (m := checkCount "sorted" 1 1 _) (jW ?_)
 refine jX (collect_list hl ?_)
 refine jX (wpAny_newList ?_)
 have hsz : ((s.heap.push (seqObj "list" #[] 0)).update s.heap.objs.size (Obj.mapSeq (· ++ vs.toArray))).objs.size = s.heap.objs.size + 1 := by
  rw [Heap.size_update, size_push']
 have hoL : (((s.heap.push (seqObj "list" #[] 0)).update s.heap.objs.size (Obj.mapSeq (· ++ vs.toArray))).push (seqObj "list" vs.toArray 0)).get? (s.heap.objs.size + 1) = some (seqObj "list" vs.toArray 0) := by
  rw [← hsz]; exact yZ _ rfl
 have keep : ∀ b o, s.heap.get? b = some o → b ≠ s.heap.objs.size + 1 ∧ (((s.heap.push (seqObj "list" #[] 0)).update s.heap.objs.size (Obj.mapSeq (· ++ vs.toArray))).push (seqObj "list" vs.toArray 0)).get? b = some o := fun b o e => by
  have hlt : b < s.heap.objs.size := kJ e
  refine ⟨zJ (Nat.lt_succ_of_lt hlt), jZ _ ?_⟩
  rw [Heap.get?_update_ne _ _ _ _ (zJ hlt)]
  exact jZ _ e
 show wpAny _ _ _ _ _ { s with heap := ((s.heap.push (seqObj "list" #[] 0)).update s.heap.objs.size (Obj.mapSeq (· ++ vs.toArray))).push (seqObj "list" vs.toArray 0) }
 rw [hsz]
 refine jX (wpAny_holding (wpAny_call_entry slot_list_sort ⟨_, hoL, rfl⟩ entry_list_sort (sort_rows (s := { s with heap := ((s.heap.push (seqObj "list" #[] 0)).update s.heap.objs.size (Obj.mapSeq (· ++ vs.toArray))).push (seqObj "list" vs.toArray 0) }) hoL keep hr h64 (by show A.units + 1 + 1 + 1 < cLine; lia) fun p h1 h2 h3 => ⟨_, rfl, ?_⟩) (args_list_sort _)))
 exact jW ⟨_, rfl, h p h1 h2 h3⟩
end
section
variable {X : Cx}
theorem rowIn_of {pins : List (Addr × Obj)} {σ : St} {H : Hp} {s : Shared} (I : Inv X pins σ H s) {t : Addr} {r : Row} (h : Nb.RowAt X.K H t r) : RowIn s.heap (.ref t) r := by
 obtain ⟨p, h1, h2⟩ := h
 obtain ⟨its, r1, p1, _⟩ := I.tuple h1
 obtain ⟨its2, r2, p2, _⟩ := I.tuple h2
 obtain ⟨u, u2, rfl, ru, ru2⟩ := Vals.two r1
 cases ru
 obtain ⟨tk, rfl⟩ := ru2
 exact ⟨t, p, its2.toArray, tk, rfl, p1, p2, intsAre_of r2⟩
theorem rowsIn_of {pins : List (Addr × Obj)} {σ : St} {H : Hp} {s : Shared} (I : Inv X pins σ H s) : ∀ {vs : List V} {us : List Value} {rs : List Row}, Vals vs us → Nb.RowsAre X.K H vs rs → Paired (RowIn s.heap) us rs := by
 intro vs us rs hv h
 unfold Nb.RowsAre at h
 induction h generalizing us with
 | nil => have e := hv.nil_iff.mpr rfl; subst e; exact .nil
 | cons z t ih =>
  obtain ⟨a, rfl, z⟩ := z
  cases hv with
  | cons ru rr =>
   cases ru
   exact .cons (rowIn_of I z) (ih rr)
inductive Ccall_sortedR (K : Fg) (xs : List V) (H : Hp) (Q : VK) : Prop
 | mk (l : Addr) (vs : List V) (rs : List Row) (h1 : xs = [.ref l]) (h2 : SqL K H l vs) (h3 : Nb.RowsAre K H vs rs) (h4 : vs.length < 64) (h5 : ∀ (D : Addr) (ws : List V) (qs : List Row), H D = none → Nb.RowsAre K H ws qs → ws.length = vs.length → qs.Perm rs → qs.Pairwise (fun x y => rowLt y x = false) → Q (.ref D) (upd H D (.lst ws)))
theorem call_sortedR {K : Fg} (hK : X.K = K) (hu : X.A.units + 6 < cLine) : CallR X (.builtin "sorted") (fun xs H Q => Ccall_sortedR K xs H Q) := by
 subst hK
 intro pins s σ H xs us Q I rv h
 obtain ⟨l, vs, rs, rfl, hq, hr, h64, q⟩ := h
 obtain ⟨u, rfl, ru⟩ := rv.one
 cases ru
 obtain ⟨its, r, p, hz⟩ := I.list hq
 have lv : vs.length = its.length := r.length
 refine sorted_rows p.isList (rowsIn_of I r hr) (by lia) (by lia) fun o h1 h2 h3 => ?_
 obtain ⟨e, he⟩ := sortedAll_at s.heap its (List.toArray (o.map fun i => its.getD i Value.none))
 have lo : o.length = vs.length := by
  have := h2.length_eq
  rw [jQ] at this
  rw [this]; exact (Nb.RowsAre.length hr).symm
 refine ⟨.ref (s.heap.objs.size + 1), _, I.laid (t' := s.toks) (o := .lst (o.map fun i => vs.getD i .non)) (fun b ob z => sortedAll_old z) (kYf _) ⟨by rw [jQ]; lia, _, e, ?_, he⟩, rfl, q _ _ _ (I.hok.fresh (kYf _)) ?_ (by rw [jQ]; exact lo) h2 h3⟩
 ·exact Paired.pick r .non Value.none o fun i hi => by rw [lv]; exact h1 i hi
 ·exact Paired.pick hr .non ([], 0) o fun i hi => by rw [lv]; exact h1 i hi
end
end L2
namespace L2
open PySem PySem.Spec PyProof.Rows PySem.W
structure Tab (w : World) (K : Frag) (mg : Str → Option Value) (x : Str) (a : Addr) (f : Str → Option Value) : Prop where
 bound : mg x = some (.ref a)
 map : ∀ (P : Program) (h : Heap), K.In h → h.MapOf (strKind P w) a f
 low : (a == sysModules) = false
theorem tab_mk {w : World} {K : Frag} {mg : Str → Option Value} {x : Str} {a : Addr} {es : Array DictEntry} {n : Nat} (hb : mg x = some (.ref a)) (hl : K.lookup a = some ⟨.type "dict", none, .dict es n, #[]⟩) (hk : KeysLit w.params es.toList) (lo : (a == sysModules) = false) :
  Tab w K mg x a (fun k => findBy Value.isStrOf es k) := ⟨hb, fun P h X => mapOf_K (prog := P) X hl hk, lo⟩
inductive IrTab (a : Addr) (f : Str → Option Value) (x : V) (y : V) (H : Hp) (Q : VK) : Prop
 | mk (s : _) (v : _) (z : _) (h1 : x = .ref a) (h2 : y = .str s) (h3 : f s = some v) (h4 : RelV z v) (h5 : Q z H)
def rTab (a : Addr) (f : Str → Option Value) : R2 := fun x y H Q => IrTab a f x y H Q
section
variable {X : Cx}
theorem pc_tabNot {x : Str} {a : Addr} {f : Str → Option Value} {i : Expr} {ti : TE} {p : Pos} (T : Tab X.w X.K X.mg x a f) (hi : PE X i ti) (hg : autoParam (Gl X x) L2.aRfl._auto_1) (hd : autoParam ((x == ("__debug__" : Str)) = false) L2.aDec._auto_1) :
  PC X .NotIn i (.Name x p) (fun σ H Q => ti σ H fun y H1 => ∃ s, y = .str s ∧ Q (.bl (!(f s).isSome)) H1) := by
 intro pins s σ H Q I h
 refine thn (hi pins s σ H _ I h) fun iv s1 ⟨y, H1, I1, ry, z, ey, q1⟩ => thn (pe_glob (v := .ref a) hg T.bound rfl hd pins s1 σ H1 (fun v H2 => v = .ref a ∧ H2 = H1) I1 ⟨rfl, rfl⟩) fun u s2 hqP => ?_
 obtain ⟨x2, H2, I2, rx, e1, e2⟩ := hqP
 subst ey e1 e2
 cases rx
 obtain ⟨t, rfl⟩ := ry
 exact wpAny_notIn_of (knd := strKind X.prog X.w) (strKind_is X.prog X.w z t) T.low (T.map X.prog _ I2.kIn) ⟨.bl _, H2, I2.tok _, rfl, q1⟩
theorem ix_tab {x : Str} {a : Addr} {f : Str → Option Value} (T : Tab X.w X.K X.mg x a f) : IxR X (rTab a f) := by
 intro value slice pins s σ H x y v u Q I rx ry h hs
 obtain ⟨z, w', r, rfl, rfl, hf, rv, q⟩ := h
 cases rx
 obtain ⟨t, rfl⟩ := ry
 have hm := T.map X.prog _ I.kIn
 exact tail_any hm.typeIs slot_dict_getitem.lookup (wpAny_getItem_of (strKind_is X.prog X.w z t) hm hf ⟨r, H, I.tok _, rv, q⟩) hs
def TabOk (P : Program) (w : World) (K : Frag) (mg : Str → Option Value) (base : Heap) (k : Nat) (f : Str → Option Value) (ps : List Str) (sp : Str → Sp) : Prop :=
 ∀ s v, f s = some v → ∃ fa fd, v = .ref fa ∧ FnOk P w K mg base CX0 k fa fd ps (sp s) ∧ keepIn K (.ref fa) = true ∧ Binds K fd ps []
theorem pe_tabCall {x : Str} {a : Addr} {f : Str → Option Value} {i e : Expr} {es : List Expr} {ti : TE} {t : TA} {k : Nat} {ps : List Str} {sp : Str → Sp} {p p2 pos : Pos} (T : Tab X.w X.K X.mg x a f) (hF : TabOk X.prog X.w X.K X.mg X.base k f ps sp) (hr : Room k X.A) (hi : PE X i ti) (hs : PlainIx i) (ha : PA X (e :: es) t)
  (hg : autoParam (Gl X x) L2.aRfl._auto_1) (hd : autoParam ((x == ("__debug__" : Str)) = false) L2.aDec._auto_1) (he : autoParam (starEach (e :: es) X.env = (false, eval e X.env) :: starEach es X.env) L2.aRfl._auto_1) (hpl : autoParam ((backTo pos (starEach es X.env)).any (·.1) = false) L2.aRfl._auto_1)
  (hcl : autoParam (eval (.Call (.Subscript (.Name x p) i p2) (e :: es) [] pos) X.env = (do callWith pos (← eval (.Subscript (.Name x p) i p2) X.env) [] (backTo pos (starEach (e :: es) X.env)) (backToKw pos (keywordEach [] X.env)))) L2.aRfl._auto_1) :
  PE X (.Call (.Subscript (.Name x p) i p2) (e :: es) [] pos) (fun σ H Q => tOp (rTab a f) (tC (.ref a)) ti σ H fun z H1 => ∃ s fa, z = .ref fa ∧ f s = some (.ref fa) ∧ tCall (sp s) [] E0 t σ H1 Q) := by
 intro pins s σ H Q I h
 refine Call_ (thn ((pe_ix (pos := p2) (ix_tab T) (pe_glob (pos := p) (v := .ref a) hg T.bound rfl hd) hi hs) pins s σ H _ I h) fun fv s1 hqP => ?_) hcl
 obtain ⟨z, H1, I1, rz, sx, fa, ez, ef, q⟩ := hqP
 subst ez
 cases rz
 obtain ⟨fa', fd, e', F, kp, b⟩ := hF sx _ ef
 cases e'
 exact callWith_K (h₀ := X.base) I.ok.mod.kin kp (thn (ha pos pins s1 σ H1 _ I1 q) fun us s2 ⟨vs, H2, I2, r, q2⟩ => ⟨I2.kIn, run_fn F hr b .nil pass0 I2 r q2⟩) he hpl
inductive Ccall_set_of (KX : Fg) (xs : List V) (H : Hp) (Q : VK) : Prop
 | mk (l : Addr) (ns : List Int) (h1 : xs = [.ref l]) (h2 : SqL KX H l (ns.map V.int)) (h3 : ns.length < 4000) (h4 : ∀ (d : Addr) (S : Int → Bool), H d = none → Q (.ref d) (upd H d (.set S (ns.foldl step_dedup []).length)))
theorem call_set_of (hc : X.calm = true) : CallR X (.type "set") (fun xs H Q => Ccall_set_of X.K xs H Q) := by
 intro pins s σ H xs us Q I rv h
 obtain ⟨l, ns, rfl, hl, hz, q⟩ := h
 obtain ⟨u, rfl, ru⟩ := rv.one
 cases ru
 obtain ⟨its, r, pl, _⟩ := I.list hl
 have lr := r.length
 rw [jQ] at lr
 have e1 : (List.range its.toArray.size).map (fun i => ns.getD i 0) = ns := by
  rw [jV, ← lr]
  apply kQc
  intro i
  by_cases hi : i < ns.length
  ·rw [jK, List.getElem?_range hi, gE hi]
   show some (ns.getD i 0) = _
   rw [jY, gE hi]; rfl
  ·rw [jQb.mpr (by rw [jQ, jQd]; lia), jQb.mpr (by lia)]
 refine call_set_list (I.ok.hd hc) pl.isList (ns := ns) (by simpa using intsAre_of r) (by rw [jV]; show its.length + 1 < 4096; lia) fun h' tk hS hk => ?_
 have e2 : (firstMet (fun i => ns.getD i 0) its.toArray.size).length = (ns.foldl step_dedup []).length := by unfold firstMet; rw [e1]
 refine ⟨.ref _, _, I.laid (o := .set (fun k' => (firstMet (fun i => ns.getD i 0) its.toArray.size).any (· == k')) (ns.foldl step_dedup []).length) (fun b o e => hk b o (kJ e) e) (jJ _) ?_, rfl, q _ _ (I.hok.fresh (jJ _))⟩
 rw [← e2]
 exact hS
inductive Ccall_len_setI (xs : List V) (H : Hp) (Q : VK) : Prop
 | mk (d : Addr) (S : Int → Bool) (n : Nat) (h1 : xs = [.ref d]) (h2 : H d = some (.set S n)) (h3 : Q (.int (n : Nat)) H)
theorem call_len_setI : CallR X (.builtin "len") (fun xs H Q => Ccall_len_setI xs H Q) := by
 intro pins s σ H xs us Q I rv h
 obtain ⟨d, S, n, rfl, hd, q⟩ := h
 obtain ⟨u, rfl, ru⟩ := rv.one
 cases ru
 obtain ⟨o, es, ep, t, ho, hex, hdt, _, _, hb, hf, hn⟩ := I.hok d _ hd
 subst hn
 refine call_len_set ho hex hdt hf ?_ ⟨.int _, H, I.tok _, ⟨_, rfl⟩, q⟩
 have : es.size < 4096 := hb
 lia
theorem vals_of_ints : ∀ {ns : List Int} {us : List Value}, IntsAre us ns → Vals (ns.map V.int) us := by
 intro ns us h
 induction h with
 | nil => exact .nil
 | cons => rename_i ih; exact .cons ⟨_, rfl⟩ ih
inductive Ccall_sortedI (K : Frag) (xs : List V) (H : Hp) (Q : VK) : Prop
 | mk (l : Addr) (ns : List Int) (h1 : xs = [.ref l]) (h2 : SqL K H l (ns.map V.int)) (h3 : ns.length < 64) (h4 : ∀ (D : Addr) (qs : List Int), H D = none → qs.Perm ns → qs.Pairwise (· ≤ ·) → Q (.ref D) (upd H D (.lst (qs.map V.int))))
theorem call_sortedI {K : Frag} (hK : X.K = K) : CallR X (.builtin "sorted") (fun xs H Q => Ccall_sortedI K xs H Q) := by
 subst hK
 intro pins s σ H xs us Q I rv h
 obtain ⟨l, ns, rfl, hq, h64, q⟩ := h
 obtain ⟨u, rfl, ru⟩ := rv.one
 cases ru
 obtain ⟨its, r, p, hz⟩ := I.list hq
 have lv := r.length
 rw [jQ] at lv
 refine sorted_ints p.isList (intsAre_of r) (by lia) fun out ns' h1 h2 h3 => ?_
 obtain ⟨e, he⟩ := sortedAll_at s.heap its out
 have hv := vals_of_ints h1
 have lo : ns'.length = ns.length := h2.length_eq
 have hz64 : (64 : Nat) < sizeLine := by decide
 have hlen : (ns'.map V.int).length ≤ sizeLine := by rw [jQ]; lia
 exact ⟨.ref (s.heap.objs.size + 1), _, I.laid (t' := s.toks) (o := .lst (ns'.map V.int)) (fun b ob z => sortedAll_old z) (kYf _) ⟨hlen, out.toList, e, hv, by simpa using he⟩, rfl, q _ ns' (I.hok.fresh (kYf _)) h2 h3⟩
inductive Cip_mult (x : V) (y : V) (H : Hp) (Q : VK) : Prop
 | mk (i : _) (j : _) (h1 : x = .int i) (h2 : y = .int j) (h3 : CMul i j) (h4 : Q (.int (i * j)) H)
theorem ip_mult : PIp X .Mult (fun x y H Q => Cip_mult x y H Q) := by
 intro pins s σ H x y v u Q I r1 r2 h
 obtain ⟨i, j, e1, e2, hm, q⟩ := h
 subst e1; subst e2
 obtain ⟨t, rfl⟩ := r1
 obtain ⟨t', rfl⟩ := r2
 exact imul_int ⟨.int _, H, I.tok _, ⟨_, rfl⟩, q⟩ hm.ok
end
theorem bt_set : bootBuiltins "set" = some (.type "set") := by decide +kernel
theorem bt_str : bootBuiltins "str" = some (.type "str") := by decide +kernel
theorem dedup_len (ns : List Int) : (ns.foldl step_dedup []).length = ns.length ↔ ns.Nodup := by
 have key : ∀ (l acc : List Int), (l.foldl step_dedup acc).length ≤ acc.length + l.length ∧ ((l.foldl step_dedup acc).length = acc.length + l.length ↔ l.Nodup ∧ ∀ x ∈ l, x ∉ acc) := by
  intro l
  induction l with
  | nil => intro acc; exact ⟨jJ _, by simp⟩
  | cons a t ih =>
   intro acc
   rw [jXf]
   by_cases h : a ∈ acc
   ·have e : step_dedup acc a = acc := by
     unfold step_dedup
     rw [if_pos (by simpa using h)]
    rw [e]
    obtain ⟨h1, h2⟩ := ih acc
    refine ⟨by rw [kK]; lia, ⟨fun z => by rw [kK] at z; lia, fun z => absurd h (z.2 a zQ)⟩⟩
   ·have e : step_dedup acc a = acc ++ [a] := by
     unfold step_dedup
     rw [if_neg (by simpa using h)]
    rw [e]
    obtain ⟨h1, h2⟩ := ih (acc ++ [a])
    rw [kQ, kQf] at h1 h2
    refine ⟨by rw [kK]; lia, ?_⟩
    rw [kK, show acc.length + (t.length + 1) = acc.length + 1 + t.length by lia, h2, jXe]
    constructor
    ·rintro ⟨n1, n2⟩
     refine ⟨⟨fun ha => n2 a ha (by simp), n1⟩, fun x hx => ?_⟩
     rcases zX.mp hx with rfl | hx
     ·exact h
     ·exact fun z => n2 x hx (jQe _ z)
    ·rintro ⟨⟨n0, n1⟩, n2⟩
     refine ⟨n1, fun x hx z => ?_⟩
     rcases zV.mp z with z | z
     ·exact n2 x (yW _ hx) z
     ·have : x = a := by simpa using z
      exact n0 (this ▸ hx)
 have := (key ns []).2
 simpa using this
theorem rangeDown (n : Nat) : (Builtin.Range.rangeSize ((n : Int) - 1) (-1) (-1)).toNat = n := by
 unfold Builtin.Range.rangeSize
 rw [if_neg (by decide)]
 split
 ·have : (((n : Int) - 1) - (-1) - 1) / (-(-1)) = (n : Int) - 1 := by rw [show (-(-1) : Int) = 1 from rfl, Int.ediv_one]; lia
  lia
 ·simp; lia
theorem smallDown {n : Nat} (h : n ≤ 1000000) : Builtin.Range.small ((n : Int) - 1) (-1) (-1) = true := by
 have h0 := rangeDown n
 have h1 := size_nonneg ((n : Int) - 1) (-1) (-1) (by decide)
 unfold Builtin.Range.small
 simp only [Builtin.Range.rangeFitsLong, xK, jJe, decide_eq_true_eq, beq_iff_eq, show ¬ ((-1 : Int) > 0) by decide, if_false]
 lia
end L2
namespace L2
open PySem PySem.Spec PySem.W PyProof.Rows
open PySem.SeqAt
section
variable {A : Around} {s : Shared}
theorem RowIn.inj {h : Heap} {v : Value} {r q : Row} (h1 : RowIn h v r) (h2 : RowIn h v q) : r = q := by
 obtain ⟨a, b, its, t, rfl, ⟨o, ho, _, n, hd⟩, ⟨p, hp, _, m, hm⟩, x3⟩ := h1
 obtain ⟨a', b', its', t', e, ⟨o', ho', _, n', hd'⟩, ⟨p', hp', _, m', hm'⟩, y3⟩ := h2
 cases e
 rw [ho] at ho'; cases ho'
 rw [hd] at hd'
 injection hd' with hd'
 injection hd' with hd'
 injection hd' with e1 e2
 injection e1 with e1
 injection e2 with e2 _
 injection e2 with e2 _
 subst e1
 rw [hp] at hp'; cases hp'
 rw [hm] at hm'
 injection hm' with hm'
 subst hm'
 exact Prod.ext (IntsAre_inj x3 y3) e2
theorem eq_rows {x y : Value} {r q : Row} (hx : RowIn s.heap x r) (hy : RowIn s.heap y q) (hu : A.units + 1 < cLine) : EqAt A s x y (decide (r = q)) := by
 by_cases e : x = y
 ·subst e
  rw [kY (hx.inj hy)]
  exact EqAt.same _
 ·obtain ⟨a, b, its, t, rfl, x1, x2, x3⟩ := hx
  obtain ⟨a', b', its', t', rfl, y1, y2, y3⟩ := hy
  refine EqAt.of_refs (fun z => e (congrArg Value.ref z)) ?_
  have key := RcAt.tuples (A := A) (s := s) (e := fun j => if j = 0 then decide (r.1 = q.1) else (r.2 == q.2)) x1 y1 (by lia) fun j h1 h2 => by
   match j, h1, h2 with
   | 0, _, _ => exact eq_tups x2 y2 x3 y3 (by show A.units + 1 < cLine; exact hu)
   | 1, _, _ => exact EqAt.int_int _ _ _ _
  have e2 : ((List.range (min (#[Value.ref b, Value.int r.2 t] : Array Value).size (#[Value.ref b', Value.int q.2 t'] : Array Value).size)).all (fun j => if j = 0 then decide (r.1 = q.1) else (r.2 == q.2)) && (#[Value.ref b, Value.int r.2 t] : Array Value).size == (#[Value.ref b', Value.int q.2 t'] : Array Value).size) = decide (r = q) := by
   show ((decide (r.1 = q.1) && ((r.2 == q.2) && true)) && true) = _
   rw [wY, decide_eq_true_iff, Bool.and_true, Bool.and_true, xK, decide_eq_true_iff, beq_iff_eq]
   exact ⟨fun h => Prod.ext h.1 h.2, fun h => by rw [h]; exact ⟨rfl, rfl⟩⟩
  rw [e2] at key
  exact key
end
section
variable {X : Cx}
open Classical in
open Classical in
end
end L2
namespace L2
open PySem PySem.Spec PySem.W PyProof.Rows
open PySem.SeqAt
theorem noFill_tuple_mul : fillsNumberSlot (.type "tuple") "mul" = pure false :=
 PySem.fillsNumberSlot_seq (id := "tuple.__mul__") (r := some (.builtin "tuple.__rmul__")) F.slot_tuple_mul.lookup (by decide +kernel) F.slot_tuple_rmul.lookup (by decide +kernel)
theorem repeat_tuple : seqRepeat? (.type "tuple") = pure (some (.builtin "tuple.__mul__")) := by
 unfold seqRepeat?
 rw [PySem.seqSlot_of (T := "tuple") (name := "__mul__") (id := "tuple.__mul__") F.slot_tuple_mul.lookup (by decide +kernel), PySem.seqSlot_of (T := "tuple") (name := "__rmul__") (id := "tuple.__rmul__") F.slot_tuple_rmul.lookup (by decide +kernel)]
 rfl
theorem int_rmul_tuple (a : Int) (t : Tok) (l : Addr) (items : Array Value) (n : Nat) (dd : Option Addr) (sl : Array (Option Value)) :
  Meets (Builtin.«int.__rmul__» ⟨[.int a t, .ref l], []⟩) (fun _ R s => s.heap.get? l = some { cls := .type "tuple", dict := dd, data := .seq items n, slots := sl } ∧ R (.ok (.ret Value.notImplemented)) s) :=
 .of_wp fun prog w A R s h => by obtain ⟨hp, g, d, tk, os⟩ := s; obtain ⟨hl, h⟩ := h; wp_walk; exact ⟨_, rfl, h⟩
theorem tuple_mul_same (l : Addr) (items : Array Value) (n : Nat) (dd : Option Addr) (sl : Array (Option Value)) (x : Int) (u : Tok) (h0 : ¬ ((decide (x < -(2 ^ 63)) || decide (x ≥ 2 ^ 63)) = true)) (h1 : (items.isEmpty || x == 1) = true) :
  Meets (Builtin.«tuple.__mul__» ⟨[.ref l, .int x u], []⟩) (fun _ R s => s.heap.get? l = some { cls := .type "tuple", dict := dd, data := .seq items n, slots := sl } ∧ R (.ok (.ret (.ref l))) s) :=
 .of_wp fun prog w A R s h => by
  obtain ⟨hp, g, d, tk, os⟩ := s; obtain ⟨hl, h⟩ := h
  wp_walk; refine wpAny_ite_false (yY h0) ?_; wp_walk
  exact ⟨_, rfl, h⟩
theorem tuple_mul_none (l : Addr) (items : Array Value) (n : Nat) (dd : Option Addr) (sl : Array (Option Value)) (x : Int) (u : Tok) (h0 : ¬ ((decide (x < -(2 ^ 63)) || decide (x ≥ 2 ^ 63)) = true)) (h1 : ¬ (items.isEmpty || x == 1) = true) (h2 : (decide (x ≤ 0) || items.isEmpty) = true) :
  Meets (Builtin.«tuple.__mul__» ⟨[.ref l, .int x u], []⟩) (fun _ R s => s.heap.get? l = some { cls := .type "tuple", dict := dd, data := .seq items n, slots := sl } ∧ R (.ok (.ret (.ref s.heap.objs.size))) { s with heap := s.heap.push { cls := .type "tuple", data := .seq #[] }, toks := s.toks }) :=
 .of_wp fun prog w A R s h => by
  obtain ⟨hp, g, d, tk, os⟩ := s; obtain ⟨hl, h⟩ := h
  wp_walk; refine wpAny_ite_false (yY h0) ?_; wp_walk
  exact ⟨_, rfl, h⟩
theorem tuple_mul_new (l : Addr) (items : Array Value) (n : Nat) (dd : Option Addr) (sl : Array (Option Value)) (x : Int) (u : Tok) (h0 : ¬ ((decide (x < -(2 ^ 63)) || decide (x ≥ 2 ^ 63)) = true)) (h1 : ¬ (items.isEmpty || x == 1) = true) (h2 : ¬ (decide (x ≤ 0) || items.isEmpty) = true)
  (h3 : ¬ ((items.size : Int) * x > (2 ^ 63 - 1) / 8)) (h4 : ¬ Builtin.Tuple.tupleTooMany ((items.size : Int) * x) = true) (h5 : (List.foldl (fun x1 x2 => x1 ++ x2) #[] (List.replicate x.toNat items)).size ≤ sizeLine) :
  Meets (Builtin.«tuple.__mul__» ⟨[.ref l, .int x u], []⟩) (fun _ R s => s.heap.get? l = some { cls := .type "tuple", dict := dd, data := .seq items n, slots := sl } ∧ R (.ok (.ret (.ref s.heap.objs.size))) { s with heap := s.heap.push { cls := .type "tuple", data := .seq (List.foldl (fun x1 x2 => x1 ++ x2) #[] (List.replicate x.toNat items)) }, toks := s.toks }) :=
 .of_wp fun prog w A R s h => by
  obtain ⟨hp, g, d, tk, os⟩ := s; obtain ⟨hl, h⟩ := h
  wp_walk; refine wpAny_ite_false (yY h0) ?_; wp_walk; refine wpAny_ite_false (yY h3) ?_; wp_walk
  exact ⟨_, rfl, h⟩
section
variable {X : Cx}
inductive IrRepT (K : Fg) (x : V) (y : V) (H : Hp) (Q : VK) : Prop
 | mk (l : _) (k : _) (xs : _) (h1 : x = .ref l) (h2 : y = .int k) (h3 : SqT K H l xs) (h4 : 0 ≤ k) (h5 : k < 2 ^ 31) (h6 : xs.length * k.toNat ≤ sizeLine) (h7 : ∀ p H', Same H H' → SqT K H' p (List.replicate k.toNat xs).flatten → Q (.ref p) H')
def rRepT (K : Fg) : R2 := fun x y H Q => IrRepT K x y H Q
theorem op_repT : OpR X (binaryOp .Mult) (rRepT X.K) := by
 intro pins s σ H x y v u Q I rx ry h
 obtain ⟨l, k, xs, rfl, rfl, hl, h1, h2, hz, q⟩ := h
 cases rx
 obtain ⟨t, rfl⟩ := ry
 obtain ⟨its, r, p1, hz1⟩ := I.tuple hl
 have hlen : its.length = xs.length := r.length.symm
 obtain ⟨⟨c1, d1, da1, sl1⟩, ho, hc, n, hd⟩ := id p1
 simp only at hc hd
 subst hc hd
 have h0 : ¬ ((decide (k < -(2 ^ 63)) || decide (k ≥ 2 ^ 63)) = true) := by
  rw [jJe, decide_eq_true_iff, decide_eq_true_iff]
  lia
 refine wpAny_binaryOp_repeat_ref (T := "tuple") (U := "int") (by decide) ⟨_, ho, rfl⟩ (fun s' => typeIs_int s' k t) noFill_tuple_mul F.fills_int_mul F.slot_int_rmul repeat_tuple F.slot_int_index.lookup
  (call_meets F.slot_int_rmul (typeIs_int s k t) F.entry_int_rmul (F.args_int_rmul_2 _ _) (int_rmul_tuple k t l its.toArray n d1 sl1)
   ⟨ho, rfl, ⟨_, ho, rfl⟩, ?_⟩)
 by_cases c1 : (its.toArray.isEmpty || k == 1) = true
 ·refine call_meets F.slot_tuple_mul ⟨_, ho, rfl⟩ F.entry_tuple_mul (F.args_tuple_mul_2 _ _) (tuple_mul_same l its.toArray n d1 sl1 k t h0 c1) ⟨ho, ?_⟩
  refine ⟨.ref l, H, I, rfl, q l H (Same.refl H) ?_⟩
  have : (List.replicate k.toNat xs).flatten = xs := by
   rcases (jJe _ _).mp c1 with c | c
   ·have : its = [] := by simpa using c
    subst this
    have : xs = [] := zW hlen.symm
    subst this
    simp
   ·have : k = 1 := by simpa using c
    subst this
    simp
  rw [this]
  exact hl
 ·by_cases c2 : (decide (k ≤ 0) || its.toArray.isEmpty) = true
  ·refine call_meets F.slot_tuple_mul ⟨_, ho, rfl⟩ F.entry_tuple_mul (F.args_tuple_mul_2 _ _) (tuple_mul_none l its.toArray n d1 sl1 k t h0 c1 c2) ⟨ho, ?_⟩
   have hk : k = 0 := by
    rcases (jJe _ _).mp c2 with c | c
    ·have := yV c; lia
    ·exact absurd (by rw [c]; rfl) c1
   subst hk
   exact ⟨.ref _, _, I.laid (t' := s.toks) (o := .tup []) (fun b ob q => jZ _ q) (jJ _) ⟨by decide, _, .nil, IsTup.new _ _⟩, rfl, q _ _ (same_new' I.fresh _) (sqT_new upd_same)⟩
  ·have hx : its.length * k.toNat ≤ sizeLine := by rw [hlen]; exact hz
   have hk0 : 0 < k := by
    have : ¬ k ≤ 0 := fun z => c2 (by rw [kY z]; rfl)
    lia
   have hmul : ((its.toArray.size : Nat) : Int) * k = ((its.length * k.toNat : Nat) : Int) := by
    rw [jV, Int.natCast_mul]
    congr 1
    lia
   have hs : (sizeLine : Nat) ≤ (2 ^ 63 - 1) / 8 := by decide
   have f0 : ∀ m : Nat, List.foldl (fun x1 x2 => x1 ++ x2) #[] (List.replicate m its.toArray) = (List.replicate m its).flatten.toArray := fun m => by
    have := foldl_rep its m []
    rw [List.nil_append] at this
    exact this
   have hfl : (List.replicate k.toNat its).flatten.length = k.toNat * its.length := len_rep its k.toNat
   refine call_meets F.slot_tuple_mul ⟨_, ho, rfl⟩ F.entry_tuple_mul (F.args_tuple_mul_2 _ _) (tuple_mul_new l its.toArray n d1 sl1 k t h0 c1 c2 ?_ ?_ ?_) ⟨ho, ?_⟩
   ·rw [hmul]; lia
   ·rw [hmul]
    unfold Builtin.Tuple.tupleTooMany
    rw [decide_eq_true_iff]
    lia
   ·rw [f0, jV, hfl, Nat.mul_comm]; exact hx
   ·rw [f0]
    exact ⟨.ref _, _, I.laid (t' := s.toks) (o := .tup (List.replicate k.toNat xs).flatten) (fun b ob q => jZ _ q) (jJ _) ⟨by rw [len_rep, Nat.mul_comm, ← hlen]; exact hx, _, r.rep k.toNat, IsTup.new _ _⟩, rfl, q _ _ (same_new' I.fresh _) (sqT_new upd_same)⟩
theorem op_repTK {K : Fg} (hK : X.K = K) : OpR X (binaryOp .Mult) (rRepT K) := by subst hK; exact op_repT
open Classical in
theorem mt_countR {K : Fg} (hK : X.K = K) (hu : X.A.units + 6 < cLine) : MtM X "list.count" (fun x ws H Q => ∃ (l a : Addr) (r : Row) (vs : List V) (rs : List Row), x = .ref l ∧ ws = [.ref a] ∧ SqL K H l vs ∧ Nb.RowAt K H a r ∧ Nb.RowsAre K H vs rs ∧
  ∀ c : Nat, Q (.int (c : Int)) H) := by
 subst hK
 intro pins s σ H x ws v us Q I rx rv h
 obtain ⟨l, a, r, vs, rs, rfl, rfl, hH, ra, hr, q⟩ := h
 cases rx
 obtain ⟨u, rfl, ru⟩ := rv.one
 cases ru
 obtain ⟨its, rr, pl, hz⟩ := I.list hH
 have pr := rowsIn_of I rr hr
 have rx := rowIn_of I ra
 obtain ⟨⟨c1, d1, da1, sl1⟩, ho, hc, n, hd⟩ := id pl.isList
 simp only at hc hd
 subst hc hd
 refine call_meets F.slot_list_count ⟨_, ho, rfl⟩ F.entry_list_count (F.args_list_count_2 _ _) (list_countAt l its.toArray n d1 sl1 (.ref a) (fun v => decide (RowIn s.heap v r))) ⟨ho, fun y hy => ?_, ⟨.int _, H, I.tok _, ⟨_, rfl⟩, q _⟩⟩
 obtain ⟨i, hi, rfl⟩ := jZf (show y ∈ its by simpa using hy)
 obtain ⟨q', e1, e2⟩ := Paired.getR pr (gE hi)
 have : decide (RowIn s.heap its[i] r) = decide (q' = r) := decide_eq_decide.mpr ⟨fun z => e2.inj z, fun z => z ▸ e2⟩
 rw [this]
 exact eq_rows e2 rx (by simp only [Around.in1_units]; lia)
end
end L2
namespace HT
open PySem PySem.Spec PyProof.Rows
section
variable {prog : Program} {w : World} {A : Around} {E : Value → Shared → Prop} {s : Shared}
theorem getItem_tuple_whole {t sl : Addr} {items : Array Value} {vl vu : Value} {lo hi : Option Int} {Q : Value → Shared → Prop} (ht : IsTup s.heap t items) (hs : s.heap.IsSliceOf sl vl vu .none) (pl : IsPart vl lo) (pu : IsPart vu hi)
  (hw : sIx items.size 0 lo = 0 ∧ sIx items.size items.size hi = items.size) (h : Q (.ref t) s) : wpAny (model prog w) A (getItem (.ref t) (.ref sl)) Q E s := by
 obtain ⟨os, hos, hcs, hds⟩ := id hs
 have hTs : s.TypeIs (.ref sl) "slice" := ⟨os, hos, hcs⟩
 unfold getItem
 try with_reducible refine wpAny_holding ?_
 first | refine jX (jW ?_) | skip
 refine jX (wpAny_sequenceKey ht.typeIs (by decide) ?_)
 refine jX (wpAny_callSpecial?_slot (name := Str.ofString "__getitem__") ht.typeIs PyProof.Rows.slot_tuple_getitem
  (wpAny_call_entry PyProof.Rows.slot_tuple_getitem ht.typeIs entry_tuple_getitem ?_ (args_tuple_getitem _ _)))
 show wpAny _ _ (Builtin.Tuple.tupleItemsOf (.ref t) >>= _) _ _ s
 refine jX (tupleItemsOf_ ht ?_)
 refine jX (wpAny_typeOf hTs ?_)
 rw [if_pos (by decide)]
 refine jX (sliceApplied_gen hs pl pu ?_)
 have hyes : ((((sIx items.size 0 lo : Nat) : Int) == 0 && (1 : Int) == 1 && (sIx items.size items.size hi - sIx items.size 0 lo) == items.size) = true) := by
  rw [hw.1, hw.2]
  simp
 show wpAny _ _ (if (((sIx items.size 0 lo : Nat) : Int) == 0 && (1 : Int) == 1 && (sIx items.size items.size hi - sIx items.size 0 lo) == items.size) = true then _ else _) _ _ s
 rw [if_pos hyes]
 unfold Builtin.Tuple.tupleIsExact
 refine jX (jX (wpAny_typeOf ht.typeIs (jW ?_)))
 rw [if_pos (by decide)]
 refine jX (wpAny_rule ?_)
 first
  | exact jW ⟨_, rfl, jW h⟩
  | exact jX (jW ⟨_, rfl, jW h⟩)
  | exact jX (jW (jW ⟨_, rfl, jW h⟩))
end
end HT
namespace L2
open PySem PySem.Spec PySem.W PyProof.Rows
open PySem.SeqAt
section
variable {X : Cx}
inductive IrSlG (K : Fg) (x : V) (lo : Option Int) (hi : Option Int) (H : Hp) (Q : VK) : Prop
 | mk (a : _) (xs : _) (h1 : x = .ref a) (h2 : SqT K H a xs) (h3 : ∀ p H', Same H H' → SqT K H' p (cutV xs lo hi) → Q (.ref p) H')
def rSlG (K : Fg) : V → Option Int → Option Int → Hp → VK → Prop := fun x lo hi H Q => IrSlG K x lo hi H Q
theorem sl_tupG : SlR X (rSlG X.K) := by
 intro pins s σ H x v vl vu lo hi sl Q I rx hs pl pu h
 obtain ⟨a, xs, rfl, hx, q⟩ := h
 by_cases hw : HT.sIx xs.length 0 lo = 0 ∧ HT.sIx xs.length xs.length hi = xs.length
 ·have e : cutV xs lo hi = xs := by unfold cutV; rw [hw.1, hw.2]; simp
  rw [e] at q
  cases rx
  obtain ⟨its, r, ht, hz⟩ := I.tuple hx
  have hlen : its.toArray.size = xs.length := by rw [jV]; exact r.length.symm
  refine ⟨"tuple", _, PyProof.Rows.slot_tuple_getitem.lookup, ht.typeIs, ?_⟩
  exact HT.getItem_tuple_whole ht hs pl pu (by rw [hlen]; exact hw) ⟨.ref a, H, I, rfl, q a H (Same.refl H) hx⟩
 ·exact sl_tup pins s σ H (.ref a) v vl vu lo hi sl Q I rx hs pl pu ⟨a, xs, rfl, hx, hw, fun p hp => q p _ (same_new' hp _) (sqT_new upd_same)⟩
theorem sl_tupGK {K : Fg} (hK : X.K = K) : SlR X (rSlG K) := by subst hK; exact sl_tupG
end
end L2
namespace L2
open PySem
section
variable {X : Cx}
theorem pa_Constant {a b c es} {te : TE} {t : TA} (ha : PE X (.Constant a b c) te) (hr : PA X es t) : PA X (.Constant a b c :: es) (tCons te t) := pa_cons ha hr
theorem pa_Tuple {a b c es} {te : TE} {t : TA} (ha : PE X (.Tuple a b c) te) (hr : PA X es t) : PA X (.Tuple a b c :: es) (tCons te t) := pa_cons ha hr
theorem pa_Name {a b es} {te : TE} {t : TA} (ha : PE X (.Name a b) te) (hr : PA X es t) : PA X (.Name a b :: es) (tCons te t) := pa_cons ha hr
theorem pa_BinOp {a b c d es} {te : TE} {t : TA} (ha : PE X (.BinOp a b c d) te) (hr : PA X es t) : PA X (.BinOp a b c d :: es) (tCons te t) := pa_cons ha hr
theorem pa_Call {a b c d es} {te : TE} {t : TA} (ha : PE X (.Call a b c d) te) (hr : PA X es t) : PA X (.Call a b c d :: es) (tCons te t) := pa_cons ha hr
theorem pa_Subscript {a b c es} {te : TE} {t : TA} (ha : PE X (.Subscript a b c) te) (hr : PA X es t) : PA X (.Subscript a b c :: es) (tCons te t) := pa_cons ha hr
end
section
variable {X : Cx}
@[irreducible] def QE (X : Cx) (e : Expr) (t : TE) : Prop := PE X e t
@[irreducible] def QA (X : Cx) (es : List Expr) (t : TA) : Prop := PA X es t
@[irreducible] def QS (X : Cx) (st : Stmt) (t : TS) : Prop := PS X st t
@[irreducible] def QSs (X : Cx) (st : List Stmt) (t : TS) : Prop := PSs X st t
theorem QE.of {e : Expr} {t : TE} (h : PE X e t) : QE X e t := by unfold QE; exact h
theorem QE.pe {e : Expr} {t : TE} (h : QE X e t) : PE X e t := by unfold QE at h; exact h
theorem QA.of {es : List Expr} {t : TA} (h : PA X es t) : QA X es t := by unfold QA; exact h
theorem QA.pa {es : List Expr} {t : TA} (h : QA X es t) : PA X es t := by unfold QA at h; exact h
theorem QS.of {st : Stmt} {t : TS} (h : PS X st t) : QS X st t := by unfold QS; exact h
theorem QS.ps {st : Stmt} {t : TS} (h : QS X st t) : PS X st t := by unfold QS at h; exact h
theorem QSs.of {st : List Stmt} {t : TS} (h : PSs X st t) : QSs X st t := by unfold QSs; exact h
theorem QSs.pss {st : List Stmt} {t : TS} (h : QSs X st t) : PSs X st t := by unfold QSs at h; exact h
theorem qa_nil : QA X [] tNil := .of pa_nil
theorem qa_Constant {a b c es} {te : TE} {t : TA} (ha : QE X (.Constant a b c) te) (hr : QA X es t) : QA X (.Constant a b c :: es) (tCons te t) := .of (pa_Constant ha.pe hr.pa)
theorem qa_Tuple {a b c es} {te : TE} {t : TA} (ha : QE X (.Tuple a b c) te) (hr : QA X es t) : QA X (.Tuple a b c :: es) (tCons te t) := .of (pa_Tuple ha.pe hr.pa)
theorem qa_Name {a b es} {te : TE} {t : TA} (ha : QE X (.Name a b) te) (hr : QA X es t) : QA X (.Name a b :: es) (tCons te t) := .of (pa_Name ha.pe hr.pa)
theorem qa_BinOp {a b c d es} {te : TE} {t : TA} (ha : QE X (.BinOp a b c d) te) (hr : QA X es t) : QA X (.BinOp a b c d :: es) (tCons te t) := .of (pa_BinOp ha.pe hr.pa)
theorem qa_Call {a b c d es} {te : TE} {t : TA} (ha : QE X (.Call a b c d) te) (hr : QA X es t) : QA X (.Call a b c d :: es) (tCons te t) := .of (pa_Call ha.pe hr.pa)
theorem qa_Subscript {a b c es} {te : TE} {t : TA} (ha : QE X (.Subscript a b c) te) (hr : QA X es t) : QA X (.Subscript a b c :: es) (tCons te t) := .of (pa_Subscript ha.pe hr.pa)
theorem qe_tup {es : List Expr} {t : TA} {x1} {pos : Pos} (h : QA X es t) : QE X (.Tuple es x1 pos) (tTup t) := .of (pe_tup h.pa)
theorem qe_lst {es : List Expr} {t : TA} {pos : Pos} (h : QA X es t) : QE X (.List es pos) (tLst t) := .of (pe_lst h.pa)
theorem qss_nil : QSs X [] tNext := .of pss_nil
theorem qss_cons {st : Stmt} {rest : List Stmt} {t u : TS} (h1 : QS X st t) (h2 : QSs X rest u) : QSs X (st :: rest) (tSeq t u) := .of (pss_cons h1.ps h2.pss)
theorem qss_one {st : Stmt} {t : TS} (h1 : QS X st t) : QSs X [st] t := .of (pss_one h1.ps)
theorem qs_set {i : Nat} {x : Str} {e : Expr} {te : TE} {pos pos' : Pos} (hN : X.N.Nodup) (hi : X.N[i]? = some x) (hx : Loc X.env.scope x) (he : QE X e te) (hs : autoParam (swapsWith e (some (.Name x pos')) pos.line X.env = pure false) L2.aRfl._auto_1) (hf : autoParam (X.fn x = true ∨ X.env.scope.names.lookup x = some .local) L2.aFst._auto_1) :
  QS X (.Assign [.Name x pos'] e pos) (tAsg te (gName i)) := .of (ps_set hN hi hx he.pe hs hf)
theorem qs_asg {tg e : Expr} {te : TE} {g : TG} {pos : Pos} (he : QE X e te) (hg : PG X tg g) (hs : autoParam (swapsWithSole [tg] e pos.line X.env = pure false) L2.aRfl._auto_1) (hw : autoParam (swappedStores [tg] e X.env = pure none) L2.aRfl._auto_1)
  (h1 : autoParam ((assignEach [tg] X.env).map (·.2) = [assign tg X.env]) L2.aRfl._auto_1) : QS X (.Assign [tg] e pos) (tAsg te g) := .of (ps_asg he.pe hg hs hw h1)
theorem qs_ret {e : Expr} {te : TE} {pos : Pos} (he : QE X e te) : QS X (.Return (some e) pos) (tRet te) := .of (ps_ret he.pe)
theorem qs_if {c : Expr} {a b : List Stmt} {t u : TS} {tc : TT} {pos : Pos} (hc : PT X c tc) (ha : QSs X a t) (hb : QSs X b u) : QS X (.If c a b pos) (tIfS tc t u) := .of (ps_if hc ha.pss hb.pss)
theorem lenS {α : Type} {l : List α} {n : Nat} (h : l.length = n + 1) : ∃ a t, l = a :: t ∧ t.length = n := by
 cases l with
 | nil => exact absurd h (Nat.succ_ne_zero n).symm
 | cons a t => exact ⟨a, t, rfl, Nat.succ.inj h⟩
theorem len1 {α : Type} {l : List α} (h : l.length = 1) : ∃ a, l = [a] := by
 obtain ⟨a, t, rfl, h'⟩ := lenS h
 exact ⟨a, congrArg _ (List.length_eq_zero_iff.mp h')⟩
theorem len2 {α : Type} {l : List α} (h : l.length = 2) : ∃ a b, l = [a, b] := by
 obtain ⟨a, t, rfl, h'⟩ := lenS h
 obtain ⟨b, rfl⟩ := len1 h'
 exact ⟨a, b, rfl⟩
theorem len3 {α : Type} {l : List α} (h : l.length = 3) : ∃ a b c, l = [a, b, c] := by
 obtain ⟨a, t, rfl, h'⟩ := lenS h
 obtain ⟨b, c, rfl⟩ := len2 h'
 exact ⟨a, b, c, rfl⟩
theorem len4 {α : Type} {l : List α} (h : l.length = 4) : ∃ a b c d, l = [a, b, c, d] := by
 obtain ⟨a, t, rfl, h'⟩ := lenS h
 obtain ⟨b, c, d, rfl⟩ := len3 h'
 exact ⟨a, b, c, d, rfl⟩
theorem len5 {α : Type} {l : List α} (h : l.length = 5) : ∃ a b c d e, l = [a, b, c, d, e] := by
 obtain ⟨a, t, rfl, h'⟩ := lenS h
 obtain ⟨b, c, d, e, rfl⟩ := len4 h'
 exact ⟨a, b, c, d, e, rfl⟩
theorem bind1 {F : List Value → Prop} (h : ∀ a, F [a]) : ∀ us : List Value, us.length = 1 → F us := fun us hl => by
 obtain ⟨a, rfl⟩ := len1 hl
 exact h a
theorem bind2 {F : List Value → Prop} (h : ∀ a b, F [a, b]) : ∀ us : List Value, us.length = 2 → F us := fun us hl => by
 obtain ⟨a, b, rfl⟩ := len2 hl
 exact h a b
theorem bind3 {F : List Value → Prop} (h : ∀ a b c, F [a, b, c]) : ∀ us : List Value, us.length = 3 → F us := fun us hl => by
 obtain ⟨a, b, c, rfl⟩ := len3 hl
 exact h a b c
theorem bind4 {F : List Value → Prop} (h : ∀ a b c d, F [a, b, c, d]) : ∀ us : List Value, us.length = 4 → F us := fun us hl => by
 obtain ⟨a, b, c, d, rfl⟩ := len4 hl
 exact h a b c d
theorem bind5 {F : List Value → Prop} (h : ∀ a b c d e, F [a, b, c, d, e]) : ∀ us : List Value, us.length = 5 → F us := fun us hl => by
 obtain ⟨a, b, c, d, e, rfl⟩ := len5 hl
 exact h a b c d e
theorem seq_let3 {s1 s2 s3 : TS} {D : Ends} {σ : St} {H : Hp} (h : let r3 : TS := s3; let r2 : TS := tSeq s2 r3; tSeq s1 r2 D σ H) : (tSeq s1 (tSeq s2 (s3))) D σ H := h
theorem seq_let4 {s1 s2 s3 s4 : TS} {D : Ends} {σ : St} {H : Hp} (h : let r4 : TS := s4; let r3 : TS := tSeq s3 r4; let r2 : TS := tSeq s2 r3; tSeq s1 r2 D σ H) : (tSeq s1 (tSeq s2 (tSeq s3 (s4)))) D σ H := h
theorem seq_let5 {s1 s2 s3 s4 s5 : TS} {D : Ends} {σ : St} {H : Hp} (h : let r5 : TS := s5; let r4 : TS := tSeq s4 r5; let r3 : TS := tSeq s3 r4; let r2 : TS := tSeq s2 r3; tSeq s1 r2 D σ H) : (tSeq s1 (tSeq s2 (tSeq s3 (tSeq s4 (s5))))) D σ H := h
theorem seq_let6 {s1 s2 s3 s4 s5 s6 : TS} {D : Ends} {σ : St} {H : Hp} (h : let r6 : TS := s6; let r5 : TS := tSeq s5 r6; let r4 : TS := tSeq s4 r5; let r3 : TS := tSeq s3 r4; let r2 : TS := tSeq s2 r3; tSeq s1 r2 D σ H) : (tSeq s1 (tSeq s2 (tSeq s3 (tSeq s4 (tSeq s5 (s6)))))) D σ H := h
theorem seq_let7 {s1 s2 s3 s4 s5 s6 s7 : TS} {D : Ends} {σ : St} {H : Hp} (h : let r7 : TS := s7; let r6 : TS := tSeq s6 r7; let r5 : TS := tSeq s5 r6; let r4 : TS := tSeq s4 r5; let r3 : TS := tSeq s3 r4; let r2 : TS := tSeq s2 r3; tSeq s1 r2 D σ H) : (tSeq s1 (tSeq s2 (tSeq s3 (tSeq s4 (tSeq s5 (tSeq s6 (s7))))))) D σ H := h
theorem seq_let10 {s1 s2 s3 s4 s5 s6 s7 s8 s9 s10 : TS} {D : Ends} {σ : St} {H : Hp} (h : let r10 : TS := s10; let r9 : TS := tSeq s9 r10; let r8 : TS := tSeq s8 r9; let r7 : TS := tSeq s7 r8; let r6 : TS := tSeq s6 r7; let r5 : TS := tSeq s5 r6; let r4 : TS := tSeq s4 r5; let r3 : TS := tSeq s3 r4; let r2 : TS := tSeq s2 r3; tSeq s1 r2 D σ H) : (tSeq s1 (tSeq s2 (tSeq s3 (tSeq s4 (tSeq s5 (tSeq s6 (tSeq s7 (tSeq s8 (tSeq s9 (s10)))))))))) D σ H := h
theorem seq_let13 {s1 s2 s3 s4 s5 s6 s7 s8 s9 s10 s11 s12 s13 : TS} {D : Ends} {σ : St} {H : Hp} (h : let r13 : TS := s13; let r12 : TS := tSeq s12 r13; let r11 : TS := tSeq s11 r12; let r10 : TS := tSeq s10 r11; let r9 : TS := tSeq s9 r10; let r8 : TS := tSeq s8 r9; let r7 : TS := tSeq s7 r8; let r6 : TS := tSeq s6 r7; let r5 : TS := tSeq s5 r6; let r4 : TS := tSeq s4 r5; let r3 : TS := tSeq s3 r4; let r2 : TS := tSeq s2 r3; tSeq s1 r2 D σ H) : (tSeq s1 (tSeq s2 (tSeq s3 (tSeq s4 (tSeq s5 (tSeq s6 (tSeq s7 (tSeq s8 (tSeq s9 (tSeq s10 (tSeq s11 (tSeq s12 (s13))))))))))))) D σ H := h
end
end L2
namespace Nb
open PySem L2
def top (i : Nat) : Stmt := PySem.Challenge.pw_nonebetter_k12_whole_what_is_let_by_is_s.main.body.getD i (.Pass ⟨0, 0, 0, 0⟩)
abbrev sIsWhole : Stmt := top 1
abbrev sIsNum : Stmt := top 2
abbrev sIsPair : Stmt := top 3
abbrev sIsAhead : Stmt := top 18
abbrev sIsPart : Stmt := top 19
abbrev sIsHold : Stmt := top 20
inductive Dt
 | non
 | bl (b : Bool)
 | int (i : Int)
 | str (s : Str)
 | tup (xs : List Dt)
 | lst (xs : List Dt)
inductive HasT (K : Fg) (H : Hp) : V → Dt → Prop
 | non : HasT K H .non .non
 | bl (b) : HasT K H (.bl b) (.bl b)
 | int (i) : HasT K H (.int i) (.int i)
 | str (s) : HasT K H (.str s) (.str s)
 | tup {a vs xs} : SqT K H a vs → vs.length = xs.length → (∀ (i : Nat) v x, vs[i]? = some v → xs[i]? = some x → HasT K H v x) → HasT K H (.ref a) (.tup xs)
 | lst {a vs xs} : SqL K H a vs → vs.length = xs.length → (∀ (i : Nat) v x, vs[i]? = some v → xs[i]? = some x → HasT K H v x) → HasT K H (.ref a) (.lst xs)
theorem HasT.same {K : Fg} {H H' : Hp} (e : Same H H') {x : V} {d : Dt} (h : HasT K H x d) : HasT K H' x d := by
 induction h with
 | non => exact .non
 | bl b => exact .bl b
 | int i => exact .int i
 | str s => exact .str s
 | tup h1 h2 _ ih => exact .tup (e.tup h1) h2 ih
 | lst h1 h2 _ ih => exact .lst (e.seq h1) h2 ih
theorem HasT.tup_inv {K : Fg} {H : Hp} {v : V} {xs : List Dt} (h : HasT K H v (.tup xs)) : ∃ a vs, v = .ref a ∧ SqT K H a vs ∧ vs.length = xs.length ∧ ∀ (i : Nat) v x, vs[i]? = some v → xs[i]? = some x → HasT K H v x := by
 cases h with | tup h1 h2 h3 => exact ⟨_, _, rfl, h1, h2, h3⟩
theorem HasT.lst_inv {K : Fg} {H : Hp} {v : V} {xs : List Dt} (h : HasT K H v (.lst xs)) : ∃ a vs, v = .ref a ∧ SqL K H a vs ∧ vs.length = xs.length ∧ ∀ (i : Nat) v x, vs[i]? = some v → xs[i]? = some x → HasT K H v x := by
 cases h with | lst h1 h2 h3 => exact ⟨_, _, rfl, h1, h2, h3⟩
theorem HasT.pair_inv {K : Fg} {H : Hp} {v : V} {d e : Dt} (h : HasT K H v (.tup [d, e])) : ∃ a x y, v = .ref a ∧ SqT K H a [x, y] ∧ HasT K H x d ∧ HasT K H y e := by
 obtain ⟨a, vs, rfl, h1, h2, h3⟩ := h.tup_inv
 obtain ⟨x, y, rfl⟩ := len2 (l := vs) h2
 exact ⟨a, x, y, rfl, h1, h3 0 x d rfl rfl, h3 1 y e rfl rfl⟩
theorem HasT.isi {K : Fg} {H : Hp} {v : V} {d : Dt} (h : HasT K H v d) (T : String) : isiW K H v T (match d with | .non => false | .int _ => decide (T = "int") | .bl _ => decide (T = "int" ∨ T = "bool") | .str _ => decide (T = "str") | .tup _ => decide (T = "tuple") | .lst _ => decide (T = "list")) := by
 cases h with
 | non => rfl
 | bl b => rfl
 | int i => rfl
 | str s => rfl
 | tup h1 => exact .inl ⟨⟨_, h1⟩, rfl⟩
 | lst h1 => exact .inr ⟨⟨_, h1⟩, rfl⟩
def wholeT : Dt → Bool
 | .int _ => true
 | _ => false
def numT (n : Nat) : Dt → Option Nat
 | .int i => if 0 ≤ i ∧ i < (n : Int) then some i.toNat else none
 | _ => none
def pairT : Dt → Bool
 | .tup [_, _] => true
 | _ => false
def partT (n : Nat) : Dt → Option (Nat × Int)
 | .tup [d, .int m] => if 0 ≤ m then (numT n d).map fun k => (k, m) else none
 | _ => none
def holdT (n : Nat) : Dt → Option (Int × Int)
 | .tup [d, e] => match numT n d, numT 2 e with
  | some k, some w => some (((k : Nat) : Int), ((w : Nat) : Int))
  | _, _ => none
 | _ => none
def allT {α : Type} (f : Dt → Option α) : List Dt → Option (List α)
 | [] => some []
 | d :: r => match f d, allT f r with
  | some x, some t => some (x :: t)
  | _, _ => none
theorem allT_isSome {α : Type} (f : Dt → Option α) (ds : List Dt) : (allT f ds).isSome = ds.all fun d => (f d).isSome := by
 induction ds with
 | nil => rfl
 | cons d r ih =>
  show (match f d, allT f r with | some x, some t => some (x :: t) | _, _ => none).isSome = _
  rw [List.all_cons, ← ih]
  cases f d <;> cases allT f r <;> rfl
theorem allT_cons {α : Type} {f : Dt → Option α} {d : Dt} {r : List Dt} {xs : List α} (h : allT f (d :: r) = some xs) : ∃ x t, f d = some x ∧ allT f r = some t ∧ xs = x :: t := by
 have h' : (match f d, allT f r with | some x, some t => some (x :: t) | _, _ => none) = some xs := h
 cases e1 : f d with
 | none => rw [e1] at h'; cases h'
 | some x =>
  cases e2 : allT f r with
  | none => rw [e1, e2] at h'; cases h'
  | some t =>
   rw [e1, e2] at h'
   cases h'
   exact ⟨x, t, rfl, rfl, rfl⟩
theorem allT_get {α : Type} {f : Dt → Option α} : ∀ {ds : List Dt} {xs : List α}, allT f ds = some xs → xs.length = ds.length ∧ ∀ (i : Nat) d, ds[i]? = some d → ∃ x, xs[i]? = some x ∧ f d = some x := by
 intro ds
 induction ds with
 | nil => intro xs h; cases h; exact ⟨rfl, fun i d e => by simp at e⟩
 | cons d r ih =>
  intro xs h
  have h' : (match f d, allT f r with | some x, some t => some (x :: t) | _, _ => none) = some xs := h
  cases e1 : f d with
  | none => rw [e1] at h'; cases h'
  | some x =>
   cases e2 : allT f r with
   | none => rw [e1, e2] at h'; cases h'
   | some t =>
    rw [e1, e2] at h'
    cases h'
    obtain ⟨l, g⟩ := ih e2
    refine ⟨by rw [kK, kK, l], fun i d' e => ?_⟩
    cases i with
    | zero => simp at e; subst e; exact ⟨x, rfl, e1⟩
    | succ i => obtain ⟨y, e3, e4⟩ := g i d' (by simpa using e); exact ⟨y, by simpa using e3, e4⟩
def holdsL (n : Nat) (xs : List Dt) : Option (List (Int × Int)) := (allT (holdT n) xs).bind fun hs => if (hs.map (·.1)).Nodup then some hs else none
def holdsT (n : Nat) : Dt → Option (List (Int × Int))
 | .lst xs => holdsL n xs
 | _ => none
def turnL (n : Nat) (xs : List Dt) : Option (List Nat) := (allT (numT n) xs).bind fun t => if t.Nodup ∧ t.length = n then some t else none
def turnT (n : Nat) : Dt → Option (List Nat)
 | .lst xs => turnL n xs
 | _ => none
def lenT : Dt → Nat
 | .lst xs => xs.length
 | _ => 0
inductive IspIsWhole (K : Fg) (vs : List V) (H : Hp) (Q : VK) : Prop
 | mk (v : V) (d : Dt) (h1 : vs = [v]) (h2 : HasT K H v d) (h3 : Q (.bl (wholeT d)) H)
def spIsWhole (K : Fg) : Sp := fun vs H Q _ => IspIsWhole K vs H Q
inductive IspIsNum (K : Fg) (vs : List V) (H : Hp) (Q : VK) : Prop
 | mk (v : V) (d : Dt) (n : Nat) (h1 : vs = [v, .int (n : Int)]) (h2 : HasT K H v d) (h3 : Q (.bl (numT n d).isSome) H)
def spIsNum (K : Fg) : Sp := fun vs H Q _ => IspIsNum K vs H Q
inductive IspIsPair (K : Fg) (vs : List V) (H : Hp) (Q : VK) : Prop
 | mk (v : V) (d : Dt) (h1 : vs = [v]) (h2 : HasT K H v d) (h3 : Q (.bl (pairT d)) H)
def spIsPair (K : Fg) : Sp := fun vs H Q _ => IspIsPair K vs H Q
inductive IspIsAhead (K : Fg) (vs : List V) (H : Hp) (Q : VK) : Prop
 | mk (v : V) (d : Dt) (l : Addr) (ws : List V) (h1 : vs = [v, .ref l]) (h2 : HasT K H v d) (h3 : SqL K H l ws) (h4 : (∀ (i : Nat) w, ws[i]? = some w → w ≠ .non)) (h5 : Q (.bl (numT ws.length d).isSome) H)
def spIsAhead (K : Fg) : Sp := fun vs H Q _ => IspIsAhead K vs H Q
inductive IspIsPart (K : Fg) (vs : List V) (H : Hp) (Q : VK) : Prop
 | mk (v : V) (d : Dt) (l : Addr) (ws : List V) (h1 : vs = [v, .ref l]) (h2 : HasT K H v d) (h3 : SqL K H l ws) (h4 : (∀ (i : Nat) w, ws[i]? = some w → w ≠ .non)) (h5 : Q (.bl (partT ws.length d).isSome) H)
def spIsPart (K : Fg) : Sp := fun vs H Q _ => IspIsPart K vs H Q
inductive IspIsHold (K : Fg) (vs : List V) (H : Hp) (Q : VK) : Prop
 | mk (v : V) (d : Dt) (n : Nat) (h1 : vs = [v, .int (n : Int)]) (h2 : HasT K H v d) (h3 : Q (.bl (holdT n d).isSome) H)
def spIsHold (K : Fg) : Sp := fun vs H Q _ => IspIsHold K vs H Q
inductive IspAreHolds (K : Fg) (vs : List V) (H : Hp) (Q : VK) : Prop
 | mk (v : V) (d : Dt) (n : Nat) (h1 : vs = [v, .int (n : Int)]) (h2 : HasT K H v d) (h3 : lenT d < 1000) (h4 : ∀ H', Same H H' → Q (.bl (holdsT n d).isSome) H')
def spAreHolds (K : Fg) : Sp := fun vs H Q _ => IspAreHolds K vs H Q
inductive IspIsTurn (K : Fg) (vs : List V) (H : Hp) (Q : VK) : Prop
 | mk (v : V) (d : Dt) (n : Nat) (h1 : vs = [v, .int (n : Int)]) (h2 : HasT K H v d) (h3 : lenT d < 64) (h4 : n < 1000) (h5 : ∀ H', Same H H' → Q (.bl (turnT n d).isSome) H')
def spIsTurn (K : Fg) : Sp := fun vs H Q _ => IspIsTurn K vs H Q
theorem holdT_some {n : Nat} {d : Dt} {p : Int × Int} (h : holdT n d = some p) : ∃ e f, d = .tup [e, f] ∧ e = .int p.1 ∧ f = .int p.2 ∧ 0 ≤ p.1 ∧ p.1 < (n : Int) ∧ (p.2 = 0 ∨ p.2 = 1) := by
 unfold holdT at h
 split at h
 ·rename_i d e
  cases e1 : numT n d with
  | none => rw [e1] at h; cases h
  | some k =>
   cases e2 : numT 2 e with
   | none => rw [e1, e2] at h; cases h
   | some w =>
    rw [e1, e2] at h
    cases h
    unfold numT at e1 e2
    split at e1
    ·rename_i i
     split at e1
     ·rename_i hi
      cases e1
      split at e2
      ·rename_i j
       split at e2
       ·rename_i hj
        cases e2
        refine ⟨_, _, rfl, ?_, ?_, ?_, ?_, ?_⟩
        ·show Dt.int i = Dt.int ((i.toNat : Nat) : Int); congr 1; lia
        ·show Dt.int j = Dt.int ((j.toNat : Nat) : Int); congr 1; lia
        ·show 0 ≤ ((i.toNat : Nat) : Int); lia
        ·show ((i.toNat : Nat) : Int) < n; lia
        ·show ((j.toNat : Nat) : Int) = 0 ∨ ((j.toNat : Nat) : Int) = 1; have : j < ((2 : Nat) : Int) := hj.2; lia
       ·cases e2
      ·cases e2
     ·cases e1
    ·cases e1
 ·cases h
theorem numT_some {n : Nat} {d : Dt} {k : Nat} (h : numT n d = some k) : d = .int ((k : Nat) : Int) ∧ k < n := by
 unfold numT at h
 split at h
 ·rename_i i
  split at h
  ·rename_i hi
   cases h
   exact ⟨by congr 1; lia, by lia⟩
  ·cases h
 ·cases h
theorem partT_some {n : Nat} {d : Dt} {p : Nat × Int} (h : partT n d = some p) : d = .tup [.int ((p.1 : Nat) : Int), .int p.2] ∧ p.1 < n ∧ 0 ≤ p.2 := by
 unfold partT at h
 split at h
 ·rename_i d m
  split at h
  ·rename_i hm
   obtain ⟨k, e, rfl⟩ := yJ.mp h
   obtain ⟨e1, e2⟩ := numT_some e
   exact ⟨by rw [e1], e2, hm⟩
  ·cases h
 ·cases h
section
variable {P : Program} {w : World} {K : Fg} {mg : Str → Option Value} {base : Heap} {aT aL : Addr} {fT fL : Str → Option Value}
theorem scIsWhole : FnScope ["thing"] ["thing"] (defScope sIsWhole) := ⟨rfl, rfl, rfl, by decide +kernel, rfl, by decide +kernel, by decide +kernel⟩
theorem okIsWhole (F : Fn K mg "is_whole" sIsWhole) (M : Mg mg) : Cal P w K mg base 1 "is_whole" ["thing"] (spIsWhole K) := by
 refine cal_of F scIsWhole (fun _ _ _ _ _ _ => bind1 (fun _ => rfl)) (fun vs H Q E h => ?_) (fun f cdv A outer s H vs Q E hr h => ?_)
 ·obtain ⟨v, d, rfl, _⟩ := h
  rfl
 obtain ⟨v, d, rfl, hv, q⟩ := h
 refine ⟨_, (pss_one (ps_ret (pe_and (pe_callB call_isiW rfl M.isinstance bt_isinstance (pa_cons (pv 0) (pa_cons (pe_ty M.int_ bt_int) pa_nil))) (pe_one (pe_not (pe_callB call_isiW rfl M.isinstance bt_isinstance (pa_cons (pv 0) (pa_cons (pe_ty M.bool_ bt_bool) pa_nil)))))))), ?_⟩
 cases d with
 | int i => exact ⟨_, rfl, _, "int", _, rfl, .int, hv.isi _, true, rfl, iteT ⟨_, rfl, _, "bool", _, rfl, .bool, hv.isi _, false, rfl, q⟩⟩
 | bl b => exact ⟨_, rfl, _, "int", _, rfl, .int, hv.isi _, true, rfl, iteT ⟨_, rfl, _, "bool", _, rfl, .bool, hv.isi _, true, rfl, q⟩⟩
 | non => exact ⟨_, rfl, _, "int", _, rfl, .int, hv.isi _, false, rfl, iteF q⟩
 | str s => exact ⟨_, rfl, _, "int", _, rfl, .int, hv.isi _, false, rfl, iteF q⟩
 | tup xs => exact ⟨_, rfl, _, "int", _, rfl, .int, hv.isi _, false, rfl, iteF q⟩
 | lst xs => exact ⟨_, rfl, _, "int", _, rfl, .int, hv.isi _, false, rfl, iteF q⟩
theorem scIsNum : FnScope ["thing", "count"] ["thing", "count"] (defScope sIsNum) := ⟨rfl, rfl, rfl, by decide +kernel, rfl, by decide +kernel, by decide +kernel⟩
theorem okIsNum (F : Fn K mg "is_number_of" sIsNum) (M : Mg mg) (c_is_whole : Cal P w K mg base 1 "is_whole" ["thing"] (spIsWhole K)) : Cal P w K mg base 2 "is_number_of" ["thing", "count"] (spIsNum K) := by
 refine cal_of F scIsNum (fun _ _ _ _ _ _ => bind2 (fun _ _ => rfl)) (fun vs H Q E h => ?_) (fun f cdv A outer s H vs Q E hr h => ?_)
 ·obtain ⟨v, d, n, rfl, _⟩ := h
  rfl
 obtain ⟨v, d, n, rfl, hv, q⟩ := h
 refine ⟨_, (pss_one (ps_ret (pe_and (pe_fn c_is_whole (hr.mono (by decide)) (pa_cons (pv 0) pa_nil)) (pe_one (pe_chain op_le op_lt pe_int (pv 0) (pv 1)))))), ?_⟩
 cases d with
 | int i =>
  cases hv
  refine ⟨_, rfl, _, _, rfl, .int i, true, rfl, iteT ⟨_, rfl, _, _, rfl, rfl, _, rfl, ite2 (fun c => ⟨_, rfl, _, _, rfl, rfl, ?_⟩) (fun c => ?_)⟩⟩
  ·have c' : 0 ≤ i := yV c
   by_cases h : i < (n : Int)
   ·have e : numT n (.int i) = some i.toNat := if_pos ⟨c', h⟩
    rw [e] at q
    show Q (.bl (decide (i < (n : Int)))) H
    rw [kY h]
    exact q
   ·have e : numT n (.int i) = none := if_neg fun z => h z.2
    rw [e] at q
    show Q (.bl (decide (i < (n : Int)))) H
    rw [yY h]
    exact q
  ·have c' : ¬ 0 ≤ i := fun z => c (kY z)
   have e : numT n (.int i) = none := if_neg fun z => c' z.1
   rw [e] at q
   exact q
 | non => exact ⟨_, rfl, _, _, rfl, hv, false, rfl, iteF q⟩
 | bl b => exact ⟨_, rfl, _, _, rfl, hv, false, rfl, iteF q⟩
 | str s => exact ⟨_, rfl, _, _, rfl, hv, false, rfl, iteF q⟩
 | tup xs => exact ⟨_, rfl, _, _, rfl, hv, false, rfl, iteF q⟩
 | lst xs => exact ⟨_, rfl, _, _, rfl, hv, false, rfl, iteF q⟩
theorem scIsPair : FnScope ["thing"] ["thing"] (defScope sIsPair) := ⟨rfl, rfl, rfl, by decide +kernel, rfl, by decide +kernel, by decide +kernel⟩
theorem okIsPair (F : Fn K mg "is_pair" sIsPair) (M : Mg mg) : Cal P w K mg base 1 "is_pair" ["thing"] (spIsPair K) := by
 refine cal_of F scIsPair (fun _ _ _ _ _ _ => bind1 (fun _ => rfl)) (fun vs H Q E h => ?_) (fun f cdv A outer s H vs Q E hr h => ?_)
 ·obtain ⟨v, d, rfl, _⟩ := h
  rfl
 obtain ⟨v, d, rfl, hv, q⟩ := h
 refine ⟨_, (pss_one (ps_ret (pe_and (pe_callB call_isiW rfl M.isinstance bt_isinstance (pa_cons (pv 0) (pa_cons (pe_ty M.tuple_ bt_tuple) pa_nil))) (pe_one (pe_cmpR op_eq (pe_callB call_len_seq rfl M.len bt_len (pa_cons (pv 0) pa_nil)) pe_int (nomark _)))))), ?_⟩
 cases d with
 | tup xs =>
  obtain ⟨a, vs, rfl, h1, h2, h3⟩ := hv.tup_inv
  refine ⟨_, rfl, _, "tuple", _, rfl, .tuple, hv.isi _, true, rfl, iteT ⟨_, rfl, a, _, rfl, .inr h1, rfl, ?_⟩⟩
  rw [h2]
  match xs, q with
  | [], q => exact q
  | [_], q => exact q
  | [_, _], q => exact q
  | _ :: _ :: _ :: r, q =>
   rw [yY (fun z => by have := V.int.inj z; simp at this; lia)]
   exact q
 | int i => exact ⟨_, rfl, _, "tuple", _, rfl, .tuple, hv.isi _, false, rfl, iteF q⟩
 | non => exact ⟨_, rfl, _, "tuple", _, rfl, .tuple, hv.isi _, false, rfl, iteF q⟩
 | bl b => exact ⟨_, rfl, _, "tuple", _, rfl, .tuple, hv.isi _, false, rfl, iteF q⟩
 | str s => exact ⟨_, rfl, _, "tuple", _, rfl, .tuple, hv.isi _, false, rfl, iteF q⟩
 | lst xs => exact ⟨_, rfl, _, "tuple", _, rfl, .tuple, hv.isi _, false, rfl, iteF q⟩
theorem scIsAhead : FnScope ["thing", "told"] ["thing", "told"] (defScope sIsAhead) := ⟨rfl, rfl, rfl, by decide +kernel, rfl, by decide +kernel, by decide +kernel⟩
theorem okIsAhead (F : Fn K mg "is_ahead" sIsAhead) (M : Mg mg) (c_is_number_of : Cal P w K mg base 2 "is_number_of" ["thing", "count"] (spIsNum K)) : Cal P w K mg base 3 "is_ahead" ["thing", "told"] (spIsAhead K) := by
 refine cal_of F scIsAhead (fun _ _ _ _ _ _ => bind2 (fun _ _ => rfl)) (fun vs H Q E h => ?_) (fun f cdv A outer s H vs Q E hr h => ?_)
 ·obtain ⟨v, d, l, ws, rfl, _⟩ := h
  rfl
 obtain ⟨v, d, l, ws, rfl, hv, hl, hne, q⟩ := h
 refine ⟨_, (pss_one (ps_ret (pe_and (pe_fn c_is_number_of (hr.mono (by decide)) (pa_cons (pv 0) (pa_cons (pe_callB call_len_seq rfl M.len bt_len (pa_cons (pv 1) pa_nil)) pa_nil))) (pe_one (pe_cmpR op_notN (pe_ix ix_list (pv 1) (pv 0) (fun _ _ => rfl)) pe_non (nomark _)))))), ?_⟩
 refine ⟨_, rfl, _, rfl, l, _, rfl, .inl hl, v, d, ws.length, rfl, hv, ?_⟩
 cases e : numT ws.length d with
 | none => rw [e] at q; exact ⟨false, rfl, iteF q⟩
 | some k =>
  rw [e] at q
  obtain ⟨rfl, hk⟩ := numT_some e
  cases hv
  have hw := hne k _ (gE hk)
  refine ⟨true, rfl, iteT ⟨_, rfl, _, rfl, l, _, _, _, rfl, rfl, hl, atNat (gE hk), rfl, ?_⟩⟩
  rw [yY hw]
  exact q
theorem scIsPart : FnScope ["thing", "told"] ["thing", "told"] (defScope sIsPart) := ⟨rfl, rfl, rfl, by decide +kernel, rfl, by decide +kernel, by decide +kernel⟩
theorem okIsPart (F : Fn K mg "is_part" sIsPart) (M : Mg mg) (c_is_pair : Cal P w K mg base 1 "is_pair" ["thing"] (spIsPair K)) (c_is_ahead : Cal P w K mg base 3 "is_ahead" ["thing", "told"] (spIsAhead K)) (c_is_whole : Cal P w K mg base 1 "is_whole" ["thing"] (spIsWhole K)) : Cal P w K mg base 4 "is_part" ["thing", "told"] (spIsPart K) := by
 refine cal_of F scIsPart (fun _ _ _ _ _ _ => bind2 (fun _ _ => rfl)) (fun vs H Q E h => ?_) (fun f cdv A outer s H vs Q E hr h => ?_)
 ·obtain ⟨v, d, l, ws, rfl, _⟩ := h
  rfl
 obtain ⟨v, d, l, ws, rfl, hv, hl, hne, q⟩ := h
 refine ⟨_, (pss_one (ps_ret (pe_and (pe_fn c_is_pair (hr.mono (by decide)) (pa_cons (pv 0) pa_nil)) (pe_and (pe_fn c_is_ahead (hr.mono (by decide)) (pa_cons (pe_ix ix_tup (pv 0) pe_int (fun _ _ => rfl)) (pa_cons (pv 1) pa_nil))) (pe_and (pe_fn c_is_whole (hr.mono (by decide)) (pa_cons (pe_ix ix_tup (pv 0) pe_int (fun _ _ => rfl)) pa_nil)) (pe_one (pe_cmpR op_ge (pe_ix ix_tup (pv 0) pe_int (fun _ _ => rfl)) pe_int (nomark _)))))))), ?_⟩
 refine ⟨_, rfl, v, d, rfl, hv, ?_⟩
 cases hp : pairT d with
 | false =>
  have e : partT ws.length d = none := by
   unfold partT
   split
   ·simp [pairT] at hp
   ·rfl
  rw [e] at q
  exact ⟨false, rfl, iteF q⟩
 | true =>
  obtain ⟨d1, d2, rfl⟩ : ∃ d1 d2, d = .tup [d1, d2] := by
   unfold pairT at hp
   split at hp
   ·exact ⟨_, _, rfl⟩
   ·cases hp
  obtain ⟨a, x, y, rfl, h1, h2, h3⟩ := hv.pair_inv
  refine ⟨true, rfl, iteT ⟨_, rfl, a, _, _, _, rfl, rfl, h1, at0, _, rfl, x, d1, l, ws, rfl, h2, hl, hne, ?_⟩⟩
  cases e1 : numT ws.length d1 with
  | none =>
   have e : partT ws.length (.tup [d1, d2]) = none := by
    unfold partT
    split
    ·rename_i heq
     cases heq
     rw [e1]
     split <;> rfl
    ·rfl
   rw [e] at q
   exact ⟨false, rfl, iteF q⟩
  | some k =>
   refine ⟨true, rfl, iteT ⟨_, rfl, a, _, _, _, rfl, rfl, h1, at1, y, d2, rfl, h3, ?_⟩⟩
   cases d2 with
   | int m =>
    cases h3
    refine ⟨true, rfl, iteT ⟨_, rfl, a, _, _, _, rfl, rfl, h1, at1, _, _, rfl, rfl, ?_⟩⟩
    have e : partT ws.length (.tup [d1, .int m]) = if 0 ≤ m then some (k, m) else none := by
     show (if 0 ≤ m then (numT ws.length d1).map fun k => (k, m) else none) = _
     rw [e1]; rfl
    rw [e] at q
    by_cases hm : 0 ≤ m
    ·rw [if_pos hm] at q
     show Q (.bl (decide (0 ≤ m))) H
     rw [kY hm]
     exact q
    ·rw [if_neg hm] at q
     show Q (.bl (decide (0 ≤ m))) H
     rw [yY hm]
     exact q
   | non => exact ⟨false, rfl, iteF q⟩
   | bl b => exact ⟨false, rfl, iteF q⟩
   | str s => exact ⟨false, rfl, iteF q⟩
   | tup xs => exact ⟨false, rfl, iteF q⟩
   | lst xs => exact ⟨false, rfl, iteF q⟩
theorem scIsHold : FnScope ["thing", "count"] ["thing", "count"] (defScope sIsHold) := ⟨rfl, rfl, rfl, by decide +kernel, rfl, by decide +kernel, by decide +kernel⟩
theorem okIsHold (F : Fn K mg "is_hold" sIsHold) (M : Mg mg) (c_is_pair : Cal P w K mg base 1 "is_pair" ["thing"] (spIsPair K)) (c_is_number_of : Cal P w K mg base 2 "is_number_of" ["thing", "count"] (spIsNum K)) : Cal P w K mg base 3 "is_hold" ["thing", "count"] (spIsHold K) := by
 refine cal_of F scIsHold (fun _ _ _ _ _ _ => bind2 (fun _ _ => rfl)) (fun vs H Q E h => ?_) (fun f cdv A outer s H vs Q E hr h => ?_)
 ·obtain ⟨v, d, n, rfl, _⟩ := h
  rfl
 obtain ⟨v, d, n, rfl, hv, q⟩ := h
 refine ⟨_, (pss_one (ps_ret (pe_and (pe_fn c_is_pair (hr.mono (by decide)) (pa_cons (pv 0) pa_nil)) (pe_and (pe_fn c_is_number_of (hr.mono (by decide)) (pa_cons (pe_ix ix_tup (pv 0) pe_int (fun _ _ => rfl)) (pa_cons (pv 1) pa_nil))) (pe_one (pe_fn c_is_number_of (hr.mono (by decide)) (pa_cons (pe_ix ix_tup (pv 0) pe_int (fun _ _ => rfl)) (pa_cons pe_int pa_nil)))))))), ?_⟩
 refine ⟨_, rfl, v, d, rfl, hv, ?_⟩
 cases hp : pairT d with
 | false =>
  have e : holdT n d = none := by
   unfold holdT
   split
   ·simp [pairT] at hp
   ·rfl
  rw [e] at q
  exact ⟨false, rfl, iteF q⟩
 | true =>
  obtain ⟨d1, d2, rfl⟩ : ∃ d1 d2, d = .tup [d1, d2] := by
   unfold pairT at hp
   split at hp
   ·exact ⟨_, _, rfl⟩
   ·cases hp
  obtain ⟨a, x, y, rfl, h1, h2, h3⟩ := hv.pair_inv
  have e : holdT n (.tup [d1, d2]) = match numT n d1, numT 2 d2 with
   | some k, some w => some (((k : Nat) : Int), ((w : Nat) : Int))
   | _, _ => none := rfl
  rw [e] at q
  refine ⟨true, rfl, iteT ⟨_, rfl, a, _, _, _, rfl, rfl, h1, at0, _, rfl, x, d1, n, rfl, h2, ?_⟩⟩
  cases e1 : numT n d1 with
  | none =>
   rw [e1] at q
   exact ⟨false, rfl, iteF q⟩
  | some k =>
   rw [e1] at q
   refine ⟨true, rfl, iteT ⟨_, rfl, a, _, _, _, rfl, rfl, h1, at1, y, d2, 2, rfl, h3, ?_⟩⟩
   cases e2 : numT 2 d2 with
   | none => rw [e2] at q; exact q
   | some w => rw [e2] at q; exact q
end
abbrev sSumRow : Stmt := top 7
abbrev sMost : Stmt := top 14
def addOf (o : Option V) (n : Int) : Int := match o with
 | none => if 0 < n then n else 0
 | some (.int z) => z * n
 | some _ => 0
def mostTo (d : List (Key × V)) (ns : List Int) (i : Nat) : Int := ((List.range i).map fun j => addOf (valV d (Sum.inl ((j : Nat) : Int))) (ns.getD j 0)).sum
theorem mostTo_succ (d : List (Key × V)) {ns : List Int} {i : Nat} {n : Int} (e : ns[i]? = some n) : mostTo d ns (i + 1) = mostTo d ns i + addOf (valV d (Sum.inl ((i : Nat) : Int))) n := by
 unfold mostTo
 have eg : ns.getD i 0 = n := by rw [jY, e]; rfl
 rw [jKe, kW, kJc, zZ, jKc, jYd, List.sum_nil, eg]
 lia
def Worths (d : List (Key × V)) : Prop := ∀ k, valV d k = none ∨ valV d k = some (.int 0) ∨ valV d k = some (.int 1)
def dOf (hs : List (Int × Int)) : List (Key × V) := dictOf2 (hs.map fun p => (p.1, V.int p.2))
theorem worths_fold (hs : List (Int × Int)) (hw : ∀ p ∈ hs, p.2 = 0 ∨ p.2 = 1) : ∀ d : List (Key × V), Worths d → Worths ((hs.map fun p => (p.1, V.int p.2)).foldl (fun d p => putK d (Sum.inl p.1) p.2) d) := by
 induction hs with
 | nil => intro d h; exact h
 | cons p r ih =>
  intro d h
  refine ih (fun q hq => hw q (yW _ hq)) _ fun k => ?_
  rw [valV_put]
  by_cases e : k = Sum.inl p.1
  ·rw [if_pos e]
   rcases hw p (zQ ..) with z | z
   ·exact .inr (.inl (congrArg (fun y => some (V.int y)) z))
   ·exact .inr (.inr (congrArg (fun y => some (V.int y)) z))
  ·rw [if_neg e]; exact h k
theorem worths_of {hs : List (Int × Int)} (hw : ∀ p ∈ hs, p.2 = 0 ∨ p.2 = 1) : Worths (dOf hs) := worths_fold hs hw [] fun _ => .inl rfl
def HoldsAt (K : Fg) (H : Hp) (l : Addr) (hs : List (Int × Int)) : Prop := ∃ vs, SqL K H l vs ∧ PairsAre K H vs (hs.map fun p => (p.1, V.int p.2))
theorem PairsAre.same {K : Fg} {H H' : Hp} {vs : List V} {ps : List (Int × V)} (e : Same H H') (h : PairsAre K H vs ps) : PairsAre K H' vs ps := L2.PairsAre.imp (fun _ _ z => e.tup z) h
theorem PairsAre.upd {K : Fg} {H : Hp} {D : Addr} {ys zs : List V} {vs : List V} {ps : List (Int × V)} (hD : H D = some (.lst ys)) (h : PairsAre K H vs ps) : PairsAre K (upd H D (.lst zs)) vs ps := L2.PairsAre.imp (fun _ _ z => SqT_upd hD z) h
theorem HoldsAt.same {K : Fg} {H H' : Hp} {l : Addr} {hs : List (Int × Int)} (e : Same H H') (h : HoldsAt K H l hs) : HoldsAt K H' l hs := by obtain ⟨vs, h1, h2⟩ := h; exact ⟨vs, e.seq h1, PairsAre.same e h2⟩
theorem pairs_app {K : Fg} {H : Hp} {vs ws : List V} {ps qs : List (Int × V)} (h1 : PairsAre K H vs ps) (h2 : PairsAre K H ws qs) : PairsAre K H (vs ++ ws) (ps ++ qs) := by
 unfold PairsAre at *
 induction h1 with
 | nil => exact h2
 | cons a b ih => exact .cons a ih
theorem pairs_one {K : Fg} {H : Hp} {t : Addr} {x : Int} {v : V} (h : SqT K H t [.int x, v]) : PairsAre K H [.ref t] [(x, v)] := .cons ⟨t, rfl, h⟩ .nil
inductive IspMost (K : Fg) (vs : List V) (H : Hp) (Q : VK) : Prop
 | mk (t l : Addr) (r : List Int × Int) (hs : List (Int × Int)) (h1 : vs = [.ref t, .ref l]) (h2 : RowAt K H t r) (h3 : HoldsAt K H l hs) (h4 : hs.length ≤ 1000) (h5 : (∀ p ∈ hs, p.2 = 0 ∨ p.2 = 1)) (h6 : ∀ H', Same H H' → Q (.int (mostTo (dOf hs) r.1 r.1.length)) H')
def spMost (K : Fg) : Sp := fun vs H Q _ => IspMost K vs H Q
abbrev Part := (List Int × Int) × Int
def addPart (a : List Int × Int) (p : Part) : List Int × Int := (List.zipWith (fun x y => x + p.2 * y) a.1 p.1.1, a.2 + p.2 * p.1.2)
def sumRow (n : Nat) (ps : List Part) : List Int × Int := ps.foldl addPart (List.replicate n 0, 0)
theorem sumRow_snoc (n : Nat) {ps : List Part} {i : Nat} {p : Part} (h : ps[i]? = some p) : sumRow n (ps.take (i + 1)) = addPart (sumRow n (ps.take i)) p := by
 rw [takeS h]; unfold sumRow; rw [kQd]; rfl
theorem fold_len (ps : List Part) : ∀ (a : List Int × Int), (∀ p ∈ ps, p.1.1.length = a.1.length) → (ps.foldl addPart a).1.length = a.1.length := by
 induction ps with
 | nil => intro a _; rfl
 | cons p t ih =>
  intro a h
  have h1 := h p zQ
  have e : (addPart a p).1.length = a.1.length := by show (List.zipWith _ _ _).length = _; rw [jKd]; lia
  rw [jXf, ih _ (fun q hq => by rw [e]; exact h q (yW _ hq)), e]
theorem sumRow_len (n : Nat) (ps : List Part) (h : ∀ p ∈ ps, p.1.1.length = n) : (sumRow n ps).1.length = n := by
 have := fold_len ps (List.replicate n 0, 0) (fun p hp => by rw [h p hp]; exact (zK ..).symm)
 unfold sumRow
 rw [this]
 exact zK ..
theorem rep0 (n : Nat) : (List.replicate n [V.int 0]).flatten = (List.replicate n (0 : Int)).map V.int := by
 induction n with
 | zero => rfl
 | succ n ih => rw [wJ, jZd, ih, wJ, zZ]; rfl
theorem getZipF {f : Int → Int → Int} {ns ms : List Int} {i : Nat} {n m : Int} (h1 : ns[i]? = some n) (h2 : ms[i]? = some m) : (List.zipWith f ns ms)[i]? = some (f n m) := by
 rw [List.getElem?_zipWith, h1, h2]
def PartsAre (K : Fg) (H : Hp) (vs : List V) (ps : List Part) : Prop := vs.length = ps.length ∧ ∀ (i : Nat) (v : V) (p : Part), vs[i]? = some v → ps[i]? = some p → ∃ T t, v = .ref T ∧ SqT K H T [.ref t, .int p.2] ∧ RowAt K H t p.1
inductive IspSum (K : Fg) (vs : List V) (H : Hp) (Q : VK) : Prop
 | mk (l : Addr) (us : List V) (ps : List Part) (n : Nat) (h1 : vs = [.int (n : Int), .ref l]) (h2 : SqL K H l us) (h3 : PartsAre K H us ps) (h4 : n ≤ 1000) (h5 : (∀ p ∈ ps, p.1.1.length = n ∧ -(2 ^ 64) < p.2 ∧ p.2 < 2 ^ 64)) (h6 : ∀ t H', Same H H' → RowAt K H' t (sumRow n ps) → Q (.ref t) H')
def spSum (K : Fg) : Sp := fun vs H Q _ => IspSum K vs H Q
theorem holdsT_lst {n : Nat} {xs : List Dt} : (holdsT n (.lst xs)).isSome = true ↔ ∃ hs, allT (holdT n) xs = some hs ∧ (hs.map (·.1)).Nodup := by
 show (holdsL n xs).isSome = true ↔ _
 unfold holdsL
 cases e : allT (holdT n) xs with
 | none => exact ⟨(fun z => nomatch z), fun ⟨_, e1, _⟩ => nomatch e1⟩
 | some hs =>
  show (if (hs.map (·.1)).Nodup then some hs else none).isSome = true ↔ _
  by_cases h : (hs.map (·.1)).Nodup
  ·rw [if_pos h]; exact ⟨fun _ => ⟨hs, rfl, h⟩, fun _ => rfl⟩
  ·rw [if_neg h]; exact ⟨(fun z => nomatch z), fun ⟨hs', e1, e2⟩ => by cases e1; exact absurd e2 h⟩
theorem holdsT_none {n : Nat} {xs : List Dt} (h : allT (holdT n) xs = none) : holdsT n (.lst xs) = none := by
 show holdsL n xs = none
 unfold holdsL; rw [h]; rfl
theorem turnT_none {n : Nat} {xs : List Dt} (h : allT (numT n) xs = none) : turnT n (.lst xs) = none := by
 show turnL n xs = none
 unfold turnL; rw [h]; rfl
theorem turnT_some {n : Nat} {xs : List Dt} {t : List Nat} (h : allT (numT n) xs = some t) : (turnT n (.lst xs)).isSome = true ↔ t.Nodup ∧ t.length = n := by
 show (turnL n xs).isSome = true ↔ _
 unfold turnL
 rw [h]
 show (if t.Nodup ∧ t.length = n then some t else none).isSome = true ↔ _
 by_cases hh : t.Nodup ∧ t.length = n
 ·rw [if_pos hh]; exact ⟨fun _ => hh, fun _ => rfl⟩
 ·rw [if_neg hh]; exact ⟨(fun z => nomatch z), fun z => absurd z hh⟩
theorem bool_isSome {α : Type} {o : Option α} {b : Bool} (h : b = true ↔ o.isSome = true) : b = o.isSome := by
 cases b <;> cases o <;> simp_all
theorem sorted_unique : ∀ {l1 l2 : List Int}, l1.Perm l2 → l1.Pairwise (· ≤ ·) → l2.Pairwise (· ≤ ·) → l1 = l2 := by
 intro l1
 induction l1 with
 | nil => intro l2 h _ _; exact h.nil_eq
 | cons a t ih =>
  intro l2 h s1 s2
  cases l2 with
  | nil => exact absurd h.length_eq (by simp)
  | cons b u =>
   have hab : a = b := by
    have h1 : a ∈ b :: u := h.mem_iff.mp zQ
    have h2 : b ∈ a :: t := h.mem_iff.mpr zQ
    have s1' := jJd.mp s1
    have s2' := jJd.mp s2
    rcases zX.mp h1 with e | e
    ·exact e
    ·rcases zX.mp h2 with e' | e'
     ·exact e'.symm
     ·have := s2'.1 a e; have := s1'.1 b e'; lia
   subst hab
   rw [ih (List.Perm.cons_inv h) (jJd.mp s1).2 (jJd.mp s2).2]
def rangeI (n : Nat) : List Int := (List.range n).map fun i => ((i : Nat) : Int)
theorem rangeI_sorted (n : Nat) : (rangeI n).Pairwise (· ≤ ·) := by
 unfold rangeI
 rw [kYe]
 exact List.Pairwise.imp (fun h => by lia) List.pairwise_lt_range
theorem nodup_perm_range {n : Nat} {t : List Nat} (hl : ∀ k ∈ t, k < n) (hn : t.Nodup) (hlen : t.length = n) : t.Perm (List.range n) := by
 have key : ∀ (n : Nat) (t : List Nat), (∀ k ∈ t, k < n) → t.Nodup → t.length = n → ∀ k, k < n → k ∈ t := by
  intro n
  induction n with
  | zero => intro t _ _ _ k hk; lia
  | succ n ih =>
   intro t hl hn hlen k hk
   by_cases hm : n ∈ t
   ·have h1 := ih (t.erase n) (fun j hj => by
      have h2 := hl j (kJd hj)
      have h3 : j ≠ n := fun e => by rw [e] at hj; exact (List.Nodup.not_mem_erase hn) hj
      lia) (hn.erase n) (by rw [List.length_erase_of_mem hm]; lia)
    by_cases hk2 : k = n
    ·rw [hk2]; exact hm
    ·exact kJd (h1 k (by lia))
   ·exfalso
    have hl' : ∀ j ∈ t, j < n := fun j hj => by
     have := hl j hj
     have : j ≠ n := fun e => hm (e ▸ hj)
     lia
    have : ∀ (m : Nat) (u : List Nat), (∀ j ∈ u, j < m) → u.Nodup → u.length ≤ m := by
     intro m
     induction m with
     | zero =>
      intro u hu _
      cases u with
      | nil => exact jJ _
      | cons x _ => exact absurd (hu x zQ) (kJa _)
     | succ m ihm =>
      intro u hu hn2
      have := ihm (u.erase m) (fun j hj => by
       have h2 := hu j (kJd hj)
       have h3 : j ≠ m := fun e => by rw [e] at hj; exact (List.Nodup.not_mem_erase hn2) hj
       lia) (hn2.erase m)
      by_cases hmm : m ∈ u
      ·rw [List.length_erase_of_mem hmm] at this
       lia
      ·rw [List.erase_of_not_mem hmm] at this; lia
    have := this n t hl' hn
    lia
 refine (List.perm_ext_iff_of_nodup hn List.nodup_range).mpr fun k => ?_
 rw [wX]
 exact ⟨fun h => hl k h, key n t hl hn hlen k⟩
theorem turn_sorted {n : Nat} {t : List Nat} (hl : ∀ k ∈ t, k < n) {qs : List Int} (hp : qs.Perm (t.map fun (k : Nat) => (k : Int))) (hs : qs.Pairwise (· ≤ ·)) : qs = rangeI n ↔ t.Nodup ∧ t.length = n := by
 constructor
 ·intro e
  rw [e] at hp
  have h1 : (t.map fun (k : Nat) => (k : Int)).Nodup := hp.nodup_iff.mp (by
   unfold rangeI
   exact kYe.mpr (List.Pairwise.imp (fun h => by lia) List.nodup_range))
  refine ⟨List.Pairwise.imp (fun h e => h (by rw [e])) (kYe.mp h1), ?_⟩
  have := hp.length_eq
  unfold rangeI at this
  rw [jQ, jQ, jQd] at this
  exact this.symm
 ·rintro ⟨h1, h2⟩
  exact sorted_unique (hp.trans ((nodup_perm_range hl h1 h2).map _)) hs (rangeI_sorted n)
theorem allT_vals {K : Fg} {H : Hp} {n : Nat} {vs : List V} {xs : List Dt} {t : List Nat} (hl : vs.length = xs.length) (h : ∀ (i : Nat) v x, vs[i]? = some v → xs[i]? = some x → HasT K H v x) (e : allT (numT n) xs = some t) : vs = (t.map fun (k : Nat) => (k : Int)).map V.int ∧ (∀ k ∈ t, k < n) := by
 obtain ⟨e1, e2⟩ := allT_get e
 refine ⟨?_, fun k hk => ?_⟩
 ·apply kQc
  intro i
  by_cases hi : i < vs.length
  ·obtain ⟨x, ex⟩ : ∃ x, xs[i]? = some x := ⟨_, gE (by lia)⟩
   obtain ⟨k, ek, en⟩ := e2 i x ex
   obtain ⟨rfl, _⟩ := numT_some en
   have := h i _ _ (gE hi) ex
   rw [gE hi, jK, jK, ek]
   cases hv : vs[i] with
   | int j => rw [hv] at this; cases this; rfl
   | non => rw [hv] at this; cases this
   | bl b => rw [hv] at this; cases this
   | str s => rw [hv] at this; cases this
   | ref a => rw [hv] at this; cases this
   | byt _ => rw [hv] at this; cases this
   | flt _ => rw [hv] at this; cases this
   | ty _ => rw [hv] at this; cases this
  ·rw [jQb.mpr (by lia), jQb.mpr (by rw [jQ, jQ]; lia)]
 ·obtain ⟨i, hi, rfl⟩ := jXd.mp hk
  obtain ⟨x, ex⟩ : ∃ x, xs[i]? = some x := ⟨_, gE (by lia)⟩
  obtain ⟨k', ek, en⟩ := e2 i x ex
  rw [gE hi] at ek
  cases ek
  exact (numT_some en).2
theorem holds_vals {K : Fg} {H : Hp} {n : Nat} {vs : List V} {xs : List Dt} {hs : List (Int × Int)} (hl : vs.length = xs.length) (h : ∀ (i : Nat) v x, vs[i]? = some v → xs[i]? = some x → HasT K H v x) (e : allT (holdT n) xs = some hs) : PairsAre K H vs (hs.map fun p => (p.1, V.int p.2)) ∧ ∀ p ∈ hs, 0 ≤ p.1 ∧ p.1 < (n : Int) ∧ (p.2 = 0 ∨ p.2 = 1) := by
 induction xs generalizing vs hs with
 | nil =>
  cases e
  have : vs = [] := zW (by simpa using hl)
  subst this
  exact ⟨.nil, fun p hp => nomatch hp⟩
 | cons d r ih =>
  obtain ⟨x, t, e1, e2, rfl⟩ := allT_cons e
  cases vs with
  | nil => simp at hl
  | cons v u =>
   obtain ⟨a1, a2⟩ := ih (vs := u) (by simpa using hl) (fun i w y h1 h2 => h (i + 1) w y (by simpa using h1) (by simpa using h2)) e2
   obtain ⟨e3, f3, rfl, rfl, rfl, b1, b2, b3⟩ := holdT_some e1
   have hv := h 0 v _ rfl rfl
   obtain ⟨aa, x1, y1, rfl, g1, g2, g3⟩ := hv.pair_inv
   cases g2
   cases g3
   refine ⟨.cons ⟨aa, rfl, g1⟩ a1, fun p hp => ?_⟩
   rcases zX.mp hp with rfl | hp
   ·exact ⟨b1, b2, b3⟩
   ·exact a2 p hp
def singleRow (n c : Nat) (x l : Int) : List Int × Int := ((List.replicate n 0).set c x, l)
def betterRow (cs : List Int) (b : Int) : List Int × Int := (cs.map fun c => -c, 1 - b)
def shareRow (r : List Int × Int) (b : Int) : List Int × Int := (r.1.map fun x => -((-x).fdiv b), -((-r.2).fdiv b))
def shutNums (n : Nat) (hs : List (Int × Int)) : List Int := hs.foldl (fun a p => a.set p.1.toNat (1 - 2 * p.2)) (List.replicate n 0)
def shutLeast (hs : List (Int × Int)) : Int := hs.foldl (fun z p => z - p.2) 1
def shutRow (n : Nat) (hs : List (Int × Int)) : List Int × Int := (shutNums n hs, shutLeast hs)
def withoutN (ns : List Int) (c : Nat) : List Int := ns.take c ++ [0] ++ ns.drop (c + 1)
def eitherRow (one other : List Int × Int) (c : Nat) : List Int × Int := (withoutN one.1 c, if other.2 < one.2 - one.1.getD c 0 then other.2 else one.2 - one.1.getD c 0)
def likeStep (t : List Nat) (a : List Int × Int) (c : Nat) : List Int × Int :=
 let a1 := a.1.set c (a.1.getD c 0 + a.2)
 (a1.set (t.getD c 0) (a1.getD (t.getD c 0) 0 - a.2), a.2 * 2)
def likeTo (t : List Nat) (k : Nat) : List Int × Int := ((List.range k).map fun i => t.length - 1 - i).foldl (likeStep t) (List.replicate t.length 0, 1)
def likeRow (t : List Nat) : List Int × Int := ((likeTo t t.length).1, 0)
theorem likeTo_succ (t : List Nat) (k : Nat) : likeTo t (k + 1) = likeStep t (likeTo t k) (t.length - 1 - k) := by
 unfold likeTo
 rw [jKe, kW, kQd]
 rfl
theorem likeTo_len (t : List Nat) (k : Nat) : (likeTo t k).1.length = t.length := by
 induction k with
 | zero => exact zK ..
 | succ k ih =>
  rw [likeTo_succ]
  show ((_ : List Int).set _ _).length = _
  rw [xZ, xZ, ih]
inductive IspSingle (K : Fg) (vs : List V) (H : Hp) (Q : VK) : Prop
 | mk (n c : Nat) (x l : Int) (h1 : vs = [.int (n : Int), .int (c : Int), .int x, .int l]) (h2 : c < n) (h3 : n ≤ 1000) (h4 : ∀ t H', Same H H' → RowAt K H' t (singleRow n c x l) → Q (.ref t) H')
def spSingle (K : Fg) : Sp := fun vs H Q _ => IspSingle K vs H Q
inductive IspBetter (K : Fg) (vs : List V) (H : Hp) (Q : VK) : Prop
 | mk (t : Addr) (rs : List (List Int × Int)) (cs : List Int) (b : Int) (h1 : vs = [.ref t, .int b]) (h2 : ProbAt K H t rs cs) (h3 : cs.length ≤ 1000) (h4 : ∀ t' H', Same H H' → RowAt K H' t' (betterRow cs b) → Q (.ref t') H')
def spBetter (K : Fg) : Sp := fun vs H Q _ => IspBetter K vs H Q
inductive IspShare (K : Fg) (vs : List V) (H : Hp) (Q : VK) : Prop
 | mk (t : Addr) (r : List Int × Int) (b : Int) (h1 : vs = [.ref t, .int b]) (h2 : RowAt K H t r) (h3 : r.1.length ≤ 1000) (h4 : 0 < b) (h5 : Big b) (h6 : ∀ t' H', Same H H' → RowAt K H' t' (shareRow r b) → Q (.ref t') H')
def spShare (K : Fg) : Sp := fun vs H Q _ => IspShare K vs H Q
inductive IspShutRow (K : Fg) (vs : List V) (H : Hp) (Q : VK) : Prop
 | mk (l : Addr) (n : Nat) (hs : List (Int × Int)) (h1 : vs = [.int (n : Int), .ref l]) (h2 : HoldsAt K H l hs) (h3 : (∀ p ∈ hs, 0 ≤ p.1 ∧ p.1 < (n : Int) ∧ (p.2 = 0 ∨ p.2 = 1))) (h4 : n ≤ 1000) (h5 : ∀ t' H', Same H H' → RowAt K H' t' (shutRow n hs) → Q (.ref t') H')
def spShutRow (K : Fg) : Sp := fun vs H Q _ => IspShutRow K vs H Q
inductive IspWithout (K : Fg) (vs : List V) (H : Hp) (Q : VK) : Prop
 | mk (t : Addr) (r : List Int × Int) (c : Nat) (h1 : vs = [.ref t, .int (c : Int)]) (h2 : RowAt K H t r) (h3 : r.1.length ≤ 1000) (h4 : c < r.1.length) (h5 : ∀ p H', Same H H' → SqT K H' p ((withoutN r.1 c).map V.int) → Q (.ref p) H')
def spWithout (K : Fg) : Sp := fun vs H Q _ => IspWithout K vs H Q
inductive IspEitherRow (K : Fg) (vs : List V) (H : Hp) (Q : VK) : Prop
 | mk (t1 t2 : Addr) (r1 r2 : List Int × Int) (c : Nat) (h1 : vs = [.ref t1, .ref t2, .int (c : Int)]) (h2 : RowAt K H t1 r1) (h3 : RowAt K H t2 r2) (h4 : r1.1.length ≤ 1000) (h5 : c < r1.1.length) (h6 : ∀ t' H', Same H H' → RowAt K H' t' (eitherRow r1 r2 c) → Q (.ref t') H')
def spEitherRow (K : Fg) : Sp := fun vs H Q _ => IspEitherRow K vs H Q
inductive IspLikeRow (K : Fg) (vs : List V) (H : Hp) (Q : VK) : Prop
 | mk (l : Addr) (t : List Nat) (h1 : vs = [.ref l]) (h2 : SqL K H l ((t.map fun (k : Nat) => (k : Int)).map V.int)) (h3 : t.length ≤ 1000) (h4 : (∀ k ∈ t, k < t.length)) (h5 : ∀ t' H', Same H H' → RowAt K H' t' (likeRow t) → Q (.ref t') H')
def spLikeRow (K : Fg) : Sp := fun vs H Q _ => IspLikeRow K vs H Q
theorem set_map (ns : List Int) (k : Nat) (x : Int) : (ns.map V.int).set k (V.int x) = (ns.set k x).map V.int := by rw [kZc]
theorem row_new {K : Fg} {H : Hp} {l t : Addr} {ns : List Int} {z : Int} (h : upd H l (.tup (ns.map V.int)) t = none) : RowAt K (upd (upd H l (.tup (ns.map V.int))) t (.tup [.ref l, .int z])) t (ns, z) := ⟨l, sqT_new upd_same, sqT_new (by rw [upd_ne (ne_of_none upd_same h)]; exact upd_same)⟩
section
variable {P : Program} {w : World} {K : Fg} {mg : Str → Option Value} {base : Heap} {aT aL : Addr} {fT fL : Str → Option Value}
theorem scSumRow : FnScope ["count", "parts", "numbers", "least", "row", "many"] ["count", "parts"] (defScope sSumRow) := ⟨rfl, rfl, rfl, by decide +kernel, rfl, by decide +kernel, by decide +kernel⟩
theorem okSumRow (F : Fn K mg "sum_row" sSumRow) (M : Mg mg) : Cal P w K mg base 1 "sum_row" ["count", "parts"] (spSum K) := by
 refine cal_of F scSumRow (fun _ _ _ _ _ _ => bind2 (fun _ _ => rfl)) (fun vs H Q E h => ?_) (fun f cdv A outer s H vs Q E hr h => ?_)
 ·obtain ⟨l, us, ps, n, rfl, _⟩ := h
  rfl
 obtain ⟨l, us, ps, n, rfl, hl, hps, hn, hps2, q⟩ := h
 refine ⟨_, (pss_cons (ps_set (i := 2) scSumRow.nd rfl (Or.inl rfl) (pe_op op_rep (pe_lst (pa_cons pe_int pa_nil)) (pv 0)))
  (pss_cons (ps_set (i := 3) scSumRow.nd rfl (Or.inl rfl) pe_int)
  (pss_cons (ps_for PassesOwn.never rfl (pi_list (pv 1)) (pg_tup rfl (pgs_cons (pg_name (i := 4) scSumRow.nd rfl (Or.inl rfl) (Or.inl rfl)) (pgs_cons (pg_name (i := 5) scSumRow.nd rfl (Or.inr rfl) (Or.inl rfl)) pgs_nil))) (pss_cons (ps_setC (i := 2) ["number", "more", "many"] [none, none, some 5] rfl scSumRow.nd rfl (Or.inl rfl) (pi_zip true false rfl M.zip_ (pa_cons (pv 2) (pa_cons (pe_ix ix_tup (pv 4) pe_int (fun _ _ => rfl)) pa_nil))) (fun _ _ _ => (pg_pair (K := K) (i := 0) (j := 1) rfl rfl (show (["number", "more", "many"] : List Str).Nodup by decide +kernel) rfl rfl rfl rfl)) (fun _ _ _ => pf_nil) (fun _ _ _ => (pe_op op_add (pv 0) (pe_op op_mul (pv 2) (pv 1)))))
  (pss_one (ps_aug (i := 3) scSumRow.nd rfl (Or.inl rfl) (pe_op op_mul (pv 5) (pe_ix ix_tup (pv 4) pe_int (fun _ _ => rfl))) ip_add))))
  (pss_one (ps_ret (pe_tup (pa_cons (pe_callTy call_tuple_of rfl M.tuple_ bt_tuple (pa_cons (pv 2) pa_nil)) (pa_cons (pv 3) pa_nil)))))))), ?_⟩
 refine seq_let4 ?_
 intro rT4 rT3 rT2
 have hz : (1000 : Nat) < sizeLine := by decide
 obtain ⟨hlen, hget⟩ := id hps
 refine ⟨by show 1 ≤ sizeLine; decide, fun p0 hp0 => ?_⟩
 refine ⟨_, rfl, p0, (n : Int), _, rfl, rfl, upd_same, by lia, by lia, by show 1 * ((n : Int)).toNat ≤ sizeLine; lia, fun g0 hg0 => ?_⟩
 have e0 : (List.replicate ((n : Int)).toNat [V.int 0]).flatten = (List.replicate n (0 : Int)).map V.int := rep0 n
 rw [e0]
 have s0 : Same H (upd (upd H p0 (.lst [.int 0])) g0 (.lst ((List.replicate n (0 : Int)).map V.int))) := (same_new' hp0 _).trans (same_new' hg0 _)
 let Pv1 : Nat → St → Hp → Prop := fun i σ H1 => ∃ (g : Addr) (u v : Option V), σ = [some (.int (n : Int)), some (.ref l), some (.ref g), some (.int (sumRow n (ps.take i)).2), u, v] ∧ H1 g = some (.lst ((sumRow n (ps.take i)).1.map V.int)) ∧ Same H H1
 refine ⟨_, rfl, l, rfl, ⟨_, s0.seq hl⟩, for_list (K := K) (a := l) (xs := us) Pv1 ⟨g0, none, none, rfl, upd_same, s0⟩ (fun i σ H1 _ h => ?_) ?_ ?_⟩
 ·obtain ⟨g, u, v, rfl, hg, s1⟩ := h
  exact s1.seq hl
 ·rintro i x σ H1 e1 ⟨g, u, v, rfl, hg, s1⟩
  have hi : i < us.length := (yQ.mp e1).1
  obtain ⟨p, ep⟩ : ∃ p, ps[i]? = some p := ⟨_, gE (by lia)⟩
  obtain ⟨T, t, rfl, hT, q1, r1, r2⟩ := hget i x p e1 ep
  obtain ⟨hb1, hb2, hb3⟩ := hps2 p (kX ep)
  have eS := sumRow_snoc n ep
  have lA : (sumRow n (ps.take i)).1.length = n := sumRow_len n _ fun p' hp' => (hps2 p' (kJe hp')).1
  generalize sumRow n (ps.take i) = acc at hg eS lA ⊢
  refine ⟨T, _, rfl, s1.tup hT, rfl, _, _, rfl, _, _, rfl, rfl, ?_⟩
  refine ⟨_, rfl, _, rfl, t, _, _, _, rfl, rfl, s1.tup r1, at0, g, q1, rfl, ⟨_, sqL_new hg⟩, ⟨_, s1.tup r2⟩, fun D hD => ?_⟩
  let Pv2 : Nat → St → List V → Hp → Prop := fun k τ ys H2 => ∃ a b : Option V, τ = [a, b, some (.int p.2)] ∧ ys = ((List.zipWith (fun x y => x + p.2 * y) acc.1 p.1.1).take k).map V.int ∧ H2 D = some (.lst ys) ∧ Same H1 H2
  refine lc_any (n := n) Pv2 ?_ (fun k τ ys H2 hk h => ?_) (fun k τ ys H2 hk h => ?_) (fun τ ys H2 h => ?_) ?_ ?_
  ·exact ⟨none, none, rfl, rfl, upd_same, same_new' hD _⟩
  ·obtain ⟨a, b, rfl, rfl, hD2, s2⟩ := h
   exact ⟨hD2, by rw [jQ, yX]; lia⟩
  ·obtain ⟨a, b, rfl, rfl, hD2, s2⟩ := h
   have k1 : k < acc.1.length := by lia
   have k2 : k < p.1.1.length := by lia
   exact ⟨_, _, .int acc.1[k], .int p.1.1[k], s2.seq (sqL_new hg), (s1.trans s2).tup r2, by rw [jK, gE k1]; rfl, by rw [jK, gE k2]; rfl⟩
  ·obtain ⟨a, b, rfl, rfl, hD2, s2⟩ := h
   exact ⟨_, _, s2.seq (sqL_new hg), (s1.trans s2).tup r2, by rw [jQ, jQ]; lia⟩
  ·rintro k τ ys H2 x' H3 hk ⟨a, b, rfl, rfl, hD2, s2⟩ ⟨T2, x1, y1, rfl, hT2, rfl, e3, e4⟩
   obtain ⟨m1, em1, rfl⟩ := getMapI (e3 _ (s2.seq (sqL_new hg)))
   obtain ⟨m2, em2, rfl⟩ := getMapI (e4 _ ((s1.trans s2).tup r2))
   refine ⟨T2, _, rfl, sqT_new upd_same, rfl, _, _, rfl, _, _, rfl, rfl, ?_⟩
   refine ⟨_, rfl, _, rfl, _, rfl, _, _, rfl, rfl, .inl ⟨hb2, hb3⟩, _, _, rfl, rfl, ?_, _, _, rfl, ?_, upd_same, fun b' o e => ?_⟩
   ·rw [upd_ne (ne_of_none hD2 hT2)]; exact hD2
   ·rw [takeS (getZipF em1 em2), kW]; rfl
   ·rw [upd_ne (ne_of_none e hD), upd_ne (ne_of_none (s2 _ _ e) hT2)]; exact s2 _ _ e
  ·rintro τ ys H2 ⟨a, b, rfl, rfl, hD2, s2⟩
   rw [xQ (by rw [jKd]; lia)] at hD2
   refine ⟨_, rfl, _, rfl, _, rfl, t, _, _, _, rfl, rfl, (s1.trans s2).tup r1, at1, _, _, rfl, rfl, .inl ⟨hb2, hb3⟩, _, _, rfl, rfl, D, some (.ref t), some (.int p.2), ?_, ?_, s1.trans s2⟩
   ·rw [eS]; rfl
   ·rw [eS]; exact hD2
 ·rintro σ H1 ⟨g, u, v, rfl, hg, s1⟩
  have eT : ps.take us.length = ps := by rw [hlen, xW]
  rw [eT] at hg ⊢
  refine ⟨_, rfl, _, _, rfl, .inl ⟨sqL_new hg, fun l2 hl2 => ?_⟩⟩
  refine ⟨_, rfl, by show 2 ≤ sizeLine; decide, fun t ht => ?_⟩
  have nt : l2 ≠ t := ne_of_none upd_same ht
  exact q t _ ((s1.trans (same_new' hl2 _)).trans (same_new' ht _)) ⟨l2, sqT_new upd_same, sqT_new (by rw [upd_ne nt]; exact upd_same)⟩
theorem scMost : FnScope ["row", "holds", "held", "most", "choice", "number", "worth"] ["row", "holds"] (defScope sMost) := ⟨rfl, rfl, rfl, by decide +kernel, rfl, by decide +kernel, by decide +kernel⟩
theorem okMost (F : Fn K mg "most_of" sMost) (M : Mg mg) : Cal P w K mg base 1 "most_of" ["row", "holds"] (spMost K) := by
 refine cal_of F scMost (fun _ _ _ _ _ _ => bind2 (fun _ _ => rfl)) (fun vs H Q E h => ?_) (fun f cdv A outer s H vs Q E hr h => ?_)
 ·obtain ⟨t, l, r, hs, rfl, _⟩ := h
  rfl
 obtain ⟨t, l, r, hs, rfl, ⟨p, hr1, hr2⟩, ⟨vs, hl, hp⟩, hn, hw, q⟩ := h
 have hu : (A.deeper (PyProof.Rows.envOfC "most_of" (defScope sMost) s.heap.objs.size f cdv)).units + 1 < cLine := wV (jQf (by decide) _) hr.un
 refine ⟨_, (pss_cons (ps_set (i := 2) scMost.nd rfl (Or.inl rfl) (pe_callTy (call_dict_of rfl) rfl M.dict_ bt_dict (pa_cons (pv 1) pa_nil)))
  (pss_cons (ps_set (i := 3) scMost.nd rfl (Or.inl rfl) pe_int)
  (pss_cons (ps_for PassesOwn.never rfl (pi_enum false rfl M.enumerate_ (pa_cons (pe_ix ix_tup (pv 0) pe_int (fun _ _ => rfl)) pa_nil)) (pg_pair (K := K) (i := 4) (j := 5) rfl rfl scMost.nd rfl rfl rfl rfl) (pss_cons (ps_set (i := 6) scMost.nd rfl (Or.inl rfl) (pe_dget1 hu (pv 2) (pv 4) ⟨rfl, rfl, rfl, rfl⟩))
  (pss_one (ps_if (PW.pt (pw_or (pt_cmpR op_eq (pv 6) pe_int (nomark _)) (pw_or1 (PW.pt (pw_and (pt_cmpR op_isN (pv 6) pe_non (nomark _)) (pw_and1 (pt_cmpR op_gt (pv 5) pe_int (nomark _)))))))) (pss_one (ps_aug (i := 3) scMost.nd rfl (Or.inl rfl) (pv 5) ip_add)) pss_nil))))
  (pss_one (ps_ret (pv 3)))))), ?_⟩
 refine seq_let4 ?_
 intro rT4 rT3 rT2
 have hz : (1000 : Nat) < sizeLine := by decide
 refine ⟨_, rfl, l, vs, _, rfl, hl, hp, by rw [jQ]; lia, fun d hd => ?_⟩
 have s1 : Same H (upd H d (.dK (dOf hs))) := same_new' hd _
 let Pv1 : Nat → St → Hp → Prop := fun i σ H1 => ∃ u v x : Option V, σ = [some (.ref t), some (.ref l), some (.ref d), some (.int (mostTo (dOf hs) r.1 i)), u, v, x] ∧ H1 d = some (.dK (dOf hs)) ∧ Same H H1
 refine ⟨_, rfl, t, _, _, _, rfl, rfl, s1.tup hr1, at0, p, rfl, ⟨_, s1.tup hr2⟩, for_enum (K := K) (m := false) (a := p) (xs := r.1.map V.int) Pv1 ⟨none, none, none, rfl, upd_same, s1⟩ (fun i σ H1 _ h => ?_) ?_ ?_⟩
 ·obtain ⟨u, v, x, rfl, hd1, s2⟩ := h
  exact s2.tup hr2
 ·rintro i x σ H1 T e1 ⟨u, v, y, rfl, hd1, s2⟩ hT
  obtain ⟨n, en, rfl⟩ := getMapI e1
  have hd2 : upd H1 T (.tup [.int ((i : Nat) : Int), .int n]) d = some (.dK (dOf hs)) := by rw [upd_ne (ne_of_none hd1 hT)]; exact hd1
  have s3 := s2.trans (same_new' hT (.tup [.int ((i : Nat) : Int), .int n]))
  have em := mostTo_succ (dOf hs) en
  refine ⟨T, _, rfl, sqT_new upd_same, rfl, _, _, rfl, _, _, rfl, rfl, ?_⟩
  refine ⟨_, rfl, d, rfl, .inl ⟨_, .inl hd2⟩, _, rfl, _, DGet.k (k := Sum.inl ((i : Nat) : Int)) hd2, ?_⟩
  rcases worths_of hw (Sum.inl ((i : Nat) : Int)) with e | e | e
  ·rw [e] at em ⊢
   refine ⟨_, rfl, rfl, _, rfl, iteF ⟨_, rfl, rfl, _, rfl, iteT ⟨_, rfl, _, _, rfl, rfl, _, rfl, ite2 (fun c => ?_) (fun c => ?_)⟩⟩⟩
   ·have c' : 0 < n := yV c
    refine ⟨_, rfl, _, rfl, _, _, rfl, rfl, some (.int ((i : Nat) : Int)), some (.int n), some .non, ?_, hd2, s3⟩
    rw [em, show addOf none n = n from if_pos c']
    rfl
   ·have c' : ¬ 0 < n := fun z => c (kY z)
    refine ⟨some (.int ((i : Nat) : Int)), some (.int n), some .non, ?_, hd2, s3⟩
    rw [em, show addOf none n = 0 from if_neg c', Int.add_zero]
    rfl
  ·rw [e] at em ⊢
   refine ⟨_, rfl, rfl, _, rfl, iteF ⟨_, rfl, rfl, _, rfl, iteF (iteF ?_)⟩⟩
   refine ⟨some (.int ((i : Nat) : Int)), some (.int n), some (.int 0), ?_, hd2, s3⟩
   rw [em, show addOf (some (.int 0)) n = 0 from kXc n, Int.add_zero]
   rfl
  ·rw [e] at em ⊢
   refine ⟨_, rfl, rfl, _, rfl, iteT (iteT ?_)⟩
   refine ⟨_, rfl, _, rfl, _, _, rfl, rfl, some (.int ((i : Nat) : Int)), some (.int n), some (.int 1), ?_, hd2, s3⟩
   rw [em, show addOf (some (.int 1)) n = n from Int.one_mul n]
   rfl
 ·rintro σ H1 ⟨u, v, y, rfl, hd1, s2⟩
  rw [jQ]
  exact ⟨_, rfl, q H1 s2⟩
end
abbrev sTurned : Stmt := top 15
abbrev sKeepsT : Stmt := top 16
abbrev Row := L2.Row
def ledR (t : List Nat) (n : Nat) (r : Row) : Row := (put r.1 t n, r.2)
def CostOk (cs : List Int) (t : List Nat) (n : Nat) : Prop := ∀ i, i < n → cs.getD i 0 = cs.getD (t.getD i 0) 0
def KeepsT (rs : List Row) (cs : List Int) (t : List Nat) (n : Nat) : Prop := CostOk cs t n ∧ (rs.map (ledR t n)).Perm rs
theorem sorted_one : ∀ {xs ys : List Row}, xs.Perm ys → xs.Pairwise (fun x y => rowLt y x = false) → ys.Pairwise (fun x y => rowLt y x = false) → xs = ys
 | [], ys, p, _, _ => (List.nil_perm.mp p).symm
 | x :: xs, [], p, _, _ => absurd (List.perm_nil.mp p) (by simp)
 | x :: xs, y :: ys, p, h1, h2 => by
  obtain ⟨a1, a2⟩ := jJd.mp h1
  obtain ⟨b1, b2⟩ := jJd.mp h2
  have exy : x = y := by
   have mx : x ∈ y :: ys := p.mem_iff.mp zQ
   have my : y ∈ x :: xs := p.mem_iff.mpr zQ
   rcases zX.mp mx with e | mx
   ·exact e
   ·rcases zX.mp my with e | my
    ·exact e.symm
    ·exact rowLt_total (b1 x mx) (a1 y my) |>.symm ▸ rfl
  subst exy
  rw [sorted_one (p.cons_inv) a2 b2]
theorem map_inj6 {α β : Type} {f : α → β} (hf : ∀ a b, f a = f b → a = b) : ∀ {xs ys : List α}, xs.map f = ys.map f → xs = ys
 | [], [], _ => rfl
 | [], y :: ys, h => by simp at h
 | x :: xs, [], h => by simp at h
 | x :: xs, y :: ys, h => by
  rw [zZ, zZ] at h
  injection h with h1 h2
  rw [hf _ _ h1, map_inj6 hf h2]
theorem rowD_inj {r q : Row} (h : rowD r = rowD q) : r = q := by
 unfold rowD at h
 injection h with h
 injection h with h1 h2
 injection h1 with h1
 injection h2 with h2 _
 injection h2 with h2
 exact Prod.ext (map_inj6 (fun a b e => by injection e) h1) h2
theorem rowsD_inj {xs ys : List Row} : (D.lst (xs.map rowD) = D.lst (ys.map rowD)) ↔ xs = ys := by
 constructor
 ·intro h
  injection h with h
  exact map_inj6 (fun a b e => rowD_inj e) h
 ·rintro rfl; rfl
theorem dec_VI {x y : Int} [i : Decidable (V.int x = V.int y)] : decide (V.int x = V.int y) = decide (x = y) := decide_eq_decide.mpr ⟨fun h => V.int.inj h, fun h => congrArg V.int h⟩
theorem getD_at6 {ns : List Int} {i : Nat} {n : Int} (e : ns[i]? = some n) : ns.getD i 0 = n := by rw [jY, e]; rfl
theorem getD_atN {ns : List Nat} {i : Nat} {n : Nat} (e : ns[i]? = some n) : ns.getD i 0 = n := by rw [jY, e]; rfl
theorem atK6 {cs : List Int} {k : Nat} (h : k < cs.length) : atI (cs.map V.int) ((k : Nat) : Int) = some (.int (cs.getD k 0)) :=
 atNat (by rw [jK, jY, gE h]; rfl)
theorem getT {n : Nat} {t : List Nat} (T : IsTurn n t) {i : Nat} (h : i < n) : t[i]? = some (t.getD i 0) ∧ t.getD i 0 < n := by
 have hl : i < t.length := by rw [T.length]; exact h
 have e : t[i]? = some (t.getD i 0) := by rw [jY, gE hl]; rfl
 exact ⟨e, T.lt e⟩
theorem any_no {cs : List Int} {t : List Nat} {n : Nat} : (((List.range n).map fun j => !decide (cs.getD j 0 = cs.getD (t.getD j 0) 0)).any id) = true ↔ ¬ CostOk cs t n := by
 rw [List.any_eq_true]
 constructor
 ·rintro ⟨b, hb, e⟩ h
  obtain ⟨j, hj, rfl⟩ := wK.mp hb
  have e' : (!decide (cs.getD j 0 = cs.getD (t.getD j 0) 0)) = true := e
  rw [kY (h j (wX.mp hj))] at e'
  cases e'
 ·intro h
  refine Classical.byContradiction fun z => h fun i hi => Classical.byContradiction fun y => z ⟨_, wK.mpr ⟨i, wX.mpr hi, rfl⟩, ?_⟩
  show (!decide (cs.getD i 0 = cs.getD (t.getD i 0) 0)) = true
  rw [yY y]; rfl
theorem rows_snoc {K : Fg} {H : Hp} {vs : List V} {rs : List Row} {t : Addr} {r : Row} (h : RowsAre K H vs rs) (z : RowAt K H t r) : RowsAre K H (vs ++ [.ref t]) (rs ++ [r]) := RowsAre.snoc h z
theorem rows_same6 {K : Fg} {H H' : Hp} {vs : List V} {rs : List Row} (e : Same H H') (h : RowsAre K H vs rs) : RowsAre K H' vs rs := h.imp fun _ _ z => z.same e
theorem rows_upd6 {K : Fg} {H : Hp} {D : Addr} {ys zs vs : List V} {rs : List Row} (hD : H D = some (.lst ys)) (h : RowsAre K H vs rs) : RowsAre K (upd H D (.lst zs)) vs rs := h.imp fun _ _ z => z.upd hD
theorem seq_cut {t1 t2 : TS} {D : Ends} {σ : St} {H : Hp} (Pv : St → Hp → Prop) (h2 : ∀ σ' H', Pv σ' H' → t2 D σ' H') (h1 : (∀ σ' H', Pv σ' H' → t2 D σ' H') → t1 { D with nx := t2 D } σ H) : tSeq t1 t2 D σ H := h1 h2
theorem name_cut {t1 t2 : TS} {D : Ends} {i : Nat} {x : V} {σ : St} {H : Hp} (Pv : St → Hp → Prop) (h2 : ∀ σ' H', Pv σ' H' → t2 D σ' H') (h1 : (∀ σ' H', Pv σ' H' → t2 D σ' H') → t1 { D with nx := t2 D } (σ.set i (some x)) H) : gName i x σ H ({ D with nx := tSeq t1 t2 D } : Ends).nx := h1 h2
inductive IspKT (K : Fg) (vs : List V) (H : Hp) (Q : VK) : Prop
 | mk (p u : Addr) (rs : List Row) (cs : List Int) (n : Nat) (t : List Nat) (h1 : vs = [.ref p, .ref u]) (h2 : ProbAt K H p rs cs) (h3 : SqL K H u ((tI t).map V.int)) (h4 : IsTurn n t) (h5 : n ≤ 100) (h6 : (∀ r ∈ rs, r.1.length = n)) (h7 : cs.length = n) (h8 : rs.length < 60) (h9 : ∀ (c : Bool) (H' : Hp), Same H H' → (c = true ↔ KeepsT rs cs t n) → Q (.bl c) H')
def spKT (K : Fg) : Sp := fun vs H Q _ => IspKT K vs H Q
section
variable {P : Program} {w : World} {K : Fg} {mg : Str → Option Value} {base : Heap} {aT aL : Addr} {fT fL : Str → Option Value}
theorem scTurned : FnScope ["row", "turn", "numbers", "number", "place"] ["row", "turn"] (defScope sTurned) := ⟨rfl, rfl, rfl, by decide +kernel, rfl, by decide +kernel, by decide +kernel⟩
theorem okTurned (F : Fn K mg "turned" sTurned) (M : Mg mg) : Cal P w K mg base 1 "turned" ["row", "turn"] (spTurned K) := by
 refine cal_of F scTurned (fun _ _ _ _ _ _ => bind2 (fun _ _ => rfl)) (fun vs H Q E h => ?_) (fun f cdv A outer s H vs Q E hr h => ?_)
 ·obtain ⟨r, u, row, n, t, rfl, _⟩ := h
  rfl
 obtain ⟨r, u, row, n, t, rfl, ⟨p, hr1, hr2⟩, hu1, T, hl, hn, q⟩ := h
 refine ⟨_, (pss_cons (ps_set (i := 2) scTurned.nd rfl (Or.inl rfl) (pe_op op_rep (pe_lst (pa_cons pe_int pa_nil)) (pe_callB call_len_seq rfl M.len bt_len (pa_cons (pv 1) pa_nil))))
  (pss_cons (ps_for PassesOwn.never rfl (pi_zip false true rfl M.zip_ (pa_cons (pe_ix ix_tup (pv 0) pe_int (fun _ _ => rfl)) (pa_cons (pv 1) pa_nil))) (pg_pair (K := K) (i := 3) (j := 4) rfl rfl scTurned.nd rfl rfl rfl rfl) (pss_one (ps_asg (pv 3) (pg_sub (pv 2) (pv 4) set_list))))
  (pss_one (ps_ret (pe_tup (pa_cons (pe_callTy call_tuple_of rfl M.tuple_ bt_tuple (pa_cons (pv 2) pa_nil)) (pa_cons (pe_ix ix_tup (pv 0) pe_int (fun _ _ => rfl)) pa_nil))))))), ?_⟩
 refine seq_let3 ?_
 intro rT3 rT2
 have hz : (1000 : Nat) < sizeLine := by decide
 have lt := T.length
 refine ⟨by show 1 ≤ sizeLine; decide, fun p1 hp1 => ?_⟩
 have s1 : Same H (upd H p1 (.lst [.int 0])) := same_new' hp1 _
 refine ⟨_, rfl, u, _, rfl, .inl (s1.seq hu1), p1, _, _, rfl, rfl, upd_same, by lia, ?_, ?_, fun p2 hp2 => ?_⟩
 ·rw [jQ, tI_len]; lia
 ·rw [jQ, tI_len, kQf]; lia
 have s2 := s1.trans (same_new' hp2 (.lst (List.replicate (Int.toNat ((((tI t).map V.int).length : Nat) : Int)) [V.int 0]).flatten))
 have e0 : (List.replicate (Int.toNat ((((tI t).map V.int).length : Nat) : Int)) [V.int 0]).flatten = (put row.1 t 0).map V.int := by
  rw [rep1, jQ, tI_len]
  show _ = (List.replicate t.length 0).map V.int
  rw [List.map_replicate]
  rfl
 let Pv1 : Nat → St → Hp → Prop := fun i σ H3 => ∃ v w : Option V, σ = [some (.ref r), some (.ref u), some (.ref p2), v, w] ∧ H3 p2 = some (.lst ((put row.1 t i).map V.int)) ∧ Same H H3
 refine ⟨_, rfl, r, _, _, _, rfl, rfl, s2.tup hr1, at0, _, rfl, p, u, rfl, ⟨_, s2.tup hr2⟩, ⟨_, s2.seq hu1⟩, for_zip (K := K) (m1 := false) (m2 := true) (a := p) (b := u) (xs := row.1.map V.int) (ys := (tI t).map V.int) Pv1 ⟨none, none, rfl, ?_, s2⟩ (fun i σ H3 _ h => ?_) ?_ ?_⟩
 ·rw [upd_same, e0]
 ·obtain ⟨v, w, rfl, hp3, s3⟩ := h
  exact ⟨s3.tup hr2, s3.seq hu1⟩
 ·rintro i x y σ H3 T' e1 e2 ⟨v, w, rfl, hp3, s3⟩ hT
  obtain ⟨x, ex, rfl⟩ := getMapI e1
  obtain ⟨y, ey, rfl⟩ := getMapI e2
  obtain ⟨k, ek, rfl⟩ := tI_at ey
  have nT : p2 ≠ T' := ne_of_none hp3 hT
  refine ⟨T', _, rfl, sqT_new upd_same, rfl, _, _, rfl, _, _, rfl, rfl, ?_⟩
  refine ⟨_, rfl, _, rfl, _, rfl, p2, _, _, k, rfl, rfl, by rw [upd_ne nT]; exact hp3, ixNat (by rw [jQ, put_length, lt]; exact T.lt ek), _, _, rfl, ?_, fun b o e => ?_⟩
  ·rw [upd_same, put_next ex ek, kZc]
  ·have nb : b ≠ p2 := fun z => by subst z; rw [s1 _ _ e] at hp2; cases hp2
   rw [upd_ne nb, upd_ne (ne_of_none (s3 _ _ e) hT)]
   exact s3 _ _ e
 ·rintro σ H3 ⟨v, w, rfl, hp3, s3⟩
  have em : min (row.1.map V.int).length ((tI t).map V.int).length = n := by rw [jQ, jQ, tI_len]; lia
  rw [em] at hp3
  refine ⟨_, rfl, p2, _, rfl, .inl ⟨sqL_new hp3, fun w hw => ?_⟩⟩
  have s4 := s3.trans (same_new' hw (.tup ((put row.1 t n).map V.int)))
  refine ⟨_, rfl, r, _, _, _, rfl, rfl, s4.tup hr1, at1, by show 2 ≤ sizeLine; decide, fun r' hr' => ?_⟩
  exact q r' _ (s4.trans (same_new' hr' _)) ⟨w, sqT_new upd_same, sqT_new (by rw [upd_ne (ne_of_none upd_same hr')]; exact upd_same)⟩
theorem scKeepsT : FnScope ["problem", "turn", "rows", "costs"] ["problem", "turn"] (defScope sKeepsT) := ⟨rfl, rfl, rfl, by decide +kernel, rfl, by decide +kernel, by decide +kernel⟩
theorem okKeepsT (F : Fn K mg "turn_keeps" sKeepsT) (M : Mg mg) (c_turned : Cal P w K mg base 1 "turned" ["row", "turn"] (spTurned K)) : Cal P w K mg base 2 "turn_keeps" ["problem", "turn"] (spKT K) := by
 refine cal_of F scKeepsT (fun _ _ _ _ _ _ => bind2 (fun _ _ => rfl)) (fun vs H Q E h => ?_) (fun f cdv A outer s H vs Q E hr h => ?_)
 ·obtain ⟨p, u, rs, cs, n, t, rfl, _⟩ := h
  rfl
 obtain ⟨p, u, rs, cs, n, t, rfl, pr, hu1, T, hn, hrl, hcl, h60, q⟩ := h
 have hu6 : (A.deeper (PyProof.Rows.envOfC "turn_keeps" (defScope sKeepsT) s.heap.objs.size f cdv)).units + 6 < cLine := wV (jQf (by decide) _) hr.un
 refine ⟨_, (pss_cons (ps_set (i := 2) scKeepsT.nd rfl (Or.inl rfl) (pe_ix ix_tup (pv 0) pe_int (fun _ _ => rfl)))
  (pss_cons (ps_set (i := 3) scKeepsT.nd rfl (Or.inr rfl) (pe_ix ix_tup (pv 0) pe_int (fun _ _ => rfl)))
  (pss_cons (ps_if (pt_val (pe_callB (call_anyB rfl) rfl M.any bt_any (pa_cons (pe_lc ["cost", "place", "costs"] [none, none, some 3] rfl (pi_zip false true rfl M.zip_ (pa_cons (pv 3) (pa_cons (pv 1) pa_nil))) (fun _ _ _ => (pg_pair (K := K) (i := 0) (j := 1) rfl rfl (show (["cost", "place", "costs"] : List Str).Nodup by decide +kernel) rfl rfl rfl rfl)) (fun _ _ _ => pf_nil) (fun _ _ _ => (pe_cmpR op_ne (pv 0) (pe_ix (ix_tupK (K := K) rfl) (pv 2) (pv 1) (fun _ _ => rfl)) (nomark _)))) pa_nil))) (pss_one (ps_ret pe_bl)) pss_nil)
  (pss_one (ps_ret (pe_cmpR (op_eqD (n := 6) hu6) (pe_callB (call_sortedR (K := K) rfl hu6) rfl M.sorted bt_sorted (pa_cons (pe_lc ["row", "turn"] [none, some 1] rfl (pi_list (pv 2)) (fun _ _ _ => (pg_name (i := 0) (show (["row", "turn"] : List Str).Nodup by decide +kernel) rfl (Or.inl rfl) (Or.inr rfl))) (fun _ _ _ => pf_nil) (fun _ _ _ => (pe_fn c_turned (hr.mono (by decide)) (pa_cons (pv 0) (pa_cons (pv 1) pa_nil))))) pa_nil)) (pe_callB (call_sortedR (K := K) rfl hu6) rfl M.sorted bt_sorted (pa_cons (pv 2) pa_nil)) (nomark _))))))), ?_⟩
 refine seq_let4 ?_
 intro rT4 rT3 rT2
 have hz : (1000 : Nat) < sizeLine := by decide
 obtain ⟨l, c, vs, ht, hl, hrw, hc⟩ := id pr
 have lt := T.length
 have lv := hrw.length
 refine ⟨_, rfl, p, _, _, _, rfl, rfl, ht, at0, ?_⟩
 refine ⟨_, rfl, p, _, _, _, rfl, rfl, ht, at1, ?_⟩
 refine ⟨_, rfl, _, rfl, c, u, rfl, ⟨_, hc⟩, ⟨_, hu1⟩, fun D hD => ?_⟩
 let Pv1 : Nat → St → List V → Hp → Prop := fun i τ ys H1 => ∃ u' v' : Option V, τ = [u', v', some (.ref c)] ∧ ys = ((List.range i).map fun j => !decide (cs.getD j 0 = cs.getD (t.getD j 0) 0)).map V.bl ∧ H1 D = some (.lst ys) ∧ Same H H1
 refine lc_any (n := n) Pv1 ?_ (fun i τ ys H1 hi h => ?_) (fun i τ ys H1 hi h => ?_) (fun τ ys H1 h => ?_) ?_ ?_
 ·exact ⟨none, none, rfl, rfl, upd_same, same_new' hD _⟩
 ·obtain ⟨u', v', rfl, rfl, hD1, s1⟩ := h
  exact ⟨hD1, by rw [jQ, jQ, jQd]; lia⟩
 ·obtain ⟨u', v', rfl, rfl, hD1, s1⟩ := h
  have i1 : i < cs.length := by lia
  have i2 : i < (tI t).length := by rw [tI_len]; lia
  exact ⟨_, _, .int cs[i], .int (tI t)[i], s1.tup hc, s1.seq hu1, by rw [jK, gE i1]; rfl, by rw [jK, gE i2]; rfl⟩
 ·obtain ⟨u', v', rfl, rfl, hD1, s1⟩ := h
  exact ⟨_, _, s1.tup hc, s1.seq hu1, by rw [jQ, jQ, tI_len]; lia⟩
 ·rintro i τ ys H1 x H2 hi ⟨u', v', rfl, rfl, hD1, s1⟩ ⟨T', x1, y1, rfl, hT, rfl, e1, e2⟩
  obtain ⟨x, ex, rfl⟩ := getMapI (e1 _ (s1.tup hc))
  obtain ⟨y, ey, rfl⟩ := getMapI (e2 _ (s1.seq hu1))
  obtain ⟨k, ek, rfl⟩ := tI_at ey
  have sT := same_new' hT (.tup [.int x, .int ((k : Nat) : Int)])
  have hD2 := sT _ _ hD1
  refine ⟨T', _, rfl, sqT_new upd_same, rfl, _, _, rfl, _, _, rfl, rfl, ?_⟩
  refine ⟨_, rfl, _, rfl, _, rfl, c, _, _, _, rfl, rfl, sT.tup (s1.tup hc), atK6 (by have := T.lt ek; lia), rfl, hD2, _, _, rfl, ?_, upd_same, fun b o e => ?_⟩
  ·rw [jKe, kW, kW, zZ, zZ, jKc, getD_at6 ex, getD_atN ek, dec_VI]
   rfl
  ·rw [upd_ne (ne_of_none e hD)]; exact sT _ _ (s1 _ _ e)
 rintro τ ys H1 ⟨u', v', rfl, rfl, hD1, s1⟩
 refine ⟨D, _, rfl, sqL_new hD1, _, rfl, ite2 (fun y => ?_) (fun y => ?_)⟩
 ·refine q false H1 s1 ⟨fun z => (nomatch z), fun z => absurd z.1 (any_no.mp y)⟩
 ·have ok : CostOk cs t n := Classical.byContradiction fun z => y (any_no.mpr z)
  refine ⟨_, rfl, l, rfl, ⟨_, s1.seq hl⟩, fun D2 hD2 => ?_⟩
  let Pv2 : Nat → St → List V → Hp → Prop := fun i τ ys H2 => ∃ v : Option V, τ = [v, some (.ref u)] ∧ RowsAre K H2 ys ((rs.take i).map (ledR t n)) ∧ H2 D2 = some (.lst ys) ∧ Same H1 H2
  refine lc_any (n := rs.length) Pv2 ?_ (fun i τ ys H2 hi h => ?_) (fun i τ ys H2 hi h => ?_) (fun τ ys H2 h => ?_) ?_ ?_
  ·exact ⟨none, rfl, .nil, upd_same, same_new' hD2 _⟩
  ·obtain ⟨v, rfl, hra, hD3, s2⟩ := h
   have := hra.length
   rw [jQ, yX] at this
   exact ⟨hD3, by lia⟩
  ·obtain ⟨v, rfl, hra, hD3, s2⟩ := h
   exact ⟨vs, vs[i]'(by lia), (s1.trans s2).seq hl, gE (by lia)⟩
  ·obtain ⟨v, rfl, hra, hD3, s2⟩ := h
   exact ⟨vs, (s1.trans s2).seq hl, by lia⟩
  ·rintro i τ ys H2 x H3 hi ⟨v, rfl, hra, hD3, s2⟩ ⟨rfl, e1⟩
   obtain ⟨t', r, rfl, er, hrt⟩ := hrw.get (e1 _ ((s1.trans s2).seq hl))
   refine ⟨_, rfl, _, rfl, t', u, r, n, t, rfl, hrt.same (s1.trans s2), (s1.trans s2).seq hu1, T, hrl r (kX er), by lia, fun r' H4 s4 rr => ?_⟩
   have hD4 := s4 _ _ hD3
   refine ⟨hD4, _, rfl, ?_, upd_same, fun b o e => ?_⟩
   ·rw [takeS er, kW]
    exact rows_snoc (rows_upd6 hD4 (rows_same6 s4 hra)) (rr.upd hD4)
   ·rw [upd_ne (ne_of_none e hD2)]; exact s4 _ _ (s2 _ _ e)
  rintro τ ys H2 ⟨v, rfl, hra, hD3, s2⟩
  rw [xW] at hra
  have ly := hra.length
  rw [jQ] at ly
  have s12 := s1.trans s2
  refine ⟨D2, ys, _, rfl, sqL_new hD3, hra, by lia, fun S ws qs hS hws lws pq sq => ?_⟩
  have s3 := same_new' hS (.lst ws)
  refine ⟨_, rfl, l, vs, rs, rfl, (s12.trans s3).seq hl, rows_same6 (s12.trans s3) hrw, by lia, fun S2 ws2 qs2 hS2 hws2 lws2 pq2 sq2 => ?_⟩
  have s4 := same_new' hS2 (.lst ws2)
  refine ⟨S, S2, _, _, rfl, rfl, RowsAre.hasD (sqL_new (s4 _ _ upd_same)) (rows_same6 (s3.trans s4) hws), RowsAre.hasD (sqL_new upd_same) (rows_same6 s4 hws2), alikeRows qs qs2, fun c hc => q c _ ((s12.trans s3).trans s4) ?_⟩
  rw [hc, rowsD_inj]
  constructor
  ·rintro rfl
   exact ⟨ok, pq.symm.trans pq2⟩
  ·intro h
   exact sorted_one (pq.trans (h.2.trans pq2.symm)) sq sq2
end
abbrev sTGiven : Stmt := top 23
abbrev sTLow : Stmt := top 24
abbrev sTHigh : Stmt := top 25
abbrev sTBetter : Stmt := top 26
abbrev Rw := List Int × Int
def rowK (rs : List Rw) (k : Nat) : Rw := rs.getD k ([], 0)
def tGiven (rs : List Rw) : List Dt → Option Rw
 | [_, d] => (numT rs.length d).map (rowK rs)
 | _ => none
def tLow (n : Nat) : List Dt → Option Rw
 | [_, d] => (numT n d).map fun c => singleRow n c 1 0
 | _ => none
def tHigh (n : Nat) : List Dt → Option Rw
 | [_, d] => (numT n d).map fun c => singleRow n c (-1) (-1)
 | _ => none
def tBetter (cs : List Int) (best : Option Int) : List Dt → Option Rw
 | [_] => best.map (betterRow cs)
 | _ => none
def partsOf (told : List Rw) (qs : List (Nat × Int)) : List Part := qs.map fun p => (rowK told p.1, p.2)
def sumD (n : Nat) (told : List Rw) : Dt → Option Rw
 | .lst (d :: r) => (allT (partT told.length) (d :: r)).map fun qs => sumRow n (partsOf told qs)
 | _ => none
def tSum (n : Nat) (told : List Rw) : List Dt → Option Rw
 | [_, d] => sumD n told d
 | _ => none
def divides (r : Rw) (b : Int) : Bool := r.1.all fun x => decide (x % b = 0)
def shareD (told : List Rw) (d : Dt) : Dt → Option Rw
 | .int b => if 1 ≤ b then (numT told.length d).bind fun k => if divides (rowK told k) b = true then some (shareRow (rowK told k) b) else none else none
 | _ => none
def tShare (told : List Rw) : List Dt → Option Rw
 | [_, d, e] => shareD told d e
 | _ => none
def mostR (r : Rw) (hs : List (Int × Int)) : Int := mostTo (dOf hs) r.1 r.1.length
def tShut (n : Nat) (told : List Rw) : List Dt → Option Rw
 | [_, d, e] => (numT told.length d).bind fun k => (holdsT n e).bind fun hs => if mostR (rowK told k) hs < (rowK told k).2 then some (shutRow n hs) else none
 | _ => none
def tEither (n : Nat) (told : List Rw) : List Dt → Option Rw
 | [_, d, e, f] => (numT told.length d).bind fun i => (numT told.length e).bind fun j => (numT n f).bind fun c => if withoutN (rowK told i).1 c = withoutN (rowK told j).1 c then some (eitherRow (rowK told i) (rowK told j) c) else none
 | _ => none
open Classical in
def tLike (rs : List Rw) (cs : List Int) : List Dt → Option Rw
 | [_, d] => (turnT cs.length d).bind fun t => if KeepsT rs cs t cs.length then some (likeRow t) else none
 | _ => none
def tellBy (w : Str) (rs : List Rw) (cs : List Int) (best : Option Int) (told : List Rw) (xs : List Dt) : Option Rw :=
 if w = "given" then tGiven rs xs else if w = "low" then tLow cs.length xs else if w = "high" then tHigh cs.length xs else if w = "better" then tBetter cs best xs
 else if w = "sum" then tSum cs.length told xs else if w = "share" then tShare told xs else if w = "shut" then tShut cs.length told xs else if w = "either" then tEither cs.length told xs
 else if w = "like" then tLike rs cs xs else none
def lenW (w : Str) : Option Nat :=
 if w = "given" then some 2 else if w = "low" then some 2 else if w = "high" then some 2 else if w = "better" then some 1
 else if w = "sum" then some 2 else if w = "share" then some 3 else if w = "shut" then some 3 else if w = "either" then some 4
 else if w = "like" then some 2 else none
inductive Sm : Dt → Prop
 | non : Sm .non
 | bl (b) : Sm (.bl b)
 | str (s) : Sm (.str s)
 | int (i) : -(2 ^ 62) < i → i < 2 ^ 62 → Sm (.int i)
 | tup (xs) : (∀ x ∈ xs, Sm x) → Sm (.tup xs)
 | lst (xs) : xs.length < 60 → (∀ x ∈ xs, Sm x) → Sm (.lst xs)
def bestV : Option Int → V
 | none => .non
 | some b => .int b
structure Jx (K : Fg) (H : Hp) (t l : Addr) (rs : List Rw) (cs : List Int) (ws : List V) (told : List Rw) : Prop where
 prob : ProbAt K H t rs cs
 lst : SqL K H l ws
 rows : RowsAre K H ws told
 rl : ∀ r ∈ rs, r.1.length = cs.length
 tl : ∀ r ∈ told, r.1.length = cs.length
 n : cs.length ≤ 50
 m : rs.length < 60
 k : told.length ≤ 1000
theorem Jx.row {K : Fg} {H : Hp} {t l : Addr} {rs : List Rw} {cs : List Int} {ws : List V} {told : List Rw} (h : Jx K H t l rs cs ws told) {k : Nat} (hk : k < told.length) : ∃ a, ws[k]? = some (.ref a) ∧ RowAt K H a (rowK told k) ∧ (rowK told k).1.length = cs.length := by
 have lw := h.rows.length
 obtain ⟨a, r, e1, e2, hr⟩ := h.rows.get (gE (show k < ws.length by lia))
 have e3 : rowK told k = r := by unfold rowK; rw [jY, e2]; rfl
 rw [e3]
 exact ⟨a, by rw [gE (show k < ws.length by lia), e1], hr, h.tl r (kX e2)⟩
theorem Jx.ne {K : Fg} {H : Hp} {t l : Addr} {rs : List Rw} {cs : List Int} {ws : List V} {told : List Rw} (h : Jx K H t l rs cs ws told) (i : Nat) (w : V) (e : ws[i]? = some w) : w ≠ .non := by
 obtain ⟨a, r, rfl, _, _⟩ := h.rows.get e
 exact fun z => nomatch z
def okW (n : Nat) (w : Str) (xs : List Dt) : Prop := True
def okD (n : Nat) (d : Dt) : Prop := ∀ w xs, d = .tup (.str w :: xs) → lenW w = some (xs.length + 1) → okW n w (.str w :: xs)
inductive IspTell (K : Fg) (wd : Str) (vs : List V) (H : Hp) (Q : VK) : Prop
 | mk (t l ln : Addr) (rs : List Rw) (cs : List Int) (best : Option Int) (ws : List V) (told : List Rw) (us : List V) (xs : List Dt) (h1 : vs = [.ref t, bestV best, .ref l, .ref ln]) (h2 : Jx K H t l rs cs ws told) (h3 : SqT K H ln us) (h4 : us.length = xs.length) (h5 : (∀ (i : Nat) v x, us[i]? = some v → xs[i]? = some x → HasT K H v x)) (h6 : (∀ x ∈ xs, Sm x)) (h7 : lenW wd = some xs.length) (h8 : okW cs.length wd xs) (h9 : (tellBy wd rs cs best told xs = none → ∀ H', Same H H' → Q .non H')) (h10 : ∀ r, tellBy wd rs cs best told xs = some r → ∀ t' H', Same H H' → RowAt K H' t' r → Q (.ref t') H')
def spTell (K : Fg) (wd : Str) : Sp := fun vs H Q _ => IspTell K wd vs H Q
theorem hasT_int {K : Fg} {H : Hp} {v : V} {i : Int} (h : HasT K H v (.int i)) : v = .int i := by cases h; rfl
theorem Sm.int_inv {i : Int} (h : Sm (.int i)) : -(2 ^ 62) < i ∧ i < 2 ^ 62 := by cases h with | int _ a b => exact ⟨a, b⟩
theorem Sm.lst_inv {xs : List Dt} (h : Sm (.lst xs)) : xs.length < 60 ∧ ∀ x ∈ xs, Sm x := by cases h with | lst _ a b => exact ⟨a, b⟩
theorem Sm.tup_inv {xs : List Dt} (h : Sm (.tup xs)) : ∀ x ∈ xs, Sm x := by cases h with | tup _ a => exact a
theorem big62 {b : Int} (h0 : 1 ≤ b) (h1 : b < 2 ^ 62) : Big b := wV (show b.natAbs ≤ 2 ^ 62 by lia) (by decide +kernel)
theorem lenT_small {d : Dt} (h : Sm d) : lenT d < 60 := by
 cases h with
 | lst xs a b => exact a
 | _ => show 0 < 60; decide
theorem isTurn_of {n : Nat} {xs : List Dt} {t : List Nat} (h : turnT n (.lst xs) = some t) : allT (numT n) xs = some t ∧ t.Nodup ∧ t.length = n := by
 have h' : turnL n xs = some t := h
 unfold turnL at h'
 obtain ⟨t', e1, e2⟩ := zY.mp h'
 by_cases hh : t'.Nodup ∧ t'.length = n
 ·rw [if_pos hh] at e2; cases e2; exact ⟨e1, hh⟩
 ·rw [if_neg hh] at e2; cases e2
theorem holds_of {n : Nat} {xs : List Dt} {hs : List (Int × Int)} (h : holdsT n (.lst xs) = some hs) : allT (holdT n) xs = some hs ∧ (hs.map (·.1)).Nodup := by
 have h' : holdsL n xs = some hs := h
 unfold holdsL at h'
 obtain ⟨t', e1, e2⟩ := zY.mp h'
 by_cases hh : (t'.map (·.1)).Nodup
 ·rw [if_pos hh] at e2; cases e2; exact ⟨e1, hh⟩
 ·rw [if_neg hh] at e2; cases e2
theorem holdsT_inv {n : Nat} {d : Dt} {hs : List (Int × Int)} (h : holdsT n d = some hs) : ∃ xs, d = .lst xs := by
 unfold holdsT at h
 split at h
 ·exact ⟨_, rfl⟩
 ·cases h
theorem turnT_inv {n : Nat} {d : Dt} {t : List Nat} (h : turnT n d = some t) : ∃ xs, d = .lst xs := by
 unfold turnT at h
 split at h
 ·exact ⟨_, rfl⟩
 ·cases h
section
variable {P : Program} {w : World} {K : Fg} {mg : Str → Option Value} {base : Heap} {aT aL : Addr} {fT fL : Str → Option Value}
theorem scTGiven : FnScope ["problem", "best", "told", "line"] ["problem", "best", "told", "line"] (defScope sTGiven) := ⟨rfl, rfl, rfl, by decide +kernel, rfl, by decide +kernel, by decide +kernel⟩
theorem okTGiven (F : Fn K mg "told_given" sTGiven) (M : Mg mg) (c_is_number_of : Cal P w K mg base 2 "is_number_of" ["thing", "count"] (spIsNum K)) : Cal P w K mg base 4 "told_given" ["problem", "best", "told", "line"] (spTell K "given") := by
 refine cal_of F scTGiven (fun _ _ _ _ _ _ => bind4 (fun _ _ _ _ => rfl)) (fun vs H Q E h => ?_) (fun f cdv A outer s H vs Q E hr h => ?_)
 ·obtain ⟨t, l, ln, rs, cs, best, ws, told, us, xs, rfl, _⟩ := h
  rfl
 obtain ⟨t, l, ln, rs, cs, best, ws, told, us, xs, rfl, J, hln, hul, hget, hsm, hlw, hok, qn, qs⟩ := h
 refine ⟨_, (pss_cons (ps_if (pt_not (pt_val (pe_fn c_is_number_of (hr.mono (by decide)) (pa_cons (pe_ix ix_tup (pv 3) pe_int (fun _ _ => rfl)) (pa_cons (pe_callB call_len_seq rfl M.len bt_len (pa_cons (pe_ix ix_tup (pv 0) pe_int (fun _ _ => rfl)) pa_nil)) pa_nil))))) (pss_one (ps_ret pe_non)) pss_nil)
  (pss_one (ps_ret (pe_ix ix_list (pe_ix ix_tup (pv 0) pe_int (fun _ _ => rfl)) (pe_ix ix_tup (pv 3) pe_int (fun _ _ => rfl)) (fun _ _ => rfl))))), ?_⟩
 obtain ⟨l0, c0, us0, ht, hl0, hrw0, hc0⟩ := id J.prob
 have lr0 := hrw0.length
 have lw0 := J.rows.length
 have hn50 := J.n
 have hm60 := J.m
 have hk1000 := J.k
 have lc : (cs.map V.int).length = cs.length := jQ ..
 have hx2 : xs.length = 2 := (Option.some.inj (show some 2 = some xs.length from hlw)).symm
 obtain ⟨d0, d1, rfl⟩ : ∃ d0 d1, xs = [d0, d1] := len2 hx2
 obtain ⟨v0, v1, rfl⟩ : ∃ v0 v1, us = [v0, v1] := len2 hul
 have h1 := hget 1 v1 d1 rfl rfl
 have m1 := hsm d1 (List.Mem.tail _ (List.Mem.head _))
 have eq : tellBy "given" rs cs best told [d0, d1] = (numT rs.length d1).map (rowK rs) := rfl
 rw [eq] at qn qs
 refine ⟨_, rfl, ln, _, _, _, rfl, rfl, hln, (show atI _ ((1 : Nat) : Int) = some _ from atNat rfl), _, rfl, t, _, _, _, rfl, rfl, ht, at0, l0, _, rfl, .inl hl0, v1, d1, us0.length, rfl, h1, _, rfl, ?_⟩
 rw [lr0]
 cases e : numT rs.length d1 with
 | none => rw [e] at qn; exact iteT (qn rfl H (Same.refl H))
 | some k =>
  rw [e] at qs
  obtain ⟨rfl, hk⟩ := numT_some e
  obtain rfl := hasT_int h1
  obtain ⟨a, r, e1, e2, hr'⟩ := hrw0.get (gE (show k < us0.length by lia))
  refine iteF ⟨_, rfl, t, _, _, _, rfl, rfl, ht, at0, _, rfl, ln, _, _, _, rfl, rfl, hln, (show atI _ ((1 : Nat) : Int) = some _ from atNat rfl), l0, _, _, _, rfl, rfl, hl0, atNat (show us0[k]? = some (.ref a) by rw [gE (show k < us0.length by lia), e1]), qs _ rfl a H (Same.refl H) ?_⟩
  have e3 : rowK rs k = r := by unfold rowK; rw [jY, e2]; rfl
  rw [e3]
  exact hr'
theorem scTLow : FnScope ["problem", "best", "told", "line", "count"] ["problem", "best", "told", "line"] (defScope sTLow) := ⟨rfl, rfl, rfl, by decide +kernel, rfl, by decide +kernel, by decide +kernel⟩
theorem okTLow (F : Fn K mg "told_low" sTLow) (M : Mg mg) (c_is_number_of : Cal P w K mg base 2 "is_number_of" ["thing", "count"] (spIsNum K)) (c_single_row : Cal P w K mg base 1 "single_row" ["count", "choice", "number", "least"] (spSingle K)) : Cal P w K mg base 4 "told_low" ["problem", "best", "told", "line"] (spTell K "low") := by
 refine cal_of F scTLow (fun _ _ _ _ _ _ => bind4 (fun _ _ _ _ => rfl)) (fun vs H Q E h => ?_) (fun f cdv A outer s H vs Q E hr h => ?_)
 ·obtain ⟨t, l, ln, rs, cs, best, ws, told, us, xs, rfl, _⟩ := h
  rfl
 obtain ⟨t, l, ln, rs, cs, best, ws, told, us, xs, rfl, J, hln, hul, hget, hsm, hlw, hok, qn, qs⟩ := h
 refine ⟨_, (pss_cons (ps_set (i := 4) scTLow.nd rfl (Or.inl rfl) (pe_callB call_len_seq rfl M.len bt_len (pa_cons (pe_ix ix_tup (pv 0) pe_int (fun _ _ => rfl)) pa_nil)))
  (pss_cons (ps_if (pt_not (pt_val (pe_fn c_is_number_of (hr.mono (by decide)) (pa_cons (pe_ix ix_tup (pv 3) pe_int (fun _ _ => rfl)) (pa_cons (pv 4) pa_nil))))) (pss_one (ps_ret pe_non)) pss_nil)
  (pss_one (ps_ret (pe_fn c_single_row (hr.mono (by decide)) (pa_cons (pv 4) (pa_cons (pe_ix ix_tup (pv 3) pe_int (fun _ _ => rfl)) (pa_cons pe_int (pa_cons pe_int pa_nil))))))))), ?_⟩
 refine seq_let3 ?_
 intro rT3 rT2
 obtain ⟨l0, c0, us0, ht, hl0, hrw0, hc0⟩ := id J.prob
 have lr0 := hrw0.length
 have lw0 := J.rows.length
 have hn50 := J.n
 have hm60 := J.m
 have hk1000 := J.k
 have lc : (cs.map V.int).length = cs.length := jQ ..
 have hx2 : xs.length = 2 := (Option.some.inj (show some 2 = some xs.length from hlw)).symm
 obtain ⟨d0, d1, rfl⟩ : ∃ d0 d1, xs = [d0, d1] := len2 hx2
 obtain ⟨v0, v1, rfl⟩ : ∃ v0 v1, us = [v0, v1] := len2 hul
 have h1 := hget 1 v1 d1 rfl rfl
 have m1 := hsm d1 (List.Mem.tail _ (List.Mem.head _))
 have eq : tellBy "low" rs cs best told [d0, d1] = (numT cs.length d1).map fun c => singleRow cs.length c 1 0 := rfl
 rw [eq] at qn qs
 refine ⟨_, rfl, t, _, _, _, rfl, rfl, ht, at1, c0, _, rfl, .inr hc0, ?_⟩
 rw [lc]
 refine ⟨_, rfl, ln, _, _, _, rfl, rfl, hln, (show atI _ ((1 : Nat) : Int) = some _ from atNat rfl), _, rfl, v1, d1, cs.length, rfl, h1, _, rfl, ?_⟩
 cases e : numT cs.length d1 with
 | none => rw [e] at qn; exact iteT (qn rfl H (Same.refl H))
 | some k =>
  rw [e] at qs
  obtain ⟨rfl, hk⟩ := numT_some e
  obtain rfl := hasT_int h1
  exact iteF ⟨_, rfl, _, rfl, ln, _, _, _, rfl, rfl, hln, (show atI _ ((1 : Nat) : Int) = some _ from atNat rfl), cs.length, k, _, _, rfl, hk, by lia, fun t' H' s' hr' => qs _ rfl t' H' s' hr'⟩
theorem scTHigh : FnScope ["problem", "best", "told", "line", "count"] ["problem", "best", "told", "line"] (defScope sTHigh) := ⟨rfl, rfl, rfl, by decide +kernel, rfl, by decide +kernel, by decide +kernel⟩
theorem okTHigh (F : Fn K mg "told_high" sTHigh) (M : Mg mg) (c_is_number_of : Cal P w K mg base 2 "is_number_of" ["thing", "count"] (spIsNum K)) (c_single_row : Cal P w K mg base 1 "single_row" ["count", "choice", "number", "least"] (spSingle K)) : Cal P w K mg base 4 "told_high" ["problem", "best", "told", "line"] (spTell K "high") := by
 refine cal_of F scTHigh (fun _ _ _ _ _ _ => bind4 (fun _ _ _ _ => rfl)) (fun vs H Q E h => ?_) (fun f cdv A outer s H vs Q E hr h => ?_)
 ·obtain ⟨t, l, ln, rs, cs, best, ws, told, us, xs, rfl, _⟩ := h
  rfl
 obtain ⟨t, l, ln, rs, cs, best, ws, told, us, xs, rfl, J, hln, hul, hget, hsm, hlw, hok, qn, qs⟩ := h
 refine ⟨_, (pss_cons (ps_set (i := 4) scTHigh.nd rfl (Or.inl rfl) (pe_callB call_len_seq rfl M.len bt_len (pa_cons (pe_ix ix_tup (pv 0) pe_int (fun _ _ => rfl)) pa_nil)))
  (pss_cons (ps_if (pt_not (pt_val (pe_fn c_is_number_of (hr.mono (by decide)) (pa_cons (pe_ix ix_tup (pv 3) pe_int (fun _ _ => rfl)) (pa_cons (pv 4) pa_nil))))) (pss_one (ps_ret pe_non)) pss_nil)
  (pss_one (ps_ret (pe_fn c_single_row (hr.mono (by decide)) (pa_cons (pv 4) (pa_cons (pe_ix ix_tup (pv 3) pe_int (fun _ _ => rfl)) (pa_cons (pe_un un_neg pe_int) (pa_cons (pe_un un_neg pe_int) pa_nil))))))))), ?_⟩
 refine seq_let3 ?_
 intro rT3 rT2
 obtain ⟨l0, c0, us0, ht, hl0, hrw0, hc0⟩ := id J.prob
 have lr0 := hrw0.length
 have lw0 := J.rows.length
 have hn50 := J.n
 have hm60 := J.m
 have hk1000 := J.k
 have lc : (cs.map V.int).length = cs.length := jQ ..
 have hx2 : xs.length = 2 := (Option.some.inj (show some 2 = some xs.length from hlw)).symm
 obtain ⟨d0, d1, rfl⟩ : ∃ d0 d1, xs = [d0, d1] := len2 hx2
 obtain ⟨v0, v1, rfl⟩ : ∃ v0 v1, us = [v0, v1] := len2 hul
 have h1 := hget 1 v1 d1 rfl rfl
 have m1 := hsm d1 (List.Mem.tail _ (List.Mem.head _))
 have eq : tellBy "high" rs cs best told [d0, d1] = (numT cs.length d1).map fun c => singleRow cs.length c (-1) (-1) := rfl
 rw [eq] at qn qs
 refine ⟨_, rfl, t, _, _, _, rfl, rfl, ht, at1, c0, _, rfl, .inr hc0, ?_⟩
 rw [lc]
 refine ⟨_, rfl, ln, _, _, _, rfl, rfl, hln, (show atI _ ((1 : Nat) : Int) = some _ from atNat rfl), _, rfl, v1, d1, cs.length, rfl, h1, _, rfl, ?_⟩
 cases e : numT cs.length d1 with
 | none => rw [e] at qn; exact iteT (qn rfl H (Same.refl H))
 | some k =>
  rw [e] at qs
  obtain ⟨rfl, hk⟩ := numT_some e
  obtain rfl := hasT_int h1
  exact iteF ⟨_, rfl, _, rfl, ln, _, _, _, rfl, rfl, hln, (show atI _ ((1 : Nat) : Int) = some _ from atNat rfl), _, rfl, _, rfl, cs.length, k, _, _, rfl, hk, by lia, fun t' H' s' hr' => qs _ rfl t' H' s' hr'⟩
theorem scTBetter : FnScope ["problem", "best", "told", "line"] ["problem", "best", "told", "line"] (defScope sTBetter) := ⟨rfl, rfl, rfl, by decide +kernel, rfl, by decide +kernel, by decide +kernel⟩
theorem okTBetter (F : Fn K mg "told_better" sTBetter) (M : Mg mg) (c_is_whole : Cal P w K mg base 1 "is_whole" ["thing"] (spIsWhole K)) (c_better_row : Cal P w K mg base 1 "better_row" ["problem", "best"] (spBetter K)) : Cal P w K mg base 2 "told_better" ["problem", "best", "told", "line"] (spTell K "better") := by
 refine cal_of F scTBetter (fun _ _ _ _ _ _ => bind4 (fun _ _ _ _ => rfl)) (fun vs H Q E h => ?_) (fun f cdv A outer s H vs Q E hr h => ?_)
 ·obtain ⟨t, l, ln, rs, cs, best, ws, told, us, xs, rfl, _⟩ := h
  rfl
 obtain ⟨t, l, ln, rs, cs, best, ws, told, us, xs, rfl, J, hln, hul, hget, hsm, hlw, hok, qn, qs⟩ := h
 refine ⟨_, (pss_cons (ps_if (pt_not (pt_val (pe_fn c_is_whole (hr.mono (by decide)) (pa_cons (pv 1) pa_nil)))) (pss_one (ps_ret pe_non)) pss_nil)
  (pss_one (ps_ret (pe_fn c_better_row (hr.mono (by decide)) (pa_cons (pv 0) (pa_cons (pv 1) pa_nil)))))), ?_⟩
 obtain ⟨l0, c0, us0, ht, hl0, hrw0, hc0⟩ := id J.prob
 have lr0 := hrw0.length
 have lw0 := J.rows.length
 have hn50 := J.n
 have hm60 := J.m
 have hk1000 := J.k
 have lc : (cs.map V.int).length = cs.length := jQ ..
 have hx2 : xs.length = 1 := (Option.some.inj (show some 1 = some xs.length from hlw)).symm
 obtain ⟨d0, rfl⟩ : ∃ d0, xs = [d0] := len1 hx2
 obtain ⟨v0, rfl⟩ : ∃ v0, us = [v0] := len1 hul
 have eq : tellBy "better" rs cs best told [d0] = best.map (betterRow cs) := rfl
 rw [eq] at qn qs
 cases best with
 | none => exact ⟨_, rfl, _, .non, rfl, .non, _, rfl, iteT (qn rfl H (Same.refl H))⟩
 | some b => exact ⟨_, rfl, _, .int b, rfl, .int b, _, rfl, iteF ⟨_, rfl, _, rfl, t, rs, cs, b, rfl, J.prob, by lia, fun t' H' s' hr' => qs _ rfl t' H' s' hr'⟩⟩
end
abbrev sMix10 : Stmt := top 39
abbrev sDraws10 : Stmt := top 40
abbrev sRow10 : Stmt := top 41
abbrev sProblem10 : Stmt := top 42
abbrev sTurned10 : Stmt := top 44
structure Dr (K : Fg) (H : Hp) (l : Addr) (ds : List Int) : Prop where
 lst : SqL K H l (ds.map V.int)
 pos : ∀ d ∈ ds, 0 ≤ d ∧ d < 2147483648
theorem Dr.same {K : Fg} {H H' : Hp} {l : Addr} {ds : List Int} (h : Dr K H l ds) (e : Same H H') : Dr K H' l ds := ⟨e.seq h.lst, h.pos⟩
theorem Dr.get {K : Fg} {H : Hp} {l : Addr} {ds : List Int} (h : Dr K H l ds) (k : Int) (h0 : 0 ≤ k) (h1 : k < (ds.length : Int)) : ∃ z : Int, atI (ds.map V.int) k = some (.int z) ∧ 0 ≤ z ∧ z < 2147483648 := by
 have hk : k.toNat < ds.length := by lia
 have ek : k = ((k.toNat : Nat) : Int) := by lia
 have q : atI (ds.map V.int) ((k.toNat : Nat) : Int) = some (.int ds[k.toNat]) := atNat (by rw [jK, gE hk]; rfl)
 rw [← ek] at q
 exact ⟨_, q, h.pos _ (wZ hk)⟩
inductive IspMix10 (K : Fg) (vs : List V) (H : Hp) (Q : VK) : Prop
 | mk (a : Addr) (ns : List Int) (k : Int) (h1 : vs = [.ref a, .int k]) (h2 : SqL K H a (ns.map V.int)) (h3 : 0 ≤ k) (h4 : k ≤ 1000) (h5 : ∀ z : Int, 0 ≤ z → z < 2147483648 → Q (.int z) H)
def spMix10 (K : Fg) : Sp := fun vs H Q _ => IspMix10 K vs H Q
inductive IspDraws10 (K : Fg) (vs : List V) (H : Hp) (Q : VK) : Prop
 | mk (a : Addr) (ns : List Int) (m : Nat) (h1 : vs = [.ref a, .int (m : Int)]) (h2 : SqL K H a (ns.map V.int)) (h3 : m ≤ 1000) (h4 : ∀ (l : Addr) (ds : List Int) (H' : Hp), ds.length = m → Same H H' → Dr K H' l ds → Q (.ref l) H')
def spDraws10 (K : Fg) : Sp := fun vs H Q _ => IspDraws10 K vs H Q
inductive IspRow10 (K : Fg) (vs : List V) (H : Hp) (Q : VK) : Prop
 | mk (l : Addr) (ds : List Int) (at_ : Int) (n : Nat) (h1 : vs = [.ref l, .int at_, .int (n : Int)]) (h2 : Dr K H l ds) (h3 : 0 ≤ at_) (h4 : at_ + n < (ds.length : Int)) (h5 : n ≤ 50) (h6 : ∀ (t : Addr) (r : List Int × Int) (H' : Hp), Same H H' → RowAt K H' t r → r.1.length = n → Q (.ref t) H')
def spRow10 (K : Fg) : Sp := fun vs H Q _ => IspRow10 K vs H Q
inductive IspProblem10 (K : Fg) (vs : List V) (H : Hp) (Q : VK) : Prop
 | mk (l : Addr) (ds : List Int) (at_ : Int) (n m : Nat) (h1 : vs = [.ref l, .int at_, .int (n : Int), .int (m : Int)]) (h2 : Dr K H l ds) (h3 : 0 ≤ at_) (h4 : at_ + 10 * m + n < (ds.length : Int)) (h5 : at_ + 70 + n < (ds.length : Int)) (h6 : n ≤ 50) (h7 : m ≤ 50) (h8 : ∀ (t : Addr) (rs : List Rw) (cs : List Int) (H' : Hp), Same H H' → ProbAt K H' t rs cs → (∀ r ∈ rs, r.1.length = n) → cs.length = n → rs.length = m → Q (.ref t) H')
def spProblem10 (K : Fg) : Sp := fun vs H Q _ => IspProblem10 K vs H Q
inductive IspTurned10 (K : Fg) (vs : List V) (H : Hp) (Q : VK) : Prop
 | mk (r u : Addr) (row : Rw) (n : Nat) (t : List Nat) (h1 : vs = [.ref r, .ref u]) (h2 : RowAt K H r row) (h3 : SqL K H u ((tI t).map V.int)) (h4 : t.length = n) (h5 : (∀ k ∈ t, k < n)) (h6 : row.1.length = n) (h7 : n ≤ 50) (h8 : ∀ (r' : Addr) (H' : Hp), Same H H' → RowAt K H' r' (put row.1 t n, row.2) → Q (.ref r') H')
def spTurned10 (K : Fg) : Sp := fun vs H Q _ => IspTurned10 K vs H Q
inductive IspAlike10 (K : Fg) (vs : List V) (H : Hp) (Q : VK) : Prop
 | mk (t l : Addr) (ds : List Int) (at_ : Int) (rs : List Rw) (cs : List Int) (h1 : vs = [.ref t, .ref l, .int at_]) (h2 : ProbAt K H t rs cs) (h3 : Dr K H l ds) (h4 : 0 ≤ at_) (h5 : at_ + 1 < (ds.length : Int)) (h6 : (∀ r ∈ rs, r.1.length = cs.length)) (h7 : cs.length ≤ 5) (h8 : rs.length ≤ 5) (h9 : ∀ (t' : Addr) (rs' : List Rw) (cs' : List Int) (H' : Hp), Same H H' → ProbAt K H' t' rs' cs' → (∀ r ∈ rs', r.1.length = cs.length) → cs'.length = cs.length → rs'.length ≤ 10 → (rs' = [] ↔ rs = []) → Q (.ref t') H')
def spAlike10 (K : Fg) : Sp := fun vs H Q _ => IspAlike10 K vs H Q
inductive IspEven10 (K : Fg) (vs : List V) (H : Hp) (Q : VK) : Prop
 | mk (t : Addr) (rs : List Rw) (cs : List Int) (h1 : vs = [.ref t]) (h2 : ProbAt K H t rs cs) (h3 : (∀ r ∈ rs, r.1.length = cs.length)) (h4 : cs.length ≤ 5) (h5 : rs.length ≤ 10) (h6 : ∀ (t' : Addr) (rs' : List Rw) (cs' : List Int) (H' : Hp), Same H H' → ProbAt K H' t' rs' cs' → (∀ r ∈ rs', r.1.length = cs.length) → cs'.length = cs.length → rs'.length = rs.length → Q (.ref t') H')
def spEven10 (K : Fg) : Sp := fun vs H Q _ => IspEven10 K vs H Q
inductive IspGiven10 (K : Fg) (lo : Nat) (vs : List V) (H : Hp) (Q : VK) : Prop
 | mk (l : Addr) (ds : List Int) (h1 : vs = [.ref l]) (h2 : Dr K H l ds) (h3 : 100 ≤ ds.length) (h4 : ∀ (t p : Addr) (rs : List Rw) (cs : List Int) (best : Option Int) (H' : Hp), Same H H' → SqT K H' t [.ref p, bestV best] → ProbAt K H' p rs cs → (∀ r ∈ rs, r.1.length = cs.length) → lo ≤ cs.length → cs.length ≤ 5 → rs.length ≤ 10 → Q (.ref t) H')
def spGiven10 (K : Fg) (lo : Nat) : Sp := fun vs H Q _ => IspGiven10 K lo vs H Q
theorem atRow {us : List V} {i : Nat} {v : V} (h : us[i]? = some v) : atI us (0 + (i : Int)) = some v := by
 rw [show (0 : Int) + (i : Int) = ((i : Nat) : Int) by lia]; exact atNat h
theorem rep_one (k : Nat) (x : V) : (List.replicate k [x]).flatten = List.replicate k x := by
 induction k with
 | zero => rfl
 | succ k ih => rw [wJ, jZd, ih]; rfl
theorem set_lt {n j k : Nat} {t : List Nat} (h : ∀ x ∈ t, x < n) (hk : k < n) : ∀ x ∈ t.set j k, x < n := fun x hx => by
 rcases List.mem_or_eq_of_mem_set hx with z | z
 ·exact h x z
 ·rw [z]; exact hk
theorem tI_set (t : List Nat) (j k : Nat) : ((tI t).map V.int).set j (.int (k : Int)) = (tI (t.set j k)).map V.int := by
 unfold tI
 rw [kZc, kZc]
theorem rep_len (n : Nat) (xs : List Int) (h : xs.length = n) : (List.replicate n (xs.take 1)).flatten.length = n := by
 rw [len_rep, yX]
 rcases n with _ | n
 ·lia
 ·rw [jZb (by lia)]; lia
theorem flat_map (n : Nat) (xs : List Int) : (List.replicate n (xs.map V.int)).flatten = ((List.replicate n xs).flatten).map V.int := by
 rw [List.map_flatten, List.map_replicate]
section
variable {P : Program} {w : World} {K : Fg} {mg : Str → Option Value} {base : Heap} {aT aL : Addr} {fT fL : Str → Option Value}
theorem scMix10 : FnScope ["_law_script", "_law_k", "_law_cell", "_law_number"] ["_law_script", "_law_k"] (defScope sMix10) := ⟨rfl, rfl, rfl, by decide +kernel, rfl, by decide +kernel, by decide +kernel⟩
theorem okMix10 (F : Fn K mg "_law_mix" sMix10) (M : Mg mg) : Cal P w K mg base 1 "_law_mix" ["_law_script", "_law_k"] (spMix10 K) := by
 refine cal_of F scMix10 (fun _ _ _ _ _ _ => bind2 (fun _ _ => rfl)) (fun vs H Q E h => ?_) (fun f cdv A outer s H vs Q E hr h => ?_)
 ·obtain ⟨a, ns, k, rfl, _⟩ := h
  rfl
 obtain ⟨a, ns, k, rfl, hS, h0, h1, q⟩ := h
 refine ⟨_, (pss_cons (ps_set (i := 2) scMix10.nd rfl (Or.inl rfl) pe_int)
  (pss_cons (ps_if (pt_cmpR op_gt (pe_callB call_len_seq rfl M.len bt_len (pa_cons (pv 0) pa_nil)) pe_int (nomark _)) (pss_one (ps_set (i := 2) scMix10.nd rfl (Or.inl rfl) (pe_ix ix_list (pv 0) (pe_op op_mod (pv 1) (pe_callB (call_min2 rfl) rfl M.min bt_min (pa_cons pe_int (pa_cons (pe_callB call_len_seq rfl M.len bt_len (pa_cons (pv 0) pa_nil)) pa_nil)))) (fun _ _ => rfl)))) pss_nil)
  (pss_cons (ps_set (i := 3) scMix10.nd rfl (Or.inl rfl) (pe_op op_mod (pe_op op_add (pv 2) (pe_op op_mul pe_int (pe_op op_add (pv 1) pe_int))) pe_int))
  (pss_cons (ps_set (i := 3) scMix10.nd rfl (Or.inl rfl) (pe_op op_mod (pe_op op_add (pe_op op_mul (pv 3) (pv 3)) (pv 1)) pe_int))
  (pss_one (ps_ret (pe_op op_mod (pe_op op_mul (pv 3) (pv 3)) pe_int))))))), ?_⟩
 refine seq_let5 ?_
 intro rT5 rT4 rT3 rT2
 have fin : ∀ x : Int, Q (.int (x % 2147483587)) H := fun x => q _ (jZc _ (by decide)) (Int.lt_trans (jXa _ (by decide)) (by decide))
 have b1 : ∀ x : Int, -(2 ^ 64) < x % 2147483629 ∧ x % 2147483629 < 2 ^ 64 := fun x => ⟨by lia, by lia⟩
 refine ⟨_, rfl, a, _, rfl, .inl hS, _, _, rfl, rfl, _, rfl, ite2 (fun c => ?_) (fun c => ?_)⟩
 ·have c' : (0 : Int) < (((ns.map V.int).length : Nat) : Int) := yV c
  have pm : (0 : Int) < (if (((ns.map V.int).length : Nat) : Int) < 63 then (((ns.map V.int).length : Nat) : Int) else 63) := by split <;> lia
  have pl : (if (((ns.map V.int).length : Nat) : Int) < 63 then (((ns.map V.int).length : Nat) : Int) else 63) ≤ (((ns.map V.int).length : Nat) : Int) := by split <;> lia
  obtain ⟨v3, hv3⟩ := atNs (ns := ns) (k := k % (if (((ns.map V.int).length : Nat) : Int) < 63 then (((ns.map V.int).length : Nat) : Int) else 63)) (jZc _ (Int.ne_of_gt pm)) (Int.lt_of_lt_of_le (jXa _ pm) pl)
  refine ⟨_, rfl, _, rfl, _, rfl, _, _, rfl, .inl hS, _, _, rfl, _, _, rfl, rfl, pm, _, _, _, _, rfl, rfl, hS, hv3, ?_⟩
  exact ⟨_, rfl, _, rfl, _, _, rfl, rfl, _, _, rfl, rfl, .inl ⟨by decide, by decide⟩, _, _, rfl, rfl, _, _, rfl, rfl, (by show (0 : Int) < _; decide +kernel), _, rfl, _, rfl, _, _, rfl, rfl, .inl (b1 _), _, rfl, _, _, rfl, rfl, _, _, rfl, rfl, (by show (0 : Int) < _; decide +kernel), _, rfl, _, rfl, _, _, rfl, rfl, .inl (b1 _), _, _, rfl, rfl, (by show (0 : Int) < _; decide +kernel), fin _⟩
 ·exact ⟨_, rfl, _, rfl, _, _, rfl, rfl, _, _, rfl, rfl, .inl ⟨by decide, by decide⟩, _, _, rfl, rfl, _, _, rfl, rfl, (by show (0 : Int) < _; decide +kernel), _, rfl, _, rfl, _, _, rfl, rfl, .inl (b1 _), _, rfl, _, _, rfl, rfl, _, _, rfl, rfl, (by show (0 : Int) < _; decide +kernel), _, rfl, _, rfl, _, _, rfl, rfl, .inl (b1 _), _, _, rfl, rfl, (by show (0 : Int) < _; decide +kernel), fin _⟩
theorem snocB {ds : List Int} {z : Int} (h : ∀ d ∈ ds, 0 ≤ d ∧ d < 2147483648) (hz : 0 ≤ z ∧ z < 2147483648) : ∀ d ∈ ds ++ [z], 0 ≤ d ∧ d < 2147483648 := fun d hd => by
 rcases zV.mp hd with y | y
 ·exact h d y
 ·rw [yK.mp y]; exact hz
theorem scDraws10 : FnScope ["_law_script", "_law_many", "_law_found", "_law_k", "_law_cell"] ["_law_script", "_law_many"] (defScope sDraws10) := ⟨rfl, rfl, rfl, by decide +kernel, rfl, by decide +kernel, by decide +kernel⟩
theorem okDraws10 (F : Fn K mg "_law_draws" sDraws10) (M : Mg mg) (cl_mix : Cal P w K mg base 1 "_law_mix" ["_law_script", "_law_k"] (spMix10 K)) : Cal P w K mg base 2 "_law_draws" ["_law_script", "_law_many"] (spDraws10 K) := by
 refine cal_of F scDraws10 (fun _ _ _ _ _ _ => bind2 (fun _ _ => rfl)) (fun vs H Q E h => ?_) (fun f cdv A outer s H vs Q E hr h => ?_)
 ·obtain ⟨a, ns, m, rfl, _⟩ := h
  rfl
 obtain ⟨a, ns, m, rfl, hS, h1, q⟩ := h
 refine ⟨_, (pss_cons (ps_set (i := 2) scDraws10.nd rfl (Or.inl rfl) (pe_lst pa_nil))
  (pss_cons (ps_if (PW.pt (pw_or (pt_cmpR op_eq (pe_callB call_len_seq rfl M.len bt_len (pa_cons (pv 0) pa_nil)) pe_int (nomark _)) (pw_or1 (pt_cmpR op_eq (pe_op op_mod (pe_ix ix_list (pv 0) pe_int (fun _ _ => rfl)) pe_int) pe_int (nomark _))))) (pss_cons (ps_for PassesOwn.never rfl (pi_range1 rfl M.range_ (pa_cons (pv 1) pa_nil)) (pg_name (i := 3) scDraws10.nd rfl (Or.inl rfl) (Or.inl rfl)) (pss_one (ps_expr (pe_bm PySem.F.plainAttrs_list PySem.F.slot_list_append PySem.F.type_list_append mt_append (pv 2) (pa_cons (pe_fn cl_mix (hr.mono (by decide)) (pa_cons (pv 0) (pa_cons (pv 3) pa_nil))) pa_nil)))))
  (pss_one (ps_ret (pv 2)))) pss_nil)
  (pss_cons (ps_set (i := 4) scDraws10.nd rfl (Or.inl rfl) pe_int)
  (pss_cons (ps_for PassesOwn.never rfl (pi_range1 rfl M.range_ (pa_cons (pv 1) pa_nil)) (pg_name (i := 3) scDraws10.nd rfl (Or.inl rfl) (Or.inl rfl)) (pss_cons (ps_if (pt_cmpR op_eq (pe_op op_mod (pv 3) pe_int) pe_int (nomark _)) (pss_cons (ps_set (i := 4) scDraws10.nd rfl (Or.inl rfl) pe_int)
  (pss_one (ps_if (pt_cmpR op_lt (pe_op op_fdiv (pv 3) pe_int) (pe_callB (call_min2 rfl) rfl M.min bt_min (pa_cons pe_int (pa_cons (pe_callB call_len_seq rfl M.len bt_len (pa_cons (pv 0) pa_nil)) pa_nil))) (nomark _)) (pss_one (ps_set (i := 4) scDraws10.nd rfl (Or.inl rfl) (pe_op op_fdiv (pe_ix ix_list (pv 0) (pe_op op_fdiv (pv 3) pe_int) (fun _ _ => rfl)) pe_int))) pss_nil))) pss_nil)
  (pss_cons (ps_expr (pe_bm PySem.F.plainAttrs_list PySem.F.slot_list_append PySem.F.type_list_append mt_append (pv 2) (pa_cons (pe_op op_mod (pv 4) pe_int) pa_nil)))
  (pss_one (ps_set (i := 4) scDraws10.nd rfl (Or.inl rfl) (pe_op op_fdiv (pv 4) pe_int))))))
  (pss_one (ps_ret (pv 2))))))), ?_⟩
 refine seq_let5 ?_
 intro rT5 rT4 rT3 rT2
 have hz : (2000 : Nat) < sizeLine := by decide
 refine ⟨by show 0 ≤ sizeLine; decide, fun g hg0 => ?_⟩
 have s0 := same_new' hg0 (.lst [])
 refine ⟨_, rfl, a, _, rfl, .inl (s0.seq hS), rfl, _, rfl, ite2 (fun c => iteT ?_) (fun c => ?_)⟩
 ·let Pv1 : Nat → St → Hp → Prop := fun i σ H1 => ∃ (ds : List Int) (u : Option V), σ = [some (.ref a), some (.int (m : Int)), some (.ref g), u, none] ∧ ds.length = i ∧ H1 g = some (.lst (ds.map V.int)) ∧ (∀ d ∈ ds, 0 ≤ d ∧ d < 2147483648) ∧ Same H H1
  refine ⟨_, rfl, (m : Int), rfl, by lia, by lia, for_range (lo := 0) (n := ((m : Nat) : Int).toNat) Pv1 ⟨[], none, rfl, rfl, upd_same, (fun _ z => nomatch z), s0⟩ ?_ ?_⟩
  ·rintro i σ H1 hi ⟨ds, u, rfl, rfl, hg, hp, s1⟩
   refine ⟨_, rfl, .inl ⟨rfl, _, sqL_new hg⟩, _, rfl, _, rfl, a, ns, _, rfl, s1.seq hS, by lia, by lia, fun z z0 z1 => ⟨g, _, _, rfl, rfl, hg, by rw [jQ]; lia, ?_⟩⟩
   exact ⟨ds ++ [z], _, rfl, by rw [kQ]; rfl, by rw [upd_same, kW]; rfl, snocB hp ⟨z0, z1⟩, fun b o e => by rw [upd_ne (ne_of_none e hg0)]; exact s1 _ _ e⟩
  ·rintro σ H1 ⟨ds, u, rfl, hl, hg, hp, s1⟩
   exact ⟨_, rfl, q g ds H1 (by lia) s1 ⟨sqL_new hg, hp⟩⟩
 have hpos : 0 < ns.length := by
  rcases Nat.eq_zero_or_pos ns.length with z | z
  ·exact absurd (kY (congrArg V.int (show (((ns.map V.int).length : Nat) : Int) = 0 by rw [jQ, z]; rfl))) c
  ·exact z
 obtain ⟨v0, hv0⟩ := atNs (ns := ns) (k := 0) (jYc 0) (by rw [jQ]; lia)
 refine ⟨_, rfl, a, _, _, _, rfl, rfl, s0.seq hS, hv0, _, _, rfl, rfl, (by show (0 : Int) < _; decide +kernel), rfl, _, rfl, ite2 (fun c2 => ?_) (fun c2 => ?_)⟩
 ·let Pv2 : Nat → St → Hp → Prop := fun i σ H1 => ∃ (ds : List Int) (u : Option V), σ = [some (.ref a), some (.int (m : Int)), some (.ref g), u, none] ∧ ds.length = i ∧ H1 g = some (.lst (ds.map V.int)) ∧ (∀ d ∈ ds, 0 ≤ d ∧ d < 2147483648) ∧ Same H H1
  refine ⟨_, rfl, (m : Int), rfl, by lia, by lia, for_range (lo := 0) (n := ((m : Nat) : Int).toNat) Pv2 ⟨[], none, rfl, rfl, upd_same, (fun _ z => nomatch z), s0⟩ ?_ ?_⟩
  ·rintro i σ H1 hi ⟨ds, u, rfl, rfl, hg, hp, s1⟩
   refine ⟨_, rfl, .inl ⟨rfl, _, sqL_new hg⟩, _, rfl, _, rfl, a, ns, _, rfl, s1.seq hS, by lia, by lia, fun z z0 z1 => ⟨g, _, _, rfl, rfl, hg, by rw [jQ]; lia, ?_⟩⟩
   exact ⟨ds ++ [z], _, rfl, by rw [kQ]; rfl, by rw [upd_same, kW]; rfl, snocB hp ⟨z0, z1⟩, fun b o e => by rw [upd_ne (ne_of_none e hg0)]; exact s1 _ _ e⟩
  ·rintro σ H1 ⟨ds, u, rfl, hl, hg, hp, s1⟩
   exact ⟨_, rfl, q g ds H1 (by lia) s1 ⟨sqL_new hg, hp⟩⟩
 have mx : (if (((ns.map V.int).length : Nat) : Int) < 63 then (((ns.map V.int).length : Nat) : Int) else 63) ≤ (((ns.map V.int).length : Nat) : Int) := by split <;> lia
 let Pv3 : Nat → St → Hp → Prop := fun i σ H1 => ∃ (ds : List Int) (u : Option V) (c : Int), σ = [some (.ref a), some (.int (m : Int)), some (.ref g), u, some (.int c)] ∧ ds.length = i ∧ H1 g = some (.lst (ds.map V.int)) ∧ (∀ d ∈ ds, 0 ≤ d ∧ d < 2147483648) ∧ Same H H1
 refine ⟨_, rfl, (m : Int), rfl, by lia, by lia, for_range (lo := 0) (n := ((m : Nat) : Int).toNat) Pv3 ⟨[], none, 0, rfl, rfl, upd_same, (fun _ z => nomatch z), s0⟩ ?_ ?_⟩
 ·rintro i σ H1 hi ⟨ds, u, c, rfl, rfl, hg, hp, s1⟩
  show tSeq _ _ _ _ _
  refine seq_cut (fun σ' H' => ∃ c : Int, σ' = [some (.ref a), some (.int (m : Int)), some (.ref g), some (.int (0 + (ds.length : Int))), some (.int c)] ∧ H' = H1) ?_ fun REST => ?_
  ·rintro σ' H' ⟨c, rfl, rfl⟩
   refine ⟨_, rfl, .inl ⟨rfl, _, sqL_new hg⟩, _, rfl, _, _, rfl, rfl, (by show (0 : Int) < _; decide +kernel), g, _, _, rfl, rfl, hg, by rw [jQ]; lia, ?_⟩
   exact ⟨_, rfl, _, _, rfl, rfl, ⟨by decide, by decide⟩, ds ++ [c % 5040], _, _, rfl, by rw [kQ]; rfl, by rw [upd_same, kW]; rfl, snocB hp ⟨jZc _ (by decide), by have := jXa c (show (0 : Int) < 5040 by decide); lia⟩, fun b o e => by rw [upd_ne (ne_of_none e hg0)]; exact s1 _ _ e⟩
  ·refine ⟨_, rfl, _, _, rfl, rfl, (by show (0 : Int) < _; decide +kernel), rfl, _, rfl, ite2 (fun c1 => ?_) (fun c1 => REST _ _ ⟨_, rfl, rfl⟩)⟩
   refine ⟨_, rfl, _, _, rfl, rfl, ⟨by decide, by decide⟩, _, rfl, a, _, rfl, .inl (s1.seq hS), _, _, rfl, _, _, rfl, rfl, _, rfl, ite2 (fun c2 => ?_) (fun c2 => REST _ _ ⟨_, rfl, rfl⟩)⟩
   have c3 := yV c2
   obtain ⟨v, hv⟩ := atNs (ns := ns) (k := (0 + (ds.length : Int)) / 30) (by lia) (Int.lt_of_lt_of_le c3 mx)
   exact ⟨_, rfl, _, rfl, _, _, rfl, rfl, ⟨by decide, by decide⟩, a, _, _, _, rfl, rfl, s1.seq hS, hv, _, _, rfl, rfl, ⟨by decide, by decide⟩, REST _ _ ⟨_, rfl, rfl⟩⟩
 ·rintro σ H1 ⟨ds, u, c, rfl, hl, hg, hp, s1⟩
  exact ⟨_, rfl, q g ds H1 (by lia) s1 ⟨sqL_new hg, hp⟩⟩
theorem scRow10 : FnScope ["_law_draws_here", "_law_at", "_law_many", "_law_numbers"] ["_law_draws_here", "_law_at", "_law_many"] (defScope sRow10) := ⟨rfl, rfl, rfl, by decide +kernel, rfl, by decide +kernel, by decide +kernel⟩
theorem okRow10 (F : Fn K mg "_law_row" sRow10) (M : Mg mg) : Cal P w K mg base 1 "_law_row" ["_law_draws_here", "_law_at", "_law_many"] (spRow10 K) := by
 refine cal_of F scRow10 (fun _ _ _ _ _ _ => bind3 (fun _ _ _ => rfl)) (fun vs H Q E h => ?_) (fun f cdv A outer s H vs Q E hr h => ?_)
 ·obtain ⟨l, ds, at_, n, rfl, _⟩ := h
  rfl
 obtain ⟨l, ds, at_, n, rfl, hD0, h0, h1, h2, q⟩ := h
 refine ⟨_, (pss_cons (ps_set (i := 3) scRow10.nd rfl (Or.inl rfl) (pe_callTy call_tuple_of rfl M.tuple_ bt_tuple (pa_cons (pe_lc ["_law_k", "_law_draws_here", "_law_at"] [none, some 0, some 1] rfl (pi_range1 rfl M.range_ (pa_cons (pv 2) pa_nil)) (fun _ _ _ => (pg_name (i := 0) (show (["_law_k", "_law_draws_here", "_law_at"] : List Str).Nodup by decide +kernel) rfl (Or.inl rfl) (Or.inr rfl))) (fun _ _ _ => pf_nil) (fun _ _ _ => (pe_op op_sub (pe_op op_mod (pe_ix (ix_listK (K := K) rfl) (pv 1) (pe_op op_add (pv 2) (pv 0)) (fun _ _ => rfl)) pe_int) pe_int))) pa_nil)))
  (pss_one (ps_ret (pe_tup (pa_cons (pv 3) (pa_cons (pe_op op_sub (pe_op op_mod (pe_ix ix_list (pv 0) (pe_op op_add (pv 1) (pv 2)) (fun _ _ => rfl)) pe_int) pe_int) pa_nil)))))), ?_⟩
 have hz : (2000 : Nat) < sizeLine := by decide
 refine ⟨_, rfl, (n : Int), rfl, by lia, by lia, fun D hD => ?_⟩
 let Pv1 : Nat → St → List V → Hp → Prop := fun i τ ys H1 => ∃ (ms : List Int) (v : Option V), τ = [v, some (.ref l), some (.int at_)] ∧ ys = ms.map V.int ∧ ms.length = i ∧ H1 D = some (.lst ys) ∧ Same H H1
 refine lc_any (n := ((n : Nat) : Int).toNat) Pv1
  ?_ (fun i τ ys H1 hi h => ?_) (fun i τ ys H1 hi h => hi) (fun τ ys H1 h => jJ _) ?_ ?_
 ·exact ⟨[], none, rfl, rfl, rfl, upd_same, same_new' hD _⟩
 ·obtain ⟨ms, v, rfl, rfl, rfl, hD1, s1⟩ := h
  exact ⟨hD1, by rw [jQ]; lia⟩
 ·rintro i τ ys H1 x H2 hi ⟨ms, v, rfl, rfl, rfl, hD1, s1⟩ ⟨rfl, rfl⟩
  obtain ⟨z, hz1, _, _⟩ := (hD0.same s1).get (at_ + (0 + (ms.length : Int))) (by lia) (by lia)
  refine ⟨_, rfl, _, rfl, _, rfl, _, _, rfl, rfl, l, _, _, _, rfl, rfl, (hD0.same s1).lst, hz1, _, _, rfl, rfl, (by show (0 : Int) < _; decide +kernel), _, _, rfl, rfl, hD1, ms ++ [z % 9 - 4], _, rfl, by rw [kW]; rfl, by rw [kQ]; rfl, upd_same, fun b o e => ?_⟩
  rw [upd_ne (ne_of_none e hD)]
  exact s1 b o e
 ·rintro τ ys H1 ⟨ms, v, rfl, rfl, hl, hD1, s1⟩
  refine ⟨D, _, rfl, .inl ⟨sqL_new hD1, fun l2 hl2 => ?_⟩⟩
  have s2 : Same H (upd H1 l2 (.tup (ms.map V.int))) := s1.trans (same_new' hl2 _)
  obtain ⟨z, hz1, _, _⟩ := (hD0.same s2).get (at_ + (n : Int)) (by lia) (by lia)
  refine ⟨_, rfl, _, rfl, _, rfl, _, rfl, _, _, rfl, rfl, l, _, _, _, rfl, rfl, (hD0.same s2).lst, hz1, _, _, rfl, rfl, (by show (0 : Int) < _; decide +kernel), _, _, rfl, rfl, by show 2 ≤ sizeLine; decide, fun t ht => ?_⟩
  have nt : l2 ≠ t := ne_of_none upd_same ht
  exact q t (ms, z % 11 - 5) _ (s2.trans (same_new' ht _)) ⟨l2, sqT_new upd_same, sqT_new (by rw [upd_ne nt]; exact upd_same)⟩ (by show ms.length = n; lia)
theorem scProblem10 : FnScope ["_law_draws_here", "_law_at", "_law_many", "_law_rows", "_law_found", "_law_costs"] ["_law_draws_here", "_law_at", "_law_many", "_law_rows"] (defScope sProblem10) := ⟨rfl, rfl, rfl, by decide +kernel, rfl, by decide +kernel, by decide +kernel⟩
theorem okProblem10 (F : Fn K mg "_law_problem" sProblem10) (M : Mg mg) (cl_row : Cal P w K mg base 1 "_law_row" ["_law_draws_here", "_law_at", "_law_many"] (spRow10 K)) : Cal P w K mg base 2 "_law_problem" ["_law_draws_here", "_law_at", "_law_many", "_law_rows"] (spProblem10 K) := by
 refine cal_of F scProblem10 (fun _ _ _ _ _ _ => bind4 (fun _ _ _ _ => rfl)) (fun vs H Q E h => ?_) (fun f cdv A outer s H vs Q E hr h => ?_)
 ·obtain ⟨l, ds, at_, n, m, rfl, _⟩ := h
  rfl
 obtain ⟨l, ds, at_, n, m, rfl, hD0, h0, h1, h2, h3, h4, q⟩ := h
 refine ⟨_, (pss_cons (ps_setC (i := 4) ["_law_k", "_law_draws_here", "_law_at", "_law_many"] [none, some 0, some 1, some 2] rfl scProblem10.nd rfl (Or.inl rfl) (pi_range1 rfl M.range_ (pa_cons (pv 3) pa_nil)) (fun _ _ _ => (pg_name (i := 0) (show (["_law_k", "_law_draws_here", "_law_at", "_law_many"] : List Str).Nodup by decide +kernel) rfl (Or.inl rfl) (Or.inr rfl))) (fun _ _ _ => pf_nil) (fun _ _ _ => (pe_fn cl_row (hr.mono (by decide)) (pa_cons (pv 1) (pa_cons (pe_op op_add (pv 2) (pe_op op_mul pe_int (pv 0))) (pa_cons (pv 3) pa_nil))))))
  (pss_cons (ps_set (i := 5) scProblem10.nd rfl (Or.inl rfl) (pe_callTy call_tuple_of rfl M.tuple_ bt_tuple (pa_cons (pe_lc ["_law_k", "_law_draws_here", "_law_at"] [none, some 0, some 1] rfl (pi_range1 rfl M.range_ (pa_cons (pv 2) pa_nil)) (fun _ _ _ => (pg_name (i := 0) (show (["_law_k", "_law_draws_here", "_law_at"] : List Str).Nodup by decide +kernel) rfl (Or.inl rfl) (Or.inr rfl))) (fun _ _ _ => pf_nil) (fun _ _ _ => (pe_op op_sub (pe_op op_mod (pe_ix (ix_listK (K := K) rfl) (pv 1) (pe_op op_add (pe_op op_add (pv 2) pe_int) (pv 0)) (fun _ _ => rfl)) pe_int) pe_int))) pa_nil)))
  (pss_one (ps_ret (pe_tup (pa_cons (pv 4) (pa_cons (pv 5) pa_nil))))))), ?_⟩
 refine seq_let3 ?_
 intro rT3 rT2
 have hz : (2000 : Nat) < sizeLine := by decide
 refine ⟨_, rfl, (m : Int), rfl, by lia, by lia, fun D hD => ?_⟩
 let Pv1 : Nat → St → List V → Hp → Prop := fun i τ ys H1 => ∃ (rs : List Rw) (v : Option V), τ = [v, some (.ref l), some (.int at_), some (.int (n : Int))] ∧ RowsAre K H1 ys rs ∧ (∀ r ∈ rs, r.1.length = n) ∧ rs.length = i ∧ H1 D = some (.lst ys) ∧ Same H H1
 refine lc_any (n := ((m : Nat) : Int).toNat) Pv1
  ?_ (fun i τ ys H1 hi h => ?_) (fun i τ ys H1 hi h => hi) (fun τ ys H1 h => jJ _) ?_ ?_
 ·exact ⟨[], none, rfl, .nil, (fun r hr => nomatch hr), rfl, upd_same, same_new' hD _⟩
 ·obtain ⟨rs, v, rfl, hr', hm, rfl, hD1, s1⟩ := h
  exact ⟨hD1, by rw [hr'.length]; lia⟩
 ·rintro i τ ys H1 x H2 hi ⟨rs, v, rfl, hr', hm, rfl, hD1, s1⟩ ⟨rfl, rfl⟩
  refine ⟨_, rfl, _, rfl, _, rfl, _, _, rfl, rfl, .inl ⟨by decide, by decide⟩, _, _, rfl, rfl, _, rfl, l, ds, _, n, rfl, hD0.same s1, by lia, by lia, by lia, fun t r H3 s3 rt hl => ⟨s3 _ _ hD1, rs ++ [r], _, rfl, ?_, ?_, by rw [kQ]; rfl, upd_same, fun b o e => ?_⟩⟩
  ·exact RowsAre.snoc (hr'.imp fun _ _ z => (z.same s3).upd (s3 _ _ hD1)) (rt.upd (s3 _ _ hD1))
  ·intro r' hr2
   rcases zV.mp hr2 with z | z
   ·exact hm r' z
   ·rw [yK.mp z]; exact hl
  ·rw [upd_ne (ne_of_none e hD)]
   exact s3 _ _ (s1 b o e)
 ·rintro τ ys H1 ⟨rs, v, rfl, hr', hm, hl, hD1, s1⟩
  refine ⟨_, rfl, (n : Int), rfl, by lia, by lia, fun D2 hD2 => ?_⟩
  let Pv2 : Nat → St → List V → Hp → Prop := fun i τ ys2 H2 => ∃ (ms : List Int) (v : Option V), τ = [v, some (.ref l), some (.int at_)] ∧ ys2 = ms.map V.int ∧ ms.length = i ∧ H2 D2 = some (.lst ys2) ∧ Same H1 H2
  refine lc_any (n := ((n : Nat) : Int).toNat) Pv2
   ?_ (fun i τ ys2 H2 hi h => ?_) (fun i τ ys2 H2 hi h => hi) (fun τ ys2 H2 h => jJ _) ?_ ?_
  ·exact ⟨[], none, rfl, rfl, rfl, upd_same, same_new' hD2 _⟩
  ·obtain ⟨ms, v, rfl, rfl, rfl, hE, s2⟩ := h
   exact ⟨hE, by rw [jQ]; lia⟩
  ·rintro i τ ys2 H2 x H3 hi ⟨ms, v, rfl, rfl, rfl, hE, s2⟩ ⟨rfl, rfl⟩
   obtain ⟨z, hz1, _, _⟩ := (hD0.same (s1.trans s2)).get (at_ + 70 + (0 + (ms.length : Int))) (by lia) (by lia)
   refine ⟨_, rfl, _, rfl, _, _, rfl, rfl, _, rfl, _, _, rfl, rfl, l, _, _, _, rfl, rfl, (hD0.same (s1.trans s2)).lst, hz1, _, _, rfl, rfl, (by show (0 : Int) < _; decide +kernel), _, _, rfl, rfl, hE, ms ++ [z % 7 - 1], _, rfl, by rw [kW]; rfl, by rw [kQ]; rfl, upd_same, fun b o e => ?_⟩
   rw [upd_ne (ne_of_none e hD2)]
   exact s2 b o e
  ·rintro τ ys2 H2 ⟨ms, v, rfl, rfl, hl2, hE, s2⟩
   refine ⟨D2, _, rfl, .inl ⟨sqL_new hE, fun l2 hl2' => ?_⟩⟩
   have s3 := s2.trans (same_new' hl2' (.tup (ms.map V.int)))
   refine ⟨_, rfl, _, rfl, by show 2 ≤ sizeLine; decide, fun t ht => ?_⟩
   have s4 := s3.trans (same_new' ht (.tup [.ref D, .ref l2]))
   have nt : l2 ≠ t := ne_of_none upd_same ht
   exact q t rs ms _ (s1.trans s4) ⟨D, l2, ys, sqT_new upd_same, s4.seq (sqL_new hD1), hr'.imp fun _ _ z => z.same s4, sqT_new (by rw [upd_ne nt]; exact upd_same)⟩ hm (by lia) (by lia)
theorem scTurned10 : FnScope ["_law_row_here", "_law_turn_here", "_law_numbers", "_law_choice"] ["_law_row_here", "_law_turn_here"] (defScope sTurned10) := ⟨rfl, rfl, rfl, by decide +kernel, rfl, by decide +kernel, by decide +kernel⟩
theorem okTurned10 (F : Fn K mg "_law_turned" sTurned10) (M : Mg mg) : Cal P w K mg base 1 "_law_turned" ["_law_row_here", "_law_turn_here"] (spTurned10 K) := by
 refine cal_of F scTurned10 (fun _ _ _ _ _ _ => bind2 (fun _ _ => rfl)) (fun vs H Q E h => ?_) (fun f cdv A outer s H vs Q E hr h => ?_)
 ·obtain ⟨r, u, row, n, t, rfl, _⟩ := h
  rfl
 obtain ⟨r, u, row, n, t, rfl, ⟨p, hr1, hr2⟩, hu1, ltn, hlt, hl, hn, q⟩ := h
 refine ⟨_, (pss_cons (ps_set (i := 2) scTurned10.nd rfl (Or.inl rfl) (pe_op op_rep (pe_lst (pa_cons pe_int pa_nil)) (pe_callB call_len_seq rfl M.len bt_len (pa_cons (pv 1) pa_nil))))
  (pss_cons (ps_for PassesOwn.never rfl (pi_range1 rfl M.range_ (pa_cons (pe_callB call_len_seq rfl M.len bt_len (pa_cons (pv 1) pa_nil)) pa_nil)) (pg_name (i := 3) scTurned10.nd rfl (Or.inl rfl) (Or.inl rfl)) (pss_one (ps_asg (pe_ix ix_tup (pe_ix ix_tup (pv 0) pe_int (fun _ _ => rfl)) (pv 3) (fun _ _ => rfl)) (pg_sub (pv 2) (pe_ix ix_list (pv 1) (pv 3) (fun _ _ => rfl)) set_list))))
  (pss_one (ps_ret (pe_tup (pa_cons (pe_callTy call_tuple_of rfl M.tuple_ bt_tuple (pa_cons (pv 2) pa_nil)) (pa_cons (pe_ix ix_tup (pv 0) pe_int (fun _ _ => rfl)) pa_nil))))))), ?_⟩
 refine seq_let3 ?_
 intro rT3 rT2
 have hz : (2000 : Nat) < sizeLine := by decide
 have lu : ((tI t).map V.int).length = n := by rw [jQ, tI_len, ltn]
 refine ⟨by show 1 ≤ sizeLine; decide, fun p1 hp1 => ?_⟩
 have s1 : Same H (upd H p1 (.lst [.int 0])) := same_new' hp1 _
 refine ⟨_, rfl, u, _, rfl, .inl (s1.seq hu1), p1, _, _, rfl, rfl, upd_same, by lia, ?_, ?_, fun p2 hp2 => ?_⟩
 ·rw [lu]; lia
 ·rw [lu, kQf]; lia
 rw [lu]
 have s2 := s1.trans (same_new' hp2 (.lst (List.replicate (Int.toNat ((n : Nat) : Int)) [V.int 0]).flatten))
 have e0 : (List.replicate (Int.toNat ((n : Nat) : Int)) [V.int 0]).flatten = (put row.1 t 0).map V.int := by
  rw [rep_one]
  show _ = (List.replicate t.length 0).map V.int
  rw [List.map_replicate, ltn]
  rfl
 refine ⟨_, rfl, u, _, rfl, .inl (s2.seq hu1), _, rfl, by lia, by rw [lu]; lia, for_range (lo := 0) (n := Int.toNat ((((tI t).map V.int).length : Nat) : Int)) (fun i σ H3 => ∃ v : Option V, σ = [some (.ref r), some (.ref u), some (.ref p2), v] ∧ H3 p2 = some (.lst ((put row.1 t i).map V.int)) ∧ Same H H3) ⟨none, rfl, ?_, s2⟩ ?_ ?_⟩
 ·rw [upd_same, e0]
 ·rintro i σ H3 hi ⟨v, rfl, hp3, s3⟩
  have hi' : i < n := by lia
  have ex : row.1[i]? = some row.1[i] := gE (by lia)
  have ek : t[i]? = some t[i] := gE (by lia)
  have hk := hlt t[i] (wZ _)
  generalize t[i] = k at ek hk
  generalize row.1[i] = x at ex
  refine ⟨_, rfl, r, _, _, _, rfl, rfl, s3.tup hr1, at0, _, rfl, p, _, _, _, rfl, rfl, s3.tup hr2, atRow (show (row.1.map V.int)[i]? = some (.int x) by rw [jK, ex]; rfl), _, rfl, _, rfl, _, rfl, u, _, _, _, rfl, rfl, s3.seq hu1, atRow (show ((tI t).map V.int)[i]? = some (.int ((k : Nat) : Int)) by unfold tI; rw [jK, jK, ek]; rfl), p2, _, _, k, rfl, rfl, hp3, ixNat (by rw [jQ, put_length]; lia), _, rfl, ?_, fun b o e => ?_⟩
  ·rw [upd_same, put_next ex ek, kZc]
  ·have nb : b ≠ p2 := fun z => by subst z; rw [s1 _ _ e] at hp2; cases hp2
   rw [upd_ne nb]
   exact s3 _ _ e
 ·rintro σ H3 ⟨v, rfl, hp3, s3⟩
  rw [show Int.toNat ((((tI t).map V.int).length : Nat) : Int) = n by rw [lu]; lia] at hp3
  refine ⟨_, rfl, p2, _, rfl, .inl ⟨sqL_new hp3, fun l2 hl2 => ?_⟩⟩
  have s4 := s3.trans (same_new' hl2 (.tup ((put row.1 t n).map V.int)))
  refine ⟨_, rfl, r, _, _, _, rfl, rfl, s4.tup hr1, at1, by show 2 ≤ sizeLine; decide, fun t2 ht2 => ?_⟩
  have nt : l2 ≠ t2 := ne_of_none upd_same ht2
  exact q t2 _ (s4.trans (same_new' ht2 _)) ⟨l2, sqT_new upd_same, sqT_new (by rw [upd_ne nt]; exact upd_same)⟩
end
abbrev sRowTold : Stmt := top 34
def rowT (rs : List Rw) (cs : List Int) (best : Option Int) (told : List Rw) : Dt → Option Rw
 | .tup (.str w :: xs) => if lenW w = some (xs.length + 1) then tellBy w rs cs best told (.str w :: xs) else none
 | _ => none
inductive IspRowTold (K : Fg) (vs : List V) (H : Hp) (Q : VK) : Prop
 | mk (t l : Addr) (v : V) (rs : List Rw) (cs : List Int) (best : Option Int) (ws : List V) (told : List Rw) (d : Dt) (h1 : vs = [.ref t, bestV best, .ref l, v]) (h2 : Jx K H t l rs cs ws told) (h3 : HasT K H v d) (h4 : Sm d) (h5 : okD cs.length d) (h6 : (rowT rs cs best told d = none → ∀ H', Same H H' → Q .non H')) (h7 : ∀ r, rowT rs cs best told d = some r → ∀ t' H', Same H H' → RowAt K H' t' r → Q (.ref t') H')
def spRowTold (K : Fg) : Sp := fun vs H Q _ => IspRowTold K vs H Q
structure JTabs (P : Program) (w : World) (K : Fg) (mg : Str → Option Value) (base : Heap) (aT aL : Addr) (fT fL : Str → Option Value) : Prop where
 tt : Tab w K mg "TELLERS" aT fT
 lt : Tab w K mg "LENGTHS" aL fL
 kt : ∀ s, (fT s).isSome = (lenW s).isSome
 kl : ∀ s n, lenW s = some n → ∃ tk, fL s = some (.int ((n : Nat) : Int) tk)
 ok : TabOk P w K mg base 5 fT ["problem", "best", "told", "line"] (spTell K)
section
variable {P : Program} {w : World} {K : Fg} {mg : Str → Option Value} {base : Heap} {aT aL : Addr} {fT fL : Str → Option Value}
theorem scRowTold : FnScope ["problem", "best", "told", "line", "word"] ["problem", "best", "told", "line"] (defScope sRowTold) := ⟨rfl, rfl, rfl, by decide +kernel, rfl, by decide +kernel, by decide +kernel⟩
theorem okRowTold (F : Fn K mg "row_told" sRowTold) (M : Mg mg) (JT : JTabs P w K mg base aT aL fT fL) : Cal P w K mg base 6 "row_told" ["problem", "best", "told", "line"] (spRowTold K) := by
 refine cal_of F scRowTold (fun _ _ _ _ _ _ => bind4 (fun _ _ _ _ => rfl)) (fun vs H Q E h => ?_) (fun f cdv A outer s H vs Q E hr h => ?_)
 ·obtain ⟨t, l, v, rs, cs, best, ws, told, d, rfl, _⟩ := h
  rfl
 obtain ⟨t, l, v, rs, cs, best, ws, told, d, rfl, J, hv, hsm, hokd, qn, qs⟩ := h
 refine ⟨_, (pss_cons (ps_if (PW.pt (pw_or (pt_not (pt_val (pe_callB call_isiW rfl M.isinstance bt_isinstance (pa_cons (pv 3) (pa_cons (pe_ty M.tuple_ bt_tuple) pa_nil))))) (pw_or (pt_cmpR op_eq (pe_callB call_len_seq rfl M.len bt_len (pa_cons (pv 3) pa_nil)) pe_int (nomark _)) (pw_or1 (pt_not (pt_val (pe_callB call_isiW rfl M.isinstance bt_isinstance (pa_cons (pe_ix ix_tup (pv 3) pe_int (fun _ _ => rfl)) (pa_cons (pe_ty M.str_ bt_str) pa_nil))))))))) (pss_one (ps_ret pe_non)) pss_nil)
  (pss_cons (ps_set (i := 4) scRowTold.nd rfl (Or.inl rfl) (pe_ix ix_tup (pv 3) pe_int (fun _ _ => rfl)))
  (pss_cons (ps_if (PW.pt (pw_or (pt_cmp (pc_tabNot JT.tt (pv 4)) rfl) (pw_or1 (pt_cmpR op_ne (pe_callB call_len_seq rfl M.len bt_len (pa_cons (pv 3) pa_nil)) (pe_ix (ix_tab JT.lt) (pe_glob (v := .ref aL) rfl JT.lt.bound rfl) (pv 4) (fun _ _ => rfl)) (nomark _))))) (pss_one (ps_ret pe_non)) pss_nil)
  (pss_one (ps_ret (pe_tabCall JT.tt JT.ok (hr.mono (by decide)) (pv 4) (fun _ _ => rfl) (pa_cons (pv 0) (pa_cons (pv 1) (pa_cons (pv 2) (pa_cons (pv 3) pa_nil)))))))))), ?_⟩
 refine seq_let4 ?_
 intro rT4 rT3 rT2
 cases d with
 | tup xs =>
  obtain ⟨ln, us, rfl, hln, hul, hget⟩ := hv.tup_inv
  refine ⟨_, rfl, _, "tuple", _, rfl, .tuple, hv.isi _, _, rfl, iteF ⟨_, rfl, ln, us, rfl, .inr hln, rfl, _, rfl, ?_⟩⟩
  cases xs with
  | nil =>
   have : us = [] := zW hul
   subst this
   exact iteT (iteT (qn rfl H (Same.refl H)))
  | cons x r =>
   cases us with
   | nil => simp at hul
   | cons v0 ur =>
    have hlen : (v0 :: ur).length = r.length + 1 := hul
    have h0 := hget 0 v0 x rfl rfl
    refine ite2 (fun c => absurd (V.int.inj (yV c)) (by lia)) (fun _ => ?_)
    refine ⟨_, rfl, ln, _, _, _, rfl, rfl, hln, (show atI _ ((0 : Nat) : Int) = some _ from atNat rfl), _, "str", _, rfl, .str, h0.isi _, _, rfl, ?_⟩
    cases x with
    | str wd =>
     cases h0
     have eR : rowT rs cs best told (.tup (.str wd :: r)) = if lenW wd = some (r.length + 1) then tellBy wd rs cs best told (.str wd :: r) else none := rfl
     rw [eR] at qn qs
     refine iteF ⟨_, rfl, ln, _, _, _, rfl, rfl, hln, (show atI _ ((0 : Nat) : Int) = some _ from atNat rfl), ?_⟩
     refine ⟨_, rfl, wd, rfl, _, rfl, ?_⟩
     rw [JT.kt wd]
     cases hw : lenW wd with
     | none =>
      rw [hw] at qn
      exact iteT (iteT (qn (if_neg fun z => nomatch z) H (Same.refl H)))
     | some n =>
      obtain ⟨tk, etk⟩ := JT.kl wd n hw
      refine iteF ⟨_, rfl, ln, _, rfl, .inr hln, _, rfl, wd, _, .int ((n : Nat) : Int), rfl, rfl, etk, ⟨tk, rfl⟩, rfl, _, rfl, ?_⟩
      by_cases hn : n = r.length + 1
      ·subst hn
       rw [hw] at qn qs
       rw [if_pos rfl] at qn qs
       have e9 : (!decide (V.int (((V.str wd :: ur).length : Nat) : Int) = V.int ((r.length + 1 : Nat) : Int))) = false := by rw [hlen, kY rfl]; rfl
       rw [e9]
       have hsome : (fT wd).isSome = true := by rw [JT.kt wd, hw]; rfl
       obtain ⟨fv, efv⟩ := jZe.mp hsome
       obtain ⟨fa, fd, e8, _⟩ := JT.ok wd fv efv
       subst e8
       exact iteF ⟨_, rfl, wd, _, .ref fa, rfl, rfl, efv, rfl, wd, fa, rfl, efv, _, rfl, _, rfl, _, rfl, _, rfl, t, l, ln, rs, cs, best, ws, told, _, _, rfl, J, hln, hul, hget, hsm.tup_inv, hw, hokd wd r rfl hw, qn, qs⟩
      ·have e9 : (!decide (V.int (((V.str wd :: ur).length : Nat) : Int) = V.int ((n : Nat) : Int))) = true := by rw [hlen, yY (fun z => hn (by have := V.int.inj z; lia))]; rfl
       rw [e9]
       exact iteT (qn (if_neg fun z => hn (Option.some.inj (hw.symm.trans z))) H (Same.refl H))
    | int i => exact iteT (qn rfl H (Same.refl H))
    | non => exact iteT (qn rfl H (Same.refl H))
    | bl b => exact iteT (qn rfl H (Same.refl H))
    | tup xs => exact iteT (qn rfl H (Same.refl H))
    | lst xs => exact iteT (qn rfl H (Same.refl H))
 | int i => exact ⟨_, rfl, _, "tuple", _, rfl, .tuple, hv.isi _, _, rfl, iteT (iteT (qn rfl H (Same.refl H)))⟩
 | non => exact ⟨_, rfl, _, "tuple", _, rfl, .tuple, hv.isi _, _, rfl, iteT (iteT (qn rfl H (Same.refl H)))⟩
 | bl b => exact ⟨_, rfl, _, "tuple", _, rfl, .tuple, hv.isi _, _, rfl, iteT (iteT (qn rfl H (Same.refl H)))⟩
 | str s => exact ⟨_, rfl, _, "tuple", _, rfl, .tuple, hv.isi _, _, rfl, iteT (iteT (qn rfl H (Same.refl H)))⟩
 | lst xs => exact ⟨_, rfl, _, "tuple", _, rfl, .tuple, hv.isi _, _, rfl, iteT (iteT (qn rfl H (Same.refl H)))⟩
end
abbrev sRowsTold : Stmt := top 35
abbrev sIsBroken : Stmt := top 36
abbrev sJudged : Stmt := top 37
theorem withoutN_len {ns : List Int} {c : Nat} (h : c < ns.length) : (withoutN ns c).length = ns.length := by
 unfold withoutN
 rw [kQ, kQ, yX, jYe]
 show min c ns.length + 1 + (ns.length - (c + 1)) = ns.length
 lia
theorem shutNums_len (n : Nat) (hs : List (Int × Int)) : (shutNums n hs).length = n := by
 unfold shutNums
 suffices h : ∀ a : List Int, (hs.foldl (fun a p => a.set p.1.toNat (1 - 2 * p.2)) a).length = a.length by rw [h, zK]
 induction hs with
 | nil => intro a; rfl
 | cons p t ih => intro a; rw [jXf, ih, xZ]
theorem rowK_len {n k : Nat} {rs : List Rw} (h : ∀ r ∈ rs, r.1.length = n) (hk : k < rs.length) : (rowK rs k).1.length = n := by
 unfold rowK
 rw [jY, gE hk]
 exact h _ (wZ hk)
theorem allT_mem {α : Type} {f : Dt → Option α} {ds : List Dt} {xs : List α} (h : allT f ds = some xs) : ∀ x ∈ xs, ∃ d ∈ ds, f d = some x := by
 intro x hx
 obtain ⟨el, eg⟩ := allT_get h
 obtain ⟨i, hi, rfl⟩ := jXd.mp hx
 have hi' : i < ds.length := by lia
 obtain ⟨p, ep, en⟩ := eg i ds[i] (gE hi')
 rw [gE hi] at ep
 cases ep
 exact ⟨_, wZ hi', en⟩
theorem tellBy_len {w : Str} {rs : List Rw} {cs : List Int} {best : Option Int} {told : List Rw} {xs : List Dt} {r : Rw} (h1 : ∀ r ∈ rs, r.1.length = cs.length) (h2 : ∀ r ∈ told, r.1.length = cs.length) (h : tellBy w rs cs best told xs = some r) : r.1.length = cs.length := by
 unfold tellBy at h
 split at h
 ·unfold tGiven at h
  split at h
  ·obtain ⟨k, e, rfl⟩ := yJ.mp h
   exact rowK_len h1 (numT_some e).2
  ·cases h
 split at h
 ·unfold tLow at h
  split at h
  ·obtain ⟨k, e, rfl⟩ := yJ.mp h
   show ((List.replicate _ _).set _ _).length = _
   rw [xZ, zK]
  ·cases h
 split at h
 ·unfold tHigh at h
  split at h
  ·obtain ⟨k, e, rfl⟩ := yJ.mp h
   show ((List.replicate _ _).set _ _).length = _
   rw [xZ, zK]
  ·cases h
 split at h
 ·unfold tBetter at h
  split at h
  ·obtain ⟨k, e, rfl⟩ := yJ.mp h
   exact jQ ..
  ·cases h
 split at h
 ·unfold tSum sumD at h
  split at h
  ·split at h
   ·obtain ⟨qs, e, rfl⟩ := yJ.mp h
    refine sumRow_len _ _ fun p hp => ?_
    unfold partsOf at hp
    obtain ⟨q, hq, rfl⟩ := wK.mp hp
    obtain ⟨x, _, en⟩ := allT_mem e q hq
    exact rowK_len h2 (partT_some en).2.1
   ·cases h
  ·cases h
 split at h
 ·unfold tShare shareD at h
  split at h
  ·split at h
   ·split at h
    ·obtain ⟨k, e, e2⟩ := zY.mp h
     split at e2
     ·cases e2
      show (List.map _ _).length = _
      rw [jQ]
      exact rowK_len h2 (numT_some e).2
     ·cases e2
    ·cases h
   ·cases h
  ·cases h
 split at h
 ·unfold tShut at h
  split at h
  ·obtain ⟨k, e, e2⟩ := zY.mp h
   obtain ⟨hs, e3, e4⟩ := zY.mp e2
   split at e4
   ·cases e4; exact shutNums_len _ _
   ·cases e4
  ·cases h
 split at h
 ·unfold tEither at h
  split at h
  ·obtain ⟨i, e, e2⟩ := zY.mp h
   obtain ⟨j, e3, e4⟩ := zY.mp e2
   obtain ⟨c, e5, e6⟩ := zY.mp e4
   split at e6
   ·cases e6
    have := rowK_len h2 (numT_some e).2
    have h5 := (numT_some e5).2
    exact (withoutN_len (by lia)).trans this
   ·cases e6
  ·cases h
 split at h
 ·unfold tLike at h
  split at h
  ·obtain ⟨t, e, e2⟩ := zY.mp h
   obtain ⟨xs, rfl⟩ := turnT_inv e
   split at e2
   ·cases e2
    exact (likeTo_len t _).trans (isTurn_of e).2.2
   ·cases e2
  ·cases h
 ·cases h
theorem rowT_len {rs : List Rw} {cs : List Int} {best : Option Int} {told : List Rw} {d : Dt} {r : Rw} (h1 : ∀ r ∈ rs, r.1.length = cs.length) (h2 : ∀ r ∈ told, r.1.length = cs.length) (h : rowT rs cs best told d = some r) : r.1.length = cs.length := by
 unfold rowT at h
 split at h
 ·split at h
  ·exact tellBy_len h1 h2 h
  ·cases h
 ·cases h
def toldAll (rs : List Rw) (cs : List Int) (best : Option Int) : List Dt → List Rw → List Rw
 | [], acc => acc
 | d :: r, acc => match rowT rs cs best acc d with
  | none => acc
  | some row => toldAll rs cs best r (acc ++ [row])
theorem toldAll_none {rs : List Rw} {cs : List Int} {best : Option Int} {d : Dt} {r : List Dt} {acc : List Rw} (h : rowT rs cs best acc d = none) : toldAll rs cs best (d :: r) acc = acc := by
 show (match rowT rs cs best acc d with | none => acc | some row => toldAll rs cs best r (acc ++ [row])) = acc
 rw [h]
theorem toldAll_some {rs : List Rw} {cs : List Int} {best : Option Int} {d : Dt} {r : List Dt} {acc : List Rw} {row : Rw} (h : rowT rs cs best acc d = some row) : toldAll rs cs best (d :: r) acc = toldAll rs cs best r (acc ++ [row]) := by
 show (match rowT rs cs best acc d with | none => acc | some row => toldAll rs cs best r (acc ++ [row])) = _
 rw [h]
theorem toldAll_ok {rs : List Rw} {cs : List Int} {best : Option Int} (h1 : ∀ r ∈ rs, r.1.length = cs.length) : ∀ (ds : List Dt) (acc : List Rw), (∀ r ∈ acc, r.1.length = cs.length) → (∀ r ∈ toldAll rs cs best ds acc, r.1.length = cs.length) ∧ acc.length ≤ (toldAll rs cs best ds acc).length ∧ (toldAll rs cs best ds acc).length ≤ acc.length + ds.length := by
 intro ds
 induction ds with
 | nil => intro acc h; exact ⟨h, jJ _, jJ _⟩
 | cons d r ih =>
  intro acc h
  cases e : rowT rs cs best acc d with
  | none => rw [toldAll_none e]; exact ⟨h, jJ _, jJb _ _⟩
  | some row =>
   rw [toldAll_some e]
   have hl := rowT_len h1 h e
   obtain ⟨a, b, c⟩ := ih (acc ++ [row]) (fun x hx => by
    rcases zV.mp hx with hx | hx
    ·exact h x hx
    ·cases yK.mp hx; exact hl)
   rw [kQ] at b c
   simp only [kK, xJ] at b c ⊢
   exact ⟨a, by lia, by lia⟩
structure Px (K : Fg) (H : Hp) (t p : Addr) (rs : List Rw) (cs : List Int) (us : List V) (ds : List Dt) : Prop where
 prob : ProbAt K H t rs cs
 lst : SqL K H p us
 len : us.length = ds.length
 has : ∀ (i : Nat) v x, us[i]? = some v → ds[i]? = some x → HasT K H v x
 sm : ∀ x ∈ ds, Sm x
 rl : ∀ r ∈ rs, r.1.length = cs.length
 n : cs.length ≤ 50
 m : rs.length < 60
 k : ds.length ≤ 1000
 ok : ∀ x ∈ ds, okD cs.length x
inductive IspRowsTold (K : Fg) (vs : List V) (H : Hp) (Q : VK) : Prop
 | mk (t p : Addr) (rs : List Rw) (cs : List Int) (best : Option Int) (us : List V) (ds : List Dt) (h1 : vs = [.ref t, bestV best, .ref p]) (h2 : Px K H t p rs cs us ds) (h3 : ∀ l ws H', H l = none → Same H H' → H' l = some (.lst ws) → RowsAre K H' ws (toldAll rs cs best ds []) → Q (.ref l) H')
def spRowsTold (K : Fg) : Sp := fun vs H Q _ => IspRowsTold K vs H Q
def brokenR (r : Rw) : Bool := r.1.all (fun x => decide (x = 0)) && decide (1 ≤ r.2)
inductive IspIsBroken (K : Fg) (vs : List V) (H : Hp) (Q : VK) : Prop
 | mk (t : Addr) (r : Rw) (h1 : vs = [.ref t]) (h2 : RowAt K H t r) (h3 : r.1.length < 1000) (h4 : ∀ H', Same H H' → Q (.bl (brokenR r)) H')
def spIsBroken (K : Fg) : Sp := fun vs H Q _ => IspIsBroken K vs H Q
def judgedT (rs : List Rw) (cs : List Int) (best : Option Int) (ds : List Dt) : Option Nat :=
 let told := toldAll rs cs best ds []
 if told.length = ds.length ∧ 0 < told.length ∧ brokenR (told.getLastD ([], 0)) = true then none else some told.length
def natV : Option Nat → V
 | none => .non
 | some n => .int ((n : Nat) : Int)
inductive IspJudged (K : Fg) (vs : List V) (H : Hp) (Q : VK) : Prop
 | mk (t p : Addr) (rs : List Rw) (cs : List Int) (best : Option Int) (us : List V) (ds : List Dt) (h1 : vs = [.ref t, bestV best, .ref p]) (h2 : Px K H t p rs cs us ds) (h3 : ∀ H', Same H H' → Q (natV (judgedT rs cs best ds)) H')
def spJudged (K : Fg) : Sp := fun vs H Q _ => IspJudged K vs H Q
section
variable {P : Program} {w : World} {K : Fg} {mg : Str → Option Value} {base : Heap} {aT aL : Addr} {fT fL : Str → Option Value}
theorem scRowsTold : FnScope ["problem", "best", "paper", "told", "line", "row"] ["problem", "best", "paper"] (defScope sRowsTold) := ⟨rfl, rfl, rfl, by decide +kernel, rfl, by decide +kernel, by decide +kernel⟩
theorem okRowsTold (F : Fn K mg "rows_told" sRowsTold) (M : Mg mg) (c_row_told : Cal P w K mg base 6 "row_told" ["problem", "best", "told", "line"] (spRowTold K)) : Cal P w K mg base 7 "rows_told" ["problem", "best", "paper"] (spRowsTold K) := by
 refine cal_of F scRowsTold (fun _ _ _ _ _ _ => bind3 (fun _ _ _ => rfl)) (fun vs H Q E h => ?_) (fun f cdv A outer s H vs Q E hr h => ?_)
 ·obtain ⟨t, p, rs, cs, best, us, ds, rfl, _⟩ := h
  rfl
 obtain ⟨t, p, rs, cs, best, us, ds, rfl, X, q⟩ := h
 refine ⟨_, (pss_cons (ps_set (i := 3) scRowsTold.nd rfl (Or.inl rfl) (pe_lst pa_nil))
  (pss_cons (ps_for PassesOwn.never rfl (pi_list (pv 2)) (pg_name (i := 4) scRowsTold.nd rfl (Or.inl rfl) (Or.inl rfl)) (pss_cons (ps_set (i := 5) scRowsTold.nd rfl (Or.inl rfl) (pe_fn c_row_told (hr.mono (by decide)) (pa_cons (pv 0) (pa_cons (pv 1) (pa_cons (pv 3) (pa_cons (pv 4) pa_nil))))))
  (pss_cons (ps_if (pt_cmpR op_isN (pv 5) pe_non (nomark _)) (pss_one ps_break) pss_nil)
  (pss_one (ps_expr (pe_bm PySem.F.plainAttrs_list PySem.F.slot_list_append PySem.F.type_list_append mt_append (pv 3) (pa_cons (pv 5) pa_nil)))))))
  (pss_one (ps_ret (pv 3))))), ?_⟩
 refine seq_let3 ?_
 intro rT3 rT2
 have hz : (2000 : Nat) < sizeLine := by decide
 have hk1000 := X.k
 have hul := X.len
 refine ⟨by show 0 ≤ sizeLine; decide, fun g hg0 => ?_⟩
 have s0 := same_new' hg0 (.lst [])
 let Pv1 : Nat → St → Hp → Prop := fun i σ H1 => ∃ (told : List Rw) (ws : List V) (u v : Option V), σ = [some (.ref t), some (bestV best), some (.ref p), some (.ref g), u, v] ∧ H1 g = some (.lst ws) ∧ RowsAre K H1 ws told ∧ toldAll rs cs best ds [] = toldAll rs cs best (ds.drop i) told ∧ told.length ≤ i ∧ (∀ r ∈ told, r.1.length = cs.length) ∧ Same H H1
 refine ⟨_, rfl, p, rfl, ⟨_, s0.seq X.lst⟩, for_list (K := K) (a := p) (xs := us) Pv1 ⟨[], [], none, none, rfl, upd_same, .nil, rfl, jJ _, (fun _ z => nomatch z), s0⟩ (fun i σ H1 _ h => ?_) ?_ ?_⟩
 ·obtain ⟨told, ws, u, v, rfl, hg, hrw, et, hl, htl, s1⟩ := h
  exact s1.seq X.lst
 ·rintro i x σ H1 e1 ⟨told, ws, u, v, rfl, hg, hrw, et, hl, htl, s1⟩
  refine seq_let3 ?_
  intro rB3 rB2
  have hi : i < us.length := (yQ.mp e1).1
  obtain ⟨d, ed⟩ : ∃ d, ds[i]? = some d := ⟨_, gE (by lia)⟩
  have hx := (X.has i _ _ e1 ed).same s1
  have edr : ds.drop i = d :: ds.drop (i + 1) := by
   rw [List.drop_eq_getElem_cons (by lia)]
   congr 1
   rw [gE (by lia)] at ed
   exact Option.some.inj ed
  rw [edr] at et
  have J : Jx K H1 t g rs cs ws told := ⟨X.prob.same s1, sqL_new hg, hrw, X.rl, htl, X.n, X.m, by lia⟩
  refine ⟨_, rfl, _, rfl, _, rfl, _, rfl, t, g, x, rs, cs, best, ws, told, d, rfl, J, hx, X.sm d (kX ed), X.ok d (kX ed), fun er H2 s2 => ?_, fun row er t' H2 s2 hr2 => ?_⟩
  ·refine ⟨_, rfl, rfl, _, rfl, iteT ?_⟩
   rw [toldAll_none er] at et
   refine ⟨_, rfl, q g ws H2 hg0 (s1.trans s2) (s2 _ _ hg) ?_⟩
   rw [et]
   exact hrw.imp fun _ _ z => z.same s2
  ·refine ⟨_, rfl, rfl, _, rfl, iteF ?_⟩
   rw [toldAll_some er] at et
   have hg2 := s2 _ _ hg
   have lw := hrw.length
   refine ⟨_, rfl, .inl ⟨rfl, _, sqL_new hg2⟩, _, rfl, g, _, _, rfl, rfl, hg2, by lia, ?_⟩
   refine ⟨told ++ [row], _, _, _, rfl, upd_same, ?_, et, by rw [kQ]; simp only [kK, xJ]; lia, fun r hr' => ?_, fun b o e => ?_⟩
   ·exact RowsAre.snoc (hrw.imp fun _ _ z => (z.same s2).upd hg2) (hr2.upd hg2)
   ·rcases zV.mp hr' with hr' | hr'
    ·exact htl r hr'
    ·cases yK.mp hr'
     exact rowT_len X.rl htl er
   ·rw [upd_ne (ne_of_none e hg0)]; exact s2 _ _ (s1 _ _ e)
 ·rintro σ H1 ⟨told, ws, u, v, rfl, hg, hrw, et, hl, htl, s1⟩
  rw [kZd (by lia)] at et
  refine ⟨_, rfl, q g ws H1 hg0 s1 hg ?_⟩
  rw [et]
  exact hrw
theorem scIsBroken : FnScope ["row"] ["row"] (defScope sIsBroken) := ⟨rfl, rfl, rfl, by decide +kernel, rfl, by decide +kernel, by decide +kernel⟩
theorem okIsBroken (F : Fn K mg "is_broken" sIsBroken) (M : Mg mg) : Cal P w K mg base 1 "is_broken" ["row"] (spIsBroken K) := by
 refine cal_of F scIsBroken (fun _ _ _ _ _ _ => bind1 (fun _ => rfl)) (fun vs H Q E h => ?_) (fun f cdv A outer s H vs Q E hr h => ?_)
 ·obtain ⟨t, r, rfl, _⟩ := h
  rfl
 obtain ⟨t, r, rfl, hrow, hlen, q⟩ := h
 refine ⟨_, (pss_one (ps_ret (pe_and (pe_callB (call_allB rfl) rfl M.all bt_all (pa_cons (pe_lc ["number"] [none] rfl (pi_tup (pe_ix ix_tup (pv 0) pe_int (fun _ _ => rfl))) (fun _ _ _ => (pg_name (i := 0) (show (["number"] : List Str).Nodup by decide +kernel) rfl (Or.inl rfl) (Or.inr rfl))) (fun _ _ _ => pf_nil) (fun _ _ _ => (pe_cmpR op_eq (pv 0) pe_int (nomark _)))) pa_nil)) (pe_one (pe_cmpR op_ge (pe_ix ix_tup (pv 0) pe_int (fun _ _ => rfl)) pe_int (nomark _)))))), ?_⟩
 have hz : (2000 : Nat) < sizeLine := by decide
 obtain ⟨p, r1, r2⟩ := id hrow
 refine ⟨_, rfl, t, _, _, _, rfl, rfl, r1, at0, p, rfl, ⟨_, r2⟩, fun D hD => ?_⟩
 let Pv1 : Nat → St → List V → Hp → Prop := fun i τ ys H1 => ∃ v : Option V, τ = [v] ∧ ys = ((r.1.map fun x => decide (x = 0)).take i).map V.bl ∧ H1 D = some (.lst ys) ∧ Same H H1
 refine lc_any (n := r.1.length) Pv1 ?_ (fun i τ ys H1 hi h => ?_) (fun i τ ys H1 hi h => ?_) (fun τ ys H1 h => ?_) ?_ ?_
 ·exact ⟨none, rfl, rfl, upd_same, same_new' hD _⟩
 ·obtain ⟨v, rfl, rfl, hE, s1⟩ := h
  exact ⟨hE, by rw [jQ, yX]; lia⟩
 ·obtain ⟨v, rfl, rfl, hE, s1⟩ := h
  exact ⟨_, .int r.1[i], s1.tup r2, by rw [jK, gE hi]; rfl⟩
 ·obtain ⟨v, rfl, rfl, hE, s1⟩ := h
  exact ⟨_, s1.tup r2, by rw [jQ]; exact jJ _⟩
 ·rintro i τ ys H1 x H2 hi ⟨v, rfl, rfl, hE, s1⟩ ⟨rfl, e1⟩
  obtain ⟨z, ez, rfl⟩ := getMapI (e1 _ (s1.tup r2))
  refine ⟨_, rfl, rfl, hE, _, rfl, ?_, upd_same, fun b' o e => ?_⟩
  ·rw [takeS (show (r.1.map fun x => decide (x = 0))[i]? = some (decide (z = 0)) by rw [jK, ez]; rfl), kW]
   have : decide (V.int z = V.int 0) = decide (z = 0) := decide_eq_decide.mpr ⟨V.int.inj, congrArg V.int⟩
   show _ ++ [V.bl (decide (V.int z = V.int 0))] = _
   rw [this]
   rfl
  ·rw [upd_ne (ne_of_none e hD)]; exact s1 _ _ e
 ·rintro τ ys H1 ⟨v, rfl, rfl, hE, s1⟩
  rw [xQ (by rw [jQ]; exact jJ _)] at hE
  refine ⟨D, _, rfl, sqL_new hE, ?_⟩
  have hq := q H1 s1
  unfold brokenR at hq
  have ed : (r.1.map fun x => decide (x = 0)).all id = r.1.all fun x => decide (x = 0) := by rw [List.all_map]; rfl
  rw [ed]
  cases hA : r.1.all fun x => decide (x = 0) with
  | false => rw [hA] at hq; exact ⟨_, rfl, iteF hq⟩
  | true => rw [hA] at hq; exact ⟨_, rfl, iteT ⟨_, rfl, t, _, _, _, rfl, rfl, s1.tup r1, at1, _, _, rfl, rfl, hq⟩⟩
theorem scJudged : FnScope ["problem", "best", "paper", "told"] ["problem", "best", "paper"] (defScope sJudged) := ⟨rfl, rfl, rfl, by decide +kernel, rfl, by decide +kernel, by decide +kernel⟩
theorem okJudged (F : Fn K mg "judged" sJudged) (M : Mg mg) (c_rows_told : Cal P w K mg base 7 "rows_told" ["problem", "best", "paper"] (spRowsTold K)) (c_is_broken : Cal P w K mg base 1 "is_broken" ["row"] (spIsBroken K)) : Cal P w K mg base 8 "judged" ["problem", "best", "paper"] (spJudged K) := by
 refine cal_of F scJudged (fun _ _ _ _ _ _ => bind3 (fun _ _ _ => rfl)) (fun vs H Q E h => ?_) (fun f cdv A outer s H vs Q E hr h => ?_)
 ·obtain ⟨t, p, rs, cs, best, us, ds, rfl, _⟩ := h
  rfl
 obtain ⟨t, p, rs, cs, best, us, ds, rfl, X, q⟩ := h
 refine ⟨_, (pss_cons (ps_set (i := 3) scJudged.nd rfl (Or.inl rfl) (pe_fn c_rows_told (hr.mono (by decide)) (pa_cons (pv 0) (pa_cons (pv 1) (pa_cons (pv 2) pa_nil)))))
  (pss_cons (ps_if (PW.pt (pw_and (pt_cmpR op_eq (pe_callB call_len_seq rfl M.len bt_len (pa_cons (pv 3) pa_nil)) (pe_callB call_len_seq rfl M.len bt_len (pa_cons (pv 2) pa_nil)) (nomark _)) (pw_and (pt_cmpR op_gt (pe_callB call_len_seq rfl M.len bt_len (pa_cons (pv 3) pa_nil)) pe_int (nomark _)) (pw_and1 (pt_val (pe_fn c_is_broken (hr.mono (by decide)) (pa_cons (pe_ix ix_list (pv 3) (pe_un un_neg pe_int) (fun _ _ => rfl)) pa_nil))))))) (pss_one (ps_ret pe_non)) pss_nil)
  (pss_one (ps_ret (pe_callB call_len_seq rfl M.len bt_len (pa_cons (pv 3) pa_nil)))))), ?_⟩
 refine seq_let3 ?_
 intro rT3 rT2
 refine ⟨_, rfl, _, rfl, _, rfl, t, p, rs, cs, best, us, ds, rfl, X, fun l ws H1 _ s1 hl hrw => ?_⟩
 have lw := hrw.length
 obtain ⟨htl, hge, hle⟩ := toldAll_ok (best := best) X.rl ds [] (fun _ z => nomatch z)
 have hq := q
 unfold judgedT at hq
 have hul := X.len
 have hn := X.n
 generalize toldAll rs cs best ds [] = told at *
 have fin : ∀ H2, Same H H2 → ¬ (told.length = ds.length ∧ 0 < told.length ∧ brokenR (told.getLastD ([], 0)) = true) → Q (.int ((ws.length : Nat) : Int)) H2 := by
  intro H2 s2 hc
  have := hq H2 s2
  rw [if_neg hc] at this
  rw [lw]
  exact this
 refine ⟨_, rfl, l, _, rfl, .inl (sqL_new hl), _, rfl, p, _, rfl, .inl (s1.seq X.lst), rfl, _, rfl, ?_⟩
 by_cases h1 : told.length = ds.length
 ·rw [kY (show V.int ((ws.length : Nat) : Int) = V.int ((us.length : Nat) : Int) by rw [lw, hul, h1])]
  refine iteT ⟨_, rfl, l, _, rfl, .inl (sqL_new hl), _, _, rfl, rfl, _, rfl, ?_⟩
  by_cases h2 : 0 < told.length
  ·rw [kY (show (0 : Int) < ((ws.length : Nat) : Int) by lia)]
   obtain ⟨a, r, e1, e2, hr'⟩ := hrw.get (gE (show told.length - 1 < ws.length by lia))
   have hlast : told.getLastD ([], 0) = r := by
    rw [List.getLastD_eq_getLast?, List.getLast?_eq_getElem?, e2]
    rfl
   have ea : atI ws (-1) = some (.ref a) := by
    have : ws[ws.length - 1]? = some (.ref a) := by rw [lw, gE (show told.length - 1 < ws.length by lia), e1]
    unfold atI ixN
    rw [if_neg (by lia), if_pos (by lia)]
    show ws[((-1 : Int) + (ws.length : Int)).toNat]? = _
    rw [show ((-1 : Int) + (ws.length : Int)).toNat = ws.length - 1 by lia]
    exact this
   have hrl := htl r (kX e2)
   refine iteT ⟨_, rfl, _, rfl, l, _, _, _, rfl, rfl, sqL_new hl, ea, a, r, rfl, hr', by lia, fun H2 s2 => ⟨_, rfl, ?_⟩⟩
   cases hb : brokenR r with
   | true =>
    have := hq H2 (s1.trans s2)
    rw [if_pos ⟨h1, h2, by rw [hlast]; exact hb⟩] at this
    exact iteT this
   | false => exact iteF ⟨_, rfl, l, _, rfl, .inl (sqL_new (s2 _ _ hl)), fin H2 (s1.trans s2) fun z => by rw [hlast, hb] at z; exact nomatch z.2.2⟩
  ·rw [yY (show ¬ (0 : Int) < ((ws.length : Nat) : Int) by lia)]
   exact iteF (iteF ⟨_, rfl, l, _, rfl, .inl (sqL_new hl), fin H1 s1 fun z => h2 z.2.1⟩)
 ·rw [yY (fun z => h1 (by have := V.int.inj z; lia))]
  exact iteF (iteF ⟨_, rfl, l, _, rfl, .inl (sqL_new hl), fin H1 s1 fun z => h1 z.1⟩)
end
end Nb
namespace L2
open PySem PySem.Spec PySem.W PyProof.Rows
open PySem.SeqAt
theorem tuple_gtAt (l b : Addr) (items items2 : Array Value) (n n2 : Nat) (dd dd2 : Option Addr) (sl sl2 : Array (Option Value)) (ns ms : List Int) (i1 : IntsAre items.toList ns) (i2 : IntsAre items2.toList ms) :
  Meets (Builtin.«tuple.__gt__» ⟨[.ref l, .ref b], []⟩)
   (fun A R s => s.heap.get? l = some { cls := .type "tuple", dict := dd, data := .seq items n, slots := sl } ∧ s.heap.get? b = some { cls := .type "tuple", dict := dd2, data := .seq items2 n2, slots := sl2 } ∧
    R (.ok (.ret (.bool (decide (ms < ns))))) s) :=
 .of_wp fun prog w A R s h => by
  obtain ⟨hp, g, d, tk, os⟩ := s; obtain ⟨hl, hb, h⟩ := h
  have f2 := AutoSeq1.sub_tuple_tuple
  wp_walk using wpAny_loadPart' hl, wpAny_loadPart' hb, wpAny_forIn_list _ (fun rest b s' => b.1 = none ∧ s' = ⟨hp, g, d, tk, os⟩ ∧ ∃ ys xs ns' ms' c, rest = List.zip ys xs ∧ IntsAre ys ns' ∧ IntsAre xs ms' ∧ ys.length + c = items.size ∧ xs.length + c = items2.size ∧
   R (.ok (.ret (.bool (decide (ms' < ns'))))) ⟨hp, g, d, tk, os⟩) _
  case turn =>
   rintro ⟨y, x⟩ rest b s' ⟨hb', rfl, ys, xs, ns', ms', c, hz, j1, j2, k1, k2, hR⟩
   cases j1 with
   | nil => cases hz
   | cons a t j1 =>
    cases j2 with
    | nil => cases hz
    | cons a' t' j2 =>
     rw [kYa] at hz
     injection hz with hz1 hz2
     injection hz1 with hy hx
     subst hy hx
     rw [cons_lt] at hR
     rw [kK] at k1 k2
     refine jX (EqAt.int_int a t a' t' prog w _ _ ?_)
     by_cases e : a' = a
     ·subst e
      rw [if_pos rfl] at hR
      rw [beq_self_eq_true]
      wp_walk
      exact ⟨rfl, rfl, _, _, _, _, c + 1, hz2, j1, j2, by lia, by lia, hR⟩
     ·rw [if_neg e] at hR
      rw [show (a == a') = false from by simpa using fun z : a = a' => e z.symm]
      wp_walk using (show wpAny (model prog w) _ (richCompare .Gt (.int a t) (.int a' t')) _ _ _ from gt_int ?_)
      exact ⟨_, rfl, hR⟩
  case fin =>
   rintro ⟨b1, b2⟩ s' ⟨hb', rfl, ys, xs, ns', ms', c, hz, j1, j2, k1, k2, hR⟩
   simp only at hb'
   subst hb'
   wp_walk
   refine ⟨_, rfl, ?_⟩
   have e : decide (ms' < ns') = decide (items.size > items2.size) := by
    cases j1 with
    | nil =>
     cases j2 with
     | nil => rw [← k1, ← k2, yY (jYb _)]; rfl
     | cons a t j2 =>
      rw [kK] at k2
      rw [xJ] at k1
      rw [yY (show ¬ items.size > items2.size by lia)]
      exact yY (List.not_lt_nil _)
    | cons a t j1 =>
     cases j2 with
     | nil =>
      rw [kK] at k1
      rw [xJ] at k2
      rw [kY (show items.size > items2.size by lia)]
      exact kY (List.nil_lt_cons _ _)
     | cons a' t' j2 => rw [kYa] at hz; cases hz
   rw [e] at hR
   exact hR
  case h =>
   exact ⟨rfl, rfl, _, _, _, _, 0, rfl, i1, i2, by simp, by simp, h⟩
section
variable {prog : Program} {w : World} {A : Around} {E : Value → Shared → Prop} {s : Shared}
theorem gt_tups {l b : Addr} {items items2 : Array Value} {ns ms : List Int} {Q : Value → Shared → Prop} (hl : s.heap.IsTuple l items) (hb : s.heap.IsTuple b items2) (i1 : IntsAre items.toList ns) (i2 : IntsAre items2.toList ms) (hu : A.units < cLine)
  (h : Q (.bool (decide (ms < ns))) s) : wpAny (model prog w) A (compareOp .Gt (.ref l) (.ref b)) Q E s := by
 obtain ⟨⟨cls, dd, data, sl⟩, ho, hc, n, hd⟩ := id hl
 obtain ⟨⟨cls2, dd2, data2, sl2⟩, ho2, hc2, n2, hd2⟩ := id hb
 simp only at hc hd hc2 hd2
 subst hc hd hc2 hd2
 exact richCompare_meets_room (op := .Gt) ⟨_, ho, rfl⟩ ⟨_, ho2, rfl⟩ F.slot_tuple_gt F.entry_tuple_gt (F.args_tuple_gt_2 _ _) (tuple_gtAt l b items items2 n n2 dd dd2 sl sl2 ns ms i1 i2)
  ⟨ho, ho2, show Value.bool (decide (ms < ns)) ≠ Value.notImplemented ∧ Q (.bool (decide (ms < ns))) s from ⟨(fun x => nomatch x), h⟩⟩ hu
end
section
variable {prog : Program} {w : World} {A : Around} {R : Result → Shared → Prop} {I : Addr} {fp wr : List Addr} {P : Nat → Value → Prop} {St : Nat → Heap → Prop}
end
section
variable {prog : Program} {w : World} {A : Around} {E : Value → Shared → Prop} {s : Shared}
end
section
variable {X : Cx}
end
end L2
namespace L2
open PySem PySem.Spec PySem.W PyProof.Rows
open PySem.SeqAt
def TupIn (h : Heap) (v : Value) (ns : List Int) : Prop := ∃ (a : Addr) (its : Array Value), v = .ref a ∧ h.IsTuple a its ∧ IntsAre its.toList ns
theorem TupIn.ext {h h' : Heap} (k : ∀ b o, h.get? b = some o → h'.get? b = some o) {v : Value} {ns : List Int} (z : TupIn h v ns) : TupIn h' v ns := by
 obtain ⟨a, i, e, t, x⟩ := z; exact ⟨a, i, e, IsTuple_ext k t, x⟩
theorem TupIn.inj {h : Heap} {v : Value} {ns ms : List Int} (h1 : TupIn h v ns) (h2 : TupIn h v ms) : ns = ms := by
 obtain ⟨a, its, rfl, ⟨o, ho, _, n, hd⟩, x3⟩ := h1
 obtain ⟨a', its', e, ⟨o', ho', _, n', hd'⟩, y3⟩ := h2
 cases e
 rw [ho] at ho'; cases ho'
 rw [hd] at hd'
 injection hd' with hd'
 subst hd'
 exact IntsAre_inj x3 y3
section
variable {A : Around} {s : Shared}
theorem eq_tupIn {x y : Value} {ns ms : List Int} (hx : TupIn s.heap x ns) (hy : TupIn s.heap y ms) (hu : A.units < cLine) : EqAt A s x y (decide (ns = ms)) := by
 obtain ⟨a, its, rfl, x1, x2⟩ := hx
 obtain ⟨a', its', rfl, y1, y2⟩ := hy
 exact eq_tups x1 y1 x2 y2 hu
end
section
variable {prog : Program} {w : World} {A : Around} {R : Result → Shared → Prop} {I : Addr} {fp wr : List Addr} {n : Nat} {P : Nat → Value → Prop} {St : Nat → Heap → Prop}
theorem max_loopT (W : Walks prog w A.in1 I fp wr n P St) (bt : Nat → Nat → Bool) (S : Addr) (hSf : S ∉ fp) (h0 : Heap)
  (hcmp : ∀ (s' : Shared) (i j : Nat) (vi vj : Value) (Q : Value → Shared → Prop) (E : Value → Shared → Prop), (∀ b o, b ∉ wr → b ≠ S → h0.get? b = some o → s'.heap.get? b = some o) → P i vi → P j vj → Q (.bool (bt i j)) s' → wpAny (model prog w) A.in1 (richCompare .Gt vi vj) Q E s') :
  ∀ (k j : Nat) (s : Shared) (vb : Value) (c : Nat), n - (j + 1) = k → j + 1 ≤ n → St (j + 1) s.heap → P (argBest bt j) vb →
  (∀ b o, b ∉ wr → b ≠ S → h0.get? b = some o → s.heap.get? b = some o) →
  s.heap.get? S = some { cls := .type "list", dict := none, data := .seq #[vb, vb] c, slots := #[] } →
  (∀ v h' tk, P (argBest bt (n - 1)) v → (∀ b o, b ∉ wr → b ≠ S → s.heap.get? b = some o → h'.get? b = some o) → R (.ok (.ret v)) { s with heap := h', toks := tk }) →
  codeAny (model prog w) A (.builtin "max.loop" ⟨[.ref I, .none, .ref S], []⟩) R s := by
 have hSw : S ∉ wr := fun h => hSf (W.sub _ h)
 have hname : (toString "max" ++ toString ".loop" : String) = "max.loop" := by decide
 intro k
 induction k with
 | zero =>
  intro j s vb c hk hj hst hPb h00 hS hR
  have hin : j + 1 = n := by lia
  refine codeAny_builtin F.entry_max_loop ?_
  rw [Around.under_plainId F.plain_max_loop _]
  show wpAny _ A.in1 (seqItems? (.ref S) >>= _) _ _ s
  refine jX (wpAny_seqItems hS rfl ?_)
  show wpAny _ A.in1 (tryCatch (pyNext (.ref I)) _ >>= _) _ _ s
  refine jX (wpAny_tryCatch (W.done s _ _ (hin ▸ hst) fun h' tk hk' => ?_))
  have hS' := hk' S _ hSw hS
  show wpAny _ A.in1 (updateSeq S (fun _ => #[]) >>= _) _ _ _
  refine jX ?_
  refine wpAny_updateSeq hS' rfl (jX (wpAny_letGo (jW ?_)))
  refine hR vb _ tk (by rw [← hin]; exact hPb) fun b o hbw hbS e => (jQa _ _ (Ne.symm hbS)).trans (hk' b o hbw e)
 | succ k ih =>
  intro j s vb c hk hj hst hPb h00 hS hR
  have hlt : j + 1 < n := by lia
  refine codeAny_builtin F.entry_max_loop ?_
  rw [Around.under_plainId F.plain_max_loop _]
  show wpAny _ A.in1 (seqItems? (.ref S) >>= _) _ _ s
  refine jX (wpAny_seqItems hS rfl ?_)
  show wpAny _ A.in1 (tryCatch (pyNext (.ref I)) _ >>= _) _ _ s
  refine jX (wpAny_tryCatch (W.item (j + 1) s _ _ hlt hst fun v h' tk hP hst' hk' => ?_))
  have hS' := hk' S _ hSw hS
  have h01 : ∀ b o, b ∉ wr → b ≠ S → h0.get? b = some o → h'.get? b = some o := fun b o h1 h2 e => hk' b o h1 (h00 b o h1 h2 e)
  show wpAny _ A.in1 (tryCatch (holding [v, v] (richCompare .Gt v vb >>= _)) _ >>= _) _ _ _
  refine jX (wpAny_tryCatch (wpAny_holding (jX (hcmp _ (j + 1) (argBest bt j) v vb _ _ h01 hP hPb ?_))))
  refine jX (wpAny_holding (wpAny_truthy_bool ?_))
  refine jX (wpAny_letGo (jW ?_))
  cases hb : bt (j + 1) (argBest bt j) with
  | true =>
   simp only [if_true]
   refine jX ?_
   refine wpAny_updateSeq hS' rfl (jX (wpAny_letGo ?_))
   rw [hname]
   refine jW ⟨kXa F.plain_max_loop _, ih (j + 1) _ v _ (by lia) hlt (W.frame _ _ _ hst' fun b hbf o e => ?_) (by simp only [argBest, hb, if_true]; exact hP) (fun b o h1 h2 e => (jQa _ _ (Ne.symm h2)).trans (h01 b o h1 h2 e)) (kQe _ hS' rfl)
    fun v' h'' tk'' hP' hk'' => ?_⟩
   ·exact (jQa _ _ (fun h : S = b => hSf (by rw [h]; exact hbf))).trans e
   ·exact hR v' h'' tk'' hP' fun b o hbw hbS e => hk'' b o hbw hbS ((jQa _ _ (Ne.symm hbS)).trans (hk' b o hbw e))
  | false =>
   simp only [kQa, if_false]
   refine jX (wpAny_letGo ?_)
   rw [hname]
   refine jW ⟨kXa F.plain_max_loop _, ih (j + 1) _ vb c (by lia) hlt hst' (by simp only [argBest, hb, kQa, if_false]; exact hPb) h01 hS' fun v' h'' tk'' hP' hk'' => ?_⟩
   exact hR v' h'' tk'' hP' fun b o hbw hbS e => hk'' b o hbw hbS (hk' b o hbw e)
theorem max_firstT (W : Walks prog w A.in1 I fp wr n P St) (bt : Nat → Nat → Bool) (S : Addr) (hSf : S ∉ fp) {s : Shared} {c : Nat} (hst : St 0 s.heap)
  (hcmp : ∀ (s' : Shared) (i j : Nat) (vi vj : Value) (Q : Value → Shared → Prop) (E : Value → Shared → Prop), (∀ b o, b ∉ wr → b ≠ S → s.heap.get? b = some o → s'.heap.get? b = some o) → P i vi → P j vj → Q (.bool (bt i j)) s' → wpAny (model prog w) A.in1 (richCompare .Gt vi vj) Q E s')
  (hS : s.heap.get? S = some { cls := .type "list", dict := none, data := .seq #[] c, slots := #[] }) (hn : 0 < n)
  (hR : ∀ v h' tk, P (argBest bt (n - 1)) v → (∀ b o, b ∉ wr → b ≠ S → s.heap.get? b = some o → h'.get? b = some o) → R (.ok (.ret v)) { s with heap := h', toks := tk }) :
  codeAny (model prog w) A (.builtin "max.loop" ⟨[.ref I, .none, .ref S], []⟩) R s := by
 have hSw : S ∉ wr := fun h => hSf (W.sub _ h)
 have hname : (toString "max" ++ toString ".loop" : String) = "max.loop" := by decide
 refine codeAny_builtin F.entry_max_loop ?_
 rw [Around.under_plainId F.plain_max_loop _]
 show wpAny _ A.in1 (seqItems? (.ref S) >>= _) _ _ s
 refine jX (wpAny_seqItems hS rfl ?_)
 show wpAny _ A.in1 (tryCatch (pyNext (.ref I)) _ >>= _) _ _ s
 refine jX (wpAny_tryCatch (W.item 0 s _ _ hn hst fun v h' tk hP hst' hk' => ?_))
 have hS' := hk' S _ hSw hS
 show wpAny _ A.in1 (updateSeq S (fun _ => #[v, v]) >>= _) _ _ _
 refine jX ?_
 refine wpAny_updateSeq hS' rfl ?_
 rw [hname]
 have k2 : ∀ b o, b ∉ wr → b ≠ S → s.heap.get? b = some o → (h'.update S (Obj.mapSeq fun _ => #[v, v])).get? b = some o := fun b o hb hbS e => (jQa _ _ (Ne.symm hbS)).trans (hk' b o hb e)
 refine jW ⟨kXa F.plain_max_loop _, max_loopT W bt S hSf s.heap hcmp _ 0 _ v _ rfl hn (W.frame _ _ _ hst' fun b hbf o e => ?_) hP k2 (kQe _ hS' rfl) fun v' h'' tk'' hP' hk'' => ?_⟩
 ·exact (jQa _ _ (fun h : S = b => hSf (by rw [h]; exact hbf))).trans e
 ·exact hR v' h'' tk'' hP' fun b o hbw hbS e => hk'' b o hbw hbS (k2 b o hbw hbS e)
end
section
variable {prog : Program} {w : World} {A : Around} {E : Value → Shared → Prop} {s : Shared} {l : Addr}
theorem max_tupList {its : Array Value} {ps : List (List Int)} {Q : Value → Shared → Prop} (hh : A.handled = none) (hl : s.heap.IsList l its) (hp : Paired (TupIn s.heap) its.toList ps) (hne : 0 < ps.length) (hu : A.units + 3 < cLine)
  (h : ∀ v h' tk, its[argBest (fun i j => decide (ps.getD j [] < ps.getD i [])) (ps.length - 1)]? = some v → (∀ b o, s.heap.get? b = some o → h'.get? b = some o) → Q v { s with heap := h', toks := tk }) :
  wpAny (model prog w) A (call (.builtin "max") [.ref l]) Q E s := by
 have hname : (toString "max" ++ toString ".loop" : String) = "max.loop" := by decide
 have ln : its.size = ps.length := by rw [← Paired.length hp]; simp
 have hlt : l < s.heap.objs.size := by obtain ⟨_, e, _⟩ := hl; exact kJ e
 refine call_function_tree F.kind_max F.plain_max F.entry_max (F.args_max1 _) ?_
 show wpAny _ A.in1 (Builtin.Builtins.bindParams "max" ["key", "default"] 0 ⟨[], []⟩ >>= _) _ _ s
 refine jX (wpAny_of_eq (show Builtin.Builtins.bindParams "max" ["key", "default"] 0 ⟨[], []⟩ = pure [none, none] from rfl) ?_)
 refine jX (jW ?_)
 refine jX (wpAny_pyIter_list hl ?_)
 refine jX (wpAny_newObj_type ?_)
 rw [hname]
 have W := Walks.list (prog := prog) (w := w) (A := A.in1) hh s.heap.objs.size l (zJ hlt) its
 have hsz : (s.heap.push { cls := .type "list_iterator", data := .fields #[.ref l, .int 0 0] }).objs.size = s.heap.objs.size + 1 := jJa ..
 have old : ∀ c o, s.heap.get? c = some o → c ∉ [s.heap.objs.size] ∧ c ≠ (s.heap.push { cls := .type "list_iterator", data := .fields #[.ref l, .int 0 0] }).objs.size ∧ ((s.heap.push { cls := .type "list_iterator", data := .fields #[.ref l, .int 0 0] }).push { cls := .type "list", data := .seq #[] }).get? c = some o := fun c o e => by
  have := kJ e
  refine ⟨fun hm => ?_, fun z => ?_, jZ _ (jZ _ e)⟩
  ·rw [yK.mp hm] at this; exact jYb _ this
  ·rw [z, hsz] at this; exact absurd this (Nat.not_lt.mpr (kYf _))
 refine jW ⟨kXa F.plain_max_loop _, max_firstT (bt := fun i j => decide (ps.getD j [] < ps.getD i [])) (s := { s with heap := (s.heap.push { cls := .type "list_iterator", data := .fields #[.ref l, .int 0 0] }).push { cls := .type "list", data := .seq #[] } }) (c := 0) W (s.heap.push { cls := .type "list_iterator", data := .fields #[.ref l, .int 0 0] }).objs.size ?_ ?_ (fun s' i j vi vj Q' E' k hi hj q => ?_) (yZ _ rfl) (by lia) fun v h' tk hP hk => ?_⟩
 ·intro hm
  rcases zX.mp hm with z | hm
  ·rw [hsz] at z
   exact absurd (show s.heap.objs.size + 1 = s.heap.objs.size from z) (by lia)
  ·have z := yK.mp hm
   rw [hsz] at z
   have z' : s.heap.objs.size + 1 = l := z
   exact absurd hlt (by rw [← z']; exact Nat.not_lt.mpr (kYf _))
 ·exact ⟨⟨_, jZ _ (yZ _ rfl), rfl, rfl⟩, (hl.push _).push _⟩
 ·have ext : ∀ c o, s.heap.get? c = some o → s'.heap.get? c = some o := fun c o e => let ⟨o1, o2, o3⟩ := old c o e; k c o o1 o2 o3
  have hi' : its.toList[i]? = some vi := by rw [Array.getElem?_toList]; exact hi
  have hj' : its.toList[j]? = some vj := by rw [Array.getElem?_toList]; exact hj
  obtain ⟨p1, e1, z1⟩ := Paired.getR hp hi'
  obtain ⟨p2, e2, z2⟩ := Paired.getR hp hj'
  obtain ⟨a, ia, rfl, x1, x2⟩ := z1.ext ext
  obtain ⟨b, ib, rfl, y1, y2⟩ := z2.ext ext
  have q' : Q' (.bool (decide (p2 < p1))) s' := by
   have d1 : ps.getD i [] = p1 := by rw [jY, e1]; rfl
   have d2 : ps.getD j [] = p2 := by rw [jY, e2]; rfl
   rw [← d1, ← d2]; exact q
  exact gt_tups x1 y1 x2 y2 (by show A.units + 1 < cLine; lia) q'
 ·exact h v h' tk (by rw [← ln]; exact hP) fun c o e => let ⟨o1, o2, o3⟩ := old c o e; hk c o o1 o2 o3
end
theorem argBest_tup (ps : List (List Int)) : ∀ k, argBest (fun i j => decide (ps.getD j [] < ps.getD i [])) k ≤ k ∧ ∀ j, j ≤ k → ¬ ps.getD (argBest (fun i j => decide (ps.getD j [] < ps.getD i [])) k) [] < ps.getD j []
 | 0 => ⟨jJ _, fun j hj => by rw [Nat.le_zero.mp hj]; exact kYb _⟩
 | k + 1 => by
  obtain ⟨h1, h2⟩ := argBest_tup ps k
  unfold argBest
  by_cases c : ps.getD (argBest (fun i j => decide (ps.getD j [] < ps.getD i [])) k) [] < ps.getD (k + 1) []
  ·rw [if_pos (kY c)]
   refine ⟨jJ _, fun j hj z => ?_⟩
   rcases Nat.lt_or_ge j (k + 1) with g | g
   ·exact h2 j (by lia) (List.lt_trans c z)
   ·rw [show j = k + 1 by lia] at z; exact kYb _ z
  ·rw [if_neg (fun z => c (yV z))]
   refine ⟨by lia, fun j hj => ?_⟩
   rcases Nat.lt_or_ge j (k + 1) with g | g
   ·exact h2 j (by lia)
   ·rw [show j = k + 1 by lia]; exact c
section
variable {X : Cx}
theorem tupsIn_of {pins : List (Addr × Obj)} {σ : St} {H : Hp} {s : Shared} (I : Inv X pins σ H s) : ∀ {vs : List V} {us : List Value} {ps : List (List Int)}, Vals vs us → Paired (fun v ms => ∃ t, v = V.ref t ∧ SqT X.K H t (ms.map V.int)) vs ps → Paired (TupIn s.heap) us ps := by
 intro vs us ps hv h
 induction h generalizing us with
 | nil => have e := hv.nil_iff.mpr rfl; subst e; exact .nil
 | cons z t ih =>
  obtain ⟨a, rfl, z⟩ := z
  cases hv with
  | cons ru rr =>
   cases ru
   obtain ⟨its, r1, p1, _⟩ := I.tuple z
   exact .cons ⟨a, its.toArray, rfl, p1, intsAre_of r1⟩ (ih rr)
inductive Ccall_maxLT (K : Fg) (xs : List V) (H : Hp) (Q : VK) : Prop
 | mk (a : Addr) (vs : List V) (ps : List (List Int)) (h1 : xs = [.ref a]) (h2 : SqL K H a vs) (h3 : Paired (fun v ms => ∃ t, v = V.ref t ∧ SqT K H t (ms.map V.int)) vs ps) (h4 : ps ≠ []) (h5 : ∀ (i : Nat) (m : List Int) (v : V), vs[i]? = some v → ps[i]? = some m → (∀ x ∈ ps, ¬ m < x) → Q v H)
theorem call_maxLT {K : Fg} (hK : X.K = K) (hc : X.calm = true) (hu : X.A.units + 6 < cLine) : CallR X (.builtin "max") (fun xs H Q => Ccall_maxLT K xs H Q) := by
 subst hK
 intro pins s σ H xs us Q I rv h
 obtain ⟨a, vs, ps, rfl, hq, hp, hne, q⟩ := h
 obtain ⟨u, rfl, ru⟩ := rv.one
 cases ru
 obtain ⟨its, r, p, hz⟩ := I.list hq
 have pr := tupsIn_of I r hp
 have lp : its.length = ps.length := Paired.length pr
 have lv : vs.length = ps.length := Paired.length hp
 have hpos : 0 < ps.length := List.length_pos_iff.mpr hne
 obtain ⟨b1, b2⟩ := argBest_tup ps (ps.length - 1)
 refine max_tupList (I.ok.hd hc) p.isList (by simpa using pr) hpos (by lia) fun v h' tk hv hk => ?_
 generalize argBest (fun i j => decide (ps.getD j [] < ps.getD i [])) (ps.length - 1) = i at b1 b2 hv
 have hi : i < ps.length := by lia
 have hv' : its[i]? = some v := by simpa using hv
 have e1 : vs[i]? = some vs[i] := gE (by lia)
 obtain ⟨v', hv2, rv2⟩ := r.get e1
 rw [hv'] at hv2
 cases hv2
 refine ⟨_, H, I.kept hk, rv2, q i ps[i] _ e1 (gE hi) fun x hx => ?_⟩
 obtain ⟨j, hj, rfl⟩ := jXd.mp hx
 have := b2 j (by lia)
 rw [jY, jY, gE hi, gE hj] at this
 exact this
inductive Cop_notInT (K : Fg) (x : V) (y : V) (H : Hp) (Q : VK) : Prop
 | mk (a p : Addr) (ns : List Int) (vs : List V) (ps : List (List Int)) (h1 : x = .ref a) (h2 : y = .ref p) (h3 : SqT K H a (ns.map V.int)) (h4 : SqL K H p vs) (h5 : Paired (fun v ms => ∃ t, v = V.ref t ∧ SqT K H t (ms.map V.int)) vs ps) (h6 : ∀ c : Bool, (c = true ↔ ns ∈ ps) → Q (.bl (!c)) H)
open Classical in
theorem op_notInT {K : Fg} (hK : X.K = K) (hu : X.A.units + 6 < cLine) : OpR X (compareOp .NotIn) (fun x y H Q => Cop_notInT K x y H Q) := by
 subst hK
 intro pins s σ H x y v u Q I rx ry h
 obtain ⟨a, p, r, vs, rs, rfl, rfl, ra, hq, hr, q⟩ := h
 cases rx
 cases ry
 obtain ⟨its, rv, pl, hz⟩ := I.list hq
 have pr := tupsIn_of I rv hr
 obtain ⟨ia, r1, p1, _⟩ := I.tuple ra
 have rx : TupIn s.heap (.ref a) r := ⟨a, ia.toArray, rfl, p1, intsAre_of r1⟩
 refine notIn_listAt (fun v => decide (TupIn s.heap v r)) pl.isList (fun w hw => ?_) ⟨.bl _, H, I, rfl, q _ ?_⟩
 ·obtain ⟨i, hi, rfl⟩ := jZf (show w ∈ its by simpa using hw)
  obtain ⟨q', e1, e2⟩ := Paired.getR pr (gE hi)
  have : decide (TupIn s.heap its[i] r) = decide (q' = r) := decide_eq_decide.mpr ⟨fun z => e2.inj z, fun z => z ▸ e2⟩
  rw [this]
  exact eq_tupIn e2 rx (by show X.A.units + 1 < cLine; lia)
 ·rw [show its.toArray.any (fun v => decide (TupIn s.heap v r)) = its.any (fun v => decide (TupIn s.heap v r)) by simp, List.any_eq_true]
  constructor
  ·rintro ⟨w, hw, z⟩
   obtain ⟨i, hi, rfl⟩ := jZf hw
   obtain ⟨q', e1, e2⟩ := Paired.getR pr (gE hi)
   rw [← e2.inj (yV z)]
   exact kX e1
  ·intro hm
   obtain ⟨i, hi, e⟩ := jZf hm
   have ln : its.length = rs.length := Paired.length pr
   obtain ⟨q', e1, e2⟩ := Paired.getR pr (gE (show i < its.length by lia))
   rw [gE hi] at e1
   cases e1
   exact ⟨its[i], wZ _, kY (e ▸ e2)⟩
end
section
variable {X : Cx} {tg : Expr}
end
end L2
namespace L2
open PySem PySem.Spec PyProof.Rows PySem.SeqAt
section
variable {X : Cx}
end
end L2
namespace L2
open PySem PySem.Spec PyProof.Rows PySem.SeqAt
section
variable {X : Cx} {pins : List (Addr × Obj)} {σ : St} {H : Hp} {s : Shared}
theorem nil_at {A : Around} {a b : Addr} {xs : List V} (hu : A.units < cLine) (I : Inv X pins σ H s) (h1 : SqL X.K H a xs) (h2 : SqL X.K H b []) : RcAt A s (.ref a) (.ref b) xs.isEmpty ∧ RcNeAt A s (.ref a) (.ref b) (!xs.isEmpty) := by
 obtain ⟨its, r, pt, _⟩ := I.list h1
 obtain ⟨its', r', pt', _⟩ := I.list h2
 have l1 := r.length
 have l2 := r'.length
 cases xs with
 | nil =>
  have e1 : its = [] := zW l1.symm
  have e2 : its' = [] := zW l2.symm
  subst e1 e2
  have key : ∀ j (h1 : j < ([] : List Value).toArray.size) (h2 : j < ([] : List Value).toArray.size), EqAt A.in1 s ([] : List Value).toArray[j] ([] : List Value).toArray[j] ((fun _ => true) j) := fun j h1 _ => absurd h1 (by simp)
  exact ⟨RcAt.lists pt.isList pt'.isList rfl hu key, RcNeAt.lists pt.isList pt'.isList rfl hu key⟩
 | cons x xs =>
  have hne : (its.toArray.size != its'.toArray.size) = true := by
   rw [jV, jV, ← l1, ← l2]
   simp
  exact ⟨RcAt.lists_lengths pt.isList pt'.isList hne hu, RcNeAt.lists_lengths pt.isList pt'.isList hne hu⟩
inductive Cop_neNil (K : Fg) (x : V) (y : V) (H : Hp) (Q : VK) : Prop
 | mk (a b : Addr) (xs : List V) (h1 : x = .ref a) (h2 : y = .ref b) (h3 : SqL K H a xs) (h4 : SqL K H b []) (h5 : Q (.bl (!xs.isEmpty)) H)
theorem op_neNil {K : Fg} {n : Nat} (hK : X.K = K) (hu : X.A.units + n < cLine) : OpR X (compareOp .NotEq) (fun x y H Q => Cop_neNil K x y H Q) := by
 subst hK
 intro pins s σ H x y v u Q I rx ry h
 obtain ⟨a, b, xs, rfl, rfl, h1, h2, q⟩ := h
 cases rx
 cases ry
 exact (nil_at (A := X.A) (by lia) I h1 h2).2 _ _ _ _ ⟨.bl _, H, I, rfl, q⟩
open PySem.MeetsSeq PySem.MeetsSeq2 PySem.MeetsSeq3 in
open AutoSeq1 (wpAny_loadPart') in
open PySem.MeetsSeq PySem.MeetsSeq2 PySem.MeetsSeq3 in
open AutoSeq1 (wpAny_loadPart') in
end
section
variable {X : Cx}
end
end L2
namespace Nb
open PySem L2
abbrev sSum13 : Stmt := top 46
abbrev sKept13 : Stmt := top 47
section
variable {X : Cx}
def HasTs (K : Fg) (H : Hp) (vs : List V) (ds : List Dt) : Prop := vs.length = ds.length ∧ ∀ (i : Nat) v x, vs[i]? = some v → ds[i]? = some x → HasT K H v x
theorem HasTs.same {K : Fg} {H H' : Hp} {vs : List V} {ds : List Dt} (h : HasTs K H vs ds) (e : Same H H') : HasTs K H' vs ds := ⟨h.1, fun i v x a b => (h.2 i v x a b).same e⟩
theorem HasTs.nil {K : Fg} {H : Hp} : HasTs K H [] [] := ⟨rfl, fun i v x e => by simp at e⟩
theorem HasTs.cons {K : Fg} {H : Hp} {v : V} {d : Dt} {vs : List V} {ds : List Dt} (h : HasT K H v d) (t : HasTs K H vs ds) : HasTs K H (v :: vs) (d :: ds) := by
 refine ⟨by rw [kK, kK, t.1], fun i v' x e1 e2 => ?_⟩
 cases i with
 | zero => simp at e1 e2; subst e1 e2; exact h
 | succ i => exact t.2 i v' x (by simpa using e1) (by simpa using e2)
theorem HasTs.append {K : Fg} {H : Hp} {vs ws : List V} {ds es : List Dt} (h : HasTs K H vs ds) (t : HasTs K H ws es) : HasTs K H (vs ++ ws) (ds ++ es) := by
 induction vs generalizing ds with
 | nil =>
  have : ds = [] := zW h.1.symm
  subst this
  exact t
 | cons v vs ih =>
  cases ds with
  | nil => have := h.1; simp at this
  | cons d ds =>
   refine HasTs.cons (h.2 0 v d rfl rfl) (ih ⟨by have := h.1; simpa using this, fun i v x e1 e2 => h.2 (i + 1) v x (by simpa using e1) (by simpa using e2)⟩)
theorem HasTs.ints {K : Fg} {H : Hp} (ns : List Int) : HasTs K H (ns.map V.int) (ns.map Dt.int) := by
 induction ns with
 | nil => exact .nil
 | cons n ns ih => exact .cons (.int n) ih
end
def pts : Nat → List (List Int)
 | 0 => [[]]
 | k + 1 => (pts k).map (fun ms => ms ++ [0]) ++ (pts k).map (fun ms => ms ++ [1])
theorem pts_len : ∀ n, (pts n).length = 2 ^ n
 | 0 => rfl
 | k + 1 => by
  show ((pts k).map _ ++ (pts k).map _).length = _
  rw [kQ, jQ, jQ, pts_len k, Nat.pow_succ]
  lia
theorem pts_of : ∀ {n : Nat} {ms : List Int}, ms ∈ pts n → ms.length = n ∧ ∀ m ∈ ms, m = 0 ∨ m = 1
 | 0, ms, h => by
  have e : ms = [] := yK.mp h
  subst e
  exact ⟨rfl, fun m hm => nomatch hm⟩
 | k + 1, ms, h => by
  have h' : ms ∈ (pts k).map (fun ms => ms ++ [0]) ++ (pts k).map (fun ms => ms ++ [1]) := h
  rcases zV.mp h' with h' | h'
  ·obtain ⟨xs, hx, rfl⟩ := wK.mp h'
   obtain ⟨h1, h2⟩ := pts_of hx
   refine ⟨by rw [kQ, h1]; rfl, fun m hm => ?_⟩
   rcases zV.mp hm with z | z
   ·exact h2 m z
   ·exact .inl (yK.mp z)
  ·obtain ⟨xs, hx, rfl⟩ := wK.mp h'
   obtain ⟨h1, h2⟩ := pts_of hx
   refine ⟨by rw [kQ, h1]; rfl, fun m hm => ?_⟩
   rcases zV.mp hm with z | z
   ·exact h2 m z
   ·exact .inr (yK.mp z)
theorem pts_in : ∀ (n : Nat) (f : Nat → Int), (∀ j, j < n → f j = 0 ∨ f j = 1) → (List.range n).map f ∈ pts n
 | 0, f, _ => yK.mpr rfl
 | k + 1, f, h => by
  have ih := pts_in k f fun j hj => h j (by lia)
  rw [jKe, kW, zZ, jKc]
  show _ ∈ (pts k).map (fun ms => ms ++ [0]) ++ (pts k).map (fun ms => ms ++ [1])
  rcases h k (by lia) with e | e <;> rw [e]
  ·exact jQe _ (wK.mpr ⟨_, ih, rfl⟩)
  ·exact xY _ (wK.mpr ⟨_, ih, rfl⟩)
def TupsAre (K : Fg) (H : Hp) : List V → List (List Int) → Prop := Paired fun v ms => ∃ t, v = .ref t ∧ SqT K H t (ms.map V.int)
theorem TupsAre.imp {K : Fg} {H H' : Hp} {vs : List V} {ps : List (List Int)} (f : ∀ t xs, SqT K H t xs → SqT K H' t xs) (h : TupsAre K H vs ps) : TupsAre K H' vs ps := by
 unfold TupsAre at *
 induction h with
 | nil => exact .nil
 | cons r t ih => obtain ⟨a, e, z⟩ := r; exact .cons ⟨a, e, f _ _ z⟩ ih
theorem TupsAre.same {K : Fg} {H H' : Hp} {vs : List V} {ps : List (List Int)} (e : Same H H') (h : TupsAre K H vs ps) : TupsAre K H' vs ps := h.imp fun _ _ z => e.tup z
theorem TupsAre.upd {K : Fg} {H : Hp} {D : Addr} {ys zs vs : List V} {ps : List (List Int)} (hD : H D = some (.lst ys)) (h : TupsAre K H vs ps) : TupsAre K (upd H D (.lst zs)) vs ps := h.imp fun _ _ z => SqT_upd hD z
theorem TupsAre.app {K : Fg} {H : Hp} {vs ws : List V} {ps qs : List (List Int)} (h1 : TupsAre K H vs ps) (h2 : TupsAre K H ws qs) : TupsAre K H (vs ++ ws) (ps ++ qs) := by
 unfold TupsAre at *
 induction h1 with
 | nil => exact h2
 | cons a b ih => exact .cons a ih
theorem TupsAre.one {K : Fg} {H : Hp} {t : Addr} {ms : List Int} (h : SqT K H t (ms.map V.int)) : TupsAre K H [.ref t] [ms] := .cons ⟨t, rfl, h⟩ .nil
theorem TupsAre.length {K : Fg} {H : Hp} {vs : List V} {ps : List (List Int)} (h : TupsAre K H vs ps) : vs.length = ps.length := Paired.length h
theorem TupsAre.get {K : Fg} {H : Hp} {vs : List V} {ps : List (List Int)} (h : TupsAre K H vs ps) : ∀ {i : Nat} {v : V}, vs[i]? = some v → ∃ t ms, v = .ref t ∧ ps[i]? = some ms ∧ SqT K H t (ms.map V.int) := by
 unfold TupsAre at h
 induction h with
 | nil => intro i v e; simp at e
 | cons q t ih =>
  intro i v e
  cases i with
  | zero => obtain ⟨a, e1, z⟩ := q; simp at e; subst e; exact ⟨a, _, e1, rfl, z⟩
  | succ i => obtain ⟨a, r, e1, e2, z⟩ := ih (i := i) (v := v) (by simpa using e); exact ⟨a, r, e1, by simpa using e2, z⟩
theorem fold_out : ∀ (hs : List (Int × Int)) (d : List (Key × V)) (c : Int), c ∉ hs.map (·.1) → valV ((hs.map fun p => (p.1, V.int p.2)).foldl (fun d p => putK d (Sum.inl p.1) p.2) d) (Sum.inl c) = valV d (Sum.inl c)
 | [], d, c, _ => rfl
 | p :: r, d, c, h => by
  rw [zZ] at h
  have n1 : c ≠ p.1 := fun z => h (by rw [z]; exact zQ)
  have n2 : c ∉ r.map (·.1) := fun z => h (yW _ z)
  rw [zZ, jXf, fold_out r _ c n2, valV_put, if_neg (fun z => n1 (Sum.inl.inj z))]
theorem fold_in : ∀ (hs : List (Int × Int)) (d : List (Key × V)) (c w : Int), (hs.map (·.1)).Nodup → (c, w) ∈ hs → valV ((hs.map fun p => (p.1, V.int p.2)).foldl (fun d p => putK d (Sum.inl p.1) p.2) d) (Sum.inl c) = some (.int w)
 | [], d, c, w, _, h => nomatch h
 | p :: r, d, c, w, nd, h => by
  rw [zZ] at nd
  obtain ⟨nd1, nd2⟩ := jXe.mp nd
  rw [zZ, jXf]
  rcases zX.mp h with e | h
  ·subst e
   rw [fold_out r _ c nd1, valV_put, if_pos rfl]
  ·exact fold_in r _ c w nd2 h
theorem val_out {hs : List (Int × Int)} {c : Int} (h : c ∉ hs.map (·.1)) : valV (dOf hs) (Sum.inl c) = none := fold_out hs [] c h
theorem val_in {hs : List (Int × Int)} {c w : Int} (nd : (hs.map (·.1)).Nodup) (h : (c, w) ∈ hs) : valV (dOf hs) (Sum.inl c) = some (.int w) := fold_in hs [] c w nd h
def dotTo (ns ms : List Int) (i : Nat) : Int := ((List.range i).map fun j => ns.getD j 0 * ms.getD j 0).sum
theorem dotTo_succ (ns ms : List Int) (i : Nat) : dotTo ns ms (i + 1) = dotTo ns ms i + ns.getD i 0 * ms.getD i 0 := by
 unfold dotTo
 rw [jKe, kW, kJc, zZ, jKc, jYd, List.sum_nil]
 lia
theorem getD_at {ns : List Int} {i : Nat} {n : Int} (e : ns[i]? = some n) : ns.getD i 0 = n := by rw [jY, e]; rfl
theorem dot_to {ns ms : List Int} : ∀ (i : Nat), i ≤ ns.length → i ≤ ms.length → ((List.zipWith (· * ·) ns ms).take i).sum = dotTo ns ms i
 | 0, _, _ => rfl
 | i + 1, h1, h2 => by
  have e1 : ns[i]? = some ns[i] := gE (by lia)
  have e2 : ms[i]? = some ms[i] := gE (by lia)
  rw [takeS (getZip e1 e2), kJc, dot_to i (by lia) (by lia), dotTo_succ, getD_at e1, getD_at e2]
  simp
theorem dot_eq {ns ms : List Int} (h : ns.length = ms.length) : dot ns ms = dotTo ns ms ns.length := by
 rw [← dot_to ns.length (jJ _) (by lia), xQ (by rw [jKd]; lia)]
 rfl
theorem mostTo_next (d : List (Key × V)) (ns : List Int) (i : Nat) : mostTo d ns (i + 1) = mostTo d ns i + addOf (valV d (Sum.inl ((i : Nat) : Int))) (ns.getD i 0) := by
 unfold mostTo
 rw [jKe, kW, kJc, zZ, jKc, jYd, List.sum_nil]
 lia
theorem most_ge (d : List (Key × V)) (ns ms : List Int) : ∀ n : Nat, (∀ j, j < n → ns.getD j 0 * ms.getD j 0 ≤ addOf (valV d (Sum.inl ((j : Nat) : Int))) (ns.getD j 0)) → dotTo ns ms n ≤ mostTo d ns n
 | 0, _ => jYc _
 | i + 1, h => by
  rw [dotTo_succ, mostTo_next]
  have := most_ge d ns ms i fun j hj => h j (by lia)
  have := h i (by lia)
  lia
structure HoldsOk (n : Nat) (hs : List (Int × Int)) : Prop where
 nd : (hs.map (·.1)).Nodup
 lt : ∀ p ∈ hs, 0 ≤ p.1 ∧ p.1 < (n : Int)
 w : ∀ p ∈ hs, p.2 = 0 ∨ p.2 = 1
def okP (ms : List Int) (p : Int × Int) : Bool := decide (ms.getD p.1.toNat 0 = p.2)
theorem pt01 {ms : List Int} (h : ∀ m ∈ ms, m = 0 ∨ m = 1) (j : Nat) : ms.getD j 0 = 0 ∨ ms.getD j 0 = 1 := by
 rw [jY]
 cases e : ms[j]? with
 | none => exact .inl rfl
 | some m => exact h m (kX e)
theorem within_le {n : Nat} {hs : List (Int × Int)} {ns ms : List Int} (O : HoldsOk n hs) (hn : ns.length = n) (hm : ms ∈ pts n) (ok : hs.all (okP ms) = true) : dot ns ms ≤ mostTo (dOf hs) ns n := by
 obtain ⟨l1, l2⟩ := pts_of hm
 rw [dot_eq (by lia), hn]
 refine most_ge _ _ _ n fun j hj => ?_
 have h01 := pt01 l2 j
 by_cases hc : ((j : Nat) : Int) ∈ hs.map (·.1)
 ·obtain ⟨p, hp, e⟩ := wK.mp hc
  obtain ⟨c, w⟩ := p
  have e' : c = ((j : Nat) : Int) := e
  subst e'
  rw [val_in O.nd hp]
  have := yV (xV.mp ok _ hp)
  have e2 : ms.getD j 0 = w := by simpa using this
  show _ ≤ w * ns.getD j 0
  rw [e2, Int.mul_comm]
  exact jYc _
 ·rw [val_out hc]
  show _ ≤ if 0 < ns.getD j 0 then ns.getD j 0 else 0
  rcases h01 with z | z <;> rw [z]
  ·rw [kXd]; split <;> lia
  ·rw [Int.mul_one]; split <;> lia
inductive IspPoints (K : Fg) (vs : List V) (H : Hp) (Q : VK) : Prop
 | mk (many : Int) (h1 : vs = [.int many]) (h2 : 0 ≤ many) (h3 : many ≤ 7) (h4 : ∀ (l : Addr) (ws : List V) (H' : Hp), Same H H' → H' l = some (.lst ws) → TupsAre K H' ws (pts many.toNat) → Q (.ref l) H')
def spPoints (K : Fg) : Sp := fun vs H Q _ => IspPoints K vs H Q
theorem pts_small {i : Nat} (h : i ≤ 7) : (pts i).length ≤ 128 := by
 rw [pts_len]
 exact wW (Nat.pow_le_pow_right (by decide) h) (by decide)
theorem TupsAre.sn {K : Fg} {H : Hp} {vs : List V} {ps : List (List Int)} {t : Addr} {ms : List Int} (h1 : TupsAre K H vs ps) (h2 : SqT K H t (ms.map V.int)) : TupsAre K H (vs ++ [.ref t]) (ps ++ [ms]) := h1.app (.one h2)
def ledP (t : List Nat) (ms : List Int) : List Int := t.map fun p => ms.getD p 0
theorem ledP_len {n : Nat} {t : List Nat} (T : IsTurn n t) (ms : List Int) : (ledP t ms).length = n := by unfold ledP; rw [jQ, T.length]
theorem ledP_get {n : Nat} {t : List Nat} (T : IsTurn n t) (ms : List Int) {j : Nat} (hj : j < n) : (ledP t ms).getD j 0 = ms.getD (t.getD j 0) 0 := by
 obtain ⟨e, _⟩ := getT T hj
 unfold ledP
 rw [jY, jK, e]
 rfl
theorem ledP_01 {t : List Nat} {ms : List Int} (h : ∀ m ∈ ms, m = 0 ∨ m = 1) : ∀ m ∈ ledP t ms, m = 0 ∨ m = 1 := fun m hm => by
 obtain ⟨p, _, rfl⟩ := wK.mp hm
 exact pt01 h p
theorem perm_sum {α : Type} (g : α → Int) {xs ys : List α} (h : xs.Perm ys) : (xs.map g).sum = (ys.map g).sum := by
 induction h with
 | nil => rfl
 | cons x _ ih => rw [zZ, zZ, jYd, jYd, ih]
 | swap x y l => simp only [zZ, jYd]; lia
 | trans _ _ h1 h2 => exact h1.trans h2
theorem turn_list {n : Nat} {t : List Nat} (T : IsTurn n t) : (List.range n).map (fun j => t.getD j 0) = t := by
 have := range_get t 0
 rw [T.length] at this
 exact this
theorem turn_sum {n : Nat} {t : List Nat} (T : IsTurn n t) (g : Nat → Int) : ((List.range n).map fun j => g (t.getD j 0)).sum = ((List.range n).map g).sum := by
 have e : (List.range n).map (fun j => g (t.getD j 0)) = t.map g := by
  conv => rhs; rw [← turn_list T]
  rw [List.map_map]
  rfl
 rw [e]
 exact perm_sum g T.perm
theorem sum_congr {n : Nat} {f g : Nat → Int} (h : ∀ j, j < n → f j = g j) : ((List.range n).map f).sum = ((List.range n).map g).sum := by
 rw [List.map_congr_left fun j hj => h j (wX.mp hj)]
theorem dot_led {n : Nat} {t : List Nat} (T : IsTurn n t) {ns ms : List Int} (h1 : ns.length = n) (h2 : ms.length = n) : dot ns (ledP t ms) = dot (put ns t n) ms := by
 rw [dot_eq (by rw [h1, ledP_len T]), dot_eq (by rw [put_len T, h2]), h1, put_len T]
 unfold dotTo
 rw [← turn_sum T fun k => (put ns t n).getD k 0 * ms.getD k 0]
 refine sum_congr fun j hj => ?_
 obtain ⟨e, _⟩ := getT T hj
 rw [ledP_get T ms hj]
 have : (put ns t n).getD (t.getD j 0) 0 = ns.getD j 0 := by rw [jY, put_at T h1 e, ← jY]
 rw [this]
theorem dot_cost {n : Nat} {t : List Nat} (T : IsTurn n t) {cs ms : List Int} (h1 : cs.length = n) (h2 : ms.length = n) (ok : CostOk cs t n) : dot cs (ledP t ms) = dot cs ms := by
 rw [dot_eq (by rw [h1, ledP_len T]), dot_eq (by rw [h1, h2]), h1]
 unfold dotTo
 rw [← turn_sum T fun k => cs.getD k 0 * ms.getD k 0]
 refine sum_congr fun j hj => ?_
 rw [ledP_get T ms hj, ok j hj]
theorem keep_led {n : Nat} {t : List Nat} (T : IsTurn n t) {ms : List Int} (h2 : ms.length = n) {r : Row} (hr : r.1.length = n) : keepB (ledP t ms) r = keepB ms (ledR t n r) := by
 unfold keepB
 rw [dot_led T hr h2]
 rfl
theorem all_led {n : Nat} {t : List Nat} (T : IsTurn n t) {ms : List Int} (h2 : ms.length = n) {rs : List Row} (hr : ∀ r ∈ rs, r.1.length = n) (pm : (rs.map (ledR t n)).Perm rs) : rs.all (keepB (ledP t ms)) = rs.all (keepB ms) := by
 rw [wY, xV, xV]
 constructor
 ·intro h r hr'
  obtain ⟨q, hq, rfl⟩ := wK.mp (pm.mem_iff.mpr hr')
  rw [← keep_led T h2 (hr q hq)]
  exact h q hq
 ·intro h r hr'
  rw [keep_led T h2 (hr r hr')]
  exact h _ (pm.mem_iff.mp (wK.mpr ⟨r, hr', rfl⟩))
def opR (rs : List Rw) (cs : List Int) (best : Option Int) : List Rw := rs ++ (match best with | none => [] | some b => [betterRow cs b])
def keptB (rs : List Rw) (cs : List Int) (best : Option Int) (ms : List Int) : Bool := rs.all (fun r => decide (r.2 ≤ dot r.1 ms)) && (match best with | none => true | some b => decide (dot cs ms < b))
theorem dot_neg (cs ms : List Int) : dot (cs.map fun c => -c) ms = - dot cs ms := by
 unfold dot
 induction cs generalizing ms with
 | nil => rfl
 | cons c r ih =>
  cases ms with
  | nil => rfl
  | cons m t =>
   show -c * m + (List.zipWith (· * ·) (r.map fun c => -c) t).sum = -(c * m + (List.zipWith (· * ·) r t).sum)
   rw [ih, Int.neg_mul]
   lia
theorem kept_iff {rs : List Rw} {cs : List Int} {best : Option Int} {ms : List Int} : keptB rs cs best ms = true ↔ ∀ r ∈ opR rs cs best, r.2 ≤ dot r.1 ms := by
 unfold keptB opR
 rw [xK, xV]
 cases best with
 | none => simp
 | some b =>
  have e : (betterRow cs b).2 ≤ dot (betterRow cs b).1 ms ↔ dot cs ms < b := by
   unfold betterRow
   rw [dot_neg]
   lia
  constructor
  ·rintro ⟨h1, h2⟩ r hr
   rcases zV.mp hr with z | z
   ·exact yV (h1 r z)
   ·rw [yK.mp z]; exact e.mpr (yV h2)
  ·intro h
   exact ⟨fun r hr => kY (h r (jQe _ hr)), kY (e.mp (h _ (xY _ (yK.mpr rfl))))⟩
def Off (H : Hp) (P : Addr) : Hp := fun a => if a = P then none else H a
theorem off_ne {H : Hp} {P a : Addr} (h : a ≠ P) : Off H P a = H a := if_neg h
theorem off_le {H : Hp} {P : Addr} : Same (Off H P) H := fun b o e => by
 by_cases h : b = P
 ·subst h; unfold Off at e; rw [if_pos rfl] at e; cases e
 ·rw [off_ne h] at e; exact e
theorem off_same {H H' : Hp} {P : Addr} (h : Same H H') (hP : H P = none) : Same H (Off H' P) := fun b o e => by
 rw [off_ne (ne_of_none e hP)]; exact h _ _ e
theorem off_mono {H H' : Hp} {P : Addr} (h : Same H H') : Same (Off H P) (Off H' P) := fun b o e => by
 by_cases z : b = P
 ·subst z; unfold Off at e; rw [if_pos rfl] at e; cases e
 ·rw [off_ne z] at e ⊢; exact h _ _ e
theorem off_upd {H : Hp} {P : Addr} {x : HO} : Off (upd H P x) P = Off H P := by
 funext a
 by_cases h : a = P
 ·subst h; unfold Off; rw [if_pos rfl, if_pos rfl]
 ·rw [off_ne h, off_ne h, upd_ne h]
inductive IspKept13 (K : Fg) (vs : List V) (H : Hp) (Q : VK) : Prop
 | mk (t b : Addr) (rs : List Rw) (cs : List Int) (best : Option Int) (ms : List Int) (h1 : vs = [.ref t, bestV best, .ref b]) (h2 : ProbAt K H t rs cs) (h3 : SqT K H b (ms.map V.int)) (h4 : rs.length ≤ 1000) (h5 : (∀ r ∈ rs, r.1.length ≤ 1000)) (h6 : cs.length ≤ 1000) (h7 : (∀ m ∈ ms, m = 0 ∨ m = 1)) (h8 : ∀ H', Same H H' → Q (.bl (keptB rs cs best ms)) H')
def spKept13 (K : Fg) : Sp := fun vs H Q _ => IspKept13 K vs H Q
theorem tupT {K : Fg} {H : Hp} {a : Addr} {vs : List V} {ds : List Dt} (h : SqT K H a vs) (t : HasTs K H vs ds) : HasT K H (.ref a) (.tup ds) := .tup h t.1 t.2
theorem lstT {K : Fg} {H : Hp} {a : Addr} {vs : List V} {ds : List Dt} (h : SqL K H a vs) (t : HasTs K H vs ds) : HasT K H (.ref a) (.lst ds) := .lst h t.1 t.2
theorem kept_false {rs : List Rw} {cs : List Int} {best : Option Int} {ms : List Int} {r : Rw} (hr : r ∈ rs) (h : dot r.1 ms < r.2) : keptB rs cs best ms = false := by
 cases e : keptB rs cs best ms with
 | false => rfl
 | true =>
  have := kept_iff.mp e r (jQe _ hr)
  lia
theorem kept_rows {rs : List Rw} {cs : List Int} {best : Option Int} {ms : List Int} (h : ∀ r ∈ rs, r.2 ≤ dot r.1 ms) : keptB rs cs best ms = (match best with | none => true | some b => decide (dot cs ms < b)) := by
 unfold keptB
 rw [show (rs.all fun r => decide (r.2 ≤ dot r.1 ms)) = true from xV.mpr fun r hr => kY (h r hr), Bool.true_and]
section
variable {P : Program} {w : World} {K : Fg} {mg : Str → Option Value} {base : Heap} {aT aL : Addr} {fT fL : Str → Option Value}
theorem scSum13 : FnScope ["_law_numbers", "_law_point"] ["_law_numbers", "_law_point"] (defScope sSum13) := ⟨rfl, rfl, rfl, by decide +kernel, rfl, by decide +kernel, by decide +kernel⟩
theorem okSum13 (F : Fn K mg "_law_sum" sSum13) (M : Mg mg) : Cal P w K mg base 1 "_law_sum" ["_law_numbers", "_law_point"] (spWeighed K) := by
 refine cal_of F scSum13 (fun _ _ _ _ _ _ => bind2 (fun _ _ => rfl)) (fun vs H Q E h => ?_) (fun f cdv A outer s H vs Q E hr h => ?_)
 ·obtain ⟨a, b, ns, ms, rfl, _⟩ := h
  rfl
 obtain ⟨a, b, ns, ms, rfl, ha, hb, h1, hm, q⟩ := h
 refine ⟨_, (pss_one (ps_ret (pe_callB (call_sumI rfl) rfl M.sum bt_sum (pa_cons (pe_lc ["_law_number", "_law_part"] [none, none] rfl (pi_zip false false rfl M.zip_ (pa_cons (pv 0) (pa_cons (pv 1) pa_nil))) (fun _ _ _ => (pg_pair (K := K) (i := 0) (j := 1) rfl rfl (show (["_law_number", "_law_part"] : List Str).Nodup by decide +kernel) rfl rfl rfl rfl)) (fun _ _ _ => pf_nil) (fun _ _ _ => (pe_op op_mul (pv 0) (pv 1)))) pa_nil)))), ?_⟩
 have hz : (1000 : Nat) < sizeLine := by decide
 have lz : (List.zipWith (· * ·) ns ms).length = min ns.length ms.length := jKd
 refine ⟨_, rfl, _, rfl, a, b, rfl, ⟨_, ha⟩, ⟨_, hb⟩, fun D hD => ?_⟩
 let Pv1 : Nat → St → List V → Hp → Prop := fun i τ ys H1 => ∃ u v : Option V, τ = [u, v] ∧ ys = ((List.zipWith (· * ·) ns ms).take i).map V.int ∧ H1 D = some (.lst ys) ∧ Same H H1
 refine lc_any (n := min ns.length ms.length) Pv1 ?_ (fun i τ ys H1 hi h => ?_) (fun i τ ys H1 hi h => ?_) (fun τ ys H1 h => ?_) ?_ ?_
 ·exact ⟨none, none, rfl, rfl, upd_same, same_new' hD _⟩
 ·obtain ⟨u, v, rfl, rfl, hD1, s1⟩ := h
  exact ⟨hD1, by rw [jQ, yX]; lia⟩
 ·obtain ⟨u, v, rfl, rfl, hD1, s1⟩ := h
  have i1 : i < ns.length := by lia
  have i2 : i < ms.length := by lia
  exact ⟨_, _, .int ns[i], .int ms[i], s1.tup ha, s1.tup hb, by rw [jK, gE i1]; rfl, by rw [jK, gE i2]; rfl⟩
 ·obtain ⟨u, v, rfl, rfl, hD1, s1⟩ := h
  exact ⟨_, _, s1.tup ha, s1.tup hb, by rw [jQ, jQ]; lia⟩
 ·rintro i τ ys H1 x H2 hi ⟨u, v, rfl, rfl, hD1, s1⟩ ⟨T, x1, y1, rfl, hT, rfl, e1, e2⟩
  obtain ⟨n, en, rfl⟩ := getMapI (e1 _ (s1.tup ha))
  obtain ⟨m, em, rfl⟩ := getMapI (e2 _ (s1.tup hb))
  have hm1 := hm m (memI em)
  refine ⟨T, _, rfl, sqT_new upd_same, rfl, _, _, rfl, _, _, rfl, rfl, ?_⟩
  refine ⟨_, rfl, _, rfl, _, _, rfl, rfl, .inr ⟨by lia, by lia⟩, ?_, _, _, rfl, ?_, upd_same, fun b' o e => ?_⟩
  ·rw [upd_ne (ne_of_none hD1 hT)]; exact hD1
  ·rw [takeS (getZip en em), kW]; rfl
  ·rw [upd_ne (ne_of_none e hD), upd_ne (ne_of_none (s1 _ _ e) hT)]; exact s1 _ _ e
 ·rintro τ ys H1 ⟨u, v, rfl, rfl, hD1, s1⟩
  rw [xQ (by lia)] at hD1
  exact ⟨D, _, rfl, sqL_new hD1, q _ s1⟩
theorem scKept13 : FnScope ["_law_problem_here", "_law_best", "_law_point", "_law_numbers", "_law_least"] ["_law_problem_here", "_law_best", "_law_point"] (defScope sKept13) := ⟨rfl, rfl, rfl, by decide +kernel, rfl, by decide +kernel, by decide +kernel⟩
theorem okKept13 (F : Fn K mg "_law_kept" sKept13) (M : Mg mg) (cl_sum : Cal P w K mg base 1 "_law_sum" ["_law_numbers", "_law_point"] (spWeighed K)) : Cal P w K mg base 2 "_law_kept" ["_law_problem_here", "_law_best", "_law_point"] (spKept13 K) := by
 refine cal_of F scKept13 (fun _ _ _ _ _ _ => bind3 (fun _ _ _ => rfl)) (fun vs H Q E h => ?_) (fun f cdv A outer s H vs Q E hr h => ?_)
 ·obtain ⟨t, b, rs, cs, best, ms, rfl, _⟩ := h
  rfl
 obtain ⟨t, b, rs, cs, best, ms, rfl, pr, hb, h1, h2, h3, hm, q⟩ := h
 refine ⟨_, (pss_cons (ps_for PassesOwn.never rfl (pi_list (pe_ix ix_tup (pv 0) pe_int (fun _ _ => rfl))) (pg_pair (K := K) (i := 3) (j := 4) rfl rfl scKept13.nd rfl rfl rfl rfl) (pss_one (ps_if (pt_cmpR op_lt (pe_fn cl_sum (hr.mono (by decide)) (pa_cons (pv 3) (pa_cons (pv 2) pa_nil))) (pv 4) (nomark _)) (pss_one (ps_ret pe_bl)) pss_nil)))
  (pss_one (ps_ret (pe_or (pe_cmpR op_isN (pv 1) pe_non (nomark _)) (pe_one (pe_cmpR op_lt (pe_fn cl_sum (hr.mono (by decide)) (pa_cons (pe_ix ix_tup (pv 0) pe_int (fun _ _ => rfl)) (pa_cons (pv 2) pa_nil))) (pv 1) (nomark _))))))), ?_⟩
 obtain ⟨l, c, vs, ht, hl, hrw, hc⟩ := id pr
 have lv := hrw.length
 let Pv1 : Nat → St → Hp → Prop := fun i σ H1 => (∃ u v : Option V, σ = [some (.ref t), some (bestV best), some (.ref b), u, v]) ∧ (∀ r ∈ rs.take i, r.2 ≤ dot r.1 ms) ∧ Same H H1
 refine ⟨_, rfl, t, _, _, _, rfl, rfl, ht, at0, l, rfl, ⟨_, hl⟩, for_list (K := K) (a := l) (xs := vs) Pv1 ⟨⟨none, none, rfl⟩, (fun r hr' => nomatch hr'), Same.refl _⟩ (fun i σ H1 _ h => h.2.2.seq hl) ?_ ?_⟩
 ·rintro i x σ H1 e1 ⟨⟨u, v, rfl⟩, h0, s1⟩
  obtain ⟨t', r, rfl, er, p, rt1, rt2⟩ := hrw.get e1
  have hr' := kX er
  refine ⟨t', _, rfl, s1.tup rt1, rfl, _, _, rfl, _, _, rfl, rfl, ?_⟩
  refine ⟨_, rfl, _, rfl, p, b, r.1, ms, rfl, s1.tup rt2, s1.tup hb, h2 r hr', hm, fun H2 s2 => ⟨_, rfl, _, _, rfl, rfl, _, rfl, ite2 (fun z => ?_) (fun z => ?_)⟩⟩
  ·have := q H2 (s1.trans s2)
   rw [kept_false hr' (yV z)] at this
   exact this
  ·refine ⟨⟨_, _, rfl⟩, fun r2 hr2 => ?_, s1.trans s2⟩
   rw [takeS er] at hr2
   rcases zV.mp hr2 with y | y
   ·exact h0 r2 y
   ·rw [yK.mp y]
    have : ¬ dot r.1 ms < r.2 := fun w => z (kY w)
    lia
 ·rintro σ H1 ⟨⟨u, v, rfl⟩, h0, s1⟩
  rw [lv, xW] at h0
  have hq := fun H2 s2 => q H2 (s1.trans s2)
  rw [kept_rows h0] at hq
  cases best with
  | none => exact ⟨_, rfl, rfl, _, rfl, iteT (hq H1 (Same.refl _))⟩
  | some bb => exact ⟨_, rfl, rfl, _, rfl, iteF ⟨_, rfl, t, _, _, _, rfl, rfl, s1.tup ht, at1, _, rfl, c, b, cs, ms, rfl, s1.tup hc, s1.tup hb, h3, hm, fun H2 s2 => ⟨_, rfl, _, _, rfl, rfl, hq H2 s2⟩⟩⟩
end
abbrev sHolds12 : Stmt := top 50
abbrev sTurn12 : Stmt := top 51
def Kp (ms : List Int) (r : Rw) : Prop := r.2 ≤ dot r.1 ms
def P01 (n : Nat) (ms : List Int) : Prop := ms.length = n ∧ ∀ m ∈ ms, m = 0 ∨ m = 1
theorem dot_set : ∀ (xs ms : List Int) (c : Nat) (v : Int), c < xs.length → xs.length = ms.length → dot (xs.set c v) ms = dot xs ms + (v - xs.getD c 0) * ms.getD c 0
 | [], _, c, v, h, _ => absurd h (kJa _)
 | x :: xs, [], _, _, _, h => by simp at h
 | x :: xs, m :: ms, 0, v, _, _ => by
  show v * m + dot xs ms = (x * m + dot xs ms) + (v - x) * m
  rw [Int.sub_mul]
  lia
 | x :: xs, m :: ms, c + 1, v, h, hl => by
  show x * m + dot (xs.set c v) ms = (x * m + dot xs ms) + (v - xs.getD c 0) * ms.getD c 0
  rw [dot_set xs ms c v (by simpa using h) (by simpa using hl)]
  lia
theorem dot_zero : ∀ (n : Nat) (ms : List Int), dot (List.replicate n 0) ms = 0
 | 0, _ => rfl
 | n + 1, [] => rfl
 | n + 1, m :: ms => by
  show 0 * m + dot (List.replicate n 0) ms = 0
  rw [dot_zero n ms, kXc]
  rfl
theorem dot_add (k : Int) : ∀ (xs ys ms : List Int), xs.length = ys.length → dot (List.zipWith (fun x y => x + k * y) xs ys) ms = dot xs ms + k * dot ys ms
 | [], [], ms, _ => by show (0 : Int) = 0 + k * 0; rw [kXd]; rfl
 | [], y :: ys, _, h => by simp at h
 | x :: xs, [], _, h => by simp at h
 | x :: xs, y :: ys, [], _ => by show (0 : Int) = 0 + k * 0; rw [kXd]; rfl
 | x :: xs, y :: ys, m :: ms, h => by
  show (x + k * y) * m + dot (List.zipWith (fun x y => x + k * y) xs ys) ms = (x * m + dot xs ms) + k * (y * m + dot ys ms)
  rw [dot_add k xs ys ms (by simpa using h), Int.add_mul, Int.mul_add, Int.mul_assoc]
  lia
theorem kp_add {ms : List Int} {a : Rw} {p : Part} (hl : a.1.length = p.1.1.length) (h1 : Kp ms a) (h2 : Kp ms p.1) (hp : 0 ≤ p.2) : Kp ms (addPart a p) := by
 unfold Kp at *
 show a.2 + p.2 * p.1.2 ≤ dot (List.zipWith (fun x y => x + p.2 * y) a.1 p.1.1) ms
 rw [dot_add _ _ _ _ hl]
 have := Int.mul_le_mul_of_nonneg_left h2 hp
 lia
theorem kp_fold {ms : List Int} {n : Nat} : ∀ (ps : List Part) (a : Rw), a.1.length = n → Kp ms a → (∀ p ∈ ps, p.1.1.length = n ∧ Kp ms p.1 ∧ 0 ≤ p.2) → Kp ms (ps.foldl addPart a)
 | [], a, _, h, _ => h
 | p :: ps, a, hl, h, hp => by
  obtain ⟨p1, p2, p3⟩ := hp p zQ
  refine kp_fold ps (addPart a p) ?_ (kp_add (by rw [hl, p1]) h p2 p3) fun q hq => hp q (yW _ hq)
  show (List.zipWith (fun x y => x + p.2 * y) a.1 p.1.1).length = n
  rw [jKd, hl, p1, Nat.min_self]
theorem kp_sum {ms : List Int} {n : Nat} {ps : List Part} (hp : ∀ p ∈ ps, p.1.1.length = n ∧ Kp ms p.1 ∧ 0 ≤ p.2) : Kp ms (sumRow n ps) :=
 kp_fold ps (List.replicate n 0, 0) (zK ..) (by show (0 : Int) ≤ dot _ ms; rw [dot_zero]; exact jYc _) hp
theorem share_dot {b : Int} (hb : 1 ≤ b) (ms : List Int) : ∀ (xs ys : List Int), (∀ x ∈ xs, x % b = 0) → dot xs ys = b * dot (xs.map fun x => -((-x).fdiv b)) ys
 | [], ys, _ => by show (0 : Int) = b * 0; rw [kXd]
 | x :: xs, [], _ => by show (0 : Int) = b * 0; rw [kXd]
 | x :: xs, y :: ys, h => by
  have e : x = b * (-((-x).fdiv b)) := by
   have h1 := h x zQ
   rw [kXe _ (by lia), Int.neg_ediv_of_dvd (Int.dvd_of_emod_eq_zero h1), Int.neg_neg, Int.mul_ediv_cancel' (Int.dvd_of_emod_eq_zero h1)]
  show x * y + dot xs ys = b * (-((-x).fdiv b) * y + dot (xs.map fun x => -((-x).fdiv b)) ys)
  rw [share_dot hb ms xs ys fun z hz => h z (yW _ hz), Int.mul_add, ← Int.mul_assoc, ← e]
theorem kp_share {ms : List Int} {r : Rw} {b : Int} (hb : 1 ≤ b) (hd : divides r b = true) (h : Kp ms r) : Kp ms (shareRow r b) := by
 have e := share_dot hb ms r.1 ms fun x hx => yV (xV.mp hd x hx)
 unfold Kp at h ⊢
 show -((-r.2).fdiv b) ≤ dot (r.1.map fun x => -((-x).fdiv b)) ms
 rw [e] at h
 generalize dot (r.1.map fun x => -((-x).fdiv b)) ms = D at h ⊢
 rw [kXe _ (by lia)]
 have : -D ≤ -r.2 / b := (Int.le_ediv_iff_mul_le (by lia)).mpr (by rw [Int.neg_mul, Int.mul_comm]; lia)
 lia
def farP (ms : List Int) (p : Int × Int) : Int := (1 - 2 * p.2) * ms.getD p.1.toNat 0 + p.2
theorem shut_dot {ms : List Int} : ∀ (hs : List (Int × Int)) (a : List Int), a.length = ms.length → (∀ p ∈ hs, 0 ≤ p.1 ∧ p.1 < (ms.length : Int) ∧ a.getD p.1.toNat 0 = 0) → (hs.map (·.1)).Nodup →
  dot (hs.foldl (fun a p => a.set p.1.toNat (1 - 2 * p.2)) a) ms + (hs.map (·.2)).sum = dot a ms + (hs.map (farP ms)).sum
 | [], a, _, _, _ => rfl
 | p :: hs, a, hl, h, nd => by
  obtain ⟨p0, p1, p2⟩ := h p zQ
  obtain ⟨n1, n2⟩ := jXe.mp (show (p.1 :: hs.map (·.1)).Nodup from nd)
  have ih := shut_dot (ms := ms) hs (a.set p.1.toNat (1 - 2 * p.2)) (by rw [xZ]; exact hl) (fun q hq => by
   obtain ⟨q0, q1, q2⟩ := h q (yW _ hq)
   refine ⟨q0, q1, ?_⟩
   have ne : p.1.toNat ≠ q.1.toNat := fun z => n1 (by rw [show p.1 = q.1 by lia]; exact wK.mpr ⟨q, hq, rfl⟩)
   rw [jY, jKb ne, ← jY]
   exact q2) n2
  rw [dot_set a ms p.1.toNat _ (by lia) hl, p2] at ih
  rw [jXf, zZ, jYd, zZ, jYd]
  unfold farP at ih ⊢
  rw [Int.sub_zero] at ih
  lia
theorem shutLeast_is : ∀ (hs : List (Int × Int)) (z : Int), hs.foldl (fun z p => z - p.2) z = z - (hs.map (·.2)).sum
 | [], z => by show z = z - 0; lia
 | p :: r, z => by rw [jXf, shutLeast_is r, zZ, jYd]; lia
theorem sum_ge {f : Int × Int → Int} : ∀ (hs : List (Int × Int)), (∀ p ∈ hs, 0 ≤ f p) → 0 ≤ (hs.map f).sum ∧ ∀ p ∈ hs, f p ≤ (hs.map f).sum
 | [], _ => ⟨jYc _, (fun p hp => nomatch hp)⟩
 | q :: r, h => by
  obtain ⟨i1, i2⟩ := sum_ge r fun p hp => h p (yW _ hp)
  have hq := h q zQ
  rw [zZ, jYd]
  refine ⟨by lia, fun p hp => ?_⟩
  rcases zX.mp hp with z | z
  ·subst z; lia
  ·have := i2 p z; lia
theorem kp_shut {n : Nat} {ms : List Int} (hm : P01 n ms) (hin : ms ∈ pts n) {r : Rw} (hr : r.1.length = n) {hs : List (Int × Int)} (O : HoldsOk n hs) (h : Kp ms r) (hb : mostR r hs < r.2) : Kp ms (shutRow n hs) := by
 have e := shut_dot (ms := ms) hs (List.replicate n 0) (by rw [zK, hm.1]) (fun p hp => ⟨(O.lt p hp).1, by rw [hm.1]; exact (O.lt p hp).2, by rw [jY, kQb]; split <;> rfl⟩) O.nd
 rw [dot_zero] at e
 show shutLeast hs ≤ dot (shutNums n hs) ms
 unfold shutLeast shutNums
 rw [shutLeast_is]
 have far : ∀ p ∈ hs, 0 ≤ farP ms p ∧ (farP ms p < 1 → ms.getD p.1.toNat 0 = p.2) := fun p hp => by
  unfold farP
  rcases O.w p hp with z | z <;> rw [z] <;> rcases pt01 hm.2 p.1.toNat with y | y <;> rw [y] <;> lia
 obtain ⟨s0, s1⟩ := sum_ge (f := farP ms) hs fun p hp => (far p hp).1
 by_cases c : 1 ≤ (hs.map (farP ms)).sum
 ·lia
 ·exfalso
  have ok : hs.all (okP ms) = true := xV.mpr fun p hp => kY ((far p hp).2 (by have := s1 p hp; lia))
  have := within_le O hr hin ok
  unfold Kp at h
  unfold mostR at hb
  rw [hr] at hb
  lia
theorem kp_either {n c : Nat} {ms : List Int} (hm : P01 n ms) {one other : Rw} (h1 : one.1.length = n) (h2 : other.1.length = n) (hc : c < n) (k1 : Kp ms one) (k2 : Kp ms other) (he : withoutN one.1 c = withoutN other.1 c) : Kp ms (eitherRow one other c) := by
 have w : ∀ xs : List Int, xs.length = n → dot (withoutN xs c) ms = dot xs ms - xs.getD c 0 * ms.getD c 0 := fun xs hx => by
  have : withoutN xs c = xs.set c 0 := by
   unfold withoutN
   rw [List.set_eq_take_append_cons_drop, if_pos (by lia)]
   simp
  rw [this, dot_set xs ms c 0 (by lia) (by rw [hx, hm.1]), Int.zero_sub, Int.neg_mul]
  rfl
 have e1 := w one.1 h1
 have e2 := w other.1 h2
 rw [← he] at e2
 unfold Kp at *
 show (if other.2 < one.2 - one.1.getD c 0 then other.2 else one.2 - one.1.getD c 0) ≤ dot (withoutN one.1 c) ms
 rcases pt01 hm.2 c with z | z
 ·rw [z, kXd] at e2
  split <;> lia
 ·rw [z, Int.mul_one] at e1
  split <;> lia
def vl : List Int → Int
 | [] => 0
 | x :: xs => x * 2 ^ xs.length + vl xs
theorem vl_lt : ∀ {xs : List Int}, (∀ m ∈ xs, m = 0 ∨ m = 1) → 0 ≤ vl xs ∧ vl xs < 2 ^ xs.length
 | [], _ => ⟨jYc _, by decide⟩
 | x :: xs, h => by
  obtain ⟨i1, i2⟩ := vl_lt (xs := xs) fun m hm => h m (yW _ hm)
  rw [kK, Int.pow_succ]
  show 0 ≤ x * 2 ^ xs.length + vl xs ∧ x * 2 ^ xs.length + vl xs < _
  rcases h x zQ with z | z <;> subst z
  ·rw [kXc]; lia
  ·rw [Int.one_mul]; lia
theorem vl_iff : ∀ {xs ys : List Int}, xs.length = ys.length → (∀ m ∈ xs, m = 0 ∨ m = 1) → (∀ m ∈ ys, m = 0 ∨ m = 1) → (xs < ys ↔ vl xs < vl ys)
 | [], [], _, _, _ => ⟨fun h => absurd h (kYb _), fun h => absurd h (Int.lt_irrefl _)⟩
 | [], y :: ys, h, _, _ => by simp at h
 | x :: xs, [], h, _, _ => by simp at h
 | x :: xs, y :: ys, h, hx, hy => by
  have hl : xs.length = ys.length := by simpa using h
  have ih := vl_iff hl (fun m hm => hx m (yW _ hm)) (fun m hm => hy m (yW _ hm))
  obtain ⟨a1, a2⟩ := vl_lt (xs := xs) fun m hm => hx m (yW _ hm)
  obtain ⟨b1, b2⟩ := vl_lt (xs := ys) fun m hm => hy m (yW _ hm)
  have c := L2.cons_lt (a := x) (b := y) (as := xs) (bs := ys)
  have c' : (x :: xs < y :: ys) ↔ (if x = y then xs < ys else x < y) := by
   by_cases e : x = y
   ·rw [if_pos e] at c ⊢; exact ⟨fun z => yV (c ▸ kY z), fun z => yV (c.symm ▸ kY z)⟩
   ·rw [if_neg e] at c ⊢; exact ⟨fun z => yV (c ▸ kY z), fun z => yV (c.symm ▸ kY z)⟩
  rw [c']
  show _ ↔ x * 2 ^ xs.length + vl xs < y * 2 ^ ys.length + vl ys
  rw [hl] at a2 ⊢
  rcases hx x zQ with z | z <;> rcases hy y zQ with w | w <;> subst z <;> subst w
  ·rw [if_pos rfl, ih]; lia
  ·rw [if_neg (by decide), kXc, Int.one_mul]; lia
  ·rw [if_neg (by decide), kXc, Int.one_mul]; lia
  ·rw [if_pos rfl, ih]; lia
theorem vl_drop {n : Nat} {xs : List Int} (hx : xs.length = n) {k : Nat} (hk : k < n) : vl (xs.drop (n - (k + 1))) = xs.getD (n - 1 - k) 0 * 2 ^ k + vl (xs.drop (n - k)) := by
 have hc : n - (k + 1) < xs.length := by lia
 rw [List.drop_eq_getElem_cons hc]
 show _ * 2 ^ (xs.drop (n - (k + 1) + 1)).length + vl (xs.drop (n - (k + 1) + 1)) = _
 rw [show n - (k + 1) + 1 = n - k by lia, jYe, show xs.length - (n - k) = k by lia, show n - 1 - k = n - (k + 1) by lia, jY, gE hc]
 rfl
theorem like_dot {n : Nat} {t : List Nat} (T : IsTurn n t) {ms : List Int} (hm : ms.length = n) : ∀ k, k ≤ n → (likeTo t k).2 = 2 ^ k ∧ dot (likeTo t k).1 ms = vl (ms.drop (n - k)) - vl ((ledP t ms).drop (n - k))
 | 0, _ => by
  refine ⟨rfl, ?_⟩
  rw [Nat.sub_zero, kZd (by lia), kZd (by rw [ledP_len T]; exact jJ _)]
  show dot (List.replicate t.length 0) ms = 0 - 0
  rw [dot_zero]
  rfl
 | k + 1, hk => by
  obtain ⟨i1, i2⟩ := like_dot T hm k (by lia)
  have tl := T.length
  have hc : n - 1 - k < n := by lia
  obtain ⟨g1, g2⟩ := getT T hc
  have ll := likeTo_len t k
  rw [likeTo_succ, tl]
  unfold likeStep
  refine ⟨by show (likeTo t k).2 * 2 = _; rw [i1, Int.pow_succ], ?_⟩
  show dot (((likeTo t k).1.set (n - 1 - k) ((likeTo t k).1.getD (n - 1 - k) 0 + (likeTo t k).2)).set (t.getD (n - 1 - k) 0) _) ms = _
  rw [dot_set _ ms _ _ (by rw [xZ, ll, tl]; exact g2) (by rw [xZ, ll, tl, hm]), dot_set _ ms _ _ (by rw [ll, tl]; exact hc) (by rw [ll, tl, hm]), i1, i2, vl_drop hm (by lia), vl_drop (ledP_len T ms) (by lia), ledP_get T ms hc]
  generalize ((likeTo t k).1.set (n - 1 - k) ((likeTo t k).1.getD (n - 1 - k) 0 + 2 ^ k)).getD (t.getD (n - 1 - k) 0) 0 = A
  rw [show (likeTo t k).1.getD (n - 1 - k) 0 + 2 ^ k - (likeTo t k).1.getD (n - 1 - k) 0 = 2 ^ k by lia, show A - 2 ^ k - A = -(2 ^ k) by lia, Int.neg_mul, Int.mul_comm (2 ^ k), Int.mul_comm (2 ^ k)]
  lia
theorem kp_like {n : Nat} {t : List Nat} (T : IsTurn n t) {ms : List Int} (hm : P01 n ms) (h : ¬ ms < ledP t ms) : Kp ms (likeRow t) := by
 have e := (like_dot T hm.1 n (jJ _)).2
 rw [Nat.sub_self, kYc, kYc] at e
 show (0 : Int) ≤ dot (likeTo t t.length).1 ms
 rw [T.length, e]
 have : ¬ vl ms < vl (ledP t ms) := fun z => h ((vl_iff (by rw [hm.1, ledP_len T]) hm.2 (ledP_01 hm.2)).mpr z)
 lia
theorem pts_mem {n : Nat} {ms : List Int} (h : P01 n ms) : ms ∈ pts n := by
 have := pts_in n (fun j => ms.getD j 0) fun j _ => pt01 h.2 j
 rw [← h.1, range_get ms 0] at this
 rw [← h.1]
 exact this
theorem kept_led {rs : List Rw} {cs : List Int} {best : Option Int} {t : List Nat} (T : IsTurn cs.length t) (hrl : ∀ r ∈ rs, r.1.length = cs.length) (hk : KeepsT rs cs t cs.length) {ms : List Int} (hm : ms.length = cs.length) : keptB rs cs best (ledP t ms) = keptB rs cs best ms := by
 have e1 : (rs.all fun r => decide (r.2 ≤ dot r.1 (ledP t ms))) = rs.all fun r => decide (r.2 ≤ dot r.1 ms) := all_led T hm hrl hk.2
 unfold keptB
 rw [e1, dot_cost T rfl hm hk.1]
def likeOf (n : Nat) : Dt → Option (List Nat)
 | .tup [.str w, x] => if w = "like" then turnT n x else none
 | _ => none
theorem turn_is {n : Nat} {d : Dt} {t : List Nat} (h : turnT n d = some t) : IsTurn n t := by
 obtain ⟨xs, rfl⟩ := turnT_inv h
 obtain ⟨e, h1, h2⟩ := isTurn_of h
 refine ⟨nodup_perm_range (fun k hk => ?_) h1 h2⟩
 obtain ⟨x, _, ex⟩ := allT_mem e k hk
 exact (numT_some ex).2
theorem rowK_mem {rs : List Rw} {k : Nat} (h : k < rs.length) : rowK rs k ∈ rs := by
 unfold rowK
 rw [jY, gE h]
 exact wZ h
theorem holds_ok {n : Nat} {d : Dt} {hs : List (Int × Int)} (h : holdsT n d = some hs) : HoldsOk n hs := by
 obtain ⟨xs, rfl⟩ := holdsT_inv h
 obtain ⟨e, nd⟩ := holds_of h
 have key : ∀ p ∈ hs, 0 ≤ p.1 ∧ p.1 < (n : Int) ∧ (p.2 = 0 ∨ p.2 = 1) := fun p hp => by
  obtain ⟨d, _, ed⟩ := allT_mem e p hp
  obtain ⟨_, _, _, _, _, a, b, c⟩ := holdT_some ed
  exact ⟨a, b, c⟩
 exact ⟨nd, fun p hp => ⟨(key p hp).1, (key p hp).2.1⟩, fun p hp => (key p hp).2.2⟩
theorem sound_tell {rs : List Rw} {cs : List Int} {best : Option Int} {told : List Rw} {w : Str} {xs : List Dt} {r : Rw} {g : List Int} (hrl : ∀ r ∈ rs, r.1.length = cs.length) (htl : ∀ r ∈ told, r.1.length = cs.length)
  (hg : P01 cs.length g) (hk : keptB rs cs best g = true) (ht : ∀ r ∈ told, Kp g r) (hlk : ∀ a x t, w = "like" → xs = [a, x] → turnT cs.length x = some t → ¬ g < ledP t g) (h : tellBy w rs cs best told xs = some r) : Kp g r := by
 have hop := kept_iff.mp hk
 unfold tellBy at h
 by_cases w1 : w = "given"
 ·rw [if_pos w1] at h
  unfold tGiven at h
  split at h
  ·obtain ⟨k, e, rfl⟩ := yJ.mp h
   exact hop _ (jQe _ (rowK_mem (numT_some e).2))
  ·cases h
 rw [if_neg w1] at h
 by_cases w2 : w = "low"
 ·rw [if_pos w2] at h
  unfold tLow at h
  split at h
  ·obtain ⟨c, e, rfl⟩ := yJ.mp h
   have hc := (numT_some e).2
   show (0 : Int) ≤ dot ((List.replicate cs.length 0).set c 1) g
   rw [dot_set _ g c 1 (by rw [zK]; exact hc) (by rw [zK, hg.1]), dot_zero, show (List.replicate cs.length (0 : Int)).getD c 0 = 0 by rw [jY, kQb]; split <;> rfl]
   rcases pt01 hg.2 c with z | z <;> rw [z] <;> decide
  ·cases h
 rw [if_neg w2] at h
 by_cases w3 : w = "high"
 ·rw [if_pos w3] at h
  unfold tHigh at h
  split at h
  ·obtain ⟨c, e, rfl⟩ := yJ.mp h
   have hc := (numT_some e).2
   show (-1 : Int) ≤ dot ((List.replicate cs.length 0).set c (-1)) g
   rw [dot_set _ g c (-1) (by rw [zK]; exact hc) (by rw [zK, hg.1]), dot_zero, show (List.replicate cs.length (0 : Int)).getD c 0 = 0 by rw [jY, kQb]; split <;> rfl]
   rcases pt01 hg.2 c with z | z <;> rw [z] <;> decide
  ·cases h
 rw [if_neg w3] at h
 by_cases w4 : w = "better"
 ·rw [if_pos w4] at h
  unfold tBetter at h
  split at h
  ·obtain ⟨b, e, rfl⟩ := yJ.mp h
   rw [e] at hop
   exact hop _ (xY _ (yK.mpr rfl))
  ·cases h
 rw [if_neg w4] at h
 by_cases w5 : w = "sum"
 ·rw [if_pos w5] at h
  unfold tSum at h
  split at h
  ·unfold sumD at h
   split at h
   ·obtain ⟨qs, e, rfl⟩ := yJ.mp h
    refine kp_sum fun p hp => ?_
    obtain ⟨q, hq, rfl⟩ := wK.mp (show p ∈ qs.map fun p => (rowK told p.1, p.2) from hp)
    obtain ⟨d, _, ed⟩ := allT_mem e q hq
    obtain ⟨_, a, b⟩ := partT_some ed
    exact ⟨htl _ (rowK_mem a), ht _ (rowK_mem a), b⟩
   ·cases h
  ·cases h
 rw [if_neg w5] at h
 by_cases w6 : w = "share"
 ·rw [if_pos w6] at h
  unfold tShare at h
  split at h
  ·unfold shareD at h
   split at h
   ·split at h
    ·rename_i hb
     obtain ⟨k, e, h2⟩ := zY.mp h
     have hk' := (numT_some e).2
     split at h2
     ·rename_i hd
      cases h2
      exact kp_share hb hd (ht _ (rowK_mem hk'))
     ·cases h2
    ·cases h
   ·cases h
  ·cases h
 rw [if_neg w6] at h
 by_cases w7 : w = "shut"
 ·rw [if_pos w7] at h
  unfold tShut at h
  split at h
  ·obtain ⟨k, e, h2⟩ := zY.mp h
   obtain ⟨hs, e2, h3⟩ := zY.mp h2
   have hk' := (numT_some e).2
   split at h3
   ·rename_i hb
    cases h3
    exact kp_shut hg (pts_mem hg) (htl _ (rowK_mem hk')) (holds_ok e2) (ht _ (rowK_mem hk')) hb
   ·cases h3
  ·cases h
 rw [if_neg w7] at h
 by_cases w8 : w = "either"
 ·rw [if_pos w8] at h
  unfold tEither at h
  split at h
  ·obtain ⟨i, e, h2⟩ := zY.mp h
   obtain ⟨j, e2, h3⟩ := zY.mp h2
   obtain ⟨c, e3, h4⟩ := zY.mp h3
   have hi := (numT_some e).2
   have hj := (numT_some e2).2
   split at h4
   ·rename_i hw
    cases h4
    exact kp_either hg (htl _ (rowK_mem hi)) (htl _ (rowK_mem hj)) (numT_some e3).2 (ht _ (rowK_mem hi)) (ht _ (rowK_mem hj)) hw
   ·cases h4
  ·cases h
 rw [if_neg w8] at h
 by_cases w9 : w = "like"
 ·rw [if_pos w9] at h
  unfold tLike at h
  split at h
  ·obtain ⟨t, e, h2⟩ := zY.mp h
   split at h2
   ·cases h2
    exact kp_like (turn_is e) hg (hlk _ _ t w9 rfl e)
   ·cases h2
  ·cases h
 rw [if_neg w9] at h
 cases h
theorem sound_row {rs : List Rw} {cs : List Int} {best : Option Int} {told : List Rw} {d : Dt} {r : Rw} {g : List Int} (hrl : ∀ r ∈ rs, r.1.length = cs.length) (htl : ∀ r ∈ told, r.1.length = cs.length)
  (hg : P01 cs.length g) (hk : keptB rs cs best g = true) (ht : ∀ r ∈ told, Kp g r) (hlk : ∀ t, likeOf cs.length d = some t → ¬ g < ledP t g) (h : rowT rs cs best told d = some r) : Kp g r := by
 unfold rowT at h
 split at h
 ·rename_i w xs
  split at h
  ·refine sound_tell hrl htl hg hk ht (fun a x t e1 e2 e3 => hlk t ?_) h
   injection e2 with e4 e5
   subst e1 e5
   show (if ("like" : Str) = "like" then turnT cs.length x else none) = some t
   rw [if_pos rfl]
   exact e3
  ·cases h
 ·cases h
theorem sound_all {rs : List Rw} {cs : List Int} {best : Option Int} {g : List Int} (hrl : ∀ r ∈ rs, r.1.length = cs.length) (hg : P01 cs.length g) (hk : keptB rs cs best g = true) :
  ∀ (ds : List Dt) (acc : List Rw), (∀ r ∈ acc, r.1.length = cs.length) → (∀ r ∈ acc, Kp g r) → (∀ (i : Nat) d t, ds[i]? = some d → acc.length + i < (toldAll rs cs best ds acc).length → likeOf cs.length d = some t → ¬ g < ledP t g) → ∀ r ∈ toldAll rs cs best ds acc, Kp g r
 | [], acc, _, h, _ => h
 | d :: ds, acc, hl, h, hlk => by
  cases e : rowT rs cs best acc d with
  | none => rw [toldAll_none e]; exact h
  | some row =>
   rw [toldAll_some e] at hlk ⊢
   have hrow := rowT_len hrl hl e
   have hlen : ∀ r ∈ acc ++ [row], r.1.length = cs.length := fun r hr => by
    rcases zV.mp hr with z | z
    ·exact hl r z
    ·rw [yK.mp z]; exact hrow
   obtain ⟨_, o2, _⟩ := toldAll_ok (best := best) hrl ds (acc ++ [row]) hlen
   rw [kQ] at o2
   have o3 : acc.length + 1 ≤ (toldAll rs cs best ds (acc ++ [row])).length := o2
   have kr := sound_row hrl hl hg hk h (fun t ht => hlk 0 d t rfl (by lia) ht) e
   refine sound_all hrl hg hk ds (acc ++ [row]) hlen (fun r hr => ?_) fun i d' t e1 e2 e3 => hlk (i + 1) d' t (by rw [List.getElem?_cons_succ]; exact e1) (by rw [kQ] at e2; simp only [kK, xJ] at e2; lia) e3
   rcases zV.mp hr with z | z
   ·exact h r z
   ·rw [yK.mp z]; exact kr
theorem told_pre {rs : List Rw} {cs : List Int} {best : Option Int} : ∀ (ds : List Dt) (acc : List Rw) (i : Nat) (d : Dt), ds[i]? = some d → acc.length + i < (toldAll rs cs best ds acc).length → ∃ pre r, rowT rs cs best pre d = some r
 | [], acc, i, d, h, _ => by simp at h
 | d0 :: ds, acc, i, d, h, hl => by
  cases e : rowT rs cs best acc d0 with
  | none => rw [toldAll_none e] at hl; lia
  | some row =>
   rw [toldAll_some e] at hl
   cases i with
   | zero => cases h; exact ⟨acc, row, e⟩
   | succ i => exact told_pre ds (acc ++ [row]) i d (by rw [List.getElem?_cons_succ] at h; exact h) (by rw [kQ]; simp only [kK, xJ]; lia)
theorem told_likes {rs : List Rw} {cs : List Int} {best : Option Int} {pre : List Rw} {xs : List Dt} {r : Rw} (h : rowT rs cs best pre (.tup (.str "like" :: xs)) = some r) : ∃ x t, xs = [x] ∧ turnT cs.length x = some t ∧ IsTurn cs.length t ∧ KeepsT rs cs t cs.length := by
 have h' : (if lenW "like" = some (xs.length + 1) then tellBy "like" rs cs best pre (.str "like" :: xs) else none) = some r := h
 have hl : lenW "like" = some 2 := rfl
 rw [hl] at h'
 split at h'
 ·rename_i e
  have e1 : xs.length = 1 := by injection e with e; lia
  match xs, e1, h' with
  | [x], _, h' =>
   have h2 : ((turnT cs.length x).bind fun t => @ite _ (KeepsT rs cs t cs.length) (Classical.propDecidable _) (some (likeRow t)) none) = some r := h'
   obtain ⟨t, et, h3⟩ := zY.mp h2
   split at h3
   ·rename_i hk
    exact ⟨x, t, rfl, et, turn_is et, hk⟩
   ·cases h3
 ·cases h'
structure Grt (rs : List Rw) (cs : List Int) (best : Option Int) (ts : List (List Nat)) (g : List Int) : Prop where
 p : P01 cs.length g
 k : keptB rs cs best g = true
 t : ∀ t ∈ ts, ¬ g < ledP t g
theorem great_ex {rs : List Rw} {cs : List Int} {best : Option Int} {ts : List (List Nat)} (hrl : ∀ r ∈ rs, r.1.length = cs.length) (hts : ∀ t ∈ ts, IsTurn cs.length t ∧ KeepsT rs cs t cs.length) :
  ∀ (m : Nat) (p : List Int), ((2 : Int) ^ cs.length - vl p).toNat = m → P01 cs.length p → keptB rs cs best p = true → ∃ g, Grt rs cs best ts g := by
 intro m
 induction m using Nat.strongRecOn with
 | ind m ih =>
  intro p hm hp hk
  by_cases c : ∃ t ∈ ts, p < ledP t p
  ·obtain ⟨t, ht, hlt⟩ := c
   obtain ⟨T, hkt⟩ := hts t ht
   have h1 : P01 cs.length (ledP t p) := ⟨ledP_len T p, ledP_01 hp.2⟩
   have h2 := (vl_iff (by rw [hp.1, h1.1]) hp.2 h1.2).mp hlt
   have h3 := (vl_lt h1.2).2
   rw [h1.1] at h3
   exact ih _ (by lia) (ledP t p) rfl h1 (by rw [kept_led T hrl hkt hp.1]; exact hk)
  ·exact ⟨p, hp, hk, fun t ht z => c ⟨t, ht, z⟩⟩
theorem likes_of {n : Nat} {d : Dt} {t : List Nat} (h : likeOf n d = some t) : ∃ x, d = .tup [.str "like", x] ∧ turnT n x = some t := by
 unfold likeOf at h
 split at h
 ·rename_i w x
  split at h
  ·rename_i e
   subst e
   exact ⟨x, rfl, h⟩
  ·cases h
 ·cases h
def LikesIn (rs : List Rw) (cs : List Int) (best : Option Int) (ds : List Dt) (ts : List (List Nat)) : Prop := ∀ (i : Nat) d t, ds[i]? = some d → i < (toldAll rs cs best ds []).length → likeOf cs.length d = some t → t ∈ ts
theorem sound {rs : List Rw} {cs : List Int} {best : Option Int} {ds : List Dt} {ts : List (List Nat)} {g : List Int} (hrl : ∀ r ∈ rs, r.1.length = cs.length) (hl : LikesIn rs cs best ds ts) (hg : Grt rs cs best ts g) : ∀ r ∈ toldAll rs cs best ds [], Kp g r :=
 sound_all hrl hg.p hg.k ds [] (fun _ h => nomatch h) (fun _ h => nomatch h) fun i d t e1 e2 e3 => hg.t t (hl i d t e1 (by simpa using e2) e3)
theorem dot_zeros : ∀ (xs ms : List Int), (∀ x ∈ xs, x = 0) → dot xs ms = 0
 | [], _, _ => rfl
 | x :: xs, [], _ => rfl
 | x :: xs, m :: ms, h => by
  show x * m + dot xs ms = 0
  rw [dot_zeros xs ms fun z hz => h z (yW _ hz), h x zQ, kXc]
  rfl
theorem judged_none {rs : List Rw} {cs : List Int} {best : Option Int} {ds : List Dt} (hrl : ∀ r ∈ rs, r.1.length = cs.length) (h : judgedT rs cs best ds = none) : (pts cs.length).filter (keptB rs cs best) = [] := by
 refine List.filter_eq_nil_iff.mpr fun p hp hk => ?_
 have h' : (if (toldAll rs cs best ds []).length = ds.length ∧ 0 < (toldAll rs cs best ds []).length ∧ brokenR ((toldAll rs cs best ds []).getLastD ([], 0)) = true then none else some (toldAll rs cs best ds []).length) = none := h
 split at h'
 ·rename_i hh
  obtain ⟨_, h2, h3⟩ := hh
  obtain ⟨ts, hts⟩ : ∃ ts : List (List Nat), ts = ((ds.take (toldAll rs cs best ds []).length).filterMap (likeOf cs.length)) := ⟨_, rfl⟩
  have hin : LikesIn rs cs best ds ts := fun i d t e1 e2 e3 => by
   rw [hts]
   exact jJc.mpr ⟨d, kX (by rw [jXb e2]; exact e1), e3⟩
  have hok : ∀ t ∈ ts, IsTurn cs.length t ∧ KeepsT rs cs t cs.length := fun t ht => by
   rw [hts] at ht
   obtain ⟨d, hd, e⟩ := jJc.mp ht
   obtain ⟨i, hi, rfl⟩ := jXd.mp hd
   rw [yX] at hi
   obtain ⟨x, ex, et⟩ := likes_of e
   rw [List.getElem_take] at ex
   obtain ⟨pre, r, er⟩ := told_pre (rs := rs) (cs := cs) (best := best) ds [] i _ (gE (by lia)) (by simp only [xJ]; lia)
   rw [ex] at er
   obtain ⟨x', t', e1, e2, e3, e4⟩ := told_likes er
   injection e1 with e1
   subst e1
   rw [et] at e2
   cases e2
   exact ⟨e3, e4⟩
  obtain ⟨g, hg⟩ := great_ex hrl hok _ p rfl (pts_of hp) hk
  have hlast : (toldAll rs cs best ds []).getLastD ([], 0) ∈ toldAll rs cs best ds [] := by
   generalize toldAll rs cs best ds [] = l at h2
   match l, h2 with
   | x :: l, _ => rw [List.getLastD_cons]; exact List.getLastD_mem_cons
  have := sound hrl hin hg _ hlast
  unfold brokenR at h3
  rw [xK] at h3
  unfold Kp at this
  rw [dot_zeros _ g fun x hx => yV (xV.mp h3.1 x hx)] at this
  have := yV h3.2
  lia
 ·cases h'
def LineD (d : Dt) : Prop := ∃ w xs, d = .tup (.str w :: xs)
inductive IspHolds12 (K : Fg) (vs : List V) (H : Hp) (Q : VK) : Prop
 | mk (z : Int) (n : Nat) (P : Addr) (o : HO) (h1 : vs = [.int z, .int (n : Int)]) (h2 : n ≤ 5) (h3 : H P = some o) (h4 : ∀ (p : Addr) (d : Dt) (H' : Hp), Same H H' → HasT K (Off H' P) (.ref p) d → Sm d → Q (.ref p) H')
def spHolds12 (K : Fg) : Sp := fun vs H Q _ => IspHolds12 K vs H Q
inductive IspLine12 (K : Fg) (vs : List V) (H : Hp) (Q : VK) : Prop
 | mk (l : Addr) (ds : List Int) (at_ cnt : Int) (n m : Nat) (P : Addr) (o : HO) (h1 : vs = [.ref l, .int at_, .int cnt, .int (n : Int), .int (m : Int)]) (h2 : H P = some o) (h3 : Dr K H l ds) (h4 : 0 ≤ at_) (h5 : at_ + 5 < (ds.length : Int)) (h6 : 0 ≤ cnt) (h7 : cnt ≤ 1000) (h8 : n ≤ 5) (h9 : m ≤ 10) (h10 : ∀ (a : Addr) (d : Dt) (H' : Hp), Same H H' → HasT K (Off H' P) (.ref a) d → Sm d → LineD d → Q (.ref a) H')
def spLine12 (K : Fg) : Sp := fun vs H Q _ => IspLine12 K vs H Q
inductive IspPaper12 (K : Fg) (vs : List V) (H : Hp) (Q : VK) : Prop
 | mk (l t : Addr) (ds : List Int) (rs : List Rw) (cs : List Int) (best : Option Int) (h1 : vs = [.ref l, .ref t, bestV best]) (h2 : Dr K H l ds) (h3 : ds.length = 300) (h4 : ProbAt K H t rs cs) (h5 : (∀ r ∈ rs, r.1.length = cs.length)) (h6 : cs.length ≤ 5) (h7 : rs.length ≤ 10) (h8 : ∀ (P : Addr) (us : List V) (ls : List Dt) (H' : Hp), Same H H' → H' P = some (.lst us) → HasTs K H' us ls → (∀ d ∈ ls, Sm d ∧ LineD d) → ls.length ≤ 30 → Q (.ref P) H')
def spPaper12 (K : Fg) : Sp := fun vs H Q _ => IspPaper12 K vs H Q
def TurnsAre (K : Fg) (H : Hp) : List V → List (List Nat) → Prop := Paired fun v t => ∃ a, v = .ref a ∧ SqL K H a ((tI t).map V.int)
theorem TurnsAre.same {K : Fg} {H H' : Hp} {vs : List V} {ts : List (List Nat)} (e : Same H H') (h : TurnsAre K H vs ts) : TurnsAre K H' vs ts := by
 unfold TurnsAre at *
 induction h with
 | nil => exact .nil
 | cons r t ih => obtain ⟨a, e1, z⟩ := r; exact .cons ⟨a, e1, e.seq z⟩ ih
theorem TurnsAre.get {K : Fg} {H : Hp} {vs : List V} {ts : List (List Nat)} (h : TurnsAre K H vs ts) {i : Nat} {v : V} (e : vs[i]? = some v) : ∃ a t, v = .ref a ∧ ts[i]? = some t ∧ SqL K H a ((tI t).map V.int) := by
 obtain ⟨t, e1, a, e2, z⟩ := Paired.getR h e
 exact ⟨a, t, e2, e1, z⟩
inductive IspGreat12 (K : Fg) (vs : List V) (H : Hp) (Q : VK) : Prop
 | mk (pl tl : Addr) (ws xs : List V) (ps : List (List Int)) (ts : List (List Nat)) (n : Nat) (Kq : List Int → Prop) (h1 : vs = [.ref pl, .ref tl]) (h2 : SqL K H pl ws) (h3 : TupsAre K H ws ps) (h4 : SqL K H tl xs) (h5 : TurnsAre K H xs ts) (h6 : n ≤ 5) (h7 : (∀ t ∈ ts, IsTurn n t)) (h8 : ps.length ≤ 128) (h9 : (∀ ms, Kq ms → P01 n ms)) (h10 : (∀ t ∈ ts, ∀ ms, Kq ms → Kq (ledP t ms))) (h11 : (∀ ms ∈ ps, Kq ms)) (h12 : ∀ (g : Addr) (gv : List V) (gs : List (List Int)) (H' : Hp), Same H H' → H' g = some (.lst gv) → TupsAre K H' gv gs → (∀ x ∈ gs, Kq x ∧ ∀ t ∈ ts, ¬ x < ledP t x) → Q (.ref g) H')
def spGreat12 (K : Fg) : Sp := fun vs H Q _ => IspGreat12 K vs H Q
theorem fresh_ne {H Hx : Hp} {P a : Addr} {o : HO} (s : Same H Hx) (h : H P = some o) (f : Hx a = none) : a ≠ P := fun z => by subst z; rw [s _ _ h] at f; cases f
theorem tupO {K : Fg} {H : Hp} {a P : Addr} {vs : List V} {ds : List Dt} (na : a ≠ P) (h : HasTs K (Off (upd H a (.tup vs)) P) vs ds) : HasT K (Off (upd H a (.tup vs)) P) (.ref a) (.tup ds) := tupT (sqT_new (by rw [off_ne na]; exact upd_same)) h
theorem off_upd_ne {H : Hp} {P a : Addr} {x : HO} (na : a ≠ P) : Off (upd H a x) P = upd (Off H P) a x := by
 funext b
 by_cases h : b = P
 ·subst h; rw [upd_ne (Ne.symm na)]; unfold Off; rw [if_pos rfl, if_pos rfl]
 ·rw [off_ne h]
  by_cases e : b = a
  ·subst e; rw [upd_same, upd_same]
  ·rw [upd_ne e, upd_ne e, off_ne h]
def holdDt (p : Int × Int) : Dt := .tup [.int p.1, .int p.2]
theorem holdsD {K : Fg} {H : Hp} {a : Addr} {vs : List V} {hs : List (Int × Int)} (ha : SqL K H a vs) (h : PairsAre K H vs (hs.map fun p => (p.1, V.int p.2))) : HasT K H (.ref a) (.lst (hs.map holdDt)) := by
 have lh := h.length
 rw [jQ] at lh
 refine .lst ha (by rw [jQ, lh]) fun i v x e1 e2 => ?_
 obtain ⟨T, pr, rfl, ep, hT⟩ := h.get e1
 rw [jK] at ep e2
 obtain ⟨p, ec, rfl⟩ := yJ.mp ep
 rw [ec] at e2
 cases e2
 exact .tup hT rfl fun j v x e1 e2 => by
  match j, e1, e2 with
  | 0, e1, e2 => cases e1; cases e2; exact .int _
  | 1, e1, e2 => cases e1; cases e2; exact .int _
theorem dm {z M : Int} (h0 : 0 ≤ z) (h1 : z < 2147483648) (hM : 0 < M) : 0 ≤ z % M ∧ z % M < 2147483648 := ⟨jZc _ (by lia), by
 by_cases c : z < M
 ·rw [Int.emod_eq_of_lt h0 c]; exact h1
 ·have := jXa z hM; lia⟩
theorem sm31 {z : Int} (h : 0 ≤ z ∧ z < 2147483648) : Sm (.int z) := .int _ (by lia) (by lia)
theorem sm_cons {d : Dt} {ds : List Dt} (h : Sm d) (t : ∀ x ∈ ds, Sm x) : ∀ x ∈ d :: ds, Sm x := fun x hx => by
 rcases zX.mp hx with z | z
 ·rw [z]; exact h
 ·exact t x z
theorem sm_nil : ∀ x ∈ ([] : List Dt), Sm x := fun _ h => nomatch h
theorem nodup_sub {α : Type} [DecidableEq α] : ∀ (ys xs : List α), xs.Nodup → (∀ x ∈ xs, x ∈ ys) → xs.length ≤ ys.length
 | [], xs, _, h => by
  cases xs with
  | nil => exact jJ _
  | cons x _ => exact nomatch h x zQ
 | y :: ys, xs, nd, h => by
  have ih := nodup_sub ys (xs.erase y) (nd.erase y) fun x hx => by
   have hx' := (List.Nodup.mem_erase_iff nd).mp hx
   rcases zX.mp (h x hx'.2) with z | z
   ·exact absurd z hx'.1
   ·exact z
  rw [List.length_erase] at ih
  rw [kK]
  split at ih <;> lia
section
variable {P : Program} {w : World} {K : Fg} {mg : Str → Option Value} {base : Heap} {aT aL : Addr} {fT fL : Str → Option Value}
theorem scHolds12 : FnScope ["_law_number", "_law_many", "_law_found", "_law_k"] ["_law_number", "_law_many"] (defScope sHolds12) := ⟨rfl, rfl, rfl, by decide +kernel, rfl, by decide +kernel, by decide +kernel⟩
theorem okHolds12 (F : Fn K mg "_law_holds" sHolds12) (M : Mg mg) : Cal P w K mg base 1 "_law_holds" ["_law_number", "_law_many"] (spHolds12 K) := by
 refine cal_of F scHolds12 (fun _ _ _ _ _ _ => bind2 (fun _ _ => rfl)) (fun vs H Q E h => ?_) (fun f cdv A outer s H vs Q E hr h => ?_)
 ·obtain ⟨z, n, P, o, rfl, _⟩ := h
  rfl
 obtain ⟨z, n, P, o, rfl, hn, hPo, q⟩ := h
 refine ⟨_, (pss_cons (ps_set (i := 2) scHolds12.nd rfl (Or.inl rfl) (pe_lst pa_nil))
  (pss_cons (ps_for PassesOwn.never rfl (pi_range1 rfl M.range_ (pa_cons (pv 1) pa_nil)) (pg_name (i := 3) scHolds12.nd rfl (Or.inl rfl) (Or.inl rfl)) (pss_cons (ps_if (pt_cmpR op_lt (pe_op op_mod (pv 0) pe_int) pe_int (nomark _)) (pss_one (ps_expr (pe_bm PySem.F.plainAttrs_list PySem.F.slot_list_append PySem.F.type_list_append mt_append (pv 2) (pa_cons (pe_tup (pa_cons (pv 3) (pa_cons (pe_op op_mod (pv 0) pe_int) pa_nil))) pa_nil)))) pss_nil)
  (pss_one (ps_set (i := 0) scHolds12.nd rfl (Or.inl rfl) (pe_op op_fdiv (pv 0) pe_int)))))
  (pss_one (ps_ret (pv 2))))), ?_⟩
 refine seq_let3 ?_
 intro rT3 rT2
 have hz : (1000 : Nat) < sizeLine := by decide
 refine ⟨by show 0 ≤ sizeLine; decide, fun p hp => ?_⟩
 have np : p ≠ P := fresh_ne (Same.refl H) hPo hp
 let Pv1 : Nat → St → Hp → Prop := fun i σ H1 => ∃ (z : Int) (us : List V) (hs : List (Int × Int)) (v : Option V), σ = [some (.int z), some (.int (n : Int)), some (.ref p), v] ∧ PairsAre K (Off H1 P) us (hs.map fun p => (p.1, V.int p.2)) ∧ (∀ h ∈ hs, Sm (holdDt h)) ∧ hs.length ≤ i ∧ H1 p = some (.lst us) ∧ Same H H1
 refine ⟨_, rfl, (n : Int), rfl, by lia, by lia, for_range (lo := 0) (n := ((n : Nat) : Int).toNat) Pv1 ⟨z, [], [], none, rfl, .nil, (fun h hh => nomatch hh), jJ _, upd_same, same_new' hp _⟩ ?_ ?_⟩
 ·rintro i σ H1 hi ⟨z, us, hs, v, rfl, hT, hm, hl, hp1, s1⟩
  show tSeq _ _ _ _ _
  refine seq_cut (fun σ' H' => ∃ (us : List V) (hs : List (Int × Int)), σ' = [some (.int z), some (.int (n : Int)), some (.ref p), some (.int (0 + (i : Int)))] ∧ PairsAre K (Off H' P) us (hs.map fun p => (p.1, V.int p.2)) ∧ (∀ h ∈ hs, Sm (holdDt h)) ∧ hs.length ≤ i + 1 ∧ H' p = some (.lst us) ∧ Same H H') ?_ fun REST => ?_
  ·rintro σ' H' ⟨us, hs, rfl, hT, hm, hl, hp1, s1⟩
   exact ⟨_, rfl, _, _, rfl, rfl, ⟨by decide, by decide⟩, _, us, hs, _, rfl, hT, hm, hl, hp1, s1⟩
  ·refine ⟨_, rfl, _, _, rfl, rfl, (by show (0 : Int) < _; decide +kernel), _, _, rfl, rfl, _, rfl, ite2 (fun c => ?_) (fun c => REST _ _ ⟨us, hs, rfl, hT, hm, by lia, hp1, s1⟩)⟩
   refine ⟨_, rfl, .inl ⟨rfl, _, sqL_new hp1⟩, _, rfl, _, rfl, _, _, rfl, rfl, (by show (0 : Int) < _; decide +kernel), by show 2 ≤ sizeLine; decide, fun T hT' => ?_⟩
   have nT : T ≠ P := fresh_ne s1 hPo hT'
   have s2 := same_new' hT' (.tup [.int (0 + (i : Int)), .int (z % 3)])
   have lu := hT.length
   rw [jQ] at lu
   have hp2 := s2 _ _ hp1
   refine ⟨p, _, _, rfl, rfl, hp2, by lia, REST _ _ ⟨us ++ [.ref T], hs ++ [(0 + (i : Int), z % 3)], rfl, ?_, ?_, by rw [kQ]; simp only [kK, xJ]; lia, upd_same, fun b o e => ?_⟩⟩
   ·rw [off_upd_ne np, kW]
    refine PairsAre.upd (ys := us) (by rw [off_ne np]; exact hp2) (pairs_app (PairsAre.same (off_mono s2) hT) (pairs_one (sqT_new (by rw [off_ne nT]; exact upd_same))))
   ·intro d hd
    rcases zV.mp hd with y | y
    ·exact hm d y
    ·rw [yK.mp y]
     exact .tup _ (sm_cons (sm31 ⟨by show 0 ≤ 0 + (i : Int); lia, by show 0 + (i : Int) < _; lia⟩) (sm_cons (sm31 ⟨by show 0 ≤ z % 3; lia, by show z % 3 < _; lia⟩) sm_nil))
   ·rw [upd_ne (ne_of_none e hp)]; exact s2 _ _ (s1 _ _ e)
 ·rintro σ H1 ⟨z, us, hs, v, rfl, hT, hm, hl, hp1, s1⟩
  refine ⟨_, rfl, q p (.lst (hs.map holdDt)) H1 s1 (holdsD (sqL_new (by rw [off_ne np]; exact hp1)) hT) (.lst _ (by rw [jQ]; lia) fun x hx => ?_)⟩
  obtain ⟨y, hy, rfl⟩ := wK.mp hx
  exact hm y hy
theorem scTurn12 : FnScope ["_law_number", "_law_many", "_law_found", "_law_k"] ["_law_number", "_law_many"] (defScope sTurn12) := ⟨rfl, rfl, rfl, by decide +kernel, rfl, by decide +kernel, by decide +kernel⟩
theorem okTurn12 (F : Fn K mg "_law_turn" sTurn12) (M : Mg mg) : Cal P w K mg base 1 "_law_turn" ["_law_number", "_law_many"] (spHolds12 K) := by
 refine cal_of F scTurn12 (fun _ _ _ _ _ _ => bind2 (fun _ _ => rfl)) (fun vs H Q E h => ?_) (fun f cdv A outer s H vs Q E hr h => ?_)
 ·obtain ⟨z, n, P, o, rfl, _⟩ := h
  rfl
 obtain ⟨z, n, P, o, rfl, hn, hPo, q⟩ := h
 refine ⟨_, (pss_cons (ps_set (i := 2) scTurn12.nd rfl (Or.inl rfl) (pe_lst pa_nil))
  (pss_cons (ps_for PassesOwn.never rfl (pi_range1 rfl M.range_ (pa_cons (pv 1) pa_nil)) (pg_name (i := 3) scTurn12.nd rfl (Or.inl rfl) (Or.inl rfl)) (pss_cons (ps_expr (pe_bm PySem.F.plainAttrs_list PySem.F.slot_list_insert PySem.F.type_list_insert mt_insert (pv 2) (pa_cons (pe_op op_mod (pv 0) (pe_op op_add (pv 3) pe_int)) (pa_cons (pv 3) pa_nil))))
  (pss_one (ps_set (i := 0) scTurn12.nd rfl (Or.inl rfl) (pe_op op_fdivG (pv 0) (pe_op op_add (pv 3) pe_int))))))
  (pss_one (ps_ret (pv 2))))), ?_⟩
 refine seq_let3 ?_
 intro rT3 rT2
 have hz : (1000 : Nat) < sizeLine := by decide
 refine ⟨by show 0 ≤ sizeLine; decide, fun p hp => ?_⟩
 let Pv1 : Nat → St → Hp → Prop := fun i σ H1 => ∃ (z : Int) (t : List Int) (v : Option V), σ = [some (.int z), some (.int (n : Int)), some (.ref p), v] ∧ (∀ x ∈ t, 0 ≤ x ∧ x < 2147483648) ∧ t.length = i ∧ H1 p = some (.lst (t.map V.int)) ∧ Same H H1
 refine ⟨_, rfl, (n : Int), rfl, by lia, by lia, for_range (lo := 0) (n := ((n : Nat) : Int).toNat) Pv1 ⟨z, [], none, rfl, (fun x hx => nomatch hx), rfl, upd_same, same_new' hp _⟩ ?_ ?_⟩
 ·rintro i σ H1 hi ⟨z, t, v, rfl, T, lt, hp1, s1⟩
  have pz : (0 : Int) < 0 + (i : Int) + 1 := by lia
  have n0 := jZc z (Int.ne_of_gt pz)
  have n1 := jXa z pz
  have big : Big (0 + (i : Int) + 1) := wV (show (0 + (i : Int) + 1).natAbs ≤ 100 by lia) (by decide +kernel)
  refine ⟨_, rfl, .inl ⟨rfl, _, sqL_new hp1⟩, _, rfl, _, rfl, _, _, rfl, rfl, _, _, rfl, rfl, pz, _, rfl, p, _, _, _, rfl, rfl, hp1, n0, by rw [jQ]; lia, by rw [jQ]; lia, ?_⟩
  refine ⟨_, rfl, _, rfl, _, _, rfl, rfl, _, _, rfl, rfl, ⟨by lia, big⟩, _, t.take (z % (0 + (i : Int) + 1)).toNat ++ (0 + (i : Int)) :: t.drop (z % (0 + (i : Int) + 1)).toNat, _, rfl, fun x hx => ?_, ?_, ?_, fun b o e => ?_⟩
  ·rcases zV.mp hx with y | y
   ·exact T x (kJe y)
   ·rcases zX.mp y with y | y
    ·lia
    ·exact T x (List.mem_of_mem_drop y)
  ·rw [kQ, kK, yX, jYe]; lia
  ·rw [upd_same]
   unfold insV
   rw [kW, zZ, List.map_take, List.map_drop]
  ·rw [upd_ne (ne_of_none e hp)]; exact s1 _ _ e
 ·rintro σ H1 ⟨z, t, v, rfl, T, lt, hp1, s1⟩
  refine ⟨_, rfl, q p (.lst (t.map .int)) H1 s1 (lstT (sqL_new (by rw [off_ne (fresh_ne (Same.refl H) hPo hp)]; exact hp1)) (HasTs.ints t)) (.lst _ (by rw [jQ]; lia) fun x hx => ?_)⟩
  obtain ⟨y, hy, rfl⟩ := wK.mp hx
  exact sm31 (T y hy)
end
abbrev sPoints : Stmt := top 45
section
variable {P : Program} {w : World} {K : Fg} {mg : Str → Option Value} {base : Heap} {aT aL : Addr} {fT fL : Str → Option Value}
theorem scPoints : FnScope ["_law_many", "_law_found", "_law_k"] ["_law_many"] (defScope sPoints) := ⟨rfl, rfl, rfl, by decide +kernel, rfl, by decide +kernel, by decide +kernel⟩
theorem okPoints (F : Fn K mg "_law_points" sPoints) (M : Mg mg) : Cal P w K mg base 1 "_law_points" ["_law_many"] (spPoints K) := by
 refine cal_of F scPoints (fun _ _ _ _ _ _ => bind1 (fun _ => rfl)) (fun vs H Q E h => ?_) (fun f cdv A outer s H vs Q E hr h => ?_)
 ·obtain ⟨many, rfl, _⟩ := h
  rfl
 obtain ⟨many, rfl, h0, h1, q⟩ := h
 refine ⟨_, (pss_cons (ps_set (i := 1) scPoints.nd rfl (Or.inl rfl) (pe_lst (pa_cons (pe_tup pa_nil) pa_nil)))
  (pss_cons (ps_for PassesOwn.never rfl (pi_range1 rfl M.range_ (pa_cons (pv 0) pa_nil)) (pg_name (i := 2) scPoints.nd rfl (Or.inl rfl) (Or.inl rfl)) (pss_one (ps_set (i := 1) scPoints.nd rfl (Or.inl rfl) (pe_op op_cat (pe_lc ["_law_point"] [none] rfl (pi_list (pv 1)) (fun _ _ _ => (pg_name (i := 0) (show (["_law_point"] : List Str).Nodup by decide +kernel) rfl (Or.inl rfl) (Or.inr rfl))) (fun _ _ _ => pf_nil) (fun _ _ _ => (pe_op (op_catGK (K := K) rfl) (pv 0) (pe_tup (pa_cons pe_int pa_nil))))) (pe_lc ["_law_point"] [none] rfl (pi_list (pv 1)) (fun _ _ _ => (pg_name (i := 0) (show (["_law_point"] : List Str).Nodup by decide +kernel) rfl (Or.inl rfl) (Or.inr rfl))) (fun _ _ _ => pf_nil) (fun _ _ _ => (pe_op (op_catGK (K := K) rfl) (pv 0) (pe_tup (pa_cons pe_int pa_nil)))))))))
  (pss_one (ps_ret (pv 1))))), ?_⟩
 refine seq_let3 ?_
 intro rT3 rT2
 have hz : (1000 : Nat) < sizeLine := by decide
 refine ⟨by show 0 ≤ sizeLine; decide, fun p0 hp0 => ⟨by show 1 ≤ sizeLine; decide, fun g0 hg0 => ?_⟩⟩
 have s0 : Same H (upd (upd H p0 (.tup [])) g0 (.lst [.ref p0])) := (same_new' hp0 _).trans (same_new' hg0 _)
 let Pv1 : Nat → St → Hp → Prop := fun i σ H1 => ∃ (g : Addr) (ws : List V) (u : Option V), σ = [some (.int many), some (.ref g), u] ∧ H1 g = some (.lst ws) ∧ TupsAre K H1 ws (pts i) ∧ Same H H1
 refine ⟨_, rfl, many, rfl, by lia, by lia, for_range (lo := 0) (n := many.toNat) Pv1
  ⟨g0, _, none, rfl, upd_same, TupsAre.one (ms := []) (sqT_new (by rw [upd_ne (ne_of_none upd_same hg0)]; exact upd_same)), s0⟩ ?_ ?_⟩
 ·rintro i σ H1 hi ⟨g, ws, u, rfl, hg, tw, s1⟩
  have lw := tw.length
  have hi7 : (pts i).length ≤ 128 := pts_small (by lia)
  refine ⟨_, rfl, g, rfl, ⟨_, sqL_new hg⟩, fun D hD => ?_⟩
  let Pv2 : Nat → St → List V → Hp → Prop := fun k τ ys H5 => ∃ v : Option V, τ = [v] ∧ TupsAre K H5 ys (((pts i).take k).map fun ms => ms ++ [0]) ∧ H5 D = some (.lst ys) ∧ Same (H1) H5
  refine lc_any (n := (pts i).length) Pv2 ?_ (fun k τ ys H5 hk h => ?_) (fun k τ ys H5 hk h => ?_) (fun τ ys H5 h => ?_) ?_ ?_
  ·exact ⟨none, rfl, .nil, upd_same, same_new' hD _⟩
  ·obtain ⟨v, rfl, ta, hD1, s5⟩ := h
   have := ta.length
   rw [jQ, yX] at this
   exact ⟨hD1, by lia⟩
  ·obtain ⟨v, rfl, ta, hD1, s5⟩ := h
   exact ⟨ws, ws[k]'(by lia), s5.seq ((Same.refl H1).seq (sqL_new hg)), gE (by lia)⟩
  ·obtain ⟨v, rfl, ta, hD1, s5⟩ := h
   exact ⟨ws, s5.seq ((Same.refl H1).seq (sqL_new hg)), by lia⟩
  ·rintro k τ ys H5 x H6 hk ⟨v, rfl, ta, hD1, s5⟩ ⟨rfl, e1⟩
   obtain ⟨t, ms, rfl, em, ht⟩ := tw.get (e1 _ (s5.seq ((Same.refl H1).seq (sqL_new hg))))
   have lm := (pts_of (kX em)).1
   refine ⟨_, rfl, by show 1 ≤ sizeLine; decide, fun p hp => ?_⟩
   have s6 := same_new' hp (.tup [.int 0])
   refine ⟨t, p, ms.map V.int, [.int 0], rfl, rfl, s6.tup (s5.tup ((Same.refl H1).tup ht)), sqT_new upd_same, (by simp), by rw [jQ]; show _ + 1 ≤ _; lia, fun q' H7 s7 hq => ?_⟩
   have s67 := s6.trans s7
   have hD7 := s67 _ _ hD1
   refine ⟨hD7, _, rfl, ?_, upd_same, fun b o e => ?_⟩
   ·rw [takeS em, kW]
    refine ((ta.same s67).upd hD7).sn (SqT_upd hD7 ?_)
    rw [kW]
    exact hq
   ·rw [upd_ne (ne_of_none e hD)]; exact s67 _ _ (s5 _ _ e)
  rintro τ ys H2 ⟨v, rfl, ta, hD1, s2⟩
  rw [xW] at ta
  refine ⟨_, rfl, g, rfl, ⟨_, sqL_new (s2 _ _ hg)⟩, fun D2 hD2 => ?_⟩
  let Pv3 : Nat → St → List V → Hp → Prop := fun k τ ys H5 => ∃ v : Option V, τ = [v] ∧ TupsAre K H5 ys (((pts i).take k).map fun ms => ms ++ [1]) ∧ H5 D2 = some (.lst ys) ∧ Same (H2) H5
  refine lc_any (n := (pts i).length) Pv3 ?_ (fun k τ ys H5 hk h => ?_) (fun k τ ys H5 hk h => ?_) (fun τ ys H5 h => ?_) ?_ ?_
  ·exact ⟨none, rfl, .nil, upd_same, same_new' hD2 _⟩
  ·obtain ⟨v, rfl, ta, hD1, s5⟩ := h
   have := ta.length
   rw [jQ, yX] at this
   exact ⟨hD1, by lia⟩
  ·obtain ⟨v, rfl, ta, hD1, s5⟩ := h
   exact ⟨ws, ws[k]'(by lia), s5.seq ((s2).seq (sqL_new hg)), gE (by lia)⟩
  ·obtain ⟨v, rfl, ta, hD1, s5⟩ := h
   exact ⟨ws, s5.seq ((s2).seq (sqL_new hg)), by lia⟩
  ·rintro k τ ys H5 x H6 hk ⟨v, rfl, ta, hD1, s5⟩ ⟨rfl, e1⟩
   obtain ⟨t, ms, rfl, em, ht⟩ := tw.get (e1 _ (s5.seq ((s2).seq (sqL_new hg))))
   have lm := (pts_of (kX em)).1
   refine ⟨_, rfl, by show 1 ≤ sizeLine; decide, fun p hp => ?_⟩
   have s6 := same_new' hp (.tup [.int 1])
   refine ⟨t, p, ms.map V.int, [.int 1], rfl, rfl, s6.tup (s5.tup ((s2).tup ht)), sqT_new upd_same, (by simp), by rw [jQ]; show _ + 1 ≤ _; lia, fun q' H7 s7 hq => ?_⟩
   have s67 := s6.trans s7
   have hD7 := s67 _ _ hD1
   refine ⟨hD7, _, rfl, ?_, upd_same, fun b o e => ?_⟩
   ·rw [takeS em, kW]
    refine ((ta.same s67).upd hD7).sn (SqT_upd hD7 ?_)
    rw [kW]
    exact hq
   ·rw [upd_ne (ne_of_none e hD2)]; exact s67 _ _ (s5 _ _ e)
  rintro τ ys2 H3 ⟨v, rfl, ta2, hD3, s3⟩
  rw [xW] at ta2
  have l1 := ta.length
  have l2 := ta2.length
  rw [jQ] at l1 l2
  refine ⟨D, D2, ys, ys2, rfl, rfl, s3 _ _ hD1, hD3, by lia, fun g2 hg2 => ?_⟩
  exact ⟨g2, _, _, rfl, upd_same, ((ta.same s3).app ta2).same (same_new' hg2 _), ((s1.trans s2).trans s3).trans (same_new' hg2 _)⟩
 ·rintro σ H1 ⟨g, ws, u, rfl, hg, tw, s1⟩
  exact ⟨_, rfl, q g ws H1 s1 hg tw⟩
end
abbrev sLine12 : Stmt := top 52
section
variable {P : Program} {w : World} {K : Fg} {mg : Str → Option Value} {base : Heap} {aT aL : Addr} {fT fL : Str → Option Value}
theorem scLine12 : FnScope ["_law_draws_here", "_law_at", "_law_count", "_law_many", "_law_rows", "_law_word", "_law_one", "_law_other", "_law_choice", "_law_parts"] ["_law_draws_here", "_law_at", "_law_count", "_law_many", "_law_rows"] (defScope sLine12) := ⟨rfl, rfl, rfl, by decide +kernel, rfl, by decide +kernel, by decide +kernel⟩
theorem okLine12 (F : Fn K mg "_law_line" sLine12) (M : Mg mg) (cl_holds : Cal P w K mg base 1 "_law_holds" ["_law_number", "_law_many"] (spHolds12 K)) (cl_turn : Cal P w K mg base 1 "_law_turn" ["_law_number", "_law_many"] (spHolds12 K)) : Cal P w K mg base 2 "_law_line" ["_law_draws_here", "_law_at", "_law_count", "_law_many", "_law_rows"] (spLine12 K) := by
 refine cal_of F scLine12 (fun _ _ _ _ _ _ => bind5 (fun _ _ _ _ _ => rfl)) (fun vs H Q E h => ?_) (fun f cdv A outer s H vs Q E hr h => ?_)
 ·obtain ⟨l, ds, at_, cnt, n, m, P, o, rfl, _⟩ := h
  rfl
 obtain ⟨l, ds, at_, cnt, n, m, P, o, rfl, hPo, hD, h0, h1, h2, h3, h4, h5, q⟩ := h
 refine ⟨_, (QSs.pss (qss_cons (qs_set (i := 5) scLine12.nd rfl (Or.inl rfl) (QE.of (pe_op op_mod (pe_ix ix_list (pv 0) (pv 1) (fun _ _ => rfl)) pe_int)))
  (qss_cons (qs_set (i := 6) scLine12.nd rfl (Or.inl rfl) (QE.of (pe_op op_mod (pe_ix ix_list (pv 0) (pe_op op_add (pv 1) pe_int) (fun _ _ => rfl)) (pe_callB (call_max2 rfl) rfl M.max bt_max (pa_cons (pv 2) (pa_cons pe_int pa_nil))))))
  (qss_cons (qs_set (i := 7) scLine12.nd rfl (Or.inl rfl) (QE.of (pe_op op_mod (pe_ix ix_list (pv 0) (pe_op op_add (pv 1) pe_int) (fun _ _ => rfl)) (pe_callB (call_max2 rfl) rfl M.max bt_max (pa_cons (pv 2) (pa_cons pe_int pa_nil))))))
  (qss_cons (qs_set (i := 8) scLine12.nd rfl (Or.inl rfl) (QE.of (pe_op op_mod (pe_ix ix_list (pv 0) (pe_op op_add (pv 1) pe_int) (fun _ _ => rfl)) (pe_callB (call_max2 rfl) rfl M.max bt_max (pa_cons (pv 3) (pa_cons pe_int pa_nil))))))
  (qss_cons (qs_if (pt_cmpR op_eq (pv 5) pe_int (nomark _)) (qss_one (qs_ret (qe_tup (qa_Constant (QE.of pe_str) (qa_Name (QE.of (pv 8)) qa_nil))))) qss_nil)
  (qss_cons (qs_if (pt_cmpR op_eq (pv 5) pe_int (nomark _)) (qss_one (qs_ret (qe_tup (qa_Constant (QE.of pe_str) (qa_Name (QE.of (pv 8)) qa_nil))))) qss_nil)
  (qss_cons (qs_if (pt_cmpR op_eq (pv 5) pe_int (nomark _)) (qss_one (qs_ret (qe_tup (qa_Constant (QE.of pe_str) qa_nil)))) qss_nil)
  (qss_cons (qs_if (pt_cmpR op_in_seq (pv 5) (QE.pe (qe_lst (qa_Constant (QE.of pe_int) (qa_Constant (QE.of pe_int) (qa_Constant (QE.of pe_int) qa_nil))))) rfl) (qss_cons (qs_set (i := 9) scLine12.nd rfl (Or.inl rfl) (qe_lst (qa_Tuple (qe_tup (qa_Name (QE.of (pv 6)) (qa_BinOp (QE.of (pe_op op_mod (pe_ix ix_list (pv 0) (pe_op op_add (pv 1) pe_int) (fun _ _ => rfl)) pe_int)) qa_nil))) (qa_Tuple (qe_tup (qa_Name (QE.of (pv 7)) (qa_BinOp (QE.of (pe_op op_add pe_int (pe_op op_mod (pe_op op_fdiv (pe_ix ix_list (pv 0) (pe_op op_add (pv 1) pe_int) (fun _ _ => rfl)) pe_int) pe_int))) qa_nil))) (qa_Tuple (qe_tup (qa_BinOp (QE.of (pe_op op_mod (pe_ix ix_list (pv 0) (pe_op op_add (pv 1) pe_int) (fun _ _ => rfl)) (pe_callB (call_max2 rfl) rfl M.max bt_max (pa_cons (pv 2) (pa_cons pe_int pa_nil))))) (qa_Constant (QE.of pe_int) qa_nil))) qa_nil)))))
  (qss_one (qs_ret (qe_tup (qa_Constant (QE.of pe_str) (qa_Subscript (QE.of (pe_slice sl_list (pv 9) (po_some (pe_op op_mod (pe_op op_fdiv (pe_ix ix_list (pv 0) (pe_op op_add (pv 1) pe_int) (fun _ _ => rfl)) pe_int) pe_int)) po_none)) qa_nil)))))) qss_nil)
  (qss_cons (qs_if (pt_cmpR op_eq (pv 5) pe_int (nomark _)) (qss_one (qs_ret (qe_tup (qa_Constant (QE.of pe_str) (qa_Name (QE.of (pv 6)) (qa_BinOp (QE.of (pe_op op_add pe_int (pe_op op_mod (pe_ix ix_list (pv 0) (pe_op op_add (pv 1) pe_int) (fun _ _ => rfl)) pe_int))) qa_nil)))))) qss_nil)
  (qss_cons (qs_if (pt_cmpR op_in_seq (pv 5) (QE.pe (qe_lst (qa_Constant (QE.of pe_int) (qa_Constant (QE.of pe_int) qa_nil)))) rfl) (qss_one (qs_ret (qe_tup (qa_Constant (QE.of pe_str) (qa_Name (QE.of (pv 6)) (qa_Call (QE.of (pe_fn cl_holds (hr.mono (by decide)) (pa_cons (pe_ix ix_list (pv 0) (pe_op op_add (pv 1) pe_int) (fun _ _ => rfl)) (pa_cons (pv 3) pa_nil)))) qa_nil)))))) qss_nil)
  (qss_cons (qs_if (pt_cmpR op_eq (pv 5) pe_int (nomark _)) (qss_one (qs_ret (qe_tup (qa_Constant (QE.of pe_str) (qa_Name (QE.of (pv 6)) (qa_Name (QE.of (pv 7)) (qa_Name (QE.of (pv 8)) qa_nil))))))) qss_nil)
  (qss_cons (qs_if (pt_cmpR op_eq (pv 5) pe_int (nomark _)) (qss_one (qs_ret (qe_tup (qa_Constant (QE.of pe_str) (qa_Call (QE.of (pe_fn cl_turn (hr.mono (by decide)) (pa_cons (pe_ix ix_list (pv 0) (pe_op op_add (pv 1) pe_int) (fun _ _ => rfl)) (pa_cons (pv 3) pa_nil)))) qa_nil))))) qss_nil)
  (qss_one (qs_ret (qe_tup (qa_Constant (QE.of pe_str) (qa_BinOp (QE.of (pe_op op_mod (pe_ix ix_list (pv 0) (pe_op op_add (pv 1) pe_int) (fun _ _ => rfl)) (pe_callB (call_max2 rfl) rfl M.max bt_max (pa_cons (pv 4) (pa_cons pe_int pa_nil))))) qa_nil)))))))))))))))))), ?_⟩
 refine seq_let13 ?_
 intro rT13 rT12 rT11 rT10 rT9 rT8 rT7 rT6 rT5 rT4 rT3 rT2
 have hz : (1000 : Nat) < sizeLine := by decide
 obtain ⟨z0, hz0, a0, b0⟩ := hD.get (at_) (by lia) (by lia)
 obtain ⟨z1, hz1, a1, b1⟩ := hD.get (at_ + 1) (by lia) (by lia)
 obtain ⟨z2, hz2, a2, b2⟩ := hD.get (at_ + 2) (by lia) (by lia)
 obtain ⟨z3, hz3, a3, b3⟩ := hD.get (at_ + 3) (by lia) (by lia)
 obtain ⟨z4, hz4, a4, b4⟩ := hD.get (at_ + 4) (by lia) (by lia)
 obtain ⟨z5, hz5, a5, b5⟩ := hD.get (at_ + 5) (by lia) (by lia)
 have pc : (0 : Int) < (if (1 : Int) > cnt then 1 else cnt) := by split <;> lia
 have pn : (0 : Int) < (if (1 : Int) > (n : Int) then 1 else (n : Int)) := by split <;> lia
 have pm : (0 : Int) < (if (1 : Int) > (m : Int) then 1 else (m : Int)) := by split <;> lia
 have o1 := dm a1 b1 pc
 have o2 := dm a2 b2 pc
 have o3 := dm a3 b3 pn
 have o5 := dm a5 b5 pc
 have om := dm a1 b1 pm
 refine ⟨_, rfl, _, rfl, l, _, _, _, rfl, rfl, hD.lst, hz0, _, _, rfl, rfl, (by show (0 : Int) < _; decide +kernel), ?_⟩
 refine ⟨_, rfl, _, rfl, _, _, rfl, rfl, l, _, _, _, rfl, rfl, hD.lst, hz1, _, rfl, _, _, rfl, _, _, rfl, rfl, pc, ?_⟩
 refine ⟨_, rfl, _, rfl, _, _, rfl, rfl, l, _, _, _, rfl, rfl, hD.lst, hz2, _, rfl, _, _, rfl, _, _, rfl, rfl, pc, ?_⟩
 refine ⟨_, rfl, _, rfl, _, _, rfl, rfl, l, _, _, _, rfl, rfl, hD.lst, hz3, _, rfl, _, _, rfl, _, _, rfl, rfl, pn, ?_⟩
 show tSeq _ _ _ [some (.ref l), some (.int at_), some (.int cnt), some (.int (n : Int)), some (.int (m : Int)), some (.int (z0 % 12)), some (.int (z1 % (if (1 : Int) > cnt then 1 else cnt))), some (.int (z2 % (if (1 : Int) > cnt then 1 else cnt))), some (.int (z3 % (if (1 : Int) > (n : Int) then 1 else (n : Int)))), none] H
 generalize z1 % (if (1 : Int) > cnt then 1 else cnt) = one at o1 ⊢
 generalize z2 % (if (1 : Int) > cnt then 1 else cnt) = other at o2 ⊢
 generalize z3 % (if (1 : Int) > (n : Int) then 1 else (n : Int)) = choice at o3 ⊢
 generalize z0 % 12 = word
 refine ⟨_, rfl, rfl, _, rfl, ite2 (fun _ => ?_) (fun _ => ?_)⟩
 ·exact ⟨_, rfl, by show 2 ≤ sizeLine; decide, fun a ha => q a _ _ (same_new' ha _) (tupO (fresh_ne (Same.refl H) hPo ha) (.cons (.str "low") (.cons (.int _) .nil))) (.tup _ (sm_cons (.str _) (sm_cons (sm31 o3) sm_nil))) ⟨"low", _, rfl⟩⟩
 refine ⟨_, rfl, rfl, _, rfl, ite2 (fun _ => ?_) (fun _ => ?_)⟩
 ·exact ⟨_, rfl, by show 2 ≤ sizeLine; decide, fun a ha => q a _ _ (same_new' ha _) (tupO (fresh_ne (Same.refl H) hPo ha) (.cons (.str "high") (.cons (.int _) .nil))) (.tup _ (sm_cons (.str _) (sm_cons (sm31 o3) sm_nil))) ⟨"high", _, rfl⟩⟩
 refine ⟨_, rfl, rfl, _, rfl, ite2 (fun _ => ?_) (fun _ => ?_)⟩
 ·exact ⟨by show 1 ≤ sizeLine; decide, fun a ha => q a _ _ (same_new' ha _) (tupO (fresh_ne (Same.refl H) hPo ha) (.cons (.str "better") .nil)) (.tup _ (sm_cons (.str _) sm_nil)) ⟨"better", _, rfl⟩⟩
 refine ⟨_, rfl, by show 3 ≤ sizeLine; decide, fun b3' hb3 => ⟨b3', _, rfl, .inl (sqL_new upd_same), rfl, rfl, _, rfl, ?_⟩⟩
 have s1 := same_new' hb3 (.lst [.int 4, .int 5, .int 6])
 generalize upd H b3' (.lst [.int 4, .int 5, .int 6]) = H1 at s1 ⊢
 have hD1 := hD.same s1
 refine ite2 (fun _ => ?_) (fun _ => ?_)
 ·refine ⟨_, rfl, _, rfl, _, rfl, _, _, rfl, rfl, l, _, _, _, rfl, rfl, hD1.lst, hz4, _, _, rfl, rfl, (by show (0 : Int) < _; decide +kernel), by show 2 ≤ sizeLine; decide, fun ta hta => ?_⟩
  have t1 := same_new' hta (.tup [.int one, .int (z4 % 4)])
  have hD2 := hD1.same t1
  have ht1 : HasT K (Off (upd H1 ta (.tup [.int one, .int (z4 % 4)])) P) (.ref ta) (.tup [.int one, .int (z4 % 4)]) := tupO (fresh_ne s1 hPo hta) (.cons (.int _) (.cons (.int _) .nil))
  generalize upd H1 ta (.tup [.int one, .int (z4 % 4)]) = H2 at t1 hD2 ht1 ⊢
  refine ⟨_, rfl, _, rfl, _, rfl, _, _, rfl, rfl, l, _, _, _, rfl, rfl, hD2.lst, hz4, _, _, rfl, rfl, ⟨by decide, by decide⟩, _, _, rfl, rfl, (by show (0 : Int) < _; decide +kernel), _, _, rfl, rfl, by show 2 ≤ sizeLine; decide, fun tb htb => ?_⟩
  have t2 := same_new' htb (.tup [.int other, .int (1 + z4 / 4 % 3)])
  have hD3 := hD2.same t2
  have ht2 : HasT K (Off (upd H2 tb (.tup [.int other, .int (1 + z4 / 4 % 3)])) P) (.ref tb) (.tup [.int other, .int (1 + z4 / 4 % 3)]) := tupO (fresh_ne (s1.trans t1) hPo htb) (.cons (.int _) (.cons (.int _) .nil))
  generalize upd H2 tb (.tup [.int other, .int (1 + z4 / 4 % 3)]) = H3 at t2 hD3 ht2 ⊢
  refine ⟨_, rfl, _, rfl, _, _, rfl, rfl, l, _, _, _, rfl, rfl, hD3.lst, hz5, _, rfl, _, _, rfl, _, _, rfl, rfl, pc, by show 2 ≤ sizeLine; decide, fun tc htc => ?_⟩
  have t3 := same_new' htc (.tup [.int (z5 % (if (1 : Int) > cnt then 1 else cnt)), .int 1])
  have hD4 := hD3.same t3
  have ht3 : HasT K (Off (upd H3 tc (.tup [.int (z5 % (if (1 : Int) > cnt then 1 else cnt)), .int 1])) P) (.ref tc) (.tup [.int (z5 % (if (1 : Int) > cnt then 1 else cnt)), .int 1]) := tupO (fresh_ne ((s1.trans t1).trans t2) hPo htc) (.cons (.int _) (.cons (.int _) .nil))
  have ht1' := ht1.same (off_mono (t2.trans t3))
  have ht2' := ht2.same (off_mono t3)
  generalize upd H3 tc (.tup [.int (z5 % (if (1 : Int) > cnt then 1 else cnt)), .int 1]) = H4 at t3 hD4 ht3 ht1' ht2' ⊢
  refine ⟨by show 3 ≤ sizeLine; decide, fun pl hpl => ?_⟩
  have s5 := same_new' hpl (.lst [.ref ta, .ref tb, .ref tc])
  have hpl5 : upd H4 pl (.lst [.ref ta, .ref tb, .ref tc]) pl = some (.lst [.ref ta, .ref tb, .ref tc]) := upd_same
  generalize upd H4 pl (.lst [.ref ta, .ref tb, .ref tc]) = H5 at s5 hpl5 ⊢
  have hD5 := hD4.same s5
  have g1 : Sm (.tup [.int one, .int (z4 % 4)]) := .tup _ (sm_cons (sm31 o1) (sm_cons (sm31 ⟨by lia, by lia⟩) sm_nil))
  have g2 : Sm (.tup [.int other, .int (1 + z4 / 4 % 3)]) := .tup _ (sm_cons (sm31 o2) (sm_cons (sm31 ⟨by lia, by lia⟩) sm_nil))
  have g3 : Sm (.tup [.int (z5 % (if (1 : Int) > cnt then 1 else cnt)), .int 1]) := .tup _ (sm_cons (sm31 o5) (sm_cons (sm31 ⟨by decide, by decide⟩) sm_nil))
  generalize hk : z3 / 16 % 3 = k
  have hk3 : k = 0 ∨ k = 1 ∨ k = 2 := by lia
  have sH5 := (((s1.trans t1).trans t2).trans t3).trans s5
  have fin : ∀ (vs : List V) (es : List Dt), HasTs K (Off H5 P) vs es → (∀ x ∈ es, Sm x) → es.length < 60 → ∀ (sl a : Addr), H5 sl = none → upd H5 sl (.lst vs) a = none → Q (.ref a) (upd (upd H5 sl (.lst vs)) a (.tup [.str "sum", .ref sl])) := fun vs es hv hse hl sl a f1 f2 => by
   have s6 := same_new' f1 (.lst vs)
   have s7 := s6.trans (same_new' f2 (.tup [.str "sum", .ref sl]))
   have nq : sl ≠ a := ne_of_none upd_same f2
   exact q a (.tup [.str "sum", .lst es]) _ (sH5.trans s7) (tupO (fresh_ne (sH5.trans s6) hPo f2) (.cons (.str _) (.cons (lstT (sqL_new (by rw [off_ne (fresh_ne sH5 hPo f1), upd_ne nq]; exact upd_same)) (hv.same (off_mono s7))) .nil))) (.tup _ (sm_cons (.str _) (sm_cons (.lst _ hl hse) sm_nil))) ⟨"sum", _, rfl⟩
  refine ⟨_, rfl, _, rfl, _, rfl, _, _, rfl, rfl, l, _, _, _, rfl, rfl, hD5.lst, hz3, _, _, rfl, rfl, ⟨by decide, by decide⟩, _, _, rfl, rfl, (by show (0 : Int) < _; decide +kernel), k, (by show V.int (z3 / 16 % 3) = V.int k; rw [hk]), ?_⟩
  refine ⟨pl, _, rfl, sqL_new hpl5, fun sl hsl => ⟨by show 2 ≤ sizeLine; decide, fun a ha => ?_⟩⟩
  rcases hk3 with y | y | y <;> subst y
  ·exact fin _ _ ((HasTs.cons ht1' (.cons ht2' (.cons ht3 .nil))).same (off_mono s5)) (sm_cons g1 (sm_cons g2 (sm_cons g3 sm_nil))) (by show 3 < 60; decide) sl a hsl ha
  ·exact fin _ _ ((HasTs.cons ht2' (.cons ht3 .nil)).same (off_mono s5)) (sm_cons g2 (sm_cons g3 sm_nil)) (by show 2 < 60; decide) sl a hsl ha
  ·exact fin _ _ ((HasTs.cons ht3 .nil).same (off_mono s5)) (sm_cons g3 sm_nil) (by show 1 < 60; decide) sl a hsl ha
 refine ⟨_, rfl, rfl, _, rfl, ite2 (fun _ => ?_) (fun _ => ?_)⟩
 ·exact ⟨_, rfl, _, rfl, _, rfl, _, _, rfl, rfl, l, _, _, _, rfl, rfl, hD1.lst, hz4, _, _, rfl, rfl, (by show (0 : Int) < _; decide +kernel), _, _, rfl, rfl, by show 3 ≤ sizeLine; decide, fun a ha => q a _ _ (s1.trans (same_new' ha _)) (tupO (fresh_ne s1 hPo ha) (.cons (.str "share") (.cons (.int _) (.cons (.int _) .nil)))) (.tup _ (sm_cons (.str _) (sm_cons (sm31 o1) (sm_cons (sm31 ⟨by lia, by lia⟩) sm_nil)))) ⟨"share", _, rfl⟩⟩
 refine ⟨_, rfl, by show 2 ≤ sizeLine; decide, fun b2' hb2 => ⟨b2', _, rfl, .inl (sqL_new upd_same), rfl, rfl, _, rfl, ?_⟩⟩
 have s2 := s1.trans (same_new' hb2 (.lst [.int 8, .int 9]))
 generalize upd H1 b2' (.lst [.int 8, .int 9]) = H2 at s2 ⊢
 have hD2 := hD.same s2
 refine ite2 (fun _ => ?_) (fun _ => ?_)
 ·refine ⟨_, rfl, _, rfl, _, rfl, _, _, rfl, rfl, l, _, _, _, rfl, rfl, hD2.lst, hz4, _, rfl, z4, n, P, o, rfl, h4, s2 _ _ hPo, fun p d H3 s3 hp hd => ⟨by show 3 ≤ sizeLine; decide, fun a ha => ?_⟩⟩
  have s4 := same_new' ha (.tup [.str "shut", .int one, .ref p])
  exact q a (.tup [.str "shut", .int one, d]) _ ((s2.trans s3).trans s4) (tupO (fresh_ne (s2.trans s3) hPo ha) (.cons (.str _) (.cons (.int _) (.cons (hp.same (off_mono s4)) .nil)))) (.tup _ (sm_cons (.str _) (sm_cons (sm31 o1) (sm_cons hd sm_nil)))) ⟨"shut", _, rfl⟩
 refine ⟨_, rfl, rfl, _, rfl, ite2 (fun _ => ?_) (fun _ => ?_)⟩
 ·exact ⟨_, rfl, _, rfl, _, rfl, by show 4 ≤ sizeLine; decide, fun a ha => q a _ _ (s2.trans (same_new' ha _)) (tupO (fresh_ne s2 hPo ha) (.cons (.str "either") (.cons (.int _) (.cons (.int _) (.cons (.int _) .nil))))) (.tup _ (sm_cons (.str _) (sm_cons (sm31 o1) (sm_cons (sm31 o2) (sm_cons (sm31 o3) sm_nil))))) ⟨"either", _, rfl⟩⟩
 refine ⟨_, rfl, rfl, _, rfl, ite2 (fun _ => ?_) (fun _ => ?_)⟩
 ·refine ⟨_, rfl, _, rfl, _, _, rfl, rfl, l, _, _, _, rfl, rfl, hD2.lst, hz4, _, rfl, z4, n, P, o, rfl, h4, s2 _ _ hPo, fun p d H3 s3 hp hd => ⟨by show 2 ≤ sizeLine; decide, fun a ha => ?_⟩⟩
  have s4 := same_new' ha (.tup [.str "like", .ref p])
  exact q a (.tup [.str "like", d]) _ ((s2.trans s3).trans s4) (tupO (fresh_ne (s2.trans s3) hPo ha) (.cons (.str _) (.cons (hp.same (off_mono s4)) .nil))) (.tup _ (sm_cons (.str _) (sm_cons hd sm_nil))) ⟨"like", _, rfl⟩
 exact ⟨_, rfl, _, rfl, _, _, rfl, rfl, l, _, _, _, rfl, rfl, hD2.lst, hz1, _, rfl, _, _, rfl, _, _, rfl, rfl, pm, by show 2 ≤ sizeLine; decide, fun a ha => q a _ _ (s2.trans (same_new' ha _)) (tupO (fresh_ne s2 hPo ha) (.cons (.str "given") (.cons (.int _) .nil))) (.tup _ (sm_cons (.str _) (sm_cons (sm31 om) sm_nil))) ⟨"given", _, rfl⟩⟩
end
abbrev sPaper12 : Stmt := top 53
theorem HasTs.set {K : Fg} {H : Hp} {vs : List V} {ds : List Dt} {v : V} {d : Dt} (h : HasTs K H vs ds) (hv : HasT K H v d) (k : Nat) : HasTs K H (vs.set k v) (ds.set k d) := by
 have hl := h.1
 refine ⟨by rw [xZ, xZ]; exact hl, fun i x y e1 e2 => ?_⟩
 by_cases e : k = i
 ·subst e
  rw [List.getElem?_set] at e1 e2
  rw [if_pos rfl] at e1 e2
  split at e1 <;> cases e1
  split at e2 <;> cases e2
  exact hv
 ·rw [jKb e] at e1 e2
  exact h.2 i x y e1 e2
theorem line_snoc {ls : List Dt} {d : Dt} (h : ∀ x ∈ ls, Sm x ∧ LineD x) (h1 : Sm d) (h2 : LineD d) : ∀ x ∈ ls ++ [d], Sm x ∧ LineD x := fun x hx => by
 rcases zV.mp hx with z | z
 ·exact h x z
 ·rw [yK.mp z]; exact ⟨h1, h2⟩
section
variable {P : Program} {w : World} {K : Fg} {mg : Str → Option Value} {base : Heap} {aT aL : Addr} {fT fL : Str → Option Value}
theorem scPaper12 : FnScope ["_law_draws_here", "_law_problem_here", "_law_best", "_law_paper_here", "_law_k", "_law_line_here", "_law_at"] ["_law_draws_here", "_law_problem_here", "_law_best"] (defScope sPaper12) := ⟨rfl, rfl, rfl, by decide +kernel, rfl, by decide +kernel, by decide +kernel⟩
theorem okPaper12 (F : Fn K mg "_law_paper" sPaper12) (M : Mg mg) (cl_line : Cal P w K mg base 2 "_law_line" ["_law_draws_here", "_law_at", "_law_count", "_law_many", "_law_rows"] (spLine12 K)) (c_rows_told : Cal P w K mg base 7 "rows_told" ["problem", "best", "paper"] (spRowsTold K)) : Cal P w K mg base 9 "_law_paper" ["_law_draws_here", "_law_problem_here", "_law_best"] (spPaper12 K) := by
 refine cal_of F scPaper12 (fun _ _ _ _ _ _ => bind3 (fun _ _ _ => rfl)) (fun vs H Q E h => ?_) (fun f cdv A outer s H vs Q E hr h => ?_)
 ·obtain ⟨l, t, ds, rs, cs, best, rfl, _⟩ := h
  rfl
 obtain ⟨l, t, ds, rs, cs, best, rfl, hD, hd3, hP, hrl, hn, hm, q⟩ := h
 have hu6 : (A.deeper (PyProof.Rows.envOfC "_law_paper" (defScope sPaper12) s.heap.objs.size f cdv)).units + 6 < cLine := wV (jQf (by decide) _) hr.un
 refine ⟨_, (QSs.pss (qss_cons (qs_set (i := 3) scPaper12.nd rfl (Or.inl rfl) (qe_lst qa_nil))
  (qss_cons (QS.of (ps_for PassesOwn.never rfl (pi_range1 rfl M.range_ (pa_cons pe_int pa_nil)) (pg_name (i := 4) scPaper12.nd rfl (Or.inl rfl) (Or.inl rfl)) (QSs.pss (qss_cons (qs_set (i := 5) scPaper12.nd rfl (Or.inl rfl) (QE.of (pe_fn cl_line (hr.mono (by decide)) (pa_cons (pv 0) (pa_cons (pe_op op_add pe_int (pe_op op_mul pe_int (pv 4))) (pa_cons (pe_callB call_len_seq rfl M.len bt_len (pa_cons (pv 3) pa_nil)) (pa_cons (pe_callB call_len_seq rfl M.len bt_len (pa_cons (pe_ix ix_tup (pv 1) pe_int (fun _ _ => rfl)) pa_nil)) (pa_cons (pe_callB call_len_seq rfl M.len bt_len (pa_cons (pe_ix ix_tup (pv 1) pe_int (fun _ _ => rfl)) pa_nil)) pa_nil))))))))
  (qss_one (qs_if (pt_cmpR op_eq (pe_callB call_len_seq rfl M.len bt_len (pa_cons (pe_fn c_rows_told (hr.mono (by decide)) (pa_cons (pv 1) (pa_cons (pv 2) (pa_cons (pe_op op_cat (pv 3) (QE.pe (qe_lst (qa_Name (QE.of (pv 5)) qa_nil)))) pa_nil)))) pa_nil)) (pe_op op_add (pe_callB call_len_seq rfl M.len bt_len (pa_cons (pv 3) pa_nil)) pe_int) (nomark _)) (qss_one (QS.of (ps_expr (pe_bm PySem.F.plainAttrs_list PySem.F.slot_list_append PySem.F.type_list_append mt_append (pv 3) (pa_cons (pv 5) pa_nil))))) qss_nil))))))
  (qss_cons (qs_if (PW.pt (pw_and (pt_cmpR op_eq (pe_op op_mod (pe_ix ix_list (pv 0) pe_int (fun _ _ => rfl)) pe_int) pe_int (nomark _)) (pw_and1 (pt_cmpR (op_neNil (K := K) (n := 6) rfl hu6) (pv 3) (QE.pe (qe_lst qa_nil)) (nomark _))))) (qss_cons (qs_set (i := 6) scPaper12.nd rfl (Or.inl rfl) (QE.of (pe_op op_mod (pe_ix ix_list (pv 0) pe_int (fun _ _ => rfl)) (pe_callB call_len_seq rfl M.len bt_len (pa_cons (pv 3) pa_nil)))))
  (qss_one (qs_asg (QE.of (pe_fn cl_line (hr.mono (by decide)) (pa_cons (pv 0) (pa_cons pe_int (pa_cons (pe_callB (call_max2 rfl) rfl M.max bt_max (pa_cons (pv 6) (pa_cons pe_int pa_nil))) (pa_cons (pe_callB call_len_seq rfl M.len bt_len (pa_cons (pe_ix ix_tup (pv 1) pe_int (fun _ _ => rfl)) pa_nil)) (pa_cons (pe_callB call_len_seq rfl M.len bt_len (pa_cons (pe_ix ix_tup (pv 1) pe_int (fun _ _ => rfl)) pa_nil)) pa_nil))))))) (pg_sub (pv 3) (pv 6) set_list)))) qss_nil)
  (qss_one (qs_ret (QE.of (pv 3)))))))), ?_⟩
 refine seq_let4 ?_
 intro rT4 rT3 rT2
 have hz : (1000 : Nat) < sizeLine := by decide
 obtain ⟨rl, c, vs, hpt, hl, hrw, hc⟩ := id hP
 have lv := hrw.length
 have lc : (cs.map V.int).length = cs.length := jQ ..
 refine ⟨by show 0 ≤ sizeLine; decide, fun P fP => ?_⟩
 let Pv1 : Nat → St → Hp → Prop := fun i σ H1 => ∃ (us : List V) (ls : List Dt) (u v : Option V), σ = [some (.ref l), some (.ref t), some (bestV best), some (.ref P), u, v, none] ∧ HasTs K (Off H1 P) us ls ∧ (∀ d ∈ ls, Sm d ∧ LineD d) ∧ ls.length ≤ i ∧ H1 P = some (.lst us) ∧ Same H H1
 refine ⟨30, rfl, by decide, by decide, for_range (lo := 0) (n := 30) Pv1 ⟨[], [], none, none, rfl, .nil, (fun d hd => nomatch hd), jJ _, upd_same, same_new' fP _⟩ ?_ ?_⟩
 ·rintro i σ H1 hi ⟨us, ls, u, v, rfl, hT, hs, hll, hP1, s1⟩
  have lu := hT.1
  refine ⟨_, rfl, _, rfl, _, _, rfl, rfl, .inl ⟨by decide, by decide⟩, _, _, rfl, rfl, _, rfl, P, _, rfl, .inl (sqL_new hP1), _, rfl, t, _, _, _, rfl, rfl, s1.tup hpt, at1, c, _, rfl, .inr (s1.tup hc), _, rfl, t, _, _, _, rfl, rfl, s1.tup hpt, at0, rl, _, rfl, .inl (s1.seq hl), l, ds, _, _, (cs.map V.int).length, vs.length, P, _, rfl, hP1, hD.same s1, by lia, by lia, by lia, by lia, by lia, by lia, fun a d H2 s2 ha hsd hld => ?_⟩
  have hP2 := s2 _ _ hP1
  refine ⟨_, rfl, _, rfl, _, rfl, _, rfl, by show 1 ≤ sizeLine; decide, fun b hb => ?_⟩
  have s3 := same_new' hb (.lst [.ref a])
  refine ⟨P, b, _, _, rfl, rfl, s3 _ _ hP2, upd_same, by simp only [kK, xJ]; lia, fun pc hpc => ?_⟩
  have s4 := s3.trans (same_new' hpc (.lst (us ++ [.ref a])))
  have hpc4 : upd (upd H2 b (.lst [.ref a])) pc (.lst (us ++ [.ref a])) pc = some (.lst (us ++ [.ref a])) := upd_same
  generalize upd (upd H2 b (.lst [.ref a])) pc (.lst (us ++ [.ref a])) = H4 at s4 hpc4 ⊢
  have s24 := s2.trans s4
  have hT4 : HasTs K (Off H4 P) (us ++ [.ref a]) (ls ++ [d]) := (hT.same (off_mono s24)).append (.cons (ha.same (off_mono s4)) .nil)
  have hok := line_snoc hs hsd hld
  have hll4 : (ls ++ [d]).length ≤ i + 1 := by rw [kQ]; simp only [kK, xJ]; lia
  have hT4' := hT4.same off_le
  refine ⟨t, pc, rs, cs, best, us ++ [.ref a], ls ++ [d], rfl, ⟨(hP.same s1).same s24, sqL_new hpc4, hT4'.1, hT4'.2, fun x hx => (hok x hx).1, hrl, by lia, by lia, by lia, fun x hx w xs _ _ => trivial⟩, fun lw ws H5 _ s5 hlw hrw5 => ?_⟩
  have hP5 := s5 _ _ (s4 _ _ hP2)
  refine ⟨lw, _, rfl, .inl (sqL_new hlw), _, rfl, P, _, rfl, .inl (sqL_new hP5), _, _, rfl, rfl, rfl, _, rfl, ite2 (fun _ => ?_) (fun _ => ?_)⟩
  ·refine ⟨_, rfl, .inl ⟨rfl, _, sqL_new hP5⟩, _, rfl, P, _, _, rfl, rfl, hP5, by lia, us ++ [.ref a], ls ++ [d], _, _, rfl, ?_, hok, hll4, upd_same, fun b' o e => ?_⟩
   ·rw [off_upd]; exact hT4.same (off_mono s5)
   ·rw [upd_ne (ne_of_none e fP)]; exact s5 _ _ (s24 _ _ (s1 _ _ e))
  ·exact ⟨us, ls, _, _, rfl, hT.same (off_mono (s24.trans s5)), hs, by lia, hP5, s1.trans (s24.trans s5)⟩
 ·rintro σ H1 ⟨us, ls, u, v, rfl, hT, hs, hll, hP1, s1⟩
  have lu := hT.1
  have hD1 := hD.same s1
  obtain ⟨z6, hz6, _, _⟩ := hD1.get 6 (by decide) (by lia)
  obtain ⟨z7, hz7, _, _⟩ := hD1.get 7 (by decide) (by lia)
  have no : ∀ H2, Same H1 H2 → Q (.ref P) H2 := fun H2 s2 => q P us ls H2 (s1.trans s2) (s2 _ _ hP1) ((hT.same off_le).same s2) hs hll
  refine ⟨_, rfl, l, _, _, _, rfl, rfl, hD1.lst, hz6, _, _, rfl, rfl, (by show (0 : Int) < _; decide +kernel), rfl, _, rfl, ite2 (fun _ => ?_) (fun _ => iteF ⟨_, rfl, no H1 (Same.refl _)⟩)⟩
  refine ⟨_, rfl, by show 0 ≤ sizeLine; decide, fun e0 fe0 => ⟨P, e0, us, rfl, rfl, sqL_new ((same_new' fe0 _) _ _ hP1), sqL_new upd_same, _, rfl, ?_⟩⟩
  have s2 := same_new' fe0 (.lst [])
  generalize upd H1 e0 (.lst []) = H2 at s2 ⊢
  cases hue : us.isEmpty with
  | true => exact iteF ⟨_, rfl, no H2 s2⟩
  | false =>
   have hpos : 0 < us.length := by
    cases us with
    | nil => cases hue
    | cons _ _ => exact Nat.succ_pos _
   have q0 := jZc z7 (show (us.length : Int) ≠ 0 by lia)
   have q1 := jXa z7 (show (0 : Int) < (us.length : Int) by lia)
   obtain ⟨k, ek, hk⟩ : ∃ k : Nat, z7 % (us.length : Int) = (k : Int) ∧ k < us.length := ⟨(z7 % (us.length : Int)).toNat, by lia, by lia⟩
   have s12 := s1.trans s2
   have hP2 := s2 _ _ hP1
   refine iteT ⟨_, rfl, l, _, _, _, rfl, rfl, (hD.same s12).lst, hz7, _, rfl, P, _, rfl, .inl (sqL_new hP2), _, _, rfl, rfl, (by show (0 : Int) < (us.length : Int); lia), ?_⟩
   refine ⟨_, rfl, _, rfl, _, _, rfl, _, rfl, t, _, _, _, rfl, rfl, s12.tup hpt, at1, c, _, rfl, .inr (s12.tup hc), _, rfl, t, _, _, _, rfl, rfl, s12.tup hpt, at0, rl, _, rfl, .inl (s12.seq hl), l, ds, _, _, (cs.map V.int).length, vs.length, P, _, rfl, hP2, hD.same s12, by decide, by lia, (by show (0 : Int) ≤ if (1 : Int) > z7 % (us.length : Int) then 1 else z7 % (us.length : Int); split <;> lia), (by show (if (1 : Int) > z7 % (us.length : Int) then 1 else z7 % (us.length : Int)) ≤ 1000; split <;> lia), by lia, by lia, fun a d H3 s3 ha hsd hld => ?_⟩
   have hP3 := s3 _ _ hP2
   refine ⟨_, rfl, _, rfl, P, _, _, k, rfl, rfl, hP3, (by have := ixNat (n := us.length) hk; rw [← ek] at this; exact this), ?_⟩
   refine ⟨_, rfl, q P (us.set k (.ref a)) (ls.set k d) _ (fun b o e => ?_) upd_same (HasTs.same (H := Off H3 P) (HasTs.set (hT.same (off_mono (s2.trans s3))) ha k) ?_) (fun x hx => ?_) (by rw [xZ]; lia)⟩
   ·rw [upd_ne (ne_of_none e fP)]; exact s3 _ _ (s12 _ _ e)
   ·have := off_le (H := upd H3 P (.lst (us.set k (.ref a)))) (P := P)
    rw [off_upd] at this
    exact this
   ·rcases List.mem_or_eq_of_mem_set hx with z | z
    ·exact hs x z
    ·rw [z]; exact ⟨hsd, hld⟩
end
abbrev sGreat12 : Stmt := top 54
structure Lot (n : Nat) (Kq : List Int → Prop) (lot : List (List Int)) : Prop where
 nd : lot.Nodup
 k : ∀ x ∈ lot, Kq x
theorem Lot.len {n : Nat} {Kq : List Int → Prop} {lot : List (List Int)} (h : Lot n Kq lot) (hq : ∀ ms, Kq ms → P01 n ms) (hn : n ≤ 5) : lot.length ≤ 32 := by
 have h1 := nodup_sub (pts n) lot h.nd fun x hx => pts_mem (hq x (h.k x hx))
 rw [pts_len] at h1
 exact wW h1 (wW (Nat.pow_le_pow_right (by decide) hn) (by decide))
theorem Lot.snoc {n : Nat} {Kq : List Int → Prop} {lot : List (List Int)} {x : List Int} (h : Lot n Kq lot) (hx : x ∉ lot) (k : Kq x) : Lot n Kq (lot ++ [x]) :=
 ⟨List.nodup_append.mpr ⟨h.nd, jXe.mpr ⟨List.not_mem_nil, List.nodup_nil⟩, fun a ha b hb z => hx (by rw [yK.mp hb] at z; rw [← z]; exact ha)⟩, fun y hy => by
  rcases zV.mp hy with z | z
  ·exact h.k y z
  ·rw [yK.mp z]; exact k⟩
section
variable {P : Program} {w : World} {K : Fg} {mg : Str → Option Value} {base : Heap} {aT aL : Addr} {fT fL : Str → Option Value}
theorem scGreat12 : FnScope ["_law_points_here", "_law_turns", "_law_found", "_law_point", "_law_lot", "_law_k", "_law_turn_here", "_law_led"] ["_law_points_here", "_law_turns"] (defScope sGreat12) := ⟨rfl, rfl, rfl, by decide +kernel, rfl, by decide +kernel, by decide +kernel⟩
theorem okGreat12 (F : Fn K mg "_law_greatest" sGreat12) (M : Mg mg) : Cal P w K mg base 2 "_law_greatest" ["_law_points_here", "_law_turns"] (spGreat12 K) := by
 refine cal_of F scGreat12 (fun _ _ _ _ _ _ => bind2 (fun _ _ => rfl)) (fun vs H Q E h => ?_) (fun f cdv A outer s H vs Q E hr h => ?_)
 ·obtain ⟨pl, tl, ws, xs, ps, ts, n, Kq, rfl, _⟩ := h
  rfl
 obtain ⟨pl, tl, ws, xs, ps, ts, n, Kq, rfl, hpl, hta, htl, htt, hn, hT, hps, hq, hqt, hqp, q⟩ := h
 have hu6 : (A.deeper (PyProof.Rows.envOfC "_law_greatest" (defScope sGreat12) s.heap.objs.size f cdv)).units + 6 < cLine := wV (jQf (by decide) _) hr.un
 refine ⟨_, (pss_cons (ps_set (i := 2) scGreat12.nd rfl (Or.inl rfl) (pe_lst pa_nil))
  (pss_cons (ps_for PassesOwn.never rfl (pi_list (pv 0)) (pg_name (i := 3) scGreat12.nd rfl (Or.inl rfl) (Or.inl rfl)) (pss_cons (ps_set (i := 4) scGreat12.nd rfl (Or.inr rfl) (pe_lst (pa_cons (pv 3) pa_nil)))
  (pss_cons (ps_set (i := 5) scGreat12.nd rfl (Or.inr rfl) pe_int)
  (pss_cons (ps_while PassesOwn.never (pt_cmpR op_lt (pv 5) (pe_callB call_len_seq rfl M.len bt_len (pa_cons (pv 4) pa_nil)) (nomark _)) (pss_cons (ps_for PassesOwn.never rfl (pi_list (pv 1)) (pg_name (i := 6) scGreat12.nd rfl (Or.inl rfl) (Or.inl rfl)) (pss_cons (ps_set (i := 7) scGreat12.nd rfl (Or.inl rfl) (pe_callTy call_tuple_of rfl M.tuple_ bt_tuple (pa_cons (pe_lc ["_law_place", "_law_lot", "_law_k"] [none, some 4, some 5] rfl (pi_list (pv 6)) (fun _ _ _ => (pg_name (i := 0) (show (["_law_place", "_law_lot", "_law_k"] : List Str).Nodup by decide +kernel) rfl (Or.inl rfl) (Or.inr rfl))) (fun _ _ _ => pf_nil) (fun _ _ _ => (pe_ix (ix_tupK (K := K) rfl) (pe_ix (ix_listK (K := K) rfl) (pv 1) (pv 2) (fun _ _ => rfl)) (pv 0) (fun _ _ => rfl)))) pa_nil)))
  (pss_one (ps_if (pt_cmpR (op_notInT (K := K) rfl hu6) (pv 7) (pv 4) rfl) (pss_one (ps_expr (pe_bm PySem.F.plainAttrs_list PySem.F.slot_list_append PySem.F.type_list_append mt_append (pv 4) (pa_cons (pv 7) pa_nil)))) pss_nil))))
  (pss_one (ps_set (i := 5) scGreat12.nd rfl (Or.inr rfl) (pe_op op_add (pv 5) pe_int)))))
  (pss_one (ps_if (pt_cmpR (op_notInT (K := K) rfl hu6) (pe_callB (call_maxLT (K := K) rfl rfl hu6) rfl M.max bt_max (pa_cons (pv 4) pa_nil)) (pv 2) rfl) (pss_one (ps_expr (pe_bm PySem.F.plainAttrs_list PySem.F.slot_list_append PySem.F.type_list_append mt_append (pv 2) (pa_cons (pe_callB (call_maxLT (K := K) rfl rfl hu6) rfl M.max bt_max (pa_cons (pv 4) pa_nil)) pa_nil)))) pss_nil))))))
  (pss_one (ps_ret (pv 2))))), ?_⟩
 refine seq_let3 ?_
 intro rT3 rT2
 have hz : (1000 : Nat) < sizeLine := by decide
 have lw := hta.length
 have lx : xs.length = ts.length := Paired.length htt
 refine ⟨by show 0 ≤ sizeLine; decide, fun f ff => ?_⟩
 let Pv1 : Nat → St → Hp → Prop := fun i σ H1 => ∃ (u1 u2 u3 u4 u5 : Option V) (gv : List V) (gs : List (List Int)), σ = [some (.ref pl), some (.ref tl), some (.ref f), u1, u2, u3, u4, u5] ∧ H1 f = some (.lst gv) ∧ TupsAre K H1 gv gs ∧ (∀ x ∈ gs, Kq x ∧ ∀ t ∈ ts, ¬ x < ledP t x) ∧ gs.length ≤ i ∧ Same H H1
 refine ⟨_, rfl, pl, rfl, ⟨_, (same_new' ff _).seq hpl⟩, for_list (K := K) (a := pl) (xs := ws) Pv1 ⟨none, none, none, none, none, [], [], rfl, upd_same, .nil, (fun x hx => nomatch hx), jJ _, same_new' ff _⟩ (fun i σ H1 _ h => ?_) ?_ ?_⟩
 ·obtain ⟨_, _, _, _, _, _, _, rfl, _, _, _, _, s1⟩ := h
  exact s1.seq hpl
 ·rintro i x σ H1 e1 ⟨u1, u2, u3, u4, u5, gv, gs, rfl, hf, hg, hgk, hgl, s1⟩
  refine seq_let4 ?_
  intro rB4 rB3 rB2
  obtain ⟨tt, ms, rfl, em, htm⟩ := hta.get e1
  have hi : i < ws.length := (yQ.mp e1).1
  refine ⟨_, rfl, by show 1 ≤ sizeLine; decide, fun lo hlo => ?_⟩
  have nlf : lo ≠ f := fun z => by subst z; rw [hf] at hlo; cases hlo
  have s2 := same_new' hlo (.lst [.ref tt])
  have s12 := s1.trans s2
  have loH : H lo = none := by
   cases e : H lo with
   | none => rfl
   | some o => rw [s1 _ _ e] at hlo; cases hlo
  show tWhile _ _ _ [some (.ref pl), some (.ref tl), some (.ref f), some (.ref tt), some (.ref lo), some (.int 0), u4, u5] (upd H1 lo (.lst [.ref tt]))
  refine while_by (fun σ H3 => ∃ (k : Nat) (v4 v5 : Option V) (lv : List V) (lot : List (List Int)), σ = [some (.ref pl), some (.ref tl), some (.ref f), some (.ref tt), some (.ref lo), some (.int (k : Int)), v4, v5] ∧ H3 lo = some (.lst lv) ∧ TupsAre K H3 lv lot ∧ Lot n Kq lot ∧ k ≤ lot.length ∧ lot ≠ [] ∧ (∀ j y, j < k → lot[j]? = some y → ∀ t ∈ ts, ledP t y ∈ lot) ∧ H3 f = some (.lst gv) ∧ TupsAre K H3 gv gs ∧ Same H H3)
   (fun σ _ => match σ with | [_, _, _, _, _, some (.int k), _, _] => (33 - k).toNat | _ => 0) ⟨0, u4, u5, [.ref tt], [ms], rfl, upd_same, .one (s12.tup htm), ⟨jXe.mpr ⟨List.not_mem_nil, List.nodup_nil⟩, fun y hy => by rw [yK.mp hy]; exact hqp ms (kX em)⟩, jXc _, (fun z => nomatch z), (fun j y hj => absurd hj (kJa _)), s2 _ _ hf, hg.same s2, s12⟩ ?_ ?_
  ·rintro σ H3 ⟨k, v4, v5, lv, lot, rfl, hlo3, hl3, hL, hk, hne, hcl, hf3, hg3, s3⟩
   have ll := hl3.length
   have l32 := hL.len hq hn
   refine ⟨_, rfl, _, rfl, lo, _, rfl, .inl (sqL_new hlo3), _, _, rfl, rfl, _, rfl, ite2 (fun c => ?_) (fun c => ?_)⟩
   ·have hklt : k < lot.length := by have c' : (k : Int) < ((lv.length : Nat) : Int) := yV c; lia
    obtain ⟨y, ey⟩ : ∃ y, lot[k]? = some y := ⟨_, gE hklt⟩
    have hKy := hL.k y (kX ey)
    have hPy := hq y hKy
    let Pv2 : Nat → St → Hp → Prop := fun j σ H4 => ∃ (w4 w5 : Option V) (lv4 : List V) (lot4 : List (List Int)), σ = [some (.ref pl), some (.ref tl), some (.ref f), some (.ref tt), some (.ref lo), some (.int (k : Int)), w4, w5] ∧ H4 lo = some (.lst lv4) ∧ TupsAre K H4 lv4 lot4 ∧ Lot n Kq lot4 ∧ lot4.take lot.length = lot ∧ (∀ t ∈ ts.take j, ledP t y ∈ lot4) ∧ H4 f = some (.lst gv) ∧ TupsAre K H4 gv gs ∧ Same H H4
    refine ⟨_, rfl, tl, rfl, ⟨_, s3.seq htl⟩, for_list (K := K) (a := tl) (xs := xs) Pv2 ⟨v4, v5, lv, lot, rfl, hlo3, hl3, hL, xW, (fun t ht => nomatch ht), hf3, hg3, s3⟩ (fun j σ H4 _ h => ?_) ?_ ?_⟩
    ·obtain ⟨_, _, _, _, rfl, _, _, _, _, _, _, _, s4⟩ := h
     exact s4.seq htl
    ·rintro j x σ H4 e4 ⟨w4, w5, lv4, lot4, rfl, hlo4, hl4, hL4, hpre, hcl4, hf4, hg4, s4⟩
     obtain ⟨ta, t, rfl, et, hta4⟩ := htt.get e4
     have ht' := kX et
     have T := hT t ht'
     have ll4 := hl4.length
     have l324 := hL4.len hq hn
     have ey4 : lot4[k]? = some y := by
      have e9 : (lot4.take lot.length)[k]? = some y := by rw [hpre]; exact ey
      rw [jXb hklt] at e9
      exact e9
     obtain ⟨vy, evy⟩ : ∃ vy, lv4[k]? = some vy := ⟨_, gE (by have := (yQ.mp ey4).1; lia)⟩
     obtain ⟨ty, y', rfl, ey', hty⟩ := hl4.get evy
     rw [ey4] at ey'
     cases ey'
     refine ⟨_, rfl, ta, rfl, ⟨_, s4.seq hta4⟩, fun D hD => ?_⟩
     have lt := T.length
     have lti : ((tI t).map V.int).length = n := by rw [jQ, tI_len, lt]
     let Pv3 : Nat → St → List V → Hp → Prop := fun r τ ys H5 => ∃ v : Option V, τ = [v, some (.ref lo), some (.int (k : Int))] ∧ ys = ((ledP t y).take r).map V.int ∧ H5 D = some (.lst ys) ∧ Same H4 H5
     refine lc_any (n := n) Pv3 ?_ (fun r τ ys H5 hr h => ?_) (fun r τ ys H5 hr h => ?_) (fun τ ys H5 h => ?_) ?_ ?_
     ·exact ⟨none, rfl, rfl, upd_same, same_new' hD _⟩
     ·obtain ⟨v, rfl, rfl, hD5, s5⟩ := h
      exact ⟨hD5, by rw [jQ, yX]; lia⟩
     ·obtain ⟨v, rfl, rfl, hD5, s5⟩ := h
      exact ⟨_, ((tI t).map V.int)[r]'(by lia), (s4.trans s5).seq hta4, gE (by lia)⟩
     ·obtain ⟨v, rfl, rfl, hD5, s5⟩ := h
      exact ⟨_, (s4.trans s5).seq hta4, by lia⟩
     ·rintro r τ ys H5 x H6 hr ⟨v, rfl, rfl, hD5, s5⟩ ⟨rfl, e5⟩
      obtain ⟨z, ez, rfl⟩ := getMapI (e5 _ ((s4.trans s5).seq hta4))
      obtain ⟨gt1, gt2⟩ := getT T hr
      have ez2 : z = ((t.getD r 0 : Nat) : Int) := by
       unfold tI at ez
       rw [jK, gt1] at ez
       exact (Option.some.inj ez).symm
      subst ez2
      refine ⟨_, rfl, _, rfl, lo, _, _, _, rfl, rfl, sqL_new (s5 _ _ hlo4), atNat evy, _, rfl, ty, _, _, _, rfl, rfl, s5.tup hty, atK6 (by rw [hPy.1]; exact gt2), hD5, _, rfl, ?_, upd_same, fun b o e => ?_⟩
      ·have : (ledP t y)[r]? = some (y.getD (t.getD r 0) 0) := by unfold ledP; rw [jK, gt1]; rfl
       rw [takeS this, kW]
       rfl
      ·rw [upd_ne (ne_of_none e hD)]; exact s5 _ _ e
     ·rintro τ ys H5 ⟨v, rfl, rfl, hD5, s5⟩
      rw [xQ (by rw [ledP_len T]; exact jJ _)] at hD5
      refine ⟨D, _, rfl, .inl ⟨sqL_new hD5, fun ld hld => ?_⟩⟩
      have s6 := s5.trans (same_new' hld (.tup ((ledP t y).map V.int)))
      have hld6 : upd H5 ld (.tup ((ledP t y).map V.int)) ld = some (.tup ((ledP t y).map V.int)) := upd_same
      generalize upd H5 ld (.tup ((ledP t y).map V.int)) = H6 at s6 hld6 ⊢
      have s46 := s4.trans s6
      refine ⟨_, rfl, _, rfl, ld, lo, ledP t y, lv4, lot4, rfl, rfl, sqT_new hld6, sqL_new (s6 _ _ hlo4), hl4.same s6, fun b hb => ⟨_, rfl, ?_⟩⟩
      have cl : ∀ lot5 : List (List Int), (∀ x ∈ lot4, x ∈ lot5) → ledP t y ∈ lot5 → ∀ t' ∈ ts.take (j + 1), ledP t' y ∈ lot5 := fun lot5 h1 h2 t' ht' => by
       rw [takeS et] at ht'
       rcases zV.mp ht' with z | z
       ·exact h1 _ (hcl4 t' z)
       ·rw [yK.mp z]; exact h2
      cases b with
      | true => exact iteF ⟨_, _, lv4, lot4, rfl, s6 _ _ hlo4, hl4.same s6, hL4, hpre, cl lot4 (fun _ h => h) (hb.mp rfl), s6 _ _ hf4, hg4.same s6, s46⟩
      | false =>
       have hnot : ledP t y ∉ lot4 := fun z => nomatch hb.mpr z
       have hlo6 := s6 _ _ hlo4
       refine iteT ⟨_, rfl, .inl ⟨rfl, _, sqL_new hlo6⟩, _, rfl, lo, _, _, rfl, rfl, hlo6, by lia, _, _, lv4 ++ [.ref ld], lot4 ++ [ledP t y], rfl, upd_same, ((hl4.same s6).upd hlo6).app (.one (SqT_upd hlo6 (sqT_new hld6))), hL4.snoc hnot (hqt t ht' y hKy), ?_, cl _ (fun _ h => jQe _ h) (xY _ (yK.mpr rfl)), ?_, (hg4.same s6).upd hlo6, fun b o e => ?_⟩
       ·have : lot.length ≤ lot4.length := by have e9 := congrArg List.length hpre; rw [yX] at e9; lia
        rw [List.take_append_of_le_length this]
        exact hpre
       ·rw [upd_ne (Ne.symm nlf)]; exact s6 _ _ hf4
       ·rw [upd_ne (ne_of_none e loH)]; exact s46 _ _ e
    ·rintro σ H4 ⟨w4, w5, lv4, lot4, rfl, hlo4, hl4, hL4, hpre, hcl4, hf4, hg4, s4⟩
     rw [lx, xW] at hcl4
     have hle : lot.length ≤ lot4.length := by have e9 := congrArg List.length hpre; rw [yX] at e9; lia
     have sub : ∀ x ∈ lot, x ∈ lot4 := fun x hx => kJe (show x ∈ lot4.take lot.length by rw [hpre]; exact hx)
     refine ⟨_, rfl, _, _, rfl, rfl, ⟨k + 1, w4, w5, lv4, lot4, rfl, hlo4, hl4, hL4, by lia, fun z => ?_, fun j y' hj ey' t ht' => ?_, hf4, hg4, s4⟩, ?_⟩
     ·rw [z] at hle; exact hne (zW (Nat.le_zero.mp hle))
     ·have hjl : j < lot.length := by lia
      have ey2 : lot[j]? = some y' := by
       have e9 : (lot4.take lot.length)[j]? = some y' := by rw [jXb hjl]; exact ey'
       rw [hpre] at e9
       exact e9
      by_cases hjk : j < k
      ·exact sub _ (hcl j y' hjk ey2 t ht')
      ·have : j = k := by lia
       subst this
       rw [ey] at ey2
       cases ey2
       exact hcl4 t ht'
     ·show (33 - ((k : Int) + 1)).toNat < (33 - (k : Int)).toNat
      lia
   ·have hke : k = lot.length := by
     have c' : ¬ (k : Int) < ((lv.length : Nat) : Int) := fun z => c (kY z)
     lia
    have good : ∀ m, m ∈ lot → (∀ x ∈ lot, ¬ m < x) → Kq m ∧ ∀ t ∈ ts, ¬ m < ledP t m := fun m hm hmx => ⟨hL.k m hm, fun t ht' => by
     obtain ⟨j, hj, e⟩ := jXd.mp hm
     exact hmx _ (hcl j m (by lia) (by rw [gE hj, e]) t ht')⟩
    refine ⟨_, rfl, lo, lv, lot, rfl, sqL_new hlo3, hl3, hne, fun a m v ea em' hmx => ?_⟩
    obtain ⟨tm, m', rfl, em2, htm'⟩ := hl3.get ea
    rw [em'] at em2
    cases em2
    refine ⟨_, rfl, tm, f, m, gv, gs, rfl, rfl, htm', sqL_new hf3, hg3, fun b hb => ⟨_, rfl, ?_⟩⟩
    cases b with
    | true => exact iteF ⟨_, _, _, _, _, gv, gs, rfl, hf3, hg3, hgk, by lia, s3⟩
    | false =>
     refine iteT ⟨_, rfl, .inl ⟨rfl, _, sqL_new hf3⟩, _, rfl, lo, lv, lot, rfl, sqL_new hlo3, hl3, hne, fun a2 m2 v2 ea2 em3 hmx2 => ?_⟩
     obtain ⟨tm2, m2', rfl, em4, htm2⟩ := hl3.get ea2
     rw [em3] at em4
     cases em4
     have lgv := hg3.length
     refine ⟨f, _, _, rfl, rfl, hf3, by lia, _, _, _, _, _, gv ++ [.ref tm2], gs ++ [m2], rfl, upd_same, (hg3.upd hf3).app (.one (SqT_upd hf3 htm2)), fun x hx => ?_, by rw [kQ]; simp only [kK, xJ]; lia, fun b o e => ?_⟩
     ·rcases zV.mp hx with z | z
      ·exact hgk x z
      ·rw [yK.mp z]; exact good m2 (kX em3) hmx2
     ·rw [upd_ne (ne_of_none e ff)]; exact s3 _ _ e
  ·rintro σ H3 Q1 Q2 hq' ⟨x, e1, y, e2, a', b', r1, r2, r3⟩
   exact ⟨x, e1, y, e2, a', b', r1, r2, let ⟨i', j', e5, e6, b6, e7, z⟩ := r3; ⟨i', j', e5, e6, b6, e7, hq' _ _ z⟩⟩
 ·rintro σ H1 ⟨u1, u2, u3, u4, u5, gv, gs, rfl, hf, hg, hgk, hgl, s1⟩
  exact ⟨_, rfl, q f gv gs H1 s1 hf hg hgk⟩
end
abbrev sAlike10 : Stmt := top 43
abbrev sEven10 : Stmt := top 48
abbrev sGiven10 : Stmt := top 49
section
variable {P : Program} {w : World} {K : Fg} {mg : Str → Option Value} {base : Heap} {aT aL : Addr} {fT fL : Str → Option Value}
theorem scAlike10 : FnScope ["_law_problem_here", "_law_draws_here", "_law_at", "_law_many", "_law_one", "_law_other", "_law_turn_here", "_law_rows", "_law_row_here", "_law_moved", "_law_costs"] ["_law_problem_here", "_law_draws_here", "_law_at"] (defScope sAlike10) := ⟨rfl, rfl, rfl, by decide +kernel, rfl, by decide +kernel, by decide +kernel⟩
theorem okAlike10 (F : Fn K mg "_law_alike" sAlike10) (M : Mg mg) (cl_turned : Cal P w K mg base 1 "_law_turned" ["_law_row_here", "_law_turn_here"] (spTurned10 K)) : Cal P w K mg base 2 "_law_alike" ["_law_problem_here", "_law_draws_here", "_law_at"] (spAlike10 K) := by
 refine cal_of F scAlike10 (fun _ _ _ _ _ _ => bind3 (fun _ _ _ => rfl)) (fun vs H Q E h => ?_) (fun f cdv A outer s H vs Q E hr h => ?_)
 ·obtain ⟨t, l, ds, at_, rs, cs, rfl, _⟩ := h
  rfl
 obtain ⟨t, l, ds, at_, rs, cs, rfl, hP, hD0, h0, h1, hrl, hn, hm, q⟩ := h
 have hu6 : (A.deeper (PyProof.Rows.envOfC "_law_alike" (defScope sAlike10) s.heap.objs.size f cdv)).units + 6 < cLine := wV (jQf (by decide) _) hr.un
 refine ⟨_, (pss_cons (ps_set (i := 3) scAlike10.nd rfl (Or.inl rfl) (pe_callB call_len_seq rfl M.len bt_len (pa_cons (pe_ix ix_tup (pv 0) pe_int (fun _ _ => rfl)) pa_nil)))
  (pss_cons (ps_if (pt_cmpR op_eq (pv 3) pe_int (nomark _)) (pss_one (ps_ret (pv 0))) pss_nil)
  (pss_cons (ps_set (i := 4) scAlike10.nd rfl (Or.inl rfl) (pe_op op_mod (pe_ix ix_list (pv 1) (pv 2) (fun _ _ => rfl)) (pv 3)))
  (pss_cons (ps_set (i := 5) scAlike10.nd rfl (Or.inl rfl) (pe_op op_mod (pe_ix ix_list (pv 1) (pe_op op_add (pv 2) pe_int) (fun _ _ => rfl)) (pv 3)))
  (pss_cons (ps_if (pt_cmpR op_eq (pv 4) (pv 5) (nomark _)) (pss_one (ps_ret (pv 0))) pss_nil)
  (pss_cons (ps_set (i := 6) scAlike10.nd rfl (Or.inl rfl) (pe_callTy (call_list_rng rfl) rfl M.list_ bt_list (pa_cons (pe_range M.range_ (pa_cons (pv 3) pa_nil)) pa_nil)))
  (pss_cons (ps_asg (pv 5) (pg_sub (pv 6) (pv 4) set_list))
  (pss_cons (ps_asg (pv 4) (pg_sub (pv 6) (pv 5) set_list))
  (pss_cons (ps_set (i := 7) scAlike10.nd rfl (Or.inl rfl) (pe_callTy call_list_of rfl M.list_ bt_list (pa_cons (pe_ix ix_tup (pv 0) pe_int (fun _ _ => rfl)) pa_nil)))
  (pss_cons (ps_for PassesOwn.never rfl (pi_list (pe_ix ix_tup (pv 0) pe_int (fun _ _ => rfl))) (pg_name (i := 8) scAlike10.nd rfl (Or.inl rfl) (Or.inl rfl)) (pss_cons (ps_set (i := 9) scAlike10.nd rfl (Or.inl rfl) (pe_fn cl_turned (hr.mono (by decide)) (pa_cons (pv 8) (pa_cons (pv 6) pa_nil))))
  (pss_one (ps_if (pt_cmpR op_lt (pe_bm PySem.F.plainAttrs_list PySem.F.slot_list_count PySem.F.type_list_count (mt_countR (K := K) rfl hu6) (pv 7) (pa_cons (pv 9) pa_nil)) (pe_bm PySem.F.plainAttrs_list PySem.F.slot_list_count PySem.F.type_list_count (mt_countR (K := K) rfl hu6) (pv 7) (pa_cons (pv 8) pa_nil)) (nomark _)) (pss_one (ps_expr (pe_bm PySem.F.plainAttrs_list PySem.F.slot_list_append PySem.F.type_list_append mt_append (pv 7) (pa_cons (pv 9) pa_nil)))) pss_nil))))
  (pss_cons (ps_set (i := 10) scAlike10.nd rfl (Or.inl rfl) (pe_callTy call_list_of rfl M.list_ bt_list (pa_cons (pe_ix ix_tup (pv 0) pe_int (fun _ _ => rfl)) pa_nil)))
  (pss_cons (ps_asg (pe_ix ix_list (pv 10) (pv 5) (fun _ _ => rfl)) (pg_sub (pv 10) (pv 4) set_list))
  (pss_one (ps_ret (pe_tup (pa_cons (pv 7) (pa_cons (pe_callTy call_tuple_of rfl M.tuple_ bt_tuple (pa_cons (pv 10) pa_nil)) pa_nil))))))))))))))))), ?_⟩
 refine seq_let13 ?_
 intro rT13 rT12 rT11 rT10 rT9 rT8 rT7 rT6 rT5 rT4 rT3 rT2
 have hz : (2000 : Nat) < sizeLine := by decide
 obtain ⟨rl, c, vs, ht, hl, hrw, hc⟩ := id hP
 have lv := hrw.length
 have lc : (cs.map V.int).length = cs.length := jQ ..
 refine ⟨_, rfl, t, _, _, _, rfl, rfl, ht, at1, c, _, rfl, .inr hc, ?_⟩
 rw [lc]
 refine ⟨_, rfl, rfl, _, rfl, ite2 (fun _ => ⟨_, rfl, q t rs cs H (Same.refl H) hP hrl rfl (by lia) Iff.rfl⟩) (fun cz => ?_)⟩
 have hpos : 0 < cs.length := by
  rcases Nat.eq_zero_or_pos cs.length with z | z
  ·exact absurd (kY (congrArg V.int (show ((cs.length : Nat) : Int) = 0 by rw [z]; rfl))) cz
  ·exact z
 have pn : (0 : Int) < ((cs.length : Nat) : Int) := by lia
 obtain ⟨z1, hz1, _, _⟩ := hD0.get at_ (by lia) (by lia)
 obtain ⟨z2, hz2, _, _⟩ := hD0.get (at_ + 1) (by lia) (by lia)
 refine ⟨_, rfl, _, rfl, l, _, _, _, rfl, rfl, hD0.lst, hz1, _, rfl, _, _, rfl, rfl, pn, ?_⟩
 refine ⟨_, rfl, _, rfl, _, _, rfl, rfl, l, _, _, _, rfl, rfl, hD0.lst, hz2, _, rfl, _, _, rfl, rfl, pn, ?_⟩
 have o1 := jZc z1 (Int.ne_of_gt pn)
 have o2 := jXa z1 pn
 have p1 := jZc z2 (Int.ne_of_gt pn)
 have p2 := jXa z2 pn
 obtain ⟨i, ei⟩ : ∃ i : Nat, z1 % ((cs.length : Nat) : Int) = (i : Int) := ⟨_, (Int.toNat_of_nonneg o1).symm⟩
 obtain ⟨j, ej⟩ : ∃ j : Nat, z2 % ((cs.length : Nat) : Int) = (j : Int) := ⟨_, (Int.toNat_of_nonneg p1).symm⟩
 show tSeq _ _ _ [some (.ref t), some (.ref l), some (.int at_), some (.int ((cs.length : Nat) : Int)), some (.int (z1 % ((cs.length : Nat) : Int))), some (.int (z2 % ((cs.length : Nat) : Int))), none, none, none, none, none] H
 rw [ei, ej]
 rw [ei] at o2
 rw [ej] at p2
 have hi : i < cs.length := by lia
 have hj : j < cs.length := by lia
 refine ⟨_, rfl, _, rfl, rfl, _, rfl, ite2 (fun _ => ⟨_, rfl, q t rs cs H (Same.refl H) hP hrl rfl (by lia) Iff.rfl⟩) (fun _ => ?_)⟩
 refine ⟨_, rfl, ((cs.length : Nat) : Int), rfl, fun r hr' => ?_⟩
 have s1 := same_new' hr' (.rng 0 ((cs.length : Nat) : Int))
 refine ⟨r, ((cs.length : Nat) : Int), rfl, upd_same, by lia, by lia, fun u hu1 => ?_⟩
 have s2 := s1.trans (same_new' hu1 (.lst ((List.range ((cs.length : Nat) : Int).toNat).map fun i => V.int (i : Nat))))
 have e0 : ((List.range ((cs.length : Nat) : Int).toNat).map fun i => V.int (i : Nat)) = (tI (List.range cs.length)).map V.int := by unfold tI; rw [List.map_map]; rfl
 rw [e0] at s2 ⊢
 have uH : H u = none := by
  cases e5 : H u with
  | none => rfl
  | some o => rw [s1 _ _ e5] at hu1; cases hu1
 have hl0 : ((tI (List.range cs.length)).map V.int).length = cs.length := by rw [jQ, tI_len, jQd]
 refine ⟨_, rfl, _, rfl, _, rfl, u, _, _, i, rfl, rfl, upd_same, ixNat (by lia), ?_⟩
 rw [tI_set]
 refine ⟨_, rfl, _, rfl, _, rfl, u, _, _, j, rfl, rfl, upd_same, ixNat (by rw [jQ, tI_len, xZ, jQd]; lia), ?_⟩
 rw [tI_set]
 have htl : (((List.range cs.length).set i j).set j i).length = cs.length := by rw [xZ, xZ, jQd]
 have htb : ∀ k ∈ ((List.range cs.length).set i j).set j i, k < cs.length := set_lt (set_lt (fun x hx => wX.mp hx) hj) hi
 generalize ((List.range cs.length).set i j).set j i = tn at htl htb ⊢
 have s3 : Same H (upd (upd (upd (upd H r (.rng 0 ((cs.length : Nat) : Int))) u (.lst ((tI (List.range cs.length)).map V.int))) u (.lst ((tI ((List.range cs.length).set i j)).map V.int))) u (.lst ((tI tn).map V.int))) := fun b o e => by
  rw [upd_ne (ne_of_none e uH), upd_ne (ne_of_none e uH)]; exact s2 _ _ e
 have hu3 : upd (upd (upd (upd H r (.rng 0 ((cs.length : Nat) : Int))) u (.lst ((tI (List.range cs.length)).map V.int))) u (.lst ((tI ((List.range cs.length).set i j)).map V.int))) u (.lst ((tI tn).map V.int)) u = some (.lst ((tI tn).map V.int)) := upd_same
 generalize upd (upd (upd (upd H r (.rng 0 ((cs.length : Nat) : Int))) u (.lst ((tI (List.range cs.length)).map V.int))) u (.lst ((tI ((List.range cs.length).set i j)).map V.int))) u (.lst ((tI tn).map V.int)) = H3 at s3 hu3 ⊢
 refine ⟨_, rfl, t, _, _, _, rfl, rfl, s3.tup ht, at0, rl, _, rfl, .inl (s3.seq hl), fun L hL => ?_⟩
 have s4 := same_new' hL (.lst vs)
 have s34 := s3.trans s4
 have LH : H L = none := by
  cases e5 : H L with
  | none => rfl
  | some o => rw [s3 _ _ e5] at hL; cases hL
 let Pv1 : Nat → St → Hp → Prop := fun k σ H4 => ∃ (ws : List V) (qs : List Rw) (x y : Option V), σ = [some (.ref t), some (.ref l), some (.int at_), some (.int ((cs.length : Nat) : Int)), some (.int ((i : Nat) : Int)), some (.int ((j : Nat) : Int)), some (.ref u), some (.ref L), x, y, none] ∧ H4 L = some (.lst ws) ∧ RowsAre K H4 ws qs ∧ (∀ r ∈ qs, r.1.length = cs.length) ∧ qs.length ≤ rs.length + k ∧ rs.length ≤ qs.length ∧ H4 u = some (.lst ((tI tn).map V.int)) ∧ Same H H4
 refine ⟨_, rfl, t, _, _, _, rfl, rfl, s34.tup ht, at0, rl, rfl, ⟨_, s34.seq hl⟩, for_list (K := K) (a := rl) (xs := vs) Pv1 ⟨vs, rs, none, none, rfl, upd_same, hrw.imp fun _ _ z => z.same s34, hrl, jJ _, jJ _, s4 _ _ hu3, s34⟩ (fun k σ H4 _ h => ?_) ?_ ?_⟩
 ·obtain ⟨ws, qs, x, y, rfl, hL4, hra, hql, hq1, hq2, hu4, s5⟩ := h
  exact s5.seq hl
 ·rintro k x σ H4 e1 ⟨ws, qs, x', y', rfl, hL4, hra, hql, hq1, hq2, hu4, s5⟩
  obtain ⟨t', row, rfl, er, hrt⟩ := hrw.get e1
  have hrow := hrl row (kX er)
  have hk : k < rs.length := (yQ.mp er).1
  refine ⟨_, rfl, _, rfl, t', u, row, cs.length, tn, rfl, hrt.same s5, sqL_new hu4, htl, htb, hrow, by lia, fun r' H5 s6 rr => ?_⟩
  have hL5 := s6 _ _ hL4
  have hra5 := hra.imp fun _ _ z => z.same s6
  refine ⟨_, rfl, .inl ⟨rfl, _, sqL_new hL5⟩, _, rfl, L, r', _, ws, qs, rfl, rfl, sqL_new hL5, rr, hra5, fun n1 => ?_⟩
  refine ⟨_, rfl, .inl ⟨rfl, _, sqL_new hL5⟩, _, rfl, L, t', _, ws, qs, rfl, rfl, sqL_new hL5, hrt.same (s5.trans s6), hra5, fun n2 => ⟨_, _, rfl, rfl, _, rfl, ite2 (fun _ => ?_) (fun _ => ?_)⟩⟩
  ·refine ⟨_, rfl, .inl ⟨rfl, _, sqL_new hL5⟩, _, rfl, L, _, _, rfl, rfl, hL5, by rw [hra.length]; lia, ?_⟩
   refine ⟨_, qs ++ [(put row.1 tn cs.length, row.2)], _, _, rfl, upd_same, RowsAre.snoc (hra5.imp fun _ _ z => z.upd hL5) (rr.upd hL5), fun r2 hr2 => ?_, by rw [kQ]; simp only [kK, xJ]; lia, by rw [kQ]; lia, ?_, fun b o e => ?_⟩
   ·rcases zV.mp hr2 with z | z
    ·exact hql r2 z
    ·rw [yK.mp z]; exact (put_length ..).trans htl
   ·have : u ≠ L := fun z => by subst z; rw [hL] at hu3; cases hu3
    rw [upd_ne this]
    exact s6 _ _ hu4
   ·rw [upd_ne (ne_of_none e LH)]
    exact s6 _ _ (s5 _ _ e)
  ·exact ⟨ws, qs, _, _, rfl, hL5, hra5, hql, by lia, hq2, s6 _ _ hu4, s5.trans s6⟩
 ·rintro σ H4 ⟨ws, qs, x, y, rfl, hL4, hra, hql, hq1, hq2, hu4, s5⟩
  refine ⟨_, rfl, t, _, _, _, rfl, rfl, s5.tup ht, at1, c, _, rfl, .inr (s5.tup hc), fun C hC => ?_⟩
  have s6 := same_new' hC (.lst (cs.map V.int))
  refine ⟨_, rfl, _, rfl, C, _, _, _, rfl, rfl, sqL_new upd_same, atNat (show (cs.map V.int)[j]? = some (.int (cs.getD j 0)) by rw [jK, jY, gE hj]; rfl), _, rfl, _, rfl, C, _, _, i, rfl, rfl, upd_same, ixNat (by lia), ?_⟩
  rw [set_map]
  have s7 : Same H4 (upd (upd H4 C (.lst (cs.map V.int))) C (.lst ((cs.set i (cs.getD j 0)).map V.int))) := fun b o e => by
   rw [upd_ne (ne_of_none e hC)]; exact s6 _ _ e
  have hC7 : upd (upd H4 C (.lst (cs.map V.int))) C (.lst ((cs.set i (cs.getD j 0)).map V.int)) C = some (.lst ((cs.set i (cs.getD j 0)).map V.int)) := upd_same
  generalize upd (upd H4 C (.lst (cs.map V.int))) C (.lst ((cs.set i (cs.getD j 0)).map V.int)) = H7 at s7 hC7 ⊢
  refine ⟨_, rfl, _, rfl, C, _, rfl, .inl ⟨sqL_new hC7, fun l2 hl2 => ?_⟩⟩
  have s8 := s7.trans (same_new' hl2 (.tup ((cs.set i (cs.getD j 0)).map V.int)))
  refine ⟨by show 2 ≤ sizeLine; decide, fun t2 ht2 => ?_⟩
  have s9 := s8.trans (same_new' ht2 (.tup [.ref L, .ref l2]))
  have nt : l2 ≠ t2 := ne_of_none upd_same ht2
  have lrs : vs.length = rs.length := lv
  refine q t2 qs (cs.set i (cs.getD j 0)) _ (s5.trans s9) ⟨L, l2, ws, sqT_new upd_same, s9.seq (sqL_new hL4), hra.imp fun _ _ z => z.same s9, sqT_new (by rw [upd_ne nt]; exact upd_same)⟩ hql (by rw [xZ]) (by lia) ⟨fun z => ?_, fun z => ?_⟩
  ·subst z; exact zW (by simpa using hq2)
  ·subst z; exact zW (by simp at hq1 lrs; subst lrs; simpa using hq1)
theorem scEven10 : FnScope ["_law_problem_here", "_law_many", "_law_rows"] ["_law_problem_here"] (defScope sEven10) := ⟨rfl, rfl, rfl, by decide +kernel, rfl, by decide +kernel, by decide +kernel⟩
theorem okEven10 (F : Fn K mg "_law_even" sEven10) (M : Mg mg) : Cal P w K mg base 1 "_law_even" ["_law_problem_here"] (spEven10 K) := by
 refine cal_of F scEven10 (fun _ _ _ _ _ _ => bind1 (fun _ => rfl)) (fun vs H Q E h => ?_) (fun f cdv A outer s H vs Q E hr h => ?_)
 ·obtain ⟨t, rs, cs, rfl, _⟩ := h
  rfl
 obtain ⟨t, rs, cs, rfl, hP, hrl, hn, hm, q⟩ := h
 refine ⟨_, (pss_cons (ps_set (i := 1) scEven10.nd rfl (Or.inr rfl) (pe_callB call_len_seq rfl M.len bt_len (pa_cons (pe_ix ix_tup (pv 0) pe_int (fun _ _ => rfl)) pa_nil)))
  (pss_cons (ps_setC (i := 2) ["_law_row_here", "_law_many"] [none, some 1] rfl scEven10.nd rfl (Or.inl rfl) (pi_list (pe_ix ix_tup (pv 0) pe_int (fun _ _ => rfl))) (fun _ _ _ => (pg_name (i := 0) (show (["_law_row_here", "_law_many"] : List Str).Nodup by decide +kernel) rfl (Or.inl rfl) (Or.inr rfl))) (fun _ _ _ => pf_nil) (fun _ _ _ => (pe_tup (pa_cons (pe_op (op_repTK (K := K) rfl) (pe_slice (sl_tupGK (K := K) rfl) (pe_ix (ix_tupK (K := K) rfl) (pv 0) pe_int (fun _ _ => rfl)) po_none (po_some pe_int)) (pv 1)) (pa_cons (pe_ix (ix_tupK (K := K) rfl) (pv 0) pe_int (fun _ _ => rfl)) pa_nil)))))
  (pss_one (ps_ret (pe_tup (pa_cons (pv 2) (pa_cons (pe_op op_repT (pe_slice sl_tupG (pe_ix ix_tup (pv 0) pe_int (fun _ _ => rfl)) po_none (po_some pe_int)) (pv 1)) pa_nil))))))), ?_⟩
 refine seq_let3 ?_
 intro rT3 rT2
 have hz : (2000 : Nat) < sizeLine := by decide
 obtain ⟨rl, c, vs, ht, hl, hrw, hc⟩ := id hP
 have lv := hrw.length
 have lc : (cs.map V.int).length = cs.length := jQ ..
 have cut1 : ∀ xs : List Int, cutV (xs.map V.int) none (some 1) = (xs.take 1).map V.int := by
  intro xs
  cases xs with
  | nil => rfl
  | cons x r =>
   unfold cutV
   rw [jQ]
   show (((x :: r).map V.int).drop 0).take (min (1 : Int).toNat (x :: r).length - 0) = _
   rw [kYc, jZb (show (1 : Int).toNat ≤ (x :: r).length from Nat.succ_le_succ (jXc _))]
   rfl
 have lcut : ∀ xs : List Int, xs.length = cs.length → ((xs.take 1).map V.int).length * Int.toNat ((cs.length : Nat) : Int) ≤ sizeLine := by
  intro xs hx
  rw [jQ, yX]
  exact wW (Nat.mul_le_mul (Nat.min_le_left _ _) (show Int.toNat ((cs.length : Nat) : Int) ≤ 5 by lia)) (by lia)
 refine ⟨_, rfl, t, _, _, _, rfl, rfl, ht, at1, c, _, rfl, .inr hc, ?_⟩
 rw [lc]
 refine ⟨_, rfl, t, _, _, _, rfl, rfl, ht, at0, rl, rfl, ⟨_, hl⟩, fun D hD => ?_⟩
 let Pv1 : Nat → St → List V → Hp → Prop := fun i τ ys H1 => ∃ (v : Option V) (qs : List Rw), τ = [v, some (.int ((cs.length : Nat) : Int))] ∧ RowsAre K H1 ys qs ∧ qs.length = i ∧ (∀ r ∈ qs, r.1.length = cs.length) ∧ H1 D = some (.lst ys) ∧ Same H H1
 refine lc_any (n := rs.length) Pv1 ?_ (fun i τ ys H1 hi h => ?_) (fun i τ ys H1 hi h => ?_) (fun τ ys H1 h => ?_) ?_ ?_
 ·exact ⟨none, [], rfl, .nil, rfl, (fun _ z => nomatch z), upd_same, same_new' hD _⟩
 ·obtain ⟨v, qs, rfl, hr1, rfl, hql, hD1, s1⟩ := h
  exact ⟨hD1, by rw [hr1.length]; lia⟩
 ·obtain ⟨v, qs, rfl, hr1, rfl, hql, hD1, s1⟩ := h
  exact ⟨vs, vs[qs.length]'(by lia), s1.seq hl, gE (by lia)⟩
 ·obtain ⟨v, qs, rfl, hr1, eq, hql, hD1, s1⟩ := h
  exact ⟨vs, s1.seq hl, by lia⟩
 ·rintro i τ ys H1 x H2 hi ⟨v, qs, rfl, hr1, rfl, hql, hD1, s1⟩ ⟨rfl, e1⟩
  obtain ⟨t', r, rfl, er, p, rt1, rt2⟩ := hrw.get (e1 _ (s1.seq hl))
  have hrow := hrl r (kX er)
  refine ⟨_, rfl, t', _, _, _, rfl, rfl, s1.tup rt1, at0, _, rfl, p, _, rfl, s1.tup rt2, fun p1 H3 s3 hp1 => ?_⟩
  rw [cut1] at hp1
  refine ⟨_, rfl, p1, _, _, rfl, rfl, hp1, by lia, by lia, lcut _ hrow, fun p2 H4 s4 hp2 => ?_⟩
  rw [flat_map, show Int.toNat ((cs.length : Nat) : Int) = cs.length by lia] at hp2
  have s34 := s3.trans s4
  refine ⟨_, rfl, t', _, _, _, rfl, rfl, (s1.trans s34).tup rt1, at1, by show 2 ≤ sizeLine; decide, fun t2 ht2 => ?_⟩
  have s5 := s34.trans (same_new' ht2 (.tup [.ref p2, .int r.2]))
  refine ⟨s5 _ _ hD1, _, qs ++ [((List.replicate cs.length (r.1.take 1)).flatten, r.2)], rfl, ?_, by rw [kQ]; rfl, fun r2 hr2 => ?_, upd_same, fun b o e => ?_⟩
  ·exact RowsAre.snoc (hr1.imp fun _ _ z => (z.same s5).upd (s5 _ _ hD1)) (RowAt.upd (s5 _ _ hD1) ⟨p2, sqT_new upd_same, (same_new' ht2 _).tup hp2⟩)
  ·rcases zV.mp hr2 with z | z
   ·exact hql r2 z
   ·rw [yK.mp z]; exact rep_len _ _ hrow
  ·rw [upd_ne (ne_of_none e hD)]; exact s5 _ _ (s1 _ _ e)
 ·rintro τ ys H1 ⟨v, qs, rfl, hr1, eq, hql, hD1, s1⟩
  refine ⟨_, rfl, _, rfl, t, _, _, _, rfl, rfl, s1.tup ht, at1, _, rfl, c, _, rfl, s1.tup hc, fun p1 H3 s3 hp1 => ?_⟩
  rw [cut1] at hp1
  refine ⟨_, rfl, p1, _, _, rfl, rfl, hp1, by lia, by lia, lcut _ rfl, fun p2 H4 s4 hp2 => ?_⟩
  rw [flat_map, show Int.toNat ((cs.length : Nat) : Int) = cs.length by lia] at hp2
  have s34 := s3.trans s4
  refine ⟨by show 2 ≤ sizeLine; decide, fun t2 ht2 => ?_⟩
  have s5 := s34.trans (same_new' ht2 (.tup [.ref D, .ref p2]))
  exact q t2 qs _ _ (s1.trans s5) ⟨D, p2, ys, sqT_new upd_same, s5.seq (sqL_new hD1), hr1.imp fun _ _ z => z.same s5, (same_new' ht2 _).tup hp2⟩ hql (rep_len _ _ rfl) eq
theorem scGiven10 : FnScope ["_law_draws_here", "_law_many", "_law_problem_here", "_law_best"] ["_law_draws_here"] (defScope sGiven10) := ⟨rfl, rfl, rfl, by decide +kernel, rfl, by decide +kernel, by decide +kernel⟩
theorem okGiven10 (F : Fn K mg "_law_given" sGiven10) (M : Mg mg) (cl_problem : Cal P w K mg base 2 "_law_problem" ["_law_draws_here", "_law_at", "_law_many", "_law_rows"] (spProblem10 K)) (cl_alike : Cal P w K mg base 2 "_law_alike" ["_law_problem_here", "_law_draws_here", "_law_at"] (spAlike10 K)) (cl_even : Cal P w K mg base 1 "_law_even" ["_law_problem_here"] (spEven10 K)) : Cal P w K mg base 3 "_law_given" ["_law_draws_here"] (spGiven10 K 0) := by
 refine cal_of F scGiven10 (fun _ _ _ _ _ _ => bind1 (fun _ => rfl)) (fun vs H Q E h => ?_) (fun f cdv A outer s H vs Q E hr h => ?_)
 ·obtain ⟨l, ds, rfl, _⟩ := h
  rfl
 obtain ⟨l, ds, rfl, hD0, hlen, q⟩ := h
 refine ⟨_, (pss_cons (ps_set (i := 1) scGiven10.nd rfl (Or.inl rfl) (pe_op op_mod (pe_ix ix_list (pv 0) pe_int (fun _ _ => rfl)) pe_int))
  (pss_cons (ps_set (i := 2) scGiven10.nd rfl (Or.inl rfl) (pe_fn cl_problem (hr.mono (by decide)) (pa_cons (pv 0) (pa_cons pe_int (pa_cons (pv 1) (pa_cons (pe_op op_mod (pe_ix ix_list (pv 0) pe_int (fun _ _ => rfl)) pe_int) pa_nil))))))
  (pss_cons (ps_if (pt_cmpR op_eq (pe_op op_mod (pe_ix ix_list (pv 0) pe_int (fun _ _ => rfl)) pe_int) pe_int (nomark _)) (pss_one (ps_set (i := 2) scGiven10.nd rfl (Or.inl rfl) (pe_fn cl_alike (hr.mono (by decide)) (pa_cons (pv 2) (pa_cons (pv 0) (pa_cons pe_int pa_nil)))))) pss_nil)
  (pss_cons (ps_if (pt_cmpR op_eq (pe_op op_mod (pe_ix ix_list (pv 0) pe_int (fun _ _ => rfl)) pe_int) pe_int (nomark _)) (pss_one (ps_set (i := 2) scGiven10.nd rfl (Or.inl rfl) (pe_fn cl_even (hr.mono (by decide)) (pa_cons (pv 2) pa_nil)))) pss_nil)
  (pss_cons (ps_set (i := 3) scGiven10.nd rfl (Or.inl rfl) (pe_op op_sub (pe_op op_mod (pe_ix ix_list (pv 0) pe_int (fun _ _ => rfl)) pe_int) pe_int))
  (pss_cons (ps_if (pt_cmpR op_eq (pe_op op_mod (pe_op op_fdiv (pe_ix ix_list (pv 0) pe_int (fun _ _ => rfl)) pe_int) pe_int) pe_int (nomark _)) (pss_one (ps_set (i := 3) scGiven10.nd rfl (Or.inl rfl) pe_non)) pss_nil)
  (pss_one (ps_ret (pe_tup (pa_cons (pv 2) (pa_cons (pv 3) pa_nil))))))))))), ?_⟩
 refine seq_let7 ?_
 intro rT7 rT6 rT5 rT4 rT3 rT2
 obtain ⟨z0, hz0, _, _⟩ := hD0.get 0 (by decide) (by lia)
 obtain ⟨z1, hz1, _, _⟩ := hD0.get 1 (by decide) (by lia)
 obtain ⟨z2, hz2, _, _⟩ := hD0.get 2 (by decide) (by lia)
 obtain ⟨z5, hz5, _, _⟩ := hD0.get 5 (by decide) (by lia)
 have hz : (2000 : Nat) < sizeLine := by decide
 refine ⟨_, rfl, l, _, _, _, rfl, rfl, hD0.lst, hz0, _, _, rfl, rfl, (by show (0 : Int) < _; decide +kernel), ?_⟩
 obtain ⟨n, en, hn5⟩ : ∃ n : Nat, z0 % 6 = (n : Int) ∧ n ≤ 5 := ⟨(z0 % 6).toNat, by lia, by lia⟩
 obtain ⟨m, em, hm5⟩ : ∃ m : Nat, z1 % 6 = (m : Int) ∧ m ≤ 5 := ⟨(z1 % 6).toNat, by lia, by lia⟩
 show tSeq _ _ _ [some (.ref l), some (.int (z0 % 6)), none, none] H
 rw [en]
 clear en
 refine ⟨_, rfl, _, rfl, _, rfl, l, _, _, _, rfl, rfl, hD0.lst, hz1, _, _, rfl, rfl, (by show (0 : Int) < _; decide +kernel), l, ds, 10, n, m, (by show [V.ref l, V.int 10, V.int (n : Int), V.int (z1 % 6)] = _; rw [em]), hD0, by decide, by lia, by lia, by lia, by lia, fun p rs cs H1 s1 hP hr1 hc1 hm1 => ?_⟩
 clear em
 refine name_cut (fun σ' H' => ∃ (p9 : Addr) (rs9 : List Rw) (cs9 : List Int), σ' = [some (.ref l), some (.int (n : Int)), some (.ref p9), none] ∧ ProbAt K H' p9 rs9 cs9 ∧ (∀ r ∈ rs9, r.1.length = n) ∧ cs9.length = n ∧ rs9.length ≤ 10 ∧ Same H H') ?_ fun REST => ?_
 ·rintro σ' H8 ⟨p8, rs8, cs8, rfl, hP8, hr8, hc8, hm8, s8⟩
  refine seq_cut (fun σ' H' => ∃ (p9 : Addr) (rs9 : List Rw) (cs9 : List Int), σ' = [some (.ref l), some (.int (n : Int)), some (.ref p9), none] ∧ ProbAt K H' p9 rs9 cs9 ∧ (∀ r ∈ rs9, r.1.length = n) ∧ cs9.length = n ∧ rs9.length ≤ 10 ∧ Same H H') ?_ fun REST => ?_
  rotate_left
  ·refine ⟨_, rfl, l, _, _, _, rfl, rfl, (hD0.same s8).lst, hz2, _, _, rfl, rfl, (by show (0 : Int) < _; decide +kernel), rfl, _, rfl, ite2 (fun _ => ?_) (fun _ => REST _ _ ⟨p8, rs8, cs8, rfl, hP8, hr8, hc8, hm8, s8⟩)⟩
   exact ⟨_, rfl, p8, rs8, cs8, rfl, hP8, fun r hr' => by rw [hc8]; exact hr8 r hr', by lia, hm8, fun p9 rs9 cs9 H9 s9 hP9 hr9 hc9 hm9 => REST _ _ ⟨p9, rs9, cs9, rfl, hP9, fun r hr' => by rw [← hc8]; exact hr9 r hr', by lia, by lia, s8.trans s9⟩⟩
  rintro σ' H9 ⟨p9, rs9, cs9, rfl, hP9, hr9, hc9, hm9, s9⟩
  refine ⟨_, rfl, l, _, _, _, rfl, rfl, (hD0.same s9).lst, hz5, _, _, rfl, rfl, (by show (0 : Int) < _; decide +kernel), _, _, rfl, rfl, ?_⟩
  refine ⟨_, rfl, l, _, _, _, rfl, rfl, (hD0.same s9).lst, hz5, _, _, rfl, rfl, ⟨by decide, by decide⟩, _, _, rfl, rfl, (by show (0 : Int) < _; decide +kernel), rfl, _, rfl, ite2 (fun _ => ?_) (fun _ => ?_)⟩
  ·exact ⟨_, rfl, _, rfl, by show 2 ≤ sizeLine; decide, fun t ht => q t p9 rs9 cs9 none _ (s9.trans (same_new' ht _)) (sqT_new upd_same) (hP9.same (same_new' ht _)) (fun r hr' => by rw [hc9]; exact hr9 r hr') (by lia) (by lia) hm9⟩
  ·exact ⟨_, rfl, _, rfl, by show 2 ≤ sizeLine; decide, fun t ht => q t p9 rs9 cs9 (some _) _ (s9.trans (same_new' ht _)) (sqT_new upd_same) (hP9.same (same_new' ht _)) (fun r hr' => by rw [hc9]; exact hr9 r hr') (by lia) (by lia) hm9⟩
 ·refine ⟨_, rfl, l, _, _, _, rfl, rfl, (hD0.same s1).lst, hz2, _, _, rfl, rfl, (by show (0 : Int) < _; decide +kernel), rfl, _, rfl, ite2 (fun _ => ?_) (fun _ => REST _ _ ⟨p, rs, cs, rfl, hP, hr1, hc1, by lia, s1⟩)⟩
  exact ⟨_, rfl, _, rfl, p, l, ds, 3, rs, cs, rfl, hP, hD0.same s1, by decide, by lia, fun r hr' => by rw [hc1]; exact hr1 r hr', by lia, by lia, fun p9 rs9 cs9 H9 s9 hP9 hr9 hc9 hm9 _ => REST _ _ ⟨p9, rs9, cs9, rfl, hP9, fun r hr' => by rw [← hc1]; exact hr9 r hr', by lia, hm9, s1.trans s9⟩⟩
end
abbrev sLaw : Stmt := top 55
theorem filter_snoc {f : List Int → Bool} {l : List (List Int)} {i : Nat} {ms : List Int} (h : l[i]? = some ms) : (l.take (i + 1)).filter f = (l.take i).filter f ++ if f ms = true then [ms] else [] := by
 rw [takeS h, List.filter_append]
 congr 1
 by_cases e : f ms = true
 ·rw [if_pos e, List.filter_cons_of_pos e, List.filter_nil]
 ·rw [if_neg e, List.filter_cons_of_neg e, List.filter_nil]
theorem cut_to (xs : List V) (k : Nat) : cutV xs none (some ((k : Nat) : Int)) = xs.take k := by
 unfold cutV
 show (xs.drop 0).take (HT.sIx xs.length xs.length (some ((k : Nat) : Int)) - 0) = _
 rw [kYc, Nat.sub_zero, HT.sIx_nat]
 by_cases h : k ≤ xs.length
 ·rw [jZb h]
 ·rw [Nat.min_eq_right (by lia), xW, xQ (by lia)]
theorem fmap_snoc {n : Nat} {l : List Dt} {i : Nat} {d : Dt} (h : l[i]? = some d) : (l.take (i + 1)).filterMap (likeOf n) = (l.take i).filterMap (likeOf n) ++ (likeOf n d).toList := by
 rw [takeS h, List.filterMap_append]
 cases e : likeOf n d with
 | none => rw [List.filterMap_cons_none e]; rfl
 | some t => rw [List.filterMap_cons_some e]; rfl
theorem TurnsAre.app {K : Fg} {H : Hp} {vs ws : List V} {ts us : List (List Nat)} (h1 : TurnsAre K H vs ts) (h2 : TurnsAre K H ws us) : TurnsAre K H (vs ++ ws) (ts ++ us) := by
 unfold TurnsAre at *
 induction h1 with
 | nil => exact h2
 | cons a b ih => exact .cons a ih
theorem turn_at {K : Fg} {H : Hp} {n : Nat} {v : V} {d : Dt} {t : List Nat} (h : HasT K H v d) (e : turnT n d = some t) : ∃ a, v = .ref a ∧ SqL K H a ((tI t).map V.int) := by
 obtain ⟨zs, rfl⟩ := turnT_inv e
 obtain ⟨ea, _, _⟩ := isTurn_of e
 obtain ⟨al, vs2, rfl, hal, hall, hgl⟩ := h.lst_inv
 obtain ⟨ev, _⟩ := allT_vals (n := n) hall hgl ea
 refine ⟨al, rfl, ?_⟩
 show SqL K H al ((t.map fun (k : Nat) => (k : Int)).map V.int)
 rw [← ev]
 exact hal
section
variable {P : Program} {w : World} {K : Fg} {mg : Str → Option Value} {base : Heap} {aT aL : Addr} {fT fL : Str → Option Value}
theorem scLaw : FnScope ["_law_script", "_law_draws_here", "_law_problem_here", "_law_best", "_law_paper_here", "_law_handed", "_law_tells", "_law_points_here", "_law_turns", "_law_point", "_law_numbers", "_law_least"] ["_law_script"] (defScope sLaw) := ⟨rfl, rfl, rfl, by decide +kernel, rfl, by decide +kernel, by decide +kernel⟩
theorem okLaw {f : Addr} {fd : FuncData} (F : Fun K "law" "law" sLaw f fd) (M : Mg mg) (cl_draws : Cal P w K mg base 2 "_law_draws" ["_law_script", "_law_many"] (spDraws10 K)) (cl_given : Cal P w K mg base 3 "_law_given" ["_law_draws_here"] (spGiven10 K 0)) (cl_paper : Cal P w K mg base 9 "_law_paper" ["_law_draws_here", "_law_problem_here", "_law_best"] (spPaper12 K)) (cl_points : Cal P w K mg base 1 "_law_points" ["_law_many"] (spPoints K)) (cl_kept : Cal P w K mg base 2 "_law_kept" ["_law_problem_here", "_law_best", "_law_point"] (spKept13 K)) (cl_greatest : Cal P w K mg base 2 "_law_greatest" ["_law_points_here", "_law_turns"] (spGreat12 K)) (cl_sum : Cal P w K mg base 1 "_law_sum" ["_law_numbers", "_law_point"] (spWeighed K)) (c_rows_told : Cal P w K mg base 7 "rows_told" ["problem", "best", "paper"] (spRowsTold K)) (c_judged : Cal P w K mg base 8 "judged" ["problem", "best", "paper"] (spJudged K)) : FnOk P w K mg base CX0 11 f fd ["_law_script"] (spLaw K) := by
 refine F.ok scLaw (fun vs H Q E h => ?_) (fun cdv A outer s H vs Q E hr h => ?_)
 ·obtain ⟨a, ns, rfl, _⟩ := h
  rfl
 obtain ⟨a, ns, rfl, hS, hB, q⟩ := h
 have hu6 : (A.deeper (PyProof.Rows.envOfC "law" (defScope sLaw) s.heap.objs.size f cdv)).units + 6 < cLine := wV (jQf (by decide) _) hr.un
 refine ⟨_, (QSs.pss (qss_cons (qs_set (i := 1) scLaw.nd rfl (Or.inl rfl) (QE.of (pe_fn cl_draws (hr.mono (by decide)) (pa_Name (pv 0) (pa_Constant pe_int pa_nil)))))
  (qss_cons (qs_asg (QE.of (pe_fn cl_given (hr.mono (by decide)) (pa_Name (pv 1) pa_nil))) (pg_tup rfl (pgs_cons (pg_name (i := 2) scLaw.nd rfl (Or.inr rfl) (Or.inl rfl)) (pgs_cons (pg_name (i := 3) scLaw.nd rfl (Or.inr rfl) (Or.inl rfl)) pgs_nil))))
  (qss_cons (qs_set (i := 4) scLaw.nd rfl (Or.inl rfl) (QE.of (pe_fn cl_paper (hr.mono (by decide)) (pa_Name (pv 1) (pa_Name (pv 2) (pa_Name (pv 3) pa_nil))))))
  (qss_cons (qs_set (i := 5) scLaw.nd rfl (Or.inl rfl) (qe_tup (qa_Call (QE.of (pe_callTy call_list_of rfl M.list_ bt_list (pa_Subscript (pe_ix ix_tup (pv 2) pe_int (fun _ _ => rfl)) pa_nil))) (qa_Subscript (QE.of (pe_ix ix_tup (pv 2) pe_int (fun _ _ => rfl))) qa_nil))))
  (qss_cons (qs_set (i := 6) scLaw.nd rfl (Or.inl rfl) (QE.of (pe_fn c_rows_told (hr.mono (by decide)) (pa_Name (pv 5) (pa_Name (pv 3) (pa_Call (pe_callTy call_list_of rfl M.list_ bt_list (pa_Name (pv 4) pa_nil)) pa_nil))))))
  (qss_cons (QS.of (ps_setC (i := 7) ["_law_point", "_law_problem_here", "_law_best"] [none, some 2, some 3] rfl scLaw.nd rfl (Or.inl rfl) (pi_list (pe_fn cl_points (hr.mono (by decide)) (pa_Call (pe_callB call_len_seq rfl M.len bt_len (pa_Subscript (pe_ix ix_tup (pv 2) pe_int (fun _ _ => rfl)) pa_nil)) pa_nil))) (fun _ _ _ => (pg_name (i := 0) (show (["_law_point", "_law_problem_here", "_law_best"] : List Str).Nodup by decide +kernel) rfl (Or.inl rfl) (Or.inr rfl))) (fun _ _ _ => (pf_one (pt_val (pe_fn cl_kept (hr.mono (by decide)) (pa_Name (pv 1) (pa_Name (pv 2) (pa_Name (pv 0) pa_nil))))))) (fun _ _ _ => (pv 0))))
  (qss_cons (qs_if (PW.pt (pw_and (pt_cmpR op_isN (pe_fn c_judged (hr.mono (by decide)) (pa_Name (pv 5) (pa_Name (pv 3) (pa_Call (pe_callTy call_list_of rfl M.list_ bt_list (pa_Name (pv 4) pa_nil)) pa_nil)))) pe_non (nomark _)) (pw_and1 (pt_cmpR (op_neNil (K := K) (n := 6) rfl hu6) (pv 7) (QE.pe (qe_lst qa_nil)) (nomark _))))) (qss_one (qs_ret (QE.of pe_bl))) qss_nil)
  (qss_cons (QS.of (ps_setC (i := 8) ["_law_line_here"] [none] rfl scLaw.nd rfl (Or.inl rfl) (pi_list (pe_slice sl_list (pv 4) po_none (po_some (pe_callB call_len_seq rfl M.len bt_len (pa_Name (pv 6) pa_nil))))) (fun _ _ _ => (pg_name (i := 0) (show (["_law_line_here"] : List Str).Nodup by decide +kernel) rfl (Or.inl rfl) (Or.inr rfl))) (fun _ _ _ => (pf_one (pt_cmpR op_eq (pe_ix (ix_tupK (K := K) rfl) (pv 0) pe_int (fun _ _ => rfl)) pe_str (nomark _)))) (fun _ _ _ => (pe_ix (ix_tupK (K := K) rfl) (pv 0) pe_int (fun _ _ => rfl)))))
  (qss_cons (QS.of (ps_for PassesOwn.never rfl (pi_list (pe_fn cl_greatest (hr.mono (by decide)) (pa_Name (pv 7) (pa_Name (pv 8) pa_nil)))) (pg_name (i := 9) scLaw.nd rfl (Or.inl rfl) (Or.inl rfl)) (QSs.pss (qss_one (QS.of (ps_for PassesOwn.never rfl (pi_list (pv 6)) (pg_pair (K := K) (i := 10) (j := 11) rfl rfl scLaw.nd rfl rfl rfl rfl) (QSs.pss (qss_one (qs_if (pt_cmpR op_lt (pe_fn cl_sum (hr.mono (by decide)) (pa_Name (pv 10) (pa_Name (pv 9) pa_nil))) (pv 11) (nomark _)) (qss_one (qs_ret (QE.of pe_bl))) qss_nil)))))))))
  (qss_one (qs_ret (QE.of (pe_cmpR (op_eqD (n := 6) hu6) (pv 5) (pv 2) (nomark _))))))))))))))), ?_⟩
 refine seq_let10 ?_
 intro rT10 rT9 rT8 rT7 rT6 rT5 rT4 rT3 rT2
 have hz : (2000 : Nat) < sizeLine := by decide
 refine ⟨_, rfl, a, ns, 300, rfl, hS, by decide, fun l ds H1 hlen s1 hD => ?_⟩
 refine ⟨_, rfl, l, ds, rfl, hD, by lia, fun t p rs cs best H2 s2 ht hP hrl hlo hn hm => ?_⟩
 refine ⟨t, _, rfl, ht, rfl, _, _, rfl, _, _, rfl, rfl, ?_⟩
 obtain ⟨rl, c, vs, hpt, hl, hrw, hc⟩ := id hP
 have lv := hrw.length
 have lc : (cs.map V.int).length = cs.length := jQ ..
 refine ⟨_, rfl, _, rfl, _, rfl, l, p, ds, rs, cs, best, rfl, hD.same s2, hlen, hP, hrl, hn, hm, fun P us ls H3 s3 hP3 hT hls hll => ?_⟩
 have lu := hT.1
 refine ⟨_, rfl, p, _, _, _, rfl, rfl, s3.tup hpt, at0, rl, _, rfl, .inl (s3.seq hl), fun L fL => ?_⟩
 have s5 := same_new' fL (.lst vs)
 refine ⟨_, rfl, p, _, _, _, rfl, rfl, (s3.trans s5).tup hpt, at1, by show 2 ≤ sizeLine; decide, fun hd fhd => ?_⟩
 have s6 := s5.trans (same_new' fhd (.tup [.ref L, .ref c]))
 have hhd : ProbAt K (upd (upd H3 L (.lst vs)) hd (.tup [.ref L, .ref c])) hd rs cs := ⟨L, c, vs, sqT_new upd_same, sqL_new (by rw [upd_ne (ne_of_none upd_same fhd)]; exact upd_same), hrw.imp fun _ _ z => (z.same s3).same s6, s6.tup (s3.tup hc)⟩
 generalize upd (upd H3 L (.lst vs)) hd (.tup [.ref L, .ref c]) = H5 at s6 hhd ⊢
 have hP5 := s6 _ _ hP3
 have hT5 := hT.same s6
 have hp5 := (hP.same s3).same s6
 have hpt5 := s6.tup (s3.tup hpt)
 have hc5 := s6.tup (s3.tup hc)
 have PX : ∀ (G : Hp) (x : Addr), G x = none → Same H5 G → Px K (upd G x (.lst us)) hd x rs cs us ls := fun G x fx sG =>
  have y := sG.trans (same_new' fx (.lst us))
  ⟨hhd.same y, sqL_new upd_same, (hT5.same y).1, (hT5.same y).2, fun d hd' => (hls d hd').1, hrl, by lia, by lia, by lia, fun _ _ _ _ _ _ => trivial⟩
 refine ⟨_, rfl, _, rfl, _, rfl, P, _, rfl, .inl (sqL_new hP5), fun q1 f1 => ⟨hd, q1, rs, cs, best, us, ls, rfl, PX H5 q1 f1 (Same.refl _), fun tl tv H6 _ s7 htl htr => ?_⟩⟩
 have s57 := (same_new' f1 (.lst us)).trans s7
 generalize upd H5 q1 (.lst us) = X0 at s7
 clear s7
 have ltv := htr.length
 obtain ⟨hlenR, _, hlt⟩ := toldAll_ok (best := best) hrl ls [] (fun _ h => nomatch h)
 rw [xJ, Nat.zero_add] at hlt
 refine ⟨_, rfl, p, _, _, _, rfl, rfl, s57.tup hpt5, at1, c, _, rfl, .inr (s57.tup hc5), _, rfl, by lia, by lia, fun PL ws H7 s8 hPL htw => ⟨PL, rfl, ⟨_, sqL_new hPL⟩, fun D fD => ?_⟩⟩
 rw [lc, show ((cs.length : Nat) : Int).toNat = cs.length by lia] at htw
 have lw := htw.length
 have hp128 := pts_small (i := cs.length) (by lia)
 have s58 := s57.trans s8
 let Pv1 : Nat → St → List V → Hp → Prop := fun i τ ys G => ∃ v : Option V, τ = [v, some (.ref p), some (bestV best)] ∧ TupsAre K G ys (((pts cs.length).take i).filter (keptB rs cs best)) ∧ G D = some (.lst ys) ∧ Same H7 G
 refine lc_any (n := (pts cs.length).length) Pv1 ?_ (fun i τ ys G hi h => ?_) (fun i τ ys G hi h => ?_) (fun τ ys G h => ?_) ?_ ?_
 ·exact ⟨none, rfl, .nil, upd_same, same_new' fD _⟩
 ·obtain ⟨v, rfl, ta, hD1, s9⟩ := h
  have := ta.length
  have h2 := List.length_filter_le (keptB rs cs best) ((pts cs.length).take i)
  rw [yX] at h2
  exact ⟨hD1, by lia⟩
 ·obtain ⟨v, rfl, ta, hD1, s9⟩ := h
  exact ⟨ws, ws[i]'(by lia), s9.seq (sqL_new hPL), gE (by lia)⟩
 ·obtain ⟨v, rfl, ta, hD1, s9⟩ := h
  exact ⟨ws, s9.seq (sqL_new hPL), by lia⟩
 ·rintro i τ ys G x G2 hi ⟨v, rfl, ta, hD1, s9⟩ ⟨rfl, e1⟩
  obtain ⟨tt, ms, rfl, em, htt⟩ := htw.get (e1 _ (s9.seq (sqL_new hPL)))
  have hms := kX em
  obtain ⟨hml, hm01⟩ := pts_of hms
  refine ⟨_, rfl, _, rfl, _, rfl, p, tt, rs, cs, best, ms, rfl, hp5.same (s58.trans s9), s9.tup htt, by lia, fun r hr' => by rw [hrl r hr']; lia, by lia, hm01, fun G3 s10 => ⟨_, rfl, ?_⟩⟩
  have es := filter_snoc (f := keptB rs cs best) em
  cases hk : keptB rs cs best ms with
  | true =>
   rw [hk, if_pos rfl] at es
   refine iteT ⟨_, rfl, s10 _ _ hD1, _, rfl, ?_, upd_same, fun b o e => ?_⟩
   ·rw [es]
    exact ((ta.same s10).upd (s10 _ _ hD1)).app (TupsAre.one (SqT_upd (s10 _ _ hD1) ((s9.trans s10).tup htt)))
   ·rw [upd_ne (ne_of_none e fD)]; exact s10 _ _ (s9 _ _ e)
  | false =>
   rw [hk, if_neg kZ, kZf] at es
   refine iteF ⟨_, rfl, ?_, s10 _ _ hD1, s9.trans s10⟩
   rw [es]
   exact ta.same s10
 rintro τ ys G ⟨v, rfl, ta, hDG, s9⟩
 rw [xW] at ta
 have s5G := s58.trans s9
 show rT7 _ [some (.ref a), some (.ref l), some (.ref p), some (bestV best), some (.ref P), some (.ref hd), some (.ref tl), some (.ref D), none, none, none, none] G
 refine id (show tSeq _ rT8 _ [some (.ref a), some (.ref l), some (.ref p), some (bestV best), some (.ref P), some (.ref hd), some (.ref tl), some (.ref D), none, none, none, none] G from ?_)
 refine seq_cut (fun σ' H' => σ' = [some (.ref a), some (.ref l), some (.ref p), some (bestV best), some (.ref P), some (.ref hd), some (.ref tl), some (.ref D), none, none, none, none] ∧ Same G H') ?_ fun REST => ?_
 rotate_left
 ·refine ⟨_, rfl, _, rfl, _, rfl, P, _, rfl, .inl (s5G.seq (sqL_new hP5)), fun q2 f2 => ⟨hd, q2, rs, cs, best, us, ls, rfl, PX G q2 f2 s5G, fun H8 s10 => ?_⟩⟩
  have sG8 := (same_new' f2 (.lst us)).trans s10
  cases hj : judgedT rs cs best ls with
  | some k => exact ⟨rfl, _, rfl, iteF (iteF (REST _ _ ⟨rfl, sG8⟩))⟩
  | none =>
   have hnil := judged_none hrl hj
   rw [hnil] at ta
   have hy : ys = [] := zW ta.length
   refine ⟨rfl, _, rfl, iteT ⟨_, rfl, by show 0 ≤ sizeLine; decide, fun e0 fe0 => ⟨D, e0, ys, rfl, rfl, sqL_new ((same_new' fe0 _) _ _ (sG8 _ _ hDG)), sqL_new upd_same, _, rfl, ?_⟩⟩⟩
   rw [hy]
   exact iteF (REST _ _ ⟨rfl, sG8.trans (same_new' fe0 _)⟩)
 rintro σ' H9 ⟨rfl, s10⟩
 have s59 := s5G.trans s10
 have hP9 := s59 _ _ hP5
 have hT9 := hT5.same s59
 have htl9 := (s8.trans (s9.trans s10)) _ _ htl
 refine ⟨_, rfl, _, rfl, tl, _, rfl, .inl (sqL_new htl9), _, rfl, P, us, rfl, sqL_new hP9, fun sl fsl => ⟨sl, rfl, ⟨_, sqL_new upd_same⟩, fun D2 fD2 => ?_⟩⟩
 rw [cut_to, ltv] at *
 have s11 := same_new' fsl (.lst (us.take (toldAll rs cs best ls []).length))
 have hsl : upd H9 sl (.lst (us.take (toldAll rs cs best ls []).length)) sl = some (.lst (us.take (toldAll rs cs best ls []).length)) := upd_same
 generalize upd H9 sl (.lst (us.take (toldAll rs cs best ls []).length)) = H10 at s11 hsl fD2 ⊢
 have hT10 := hT9.same s11
 have lsl : (us.take (toldAll rs cs best ls []).length).length = (toldAll rs cs best ls []).length := by rw [yX]; lia
 obtain ⟨ts, hts⟩ : ∃ ts : Nat → List (List Nat), ts = fun i => (ls.take i).filterMap (likeOf cs.length) := ⟨_, rfl⟩
 let Pv2 : Nat → St → List V → Hp → Prop := fun i τ yz G => ∃ v : Option V, τ = [v] ∧ TurnsAre K (Off G D2) yz (ts i) ∧ yz.length ≤ i ∧ G D2 = some (.lst yz) ∧ Same H10 G
 refine lc_any (n := (toldAll rs cs best ls []).length) Pv2 ?_ (fun i τ yz G hi h => ?_) (fun i τ yz G hi h => ?_) (fun τ yz G h => ?_) ?_ ?_
 ·refine ⟨none, rfl, ?_, jJ _, upd_same, same_new' fD2 _⟩
  rw [hts]
  exact .nil
 ·obtain ⟨v, rfl, ta2, hyl, hD2, s12⟩ := h
  exact ⟨hD2, by lia⟩
 ·obtain ⟨v, rfl, ta2, hyl, hD2, s12⟩ := h
  exact ⟨_, (us.take (toldAll rs cs best ls []).length)[i]'(by lia), s12.seq (sqL_new hsl), gE (by lia)⟩
 ·obtain ⟨v, rfl, ta2, hyl, hD2, s12⟩ := h
  exact ⟨_, s12.seq (sqL_new hsl), by lia⟩
 ·rintro i τ yz G x G2 hi ⟨v, rfl, ta2, hyl, hD2, s12⟩ ⟨rfl, e1⟩
  have e2 := e1 _ (s12.seq (sqL_new hsl))
  rw [jXb hi] at e2
  obtain ⟨d, ed⟩ : ∃ d, ls[i]? = some d := ⟨_, gE (by lia)⟩
  have hx10 := hT10.2 i x d e2 ed
  obtain ⟨w, xs, rfl⟩ := (hls d (kX ed)).2
  obtain ⟨pre, r, er⟩ := told_pre (rs := rs) (cs := cs) (best := best) ls [] i _ ed (by rw [xJ]; lia)
  obtain ⟨ln, vs', rfl, hlnO, hul, hget⟩ := (hx10.same (off_same (P := D2) s12 fD2)).tup_inv
  have hln := off_le.tup hlnO
  cases vs' with
  | nil => simp at hul
  | cons v0 vr =>
   have h0 := hget 0 v0 _ rfl rfl
   cases h0
   refine ⟨_, rfl, ln, _, _, _, rfl, rfl, hln, (show atI _ ((0 : Nat) : Int) = some _ from atNat rfl), rfl, _, rfl, ite2 (fun cw => ?_) (fun cw => ?_)⟩
   ·have hw : w = "like" := V.str.inj (yV cw)
    subst hw
    obtain ⟨y, t', rfl, ey, _, _⟩ := told_likes er
    have hl2 : vr.length = 1 := by simpa using hul
    obtain ⟨v1, rfl⟩ : ∃ v1, vr = [v1] := len1 hl2
    have hlk : likeOf cs.length (.tup [.str "like", y]) = some t' := by
     show (if ("like" : Str) = "like" then turnT cs.length y else none) = some t'
     rw [if_pos rfl]
     exact ey
    have es : ts (i + 1) = ts i ++ [t'] := by
     rw [hts]
     show (ls.take (i + 1)).filterMap _ = _
     rw [fmap_snoc ed, hlk]
     rfl
    obtain ⟨ta3, rfl, hta3⟩ := turn_at (hget 1 v1 y rfl rfl) ey
    refine ⟨_, rfl, ln, _, _, _, rfl, rfl, hln, (show atI _ ((1 : Nat) : Int) = some _ from atNat rfl), hD2, _, rfl, ?_, by rw [kQ]; simp only [kK, xJ]; lia, upd_same, fun b o e => ?_⟩
    ·rw [es, off_upd]
     exact ta2.app (.cons ⟨ta3, rfl, hta3⟩ .nil)
    ·rw [upd_ne (ne_of_none e fD2)]; exact s12 _ _ e
   ·have hw : w ≠ "like" := fun z => cw (kY (congrArg V.str z))
    have hlk : likeOf cs.length (.tup (.str w :: xs)) = none := by
     cases hh : likeOf cs.length (.tup (.str w :: xs)) with
     | none => rfl
     | some t' =>
      obtain ⟨y, ey, _⟩ := likes_of hh
      injection ey with ey
      injection ey with ey _
      injection ey with ey
      exact absurd ey hw
    have es : ts (i + 1) = ts i := by
     rw [hts]
     show (ls.take (i + 1)).filterMap _ = _
     rw [fmap_snoc ed, hlk]
     exact kZf _
    refine ⟨_, rfl, ?_, by lia, hD2, s12⟩
    rw [es]
    exact ta2
 rintro τ yz H11 ⟨v, rfl, ta2, hyl, hD2, s12⟩
 have hta2 : TurnsAre K H11 yz (ts (toldAll rs cs best ls []).length) := ta2.same off_le
 have hin : LikesIn rs cs best ls (ts (toldAll rs cs best ls []).length) := fun i d t' e1 e2 e3 => by
  rw [hts]
  exact jJc.mpr ⟨d, kX (by rw [jXb e2]; exact e1), e3⟩
 have hok : ∀ t' ∈ ts (toldAll rs cs best ls []).length, IsTurn cs.length t' ∧ KeepsT rs cs t' cs.length := fun t' ht' => by
  rw [hts] at ht'
  obtain ⟨d, hd', e⟩ := jJc.mp ht'
  obtain ⟨i, hi, rfl⟩ := jXd.mp hd'
  rw [yX] at hi
  obtain ⟨x, ex, et⟩ := likes_of e
  rw [List.getElem_take] at ex
  obtain ⟨pre, r, er⟩ := told_pre (rs := rs) (cs := cs) (best := best) ls [] i _ (gE (by lia)) (by rw [xJ]; lia)
  rw [ex] at er
  obtain ⟨x', t2, e1, e2, e3, e4⟩ := told_likes er
  injection e1 with e1
  subst e1
  rw [et] at e2
  cases e2
  exact ⟨e3, e4⟩
 generalize ts (toldAll rs cs best ls []).length = tn at hta2 hin hok
 have s911 := s11.trans s12
 have sG11 := s10.trans s911
 refine ⟨_, rfl, _, rfl, D, D2, ys, yz, (pts cs.length).filter (keptB rs cs best), tn, cs.length, (fun ms => P01 cs.length ms ∧ keptB rs cs best ms = true), rfl, sG11.seq (sqL_new hDG), ta.same sG11, sqL_new hD2, hta2, hn, fun t' ht' => (hok t' ht').1, wW (List.length_filter_le _ _) hp128, fun ms h => h.1, fun t' ht' ms h => ⟨⟨ledP_len (hok t' ht').1 ms, ledP_01 h.1.2⟩, by rw [kept_led (hok t' ht').1 hrl (hok t' ht').2 h.1.1]; exact h.2⟩, fun ms hms => ⟨pts_of (kZe.mp hms).1, (kZe.mp hms).2⟩, fun g gv gs H12 s13 hg hgt hgood => ⟨g, rfl, ⟨_, sqL_new hg⟩, for_list (K := K) (a := g) (xs := gv) (fun i σ G => (∃ u v w : Option V, σ = [some (.ref a), some (.ref l), some (.ref p), some (bestV best), some (.ref P), some (.ref hd), some (.ref tl), some (.ref D), some (.ref D2), u, v, w]) ∧ Same H12 G) ⟨⟨none, none, none, rfl⟩, Same.refl _⟩ (fun i σ G _ h => h.2.seq (sqL_new hg)) ?_ ?_⟩⟩
 ·rintro i x σ G ex ⟨⟨u, v, w, rfl⟩, sG⟩
  obtain ⟨tx, mx, rfl, emx, htx⟩ := hgt.get ex
  obtain ⟨⟨hx1, hx2⟩, hx3⟩ := hgood mx (kX emx)
  have hso := sound hrl hin ⟨hx1, hx2, hx3⟩
  have htlG := (s911.trans (s13.trans sG)) _ _ htl9
  have s6G := (s8.trans (s9.trans s10)).trans (s911.trans (s13.trans sG))
  let Pv3 : Nat → St → Hp → Prop := fun j σ G2 => (∃ v w : Option V, σ = [some (.ref a), some (.ref l), some (.ref p), some (bestV best), some (.ref P), some (.ref hd), some (.ref tl), some (.ref D), some (.ref D2), some (.ref tx), v, w]) ∧ Same G G2
  refine ⟨_, rfl, tl, rfl, ⟨_, sqL_new htlG⟩, for_list (K := K) (a := tl) (xs := tv) Pv3 ⟨⟨v, w, rfl⟩, Same.refl _⟩ (fun j σ G2 _ h => h.2.seq (sqL_new htlG)) ?_ ?_⟩
  ·rintro j y σ G2 ey ⟨⟨v, w, rfl⟩, sG2⟩
   obtain ⟨tr, r, rfl, er, pr, rt1, rt2⟩ := htr.get ey
   have hr' := kX er
   have s6' := s6G.trans sG2
   refine ⟨tr, _, rfl, s6'.tup rt1, rfl, _, _, rfl, _, _, rfl, rfl, ?_⟩
   refine ⟨_, rfl, _, rfl, pr, tx, r.1, mx, rfl, s6'.tup rt2, (sG.trans sG2).tup htx, by rw [hlenR r hr']; lia, hx1.2, fun G3 s14 => ⟨_, rfl, _, _, rfl, rfl, _, rfl, ite2 (fun z => ?_) (fun z => ?_)⟩⟩
   ·have h1 : dot r.1 mx < r.2 := yV z
    have h2 := hso r hr'
    unfold Kp at h2
    lia
   ·exact ⟨⟨_, _, rfl⟩, sG2.trans s14⟩
  ·rintro σ G2 ⟨⟨v, w, rfl⟩, sG2⟩
   exact ⟨⟨_, _, _, rfl⟩, sG.trans sG2⟩
 ·rintro σ G3 ⟨⟨u, v, w, rfl⟩, sG⟩
  have s5E := s59.trans (s911.trans (s13.trans sG))
  refine ⟨_, rfl, _, rfl, hd, p, _, _, rfl, rfl, (hhd.same s5E).hasD, (hp5.same s5E).hasD, alikeProb _ _ _ _, fun cb hcb => ?_⟩
  have : cb = true := hcb.mpr rfl
  subst this
  exact q _
end
abbrev sSingle : Stmt := top 5
abbrev sBetterRow : Stmt := top 6
abbrev sShareRow : Stmt := top 8
abbrev sShutRow : Stmt := top 9
section
variable {P : Program} {w : World} {K : Fg} {mg : Str → Option Value} {base : Heap} {aT aL : Addr} {fT fL : Str → Option Value}
theorem scSingle : FnScope ["count", "choice", "number", "least", "numbers"] ["count", "choice", "number", "least"] (defScope sSingle) := ⟨rfl, rfl, rfl, by decide +kernel, rfl, by decide +kernel, by decide +kernel⟩
theorem okSingle (F : Fn K mg "single_row" sSingle) (M : Mg mg) : Cal P w K mg base 1 "single_row" ["count", "choice", "number", "least"] (spSingle K) := by
 refine cal_of F scSingle (fun _ _ _ _ _ _ => bind4 (fun _ _ _ _ => rfl)) (fun vs H Q E h => ?_) (fun f cdv A outer s H vs Q E hr h => ?_)
 ·obtain ⟨n, c, x, l, rfl, _⟩ := h
  rfl
 obtain ⟨n, c, x, l, rfl, hc, hn, q⟩ := h
 refine ⟨_, (pss_cons (ps_set (i := 4) scSingle.nd rfl (Or.inl rfl) (pe_op op_rep (pe_lst (pa_cons pe_int pa_nil)) (pv 0)))
  (pss_cons (ps_asg (pv 2) (pg_sub (pv 4) (pv 1) set_list))
  (pss_one (ps_ret (pe_tup (pa_cons (pe_callTy call_tuple_of rfl M.tuple_ bt_tuple (pa_cons (pv 4) pa_nil)) (pa_cons (pv 3) pa_nil))))))), ?_⟩
 refine seq_let3 ?_
 intro rT3 rT2
 have hz : (1000 : Nat) < sizeLine := by decide
 refine ⟨by show 1 ≤ sizeLine; decide, fun p0 hp0 => ?_⟩
 refine ⟨_, rfl, p0, (n : Int), _, rfl, rfl, upd_same, by lia, by lia, by show 1 * ((n : Int)).toNat ≤ sizeLine; lia, fun g0 hg0 => ?_⟩
 have e0 : (List.replicate ((n : Int)).toNat [V.int 0]).flatten = (List.replicate n (0 : Int)).map V.int := rep0 n
 rw [e0]
 have s0 : Same H (upd (upd H p0 (.lst [.int 0])) g0 (.lst ((List.replicate n (0 : Int)).map V.int))) := (same_new' hp0 _).trans (same_new' hg0 _)
 have gH : H g0 = none := by
  cases e5 : H g0 with
  | none => rfl
  | some o => rw [same_new' hp0 (.lst [.int 0]) _ _ e5] at hg0; cases hg0
 have hg : upd (upd H p0 (.lst [.int 0])) g0 (.lst ((List.replicate n (0 : Int)).map V.int)) g0 = some (.lst ((List.replicate n (0 : Int)).map V.int)) := upd_same
 generalize upd (upd H p0 (.lst [.int 0])) g0 (.lst ((List.replicate n (0 : Int)).map V.int)) = H0 at s0 hg ⊢
 refine ⟨_, rfl, _, rfl, _, rfl, g0, _, _, c, rfl, rfl, hg, ixNat (by rw [jQ, zK]; exact hc), ?_⟩
 rw [set_map]
 have s1 : Same H (upd H0 g0 (.lst (((List.replicate n (0 : Int)).set c x).map V.int))) := fun b o e => by rw [upd_ne (ne_of_none e gH)]; exact s0 _ _ e
 refine ⟨_, rfl, g0, _, rfl, .inl ⟨sqL_new upd_same, fun l2 hl2 => ⟨_, rfl, by show 2 ≤ sizeLine; decide, fun t ht => ?_⟩⟩⟩
 exact q t _ ((s1.trans (same_new' hl2 _)).trans (same_new' ht _)) (row_new ht)
theorem scBetterRow : FnScope ["problem", "best"] ["problem", "best"] (defScope sBetterRow) := ⟨rfl, rfl, rfl, by decide +kernel, rfl, by decide +kernel, by decide +kernel⟩
theorem okBetterRow (F : Fn K mg "better_row" sBetterRow) (M : Mg mg) : Cal P w K mg base 1 "better_row" ["problem", "best"] (spBetter K) := by
 refine cal_of F scBetterRow (fun _ _ _ _ _ _ => bind2 (fun _ _ => rfl)) (fun vs H Q E h => ?_) (fun f cdv A outer s H vs Q E hr h => ?_)
 ·obtain ⟨t, rs, cs, b, rfl, _⟩ := h
  rfl
 obtain ⟨t, rs, cs, b, rfl, ⟨l, c, us, ht, hl, hrw, hc⟩, hn, q⟩ := h
 refine ⟨_, (pss_one (ps_ret (pe_tup (pa_cons (pe_callTy call_tuple_of rfl M.tuple_ bt_tuple (pa_cons (pe_lc ["cost"] [none] rfl (pi_tup (pe_ix ix_tup (pv 0) pe_int (fun _ _ => rfl))) (fun _ _ _ => (pg_name (i := 0) (show (["cost"] : List Str).Nodup by decide +kernel) rfl (Or.inl rfl) (Or.inr rfl))) (fun _ _ _ => pf_nil) (fun _ _ _ => (pe_un un_neg (pv 0)))) pa_nil)) (pa_cons (pe_op op_sub pe_int (pv 1)) pa_nil))))), ?_⟩
 have hz : (1000 : Nat) < sizeLine := by decide
 refine ⟨_, rfl, t, _, _, _, rfl, rfl, ht, at1, c, rfl, ⟨_, hc⟩, fun D hD => ?_⟩
 let Pv1 : Nat → St → List V → Hp → Prop := fun i τ ys H1 => ∃ v : Option V, τ = [v] ∧ ys = ((cs.map fun c => -c).take i).map V.int ∧ H1 D = some (.lst ys) ∧ Same H H1
 refine lc_any (n := cs.length) Pv1 ?_ (fun i τ ys H1 hi h => ?_) (fun i τ ys H1 hi h => ?_) (fun τ ys H1 h => ?_) ?_ ?_
 ·exact ⟨none, rfl, rfl, upd_same, same_new' hD _⟩
 ·obtain ⟨v, rfl, rfl, hE, s1⟩ := h
  exact ⟨hE, by rw [jQ, yX]; lia⟩
 ·obtain ⟨v, rfl, rfl, hE, s1⟩ := h
  exact ⟨_, .int cs[i], s1.tup hc, by rw [jK, gE hi]; rfl⟩
 ·obtain ⟨v, rfl, rfl, hE, s1⟩ := h
  exact ⟨_, s1.tup hc, by rw [jQ]; exact jJ _⟩
 ·rintro i τ ys H1 x H2 hi ⟨v, rfl, rfl, hE, s1⟩ ⟨rfl, e1⟩
  obtain ⟨z, ez, rfl⟩ := getMapI (e1 _ (s1.tup hc))
  refine ⟨_, rfl, _, rfl, hE, _, rfl, ?_, upd_same, fun b' o e => ?_⟩
  ·rw [takeS (show (cs.map fun c => -c)[i]? = some (-z) by rw [jK, ez]; rfl), kW]; rfl
  ·rw [upd_ne (ne_of_none e hD)]; exact s1 _ _ e
 ·rintro τ ys H1 ⟨v, rfl, rfl, hE, s1⟩
  rw [xQ (by rw [jQ]; exact jJ _)] at hE
  refine ⟨D, _, rfl, .inl ⟨sqL_new hE, fun l2 hl2 => ⟨_, rfl, _, _, rfl, rfl, by show 2 ≤ sizeLine; decide, fun t2 ht2 => ?_⟩⟩⟩
  exact q t2 _ ((s1.trans (same_new' hl2 _)).trans (same_new' ht2 _)) (row_new ht2)
theorem scShareRow : FnScope ["row", "by"] ["row", "by"] (defScope sShareRow) := ⟨rfl, rfl, rfl, by decide +kernel, rfl, by decide +kernel, by decide +kernel⟩
theorem okShareRow (F : Fn K mg "share_row" sShareRow) (M : Mg mg) : Cal P w K mg base 1 "share_row" ["row", "by"] (spShare K) := by
 refine cal_of F scShareRow (fun _ _ _ _ _ _ => bind2 (fun _ _ => rfl)) (fun vs H Q E h => ?_) (fun f cdv A outer s H vs Q E hr h => ?_)
 ·obtain ⟨t, r, b, rfl, _⟩ := h
  rfl
 obtain ⟨t, r, b, rfl, ⟨p, rt1, rt2⟩, hn, b0, hb, q⟩ := h
 refine ⟨_, (pss_one (ps_ret (pe_tup (pa_cons (pe_callTy call_tuple_of rfl M.tuple_ bt_tuple (pa_cons (pe_lc ["number", "by"] [none, some 1] rfl (pi_tup (pe_ix ix_tup (pv 0) pe_int (fun _ _ => rfl))) (fun _ _ _ => (pg_name (i := 0) (show (["number", "by"] : List Str).Nodup by decide +kernel) rfl (Or.inl rfl) (Or.inr rfl))) (fun _ _ _ => pf_nil) (fun _ _ _ => (pe_un un_neg (pe_op op_fdivG (pe_un un_neg (pv 0)) (pv 1))))) pa_nil)) (pa_cons (pe_un un_neg (pe_op op_fdivG (pe_un un_neg (pe_ix ix_tup (pv 0) pe_int (fun _ _ => rfl))) (pv 1))) pa_nil))))), ?_⟩
 have hz : (1000 : Nat) < sizeLine := by decide
 refine ⟨_, rfl, t, _, _, _, rfl, rfl, rt1, at0, p, rfl, ⟨_, rt2⟩, fun D hD => ?_⟩
 let Pv1 : Nat → St → List V → Hp → Prop := fun i τ ys H1 => ∃ v : Option V, τ = [v, some (.int b)] ∧ ys = ((r.1.map fun x => -((-x).fdiv b)).take i).map V.int ∧ H1 D = some (.lst ys) ∧ Same H H1
 refine lc_any (n := r.1.length) Pv1 ?_ (fun i τ ys H1 hi h => ?_) (fun i τ ys H1 hi h => ?_) (fun τ ys H1 h => ?_) ?_ ?_
 ·exact ⟨none, rfl, rfl, upd_same, same_new' hD _⟩
 ·obtain ⟨v, rfl, rfl, hE, s1⟩ := h
  exact ⟨hE, by rw [jQ, yX]; lia⟩
 ·obtain ⟨v, rfl, rfl, hE, s1⟩ := h
  exact ⟨_, .int r.1[i], s1.tup rt2, by rw [jK, gE hi]; rfl⟩
 ·obtain ⟨v, rfl, rfl, hE, s1⟩ := h
  exact ⟨_, s1.tup rt2, by rw [jQ]; exact jJ _⟩
 ·rintro i τ ys H1 x H2 hi ⟨v, rfl, rfl, hE, s1⟩ ⟨rfl, e1⟩
  obtain ⟨z, ez, rfl⟩ := getMapI (e1 _ (s1.tup rt2))
  refine ⟨_, rfl, _, rfl, _, rfl, _, _, rfl, rfl, ⟨by lia, hb⟩, _, rfl, hE, _, rfl, ?_, upd_same, fun b' o e => ?_⟩
  ·rw [takeS (show (r.1.map fun x => -((-x).fdiv b))[i]? = some (-((-z).fdiv b)) by rw [jK, ez]; rfl), kW]; rfl
  ·rw [upd_ne (ne_of_none e hD)]; exact s1 _ _ e
 ·rintro τ ys H1 ⟨v, rfl, rfl, hE, s1⟩
  rw [xQ (by rw [jQ]; exact jJ _)] at hE
  refine ⟨D, _, rfl, .inl ⟨sqL_new hE, fun l2 hl2 => ?_⟩⟩
  have s2 := s1.trans (same_new' hl2 (.tup ((r.1.map fun x => -((-x).fdiv b)).map V.int)))
  refine ⟨_, rfl, t, _, _, _, rfl, rfl, s2.tup rt1, at1, _, rfl, _, rfl, _, _, rfl, rfl, ⟨by lia, hb⟩, _, rfl, by show 2 ≤ sizeLine; decide, fun t2 ht2 => ?_⟩
  exact q t2 _ (s2.trans (same_new' ht2 _)) (row_new ht2)
theorem scShutRow : FnScope ["count", "holds", "numbers", "least", "choice", "worth"] ["count", "holds"] (defScope sShutRow) := ⟨rfl, rfl, rfl, by decide +kernel, rfl, by decide +kernel, by decide +kernel⟩
theorem okShutRow (F : Fn K mg "shut_row" sShutRow) (M : Mg mg) : Cal P w K mg base 1 "shut_row" ["count", "holds"] (spShutRow K) := by
 refine cal_of F scShutRow (fun _ _ _ _ _ _ => bind2 (fun _ _ => rfl)) (fun vs H Q E h => ?_) (fun f cdv A outer s H vs Q E hr h => ?_)
 ·obtain ⟨l, n, hs, rfl, _⟩ := h
  rfl
 obtain ⟨l, n, hs, rfl, ⟨ws, hl, hpa⟩, hok, hn, q⟩ := h
 refine ⟨_, (pss_cons (ps_set (i := 2) scShutRow.nd rfl (Or.inl rfl) (pe_op op_rep (pe_lst (pa_cons pe_int pa_nil)) (pv 0)))
  (pss_cons (ps_set (i := 3) scShutRow.nd rfl (Or.inl rfl) pe_int)
  (pss_cons (ps_for PassesOwn.never rfl (pi_list (pv 1)) (pg_pair (K := K) (i := 4) (j := 5) rfl rfl scShutRow.nd rfl rfl rfl rfl) (pss_cons (ps_asg (pe_op op_sub pe_int (pe_op op_mul pe_int (pv 5))) (pg_sub (pv 2) (pv 4) set_list))
  (pss_one (ps_aug (i := 3) scShutRow.nd rfl (Or.inl rfl) (pv 5) ip_sub))))
  (pss_one (ps_ret (pe_tup (pa_cons (pe_callTy call_tuple_of rfl M.tuple_ bt_tuple (pa_cons (pv 2) pa_nil)) (pa_cons (pv 3) pa_nil)))))))), ?_⟩
 refine seq_let4 ?_
 intro rT4 rT3 rT2
 have hz : (1000 : Nat) < sizeLine := by decide
 have lv := hpa.length
 rw [jQ] at lv
 refine ⟨by show 1 ≤ sizeLine; decide, fun p0 hp0 => ?_⟩
 refine ⟨_, rfl, p0, (n : Int), _, rfl, rfl, upd_same, by lia, by lia, by show 1 * ((n : Int)).toNat ≤ sizeLine; lia, fun g0 hg0 => ?_⟩
 have e0 : (List.replicate ((n : Int)).toNat [V.int 0]).flatten = (List.replicate n (0 : Int)).map V.int := rep0 n
 rw [e0]
 have s0 : Same H (upd (upd H p0 (.lst [.int 0])) g0 (.lst ((List.replicate n (0 : Int)).map V.int))) := (same_new' hp0 _).trans (same_new' hg0 _)
 have gH : H g0 = none := by
  cases e5 : H g0 with
  | none => rfl
  | some o => rw [same_new' hp0 (.lst [.int 0]) _ _ e5] at hg0; cases hg0
 have hg : upd (upd H p0 (.lst [.int 0])) g0 (.lst ((List.replicate n (0 : Int)).map V.int)) g0 = some (.lst ((List.replicate n (0 : Int)).map V.int)) := upd_same
 generalize upd (upd H p0 (.lst [.int 0])) g0 (.lst ((List.replicate n (0 : Int)).map V.int)) = H0 at s0 hg ⊢
 let Pv1 : Nat → St → Hp → Prop := fun i σ H1 => ∃ u v : Option V, σ = [some (.int (n : Int)), some (.ref l), some (.ref g0), some (.int (shutLeast (hs.take i))), u, v] ∧ H1 g0 = some (.lst ((shutNums n (hs.take i)).map V.int)) ∧ (shutNums n (hs.take i)).length = n ∧ Same H H1
 refine ⟨_, rfl, l, rfl, ⟨_, s0.seq hl⟩, for_list (K := K) (a := l) (xs := ws) Pv1 ⟨none, none, rfl, hg, zK .., s0⟩ (fun i σ H1 _ h => ?_) ?_ ?_⟩
 ·obtain ⟨u, v, rfl, hg1, hl1, s1⟩ := h
  exact s1.seq hl
 ·rintro i x σ H1 e1 ⟨u, v, rfl, hg1, hl1, s1⟩
  obtain ⟨T, pr, rfl, ep, hT⟩ := hpa.get e1
  rw [jK] at ep
  obtain ⟨⟨c, w⟩, ec, rfl⟩ := yJ.mp ep
  obtain ⟨k1, k2, k3⟩ := hok (c, w) (kX ec)
  have k1' : 0 ≤ c := k1
  have k2' : c < (n : Int) := k2
  have k3' : w = 0 ∨ w = 1 := k3
  have eN : shutNums n (hs.take (i + 1)) = (shutNums n (hs.take i)).set c.toNat (1 - 2 * w) := by unfold shutNums; rw [takeS ec, kQd]; rfl
  have eL : shutLeast (hs.take (i + 1)) = shutLeast (hs.take i) - w := by unfold shutLeast; rw [takeS ec, kQd]; rfl
  refine ⟨T, _, rfl, s1.tup hT, rfl, _, _, rfl, _, _, rfl, rfl, ?_⟩
  refine ⟨_, rfl, _, _, rfl, rfl, .inl ⟨by decide, by decide⟩, _, _, rfl, rfl, _, rfl, _, rfl, g0, _, _, c.toNat, rfl, rfl, hg1, by rw [show c = ((c.toNat : Nat) : Int) by lia]; exact ixNat (by rw [jQ, hl1]; lia), ?_⟩
  refine ⟨_, rfl, _, rfl, _, _, rfl, rfl, some (.int c), some (.int w), ?_, ?_, ?_, fun b o e => ?_⟩
  rotate_left
  ·rw [upd_same, eN, ← set_map]
  ·rw [eN, xZ]; exact hl1
  ·rw [upd_ne (ne_of_none e gH)]; exact s1 _ _ e
  ·rw [eL]; rfl
 ·rintro σ H1 ⟨u, v, rfl, hg1, hl1, s1⟩
  have eT : hs.take ws.length = hs := by rw [lv, xW]
  rw [eT] at hg1 ⊢
  refine ⟨_, rfl, g0, _, rfl, .inl ⟨sqL_new hg1, fun l2 hl2 => ⟨_, rfl, by show 2 ≤ sizeLine; decide, fun t ht => ?_⟩⟩⟩
  exact q t _ ((s1.trans (same_new' hl2 _)).trans (same_new' ht _)) (row_new ht)
end
abbrev sWithout : Stmt := top 10
abbrev sEitherRow : Stmt := top 11
abbrev sLikeRow : Stmt := top 12
section
variable {P : Program} {w : World} {K : Fg} {mg : Str → Option Value} {base : Heap} {aT aL : Addr} {fT fL : Str → Option Value}
theorem scWithout : FnScope ["row", "choice"] ["row", "choice"] (defScope sWithout) := ⟨rfl, rfl, rfl, by decide +kernel, rfl, by decide +kernel, by decide +kernel⟩
theorem okWithout (F : Fn K mg "without" sWithout) (M : Mg mg) : Cal P w K mg base 1 "without" ["row", "choice"] (spWithout K) := by
 refine cal_of F scWithout (fun _ _ _ _ _ _ => bind2 (fun _ _ => rfl)) (fun vs H Q E h => ?_) (fun f cdv A outer s H vs Q E hr h => ?_)
 ·obtain ⟨t, r, c, rfl, _⟩ := h
  rfl
 obtain ⟨t, r, c, rfl, ⟨p, rt1, rt2⟩, hn, hc, q⟩ := h
 refine ⟨_, (pss_one (ps_ret (pe_op op_catT (pe_op op_catG (pe_slice sl_tup (pe_ix ix_tup (pv 0) pe_int (fun _ _ => rfl)) po_none (po_some (pv 1))) (pe_tup (pa_cons pe_int pa_nil))) (pe_slice sl_tup (pe_ix ix_tup (pv 0) pe_int (fun _ _ => rfl)) (po_some (pe_op op_add (pv 1) pe_int)) po_none)))), ?_⟩
 have hz : (2000 : Nat) < sizeLine := by decide
 have ln : (r.1.map V.int).length = r.1.length := jQ ..
 have cut1 : cutV (r.1.map V.int) none (some (c : Int)) = (r.1.take c).map V.int := by
  unfold cutV
  show ((r.1.map V.int).drop 0).take ((if (c : Int) < 0 then ((c : Int) + ((r.1.map V.int).length : Int)).toNat else min ((c : Int)).toNat (r.1.map V.int).length) - 0) = _
  rw [if_neg (Int.not_lt.mpr (jKf c)), kYc, List.map_take, ln, jKa, jZb (kXb hc), Nat.sub_zero]
 have cut2 : cutV (r.1.map V.int) (some ((c : Int) + 1)) none = (r.1.drop (c + 1)).map V.int := by
  unfold cutV
  show ((r.1.map V.int).drop (if (c : Int) + 1 < 0 then ((c : Int) + 1 + ((r.1.map V.int).length : Int)).toNat else min ((c : Int) + 1).toNat (r.1.map V.int).length)).take ((r.1.map V.int).length - (if (c : Int) + 1 < 0 then ((c : Int) + 1 + ((r.1.map V.int).length : Int)).toNat else min ((c : Int) + 1).toNat (r.1.map V.int).length)) = _
  rw [if_neg (show ¬ (c : Int) + 1 < 0 from Int.not_lt.mpr (jKf (c + 1))), List.map_drop]
  have e : min ((c : Int) + 1).toNat (r.1.map V.int).length = c + 1 := by rw [ln]; exact jZb (show c + 1 ≤ r.1.length from hc)
  rw [e]
  apply xQ
  rw [jYe]
  exact jJ _
 refine ⟨_, rfl, t, _, _, _, rfl, rfl, rt1, at0, _, rfl, _, rfl, p, _, rfl, rt2, ?_, fun p1 hp1 => ?_⟩
 ·rintro ⟨_, h2⟩
  have h3 : (if (c : Int) < 0 then ((c : Int) + ((r.1.map V.int).length : Int)).toNat else min ((c : Int)).toNat (r.1.map V.int).length) = (r.1.map V.int).length := h2
  rw [if_neg (Int.not_lt.mpr (jKf c)), ln, jKa, jZb (kXb hc)] at h3
  exact absurd h3 (zJ hc)
 rw [cut1]
 have s1 := same_new' hp1 (.tup ((r.1.take c).map V.int))
 refine ⟨by show 1 ≤ sizeLine; decide, fun p2 hp2 => ?_⟩
 have s2 := same_new' hp2 (.tup [V.int 0])
 refine ⟨p1, p2, _, _, rfl, rfl, s2.tup (sqT_new upd_same), sqT_new upd_same, by simp, by rw [jQ, yX]; show _ + 1 ≤ _; lia, fun p3 H3 s3 h3 => ?_⟩
 have s13 := (s1.trans s2).trans s3
 refine ⟨_, rfl, t, _, _, _, rfl, rfl, s13.tup rt1, at0, _, rfl, _, _, rfl, rfl, _, rfl, p, _, rfl, s13.tup rt2, ?_, fun p4 hp4 => ?_⟩
 ·rintro ⟨h2, _⟩
  have h3 : (if (c : Int) + 1 < 0 then ((c : Int) + 1 + ((r.1.map V.int).length : Int)).toNat else min ((c : Int) + 1).toNat (r.1.map V.int).length) = 0 := h2
  rw [if_neg (show ¬ (c : Int) + 1 < 0 from Int.not_lt.mpr (jKf (c + 1))), ln] at h3
  exact absurd ((jZb (show c + 1 ≤ r.1.length from hc)).symm.trans h3) (Nat.succ_ne_zero c)
 rw [cut2]
 have s4 := same_new' hp4 (.tup ((r.1.drop (c + 1)).map V.int))
 have eW : (withoutN r.1 c).map V.int = ((r.1.take c).map V.int ++ [V.int 0]) ++ (r.1.drop (c + 1)).map V.int := by unfold withoutN; rw [kW, kW]; rfl
 refine ⟨p3, p4, _, _, rfl, rfl, s4.tup h3, sqT_new upd_same, by simp, by rw [kQ, jQ, jQ, yX, jYe]; show _ + 1 + _ ≤ _; lia, fun he => ?_, fun he p5 hp5 => ?_⟩
 ·refine q p3 _ (s13.trans s4) ?_
  have e9 : (withoutN r.1 c).map V.int = (r.1.take c).map V.int ++ [V.int 0] := by rw [eW, he, kZf]
  rw [e9]
  exact s4.tup h3
 ·refine q p5 _ ((s13.trans s4).trans (same_new' hp5 _)) ?_
  rw [eW]
  exact sqT_new upd_same
theorem scEitherRow : FnScope ["one", "other", "choice"] ["one", "other", "choice"] (defScope sEitherRow) := ⟨rfl, rfl, rfl, by decide +kernel, rfl, by decide +kernel, by decide +kernel⟩
theorem okEitherRow (F : Fn K mg "either_row" sEitherRow) (M : Mg mg) (c_without : Cal P w K mg base 1 "without" ["row", "choice"] (spWithout K)) : Cal P w K mg base 2 "either_row" ["one", "other", "choice"] (spEitherRow K) := by
 refine cal_of F scEitherRow (fun _ _ _ _ _ _ => bind3 (fun _ _ _ => rfl)) (fun vs H Q E h => ?_) (fun f cdv A outer s H vs Q E hr h => ?_)
 ·obtain ⟨t1, t2, r1, r2, c, rfl, _⟩ := h
  rfl
 obtain ⟨t1, t2, r1, r2, c, rfl, h1, h2, hn, hc, q⟩ := h
 refine ⟨_, (pss_one (ps_ret (pe_tup (pa_cons (pe_fn c_without (hr.mono (by decide)) (pa_cons (pv 0) (pa_cons (pv 2) pa_nil))) (pa_cons (pe_callB (call_min2 rfl) rfl M.min bt_min (pa_cons (pe_op op_sub (pe_ix ix_tup (pv 0) pe_int (fun _ _ => rfl)) (pe_ix ix_tup (pe_ix ix_tup (pv 0) pe_int (fun _ _ => rfl)) (pv 2) (fun _ _ => rfl))) (pa_cons (pe_ix ix_tup (pv 1) pe_int (fun _ _ => rfl)) pa_nil))) pa_nil))))), ?_⟩
 obtain ⟨p1, a1, a2⟩ := id h1
 obtain ⟨p2, b1, b2⟩ := id h2
 refine ⟨_, rfl, _, rfl, t1, r1, c, rfl, h1, hn, hc, fun p H1 s1 hp => ?_⟩
 refine ⟨_, rfl, t1, _, _, _, rfl, rfl, s1.tup a1, at1, _, rfl, t1, _, _, _, rfl, rfl, s1.tup a1, at0, _, rfl, p1, _, _, _, rfl, rfl, s1.tup a2, atNat (show (r1.1.map V.int)[c]? = some (V.int (r1.1.getD c 0)) by rw [jK, jY, gE hc]; rfl), _, _, rfl, rfl, _, rfl, t2, _, _, _, rfl, rfl, s1.tup b1, at1, _, _, rfl, by show 2 ≤ sizeLine; decide, fun t ht => ?_⟩
 exact q t _ (s1.trans (same_new' ht _)) ⟨p, sqT_new upd_same, (same_new' ht _).tup hp⟩
theorem scLikeRow : FnScope ["turn", "numbers", "weight", "choice"] ["turn"] (defScope sLikeRow) := ⟨rfl, rfl, rfl, by decide +kernel, rfl, by decide +kernel, by decide +kernel⟩
theorem okLikeRow (F : Fn K mg "like_row" sLikeRow) (M : Mg mg) : Cal P w K mg base 1 "like_row" ["turn"] (spLikeRow K) := by
 refine cal_of F scLikeRow (fun _ _ _ _ _ _ => bind1 (fun _ => rfl)) (fun vs H Q E h => ?_) (fun f cdv A outer s H vs Q E hr h => ?_)
 ·obtain ⟨l, t, rfl, _⟩ := h
  rfl
 obtain ⟨l, t, rfl, hl, ht, hlt, q⟩ := h
 refine ⟨_, (pss_cons (ps_set (i := 1) scLikeRow.nd rfl (Or.inl rfl) (pe_op op_rep (pe_lst (pa_cons pe_int pa_nil)) (pe_callB call_len_seq rfl M.len bt_len (pa_cons (pv 0) pa_nil))))
  (pss_cons (ps_set (i := 2) scLikeRow.nd rfl (Or.inl rfl) pe_int)
  (pss_cons (ps_for PassesOwn.never rfl (pi_range3 rfl M.range_ (pa_cons (pe_op op_sub (pe_callB call_len_seq rfl M.len bt_len (pa_cons (pv 0) pa_nil)) pe_int) (pa_cons (pe_un un_neg pe_int) (pa_cons (pe_un un_neg pe_int) pa_nil)))) (pg_name (i := 3) scLikeRow.nd rfl (Or.inl rfl) (Or.inl rfl)) (pss_cons (ps_augS (pv 1) (pv 3) get_list (pv 2) ip_add set_list)
  (pss_cons (ps_augS (pv 1) (pe_ix ix_list (pv 0) (pv 3) (fun _ _ => rfl)) get_list (pv 2) ip_sub set_list)
  (pss_one (ps_aug (i := 2) scLikeRow.nd rfl (Or.inl rfl) pe_int ip_mult)))))
  (pss_one (ps_ret (pe_tup (pa_cons (pe_callTy call_tuple_of rfl M.tuple_ bt_tuple (pa_cons (pv 1) pa_nil)) (pa_cons pe_int pa_nil)))))))), ?_⟩
 refine seq_let4 ?_
 intro rT4 rT3 rT2
 have hz : (1000 : Nat) < sizeLine := by decide
 have ln : ((t.map fun (k : Nat) => (k : Int)).map V.int).length = t.length := by rw [jQ, jQ]
 refine ⟨by show 1 ≤ sizeLine; decide, fun p0 hp0 => ?_⟩
 have sp := same_new' hp0 (.lst [V.int 0])
 refine ⟨_, rfl, l, _, rfl, .inl (sp.seq hl), p0, _, _, rfl, rfl, upd_same, by lia, by rw [ln]; lia, by rw [ln]; show 1 * ((t.length : Int)).toNat ≤ sizeLine; lia, fun g0 hg0 => ?_⟩
 rw [ln]
 have e0 : (List.replicate ((t.length : Int)).toNat [V.int 0]).flatten = (List.replicate t.length (0 : Int)).map V.int := rep0 t.length
 rw [e0]
 have gH : H g0 = none := by
  cases e5 : H g0 with
  | none => rfl
  | some o => rw [sp _ _ e5] at hg0; cases hg0
 have s0 : Same H (upd (upd H p0 (.lst [.int 0])) g0 (.lst ((List.replicate t.length (0 : Int)).map V.int))) := sp.trans (same_new' hg0 _)
 have hg : upd (upd H p0 (.lst [.int 0])) g0 (.lst ((List.replicate t.length (0 : Int)).map V.int)) g0 = some (.lst ((List.replicate t.length (0 : Int)).map V.int)) := upd_same
 generalize upd (upd H p0 (.lst [.int 0])) g0 (.lst ((List.replicate t.length (0 : Int)).map V.int)) = H0 at s0 hg ⊢
 refine ⟨_, rfl, l, _, rfl, .inl (s0.seq hl), _, _, rfl, rfl, _, rfl, _, rfl, ?_⟩
 rw [ln]
 refine ⟨_, _, _, rfl, ⟨by decide, by decide, smallDown (by lia)⟩, for_range3 (lo := (t.length : Int) - 1) (c := -1) (n := (Builtin.Range.rangeSize ((t.length : Int) - 1) (-1) (-1)).toNat) (fun i σ H1 => ∃ u : Option V, σ = [some (.ref l), some (.ref g0), some (.int (likeTo t i).2), u] ∧ H1 g0 = some (.lst ((likeTo t i).1.map V.int)) ∧ Same H H1) ⟨none, rfl, hg, s0⟩ ?_ ?_⟩
 ·rintro i σ H1 hi ⟨u, rfl, hg1, s1⟩
  rw [rangeDown] at hi
  have ec : (t.length : Int) - 1 + ((i : Nat) : Int) * (-1) = ((t.length - 1 - i : Nat) : Int) := by lia
  rw [ec]
  have hc : t.length - 1 - i < t.length := by lia
  have lk := likeTo_len t i
  have tk : t.getD (t.length - 1 - i) 0 < t.length := by
   rw [jY, gE hc]
   exact hlt _ (wZ hc)
  have es := likeTo_succ t i
  generalize likeTo t i = a at hg1 lk es ⊢
  generalize t.length - 1 - i = c at hc tk es ⊢
  refine ⟨_, rfl, _, rfl, g0, _, _, _, rfl, rfl, sqL_new hg1, atNat (show (a.1.map V.int)[c]? = some (V.int (a.1.getD c 0)) by rw [jK, jY, gE (by lia)]; rfl), _, rfl, _, _, rfl, rfl, g0, _, _, c, rfl, rfl, hg1, ixNat (by rw [jQ]; lia), ?_⟩
  rw [set_map]
  have hg2 : upd H1 g0 (.lst ((a.1.set c (a.1.getD c 0 + a.2)).map V.int)) g0 = some (.lst ((a.1.set c (a.1.getD c 0 + a.2)).map V.int)) := upd_same
  have s2 : Same H (upd H1 g0 (.lst ((a.1.set c (a.1.getD c 0 + a.2)).map V.int))) := fun b o e => by rw [upd_ne (ne_of_none e gH)]; exact s1 _ _ e
  have hls : (a.1.set c (a.1.getD c 0 + a.2)).length = t.length := by rw [xZ, lk]
  have es2 : (likeTo t (i + 1)) = ((a.1.set c (a.1.getD c 0 + a.2)).set (t.getD c 0) ((a.1.set c (a.1.getD c 0 + a.2)).getD (t.getD c 0) 0 - a.2), a.2 * 2) := es
  generalize a.1.set c (a.1.getD c 0 + a.2) = a1 at hg2 s2 hls es2 ⊢
  have et : ((t.map fun (k : Nat) => (k : Int)).map V.int)[c]? = some (V.int ((t.getD c 0 : Nat) : Int)) := by rw [jK, jK, jY, gE hc]; rfl
  generalize t.getD c 0 = k at tk es2 et ⊢
  refine ⟨_, rfl, _, rfl, _, rfl, l, _, _, _, rfl, rfl, s2.seq hl, atNat et, g0, _, _, _, rfl, rfl, sqL_new hg2, atNat (show (a1.map V.int)[k]? = some (V.int (a1.getD k 0)) by rw [jK, jY, gE (by lia)]; rfl), _, rfl, _, _, rfl, rfl, g0, _, _, k, rfl, rfl, hg2, ixNat (by rw [jQ]; lia), ?_⟩
  rw [set_map]
  refine ⟨_, rfl, _, _, rfl, rfl, .inr ⟨by decide, by decide⟩, some (.int ((c : Nat) : Int)), ?_, ?_, fun b o e => ?_⟩
  rotate_left
  ·rw [upd_same, es2]
  ·rw [upd_ne (ne_of_none e gH)]; exact s2 _ _ e
  ·rw [es2]; rfl
 ·rintro σ H1 ⟨u, rfl, hg1, s1⟩
  rw [rangeDown] at hg1
  refine ⟨_, rfl, g0, _, rfl, .inl ⟨sqL_new hg1, fun l2 hl2 => ⟨by show 2 ≤ sizeLine; decide, fun t2 ht2 => ?_⟩⟩⟩
  exact q t2 _ ((s1.trans (same_new' hl2 _)).trans (same_new' ht2 _)) (row_new ht2)
end
abbrev sAreHolds : Stmt := top 21
abbrev sIsTurn : Stmt := top 22
section
variable {P : Program} {w : World} {K : Fg} {mg : Str → Option Value} {base : Heap} {aT aL : Addr} {fT fL : Str → Option Value}
theorem scAreHolds : FnScope ["thing", "count"] ["thing", "count"] (defScope sAreHolds) := ⟨rfl, rfl, rfl, by decide +kernel, rfl, by decide +kernel, by decide +kernel⟩
theorem okAreHolds (F : Fn K mg "are_holds" sAreHolds) (M : Mg mg) (c_is_hold : Cal P w K mg base 3 "is_hold" ["thing", "count"] (spIsHold K)) : Cal P w K mg base 4 "are_holds" ["thing", "count"] (spAreHolds K) := by
 refine cal_of F scAreHolds (fun _ _ _ _ _ _ => bind2 (fun _ _ => rfl)) (fun vs H Q E h => ?_) (fun f cdv A outer s H vs Q E hr h => ?_)
 ·obtain ⟨v, d, n, rfl, _⟩ := h
  rfl
 obtain ⟨v, d, n, rfl, hv, hsz, q⟩ := h
 refine ⟨_, (pss_cons (ps_if (PW.pt (pw_or (pt_not (pt_val (pe_callB call_isiW rfl M.isinstance bt_isinstance (pa_cons (pv 0) (pa_cons (pe_ty M.list_ bt_list) pa_nil))))) (pw_or1 (pt_not (pt_val (pe_callB (call_allB rfl) rfl M.all bt_all (pa_cons (pe_lc ["hold", "count"] [none, some 1] rfl (pi_list (pv 0)) (fun _ _ _ => (pg_name (i := 0) (show (["hold", "count"] : List Str).Nodup by decide +kernel) rfl (Or.inl rfl) (Or.inr rfl))) (fun _ _ _ => pf_nil) (fun _ _ _ => (pe_fn c_is_hold (hr.mono (by decide)) (pa_cons (pv 0) (pa_cons (pv 1) pa_nil))))) pa_nil))))))) (pss_one (ps_ret pe_bl)) pss_nil)
  (pss_one (ps_ret (pe_cmpR op_eq (pe_callB call_len_setI rfl M.len bt_len (pa_cons (pe_callTy (call_set_of rfl) rfl M.set_ bt_set (pa_cons (pe_lc ["hold"] [none] rfl (pi_list (pv 0)) (fun _ _ _ => (pg_name (i := 0) (show (["hold"] : List Str).Nodup by decide +kernel) rfl (Or.inl rfl) (Or.inr rfl))) (fun _ _ _ => pf_nil) (fun _ _ _ => (pe_ix (ix_tupK (K := K) rfl) (pv 0) pe_int (fun _ _ => rfl)))) pa_nil)) pa_nil)) (pe_callB call_len_seq rfl M.len bt_len (pa_cons (pv 0) pa_nil)) (nomark _))))), ?_⟩
 have hz : (1000 : Nat) < sizeLine := by decide
 cases d with
 | lst xs =>
  obtain ⟨a, us, rfl, hl, hlen, hget⟩ := hv.lst_inv
  have hsz' : xs.length < 1000 := hsz
  refine ⟨_, rfl, _, "list", _, rfl, .list, hv.isi _, _, rfl, iteF ?_⟩
  refine ⟨_, rfl, a, rfl, ⟨_, hl⟩, fun D hD => ?_⟩
  let Pv1 : Nat → St → List V → Hp → Prop := fun i τ ys H1 => ∃ u : Option V, τ = [u, some (.int (n : Int))] ∧ ys = ((xs.take i).map fun d => (holdT n d).isSome).map V.bl ∧ H1 D = some (.lst ys) ∧ Same H H1
  refine lc_any (n := xs.length) Pv1 ?_ (fun i τ ys H1 hi h => ?_) (fun i τ ys H1 hi h => ?_) (fun τ ys H1 h => ?_) ?_ ?_
  ·exact ⟨none, rfl, rfl, upd_same, same_new' hD _⟩
  ·obtain ⟨u, rfl, rfl, hE, s1⟩ := h
   exact ⟨hE, by rw [jQ, jQ, yX]; lia⟩
  ·obtain ⟨u, rfl, rfl, hE, s1⟩ := h
   exact ⟨us, us[i]'(by lia), s1.seq hl, gE (by lia)⟩
  ·obtain ⟨u, rfl, rfl, hE, s1⟩ := h
   exact ⟨us, s1.seq hl, by lia⟩
  ·rintro i τ ys H1 x H2 hi ⟨u, rfl, rfl, hE, s1⟩ ⟨rfl, e1⟩
   obtain ⟨d, ed⟩ : ∃ d, xs[i]? = some d := ⟨_, gE hi⟩
   have hx := (hget i _ _ (e1 _ (s1.seq hl)) ed).same s1
   refine ⟨_, rfl, _, rfl, _, d, n, rfl, hx, hE, _, rfl, ?_, upd_same, fun b o e => ?_⟩
   ·rw [takeS ed, kW, kW]; rfl
   ·rw [upd_ne (ne_of_none e hD)]; exact s1 _ _ e
  rintro τ ys H1 ⟨u, rfl, rfl, hE, s1⟩
  rw [xW] at hE
  refine ⟨D, _, rfl, sqL_new hE, ?_⟩
  have eall : (xs.map fun d => (holdT n d).isSome).all id = (allT (holdT n) xs).isSome := by rw [allT_isSome, List.all_map]; rfl
  rw [eall]
  cases ea : allT (holdT n) xs with
  | none =>
   have := q H1 s1
   rw [holdsT_none ea] at this
   exact ⟨_, rfl, iteT this⟩
  | some hs =>
   obtain ⟨hp, hok⟩ := holds_vals (n := n) hlen hget ea
   obtain ⟨el, eg⟩ := allT_get ea
   refine ⟨_, rfl, iteF ?_⟩
   refine ⟨_, rfl, a, rfl, ⟨_, s1.seq hl⟩, fun D2 hD2 => ?_⟩
   let Pv2 : Nat → St → List V → Hp → Prop := fun i τ ys H2 => ∃ u : Option V, τ = [u] ∧ ys = ((hs.map (·.1)).take i).map V.int ∧ H2 D2 = some (.lst ys) ∧ Same H1 H2
   refine lc_any (n := xs.length) Pv2 ?_ (fun i τ ys H2 hi h => ?_) (fun i τ ys H2 hi h => ?_) (fun τ ys H2 h => ?_) ?_ ?_
   ·exact ⟨none, rfl, rfl, upd_same, same_new' hD2 _⟩
   ·obtain ⟨u, rfl, rfl, hE2, s2⟩ := h
    exact ⟨hE2, by rw [jQ, yX]; lia⟩
   ·obtain ⟨u, rfl, rfl, hE2, s2⟩ := h
    exact ⟨us, us[i]'(by lia), (s1.trans s2).seq hl, gE (by lia)⟩
   ·obtain ⟨u, rfl, rfl, hE2, s2⟩ := h
    exact ⟨us, (s1.trans s2).seq hl, by lia⟩
   ·rintro i τ ys H2 x H3 hi ⟨u, rfl, rfl, hE2, s2⟩ ⟨rfl, e1⟩
    have s12 := s1.trans s2
    obtain ⟨T, pr, rfl, ep, hT⟩ := hp.get (e1 _ (s12.seq hl))
    rw [jK] at ep
    obtain ⟨⟨c, w⟩, ec, rfl⟩ := yJ.mp ep
    refine ⟨_, rfl, T, _, _, _, rfl, rfl, s12.tup hT, at0, hE2, _, rfl, ?_, upd_same, fun b o e => ?_⟩
    ·rw [takeS (show (hs.map (·.1))[i]? = some c by rw [jK, ec]; rfl), kW]; rfl
    ·rw [upd_ne (ne_of_none e hD2)]; exact s2 _ _ e
   ·rintro τ ys H2 ⟨u, rfl, rfl, hE2, s2⟩
    rw [xQ (by rw [jQ]; lia)] at hE2
    refine ⟨D2, hs.map (·.1), rfl, sqL_new hE2, by rw [jQ]; lia, fun d2 S hd2 => ?_⟩
    have s3 := same_new' hd2 (.set S ((hs.map (·.1)).foldl PyProof.Rows.step_dedup []).length)
    have s13 := (s1.trans s2).trans s3
    refine ⟨d2, S, _, rfl, upd_same, _, rfl, a, us, rfl, .inl (s13.seq hl), rfl, ?_⟩
    have hq := q _ s13
    have : decide (V.int ((((hs.map (·.1)).foldl PyProof.Rows.step_dedup []).length : Nat) : Int) = V.int ((us.length : Nat) : Int)) = (holdsT n (.lst xs)).isSome := by
     apply bool_isSome
     rw [decide_eq_true_iff, holdsT_lst]
     constructor
     ·intro z
      have z1 := V.int.inj z
      refine ⟨hs, ea, (dedup_len _).mp ?_⟩
      rw [jQ]
      lia
     ·rintro ⟨hs', e1, e2⟩
      rw [ea] at e1
      cases e1
      have := (dedup_len _).mpr e2
      rw [jQ] at this
      rw [this, el, hlen]
    rw [← this] at hq
    exact hq
 | int i => exact ⟨_, rfl, _, "list", _, rfl, .list, hv.isi _, _, rfl, iteT (q H (Same.refl H))⟩
 | non => exact ⟨_, rfl, _, "list", _, rfl, .list, hv.isi _, _, rfl, iteT (q H (Same.refl H))⟩
 | bl b => exact ⟨_, rfl, _, "list", _, rfl, .list, hv.isi _, _, rfl, iteT (q H (Same.refl H))⟩
 | str s => exact ⟨_, rfl, _, "list", _, rfl, .list, hv.isi _, _, rfl, iteT (q H (Same.refl H))⟩
 | tup xs => exact ⟨_, rfl, _, "list", _, rfl, .list, hv.isi _, _, rfl, iteT (q H (Same.refl H))⟩
theorem scIsTurn : FnScope ["thing", "count"] ["thing", "count"] (defScope sIsTurn) := ⟨rfl, rfl, rfl, by decide +kernel, rfl, by decide +kernel, by decide +kernel⟩
theorem okIsTurn (F : Fn K mg "is_turn" sIsTurn) (M : Mg mg) (c_is_number_of : Cal P w K mg base 2 "is_number_of" ["thing", "count"] (spIsNum K)) : Cal P w K mg base 3 "is_turn" ["thing", "count"] (spIsTurn K) := by
 refine cal_of F scIsTurn (fun _ _ _ _ _ _ => bind2 (fun _ _ => rfl)) (fun vs H Q E h => ?_) (fun f cdv A outer s H vs Q E hr h => ?_)
 ·obtain ⟨v, d, n, rfl, _⟩ := h
  rfl
 obtain ⟨v, d, n, rfl, hv, hsz, hn, q⟩ := h
 have hu6 : (A.deeper (PyProof.Rows.envOfC "is_turn" (defScope sIsTurn) s.heap.objs.size f cdv)).units + 6 < cLine := wV (jQf (by decide) _) hr.un
 refine ⟨_, (pss_cons (ps_if (PW.pt (pw_or (pt_not (pt_val (pe_callB call_isiW rfl M.isinstance bt_isinstance (pa_cons (pv 0) (pa_cons (pe_ty M.list_ bt_list) pa_nil))))) (pw_or1 (pt_not (pt_val (pe_callB (call_allB rfl) rfl M.all bt_all (pa_cons (pe_lc ["choice", "count"] [none, some 1] rfl (pi_list (pv 0)) (fun _ _ _ => (pg_name (i := 0) (show (["choice", "count"] : List Str).Nodup by decide +kernel) rfl (Or.inl rfl) (Or.inr rfl))) (fun _ _ _ => pf_nil) (fun _ _ _ => (pe_fn c_is_number_of (hr.mono (by decide)) (pa_cons (pv 0) (pa_cons (pv 1) pa_nil))))) pa_nil))))))) (pss_one (ps_ret pe_bl)) pss_nil)
  (pss_one (ps_ret (pe_cmpR (op_eqD (n := 6) hu6) (pe_callB (call_sortedI (K := K) rfl) rfl M.sorted bt_sorted (pa_cons (pv 0) pa_nil)) (pe_callTy (call_list_rng rfl) rfl M.list_ bt_list (pa_cons (pe_range M.range_ (pa_cons (pv 1) pa_nil)) pa_nil)) (nomark _))))), ?_⟩
 have hz : (1000 : Nat) < sizeLine := by decide
 cases d with
 | lst xs =>
  obtain ⟨a, us, rfl, hl, hlen, hget⟩ := hv.lst_inv
  have hsz' : xs.length < 64 := hsz
  refine ⟨_, rfl, _, "list", _, rfl, .list, hv.isi _, _, rfl, iteF ?_⟩
  refine ⟨_, rfl, a, rfl, ⟨_, hl⟩, fun D hD => ?_⟩
  let Pv1 : Nat → St → List V → Hp → Prop := fun i τ ys H1 => ∃ u : Option V, τ = [u, some (.int (n : Int))] ∧ ys = ((xs.take i).map fun d => (numT n d).isSome).map V.bl ∧ H1 D = some (.lst ys) ∧ Same H H1
  refine lc_any (n := xs.length) Pv1 ?_ (fun i τ ys H1 hi h => ?_) (fun i τ ys H1 hi h => ?_) (fun τ ys H1 h => ?_) ?_ ?_
  ·exact ⟨none, rfl, rfl, upd_same, same_new' hD _⟩
  ·obtain ⟨u, rfl, rfl, hE, s1⟩ := h
   exact ⟨hE, by rw [jQ, jQ, yX]; lia⟩
  ·obtain ⟨u, rfl, rfl, hE, s1⟩ := h
   exact ⟨us, us[i]'(by lia), s1.seq hl, gE (by lia)⟩
  ·obtain ⟨u, rfl, rfl, hE, s1⟩ := h
   exact ⟨us, s1.seq hl, by lia⟩
  ·rintro i τ ys H1 x H2 hi ⟨u, rfl, rfl, hE, s1⟩ ⟨rfl, e1⟩
   obtain ⟨d, ed⟩ : ∃ d, xs[i]? = some d := ⟨_, gE hi⟩
   have hx := (hget i _ _ (e1 _ (s1.seq hl)) ed).same s1
   refine ⟨_, rfl, _, rfl, _, d, n, rfl, hx, hE, _, rfl, ?_, upd_same, fun b o e => ?_⟩
   ·rw [takeS ed, kW, kW]; rfl
   ·rw [upd_ne (ne_of_none e hD)]; exact s1 _ _ e
  rintro τ ys H1 ⟨u, rfl, rfl, hE, s1⟩
  rw [xW] at hE
  refine ⟨D, _, rfl, sqL_new hE, ?_⟩
  have eall : (xs.map fun d => (numT n d).isSome).all id = (allT (numT n) xs).isSome := by rw [allT_isSome, List.all_map]; rfl
  rw [eall]
  cases ea : allT (numT n) xs with
  | none =>
   have := q H1 s1
   rw [turnT_none ea] at this
   exact ⟨_, rfl, iteT this⟩
  | some t =>
   obtain ⟨ev, hlt⟩ := allT_vals (n := n) hlen hget ea
   obtain ⟨el, eg⟩ := allT_get ea
   refine ⟨_, rfl, iteF ?_⟩
   refine ⟨_, rfl, a, t.map fun (k : Nat) => (k : Int), rfl, by rw [← ev]; exact s1.seq hl, by rw [jQ]; lia, fun D2 qs hD2 hp hs => ?_⟩
   have s2 := same_new' hD2 (.lst (qs.map V.int))
   refine ⟨_, rfl, (n : Int), rfl, fun r hr' => ?_⟩
   have s3 := same_new' hr' (.rng 0 (n : Int))
   refine ⟨r, (n : Int), rfl, upd_same, by lia, by lia, fun l2 hl2 => ?_⟩
   have s4 := same_new' hl2 (.lst ((List.range ((n : Int)).toNat).map fun i => V.int (i : Nat)))
   have e2 : ((List.range ((n : Int)).toNat).map fun i => V.int (i : Nat)) = (rangeI n).map V.int := by unfold rangeI; rw [List.map_map]; rfl
   rw [e2] at s4 ⊢
   have s14 := ((s1.trans s2).trans s3).trans s4
   refine ⟨D2, l2, _, _, rfl, rfl, lstD (s4.seq (s3.seq (sqL_new upd_same))), lstD (sqL_new upd_same), ?_, fun c hc => ?_⟩
   ·refine .lst fun i x y e3 e4 => ?_
    rw [jK] at e3 e4
    obtain ⟨a3, _, rfl⟩ := yJ.mp e3
    obtain ⟨b3, _, rfl⟩ := yJ.mp e4
    exact .int _ _
   have hq := q _ s14
   have : c = (turnT n (.lst xs)).isSome := by
    apply bool_isSome
    rw [hc, turnT_some ea, ← turn_sorted hlt hp hs]
    constructor
    ·intro z
     have z1 : qs.map L2.D.int = (rangeI n).map L2.D.int := by injection z
     exact (List.map_inj_right (fun _ _ h => by cases h; rfl)).mp z1
    ·intro z; rw [z]
   rw [← this] at hq
   exact hq
 | int i => exact ⟨_, rfl, _, "list", _, rfl, .list, hv.isi _, _, rfl, iteT (q H (Same.refl H))⟩
 | non => exact ⟨_, rfl, _, "list", _, rfl, .list, hv.isi _, _, rfl, iteT (q H (Same.refl H))⟩
 | bl b => exact ⟨_, rfl, _, "list", _, rfl, .list, hv.isi _, _, rfl, iteT (q H (Same.refl H))⟩
 | str s => exact ⟨_, rfl, _, "list", _, rfl, .list, hv.isi _, _, rfl, iteT (q H (Same.refl H))⟩
 | tup xs => exact ⟨_, rfl, _, "list", _, rfl, .list, hv.isi _, _, rfl, iteT (q H (Same.refl H))⟩
end
abbrev sTShare : Stmt := top 28
section
variable {P : Program} {w : World} {K : Fg} {mg : Str → Option Value} {base : Heap} {aT aL : Addr} {fT fL : Str → Option Value}
theorem scTShare : FnScope ["problem", "best", "told", "line", "by", "row"] ["problem", "best", "told", "line"] (defScope sTShare) := ⟨rfl, rfl, rfl, by decide +kernel, rfl, by decide +kernel, by decide +kernel⟩
theorem okTShare (F : Fn K mg "told_share" sTShare) (M : Mg mg) (c_is_ahead : Cal P w K mg base 3 "is_ahead" ["thing", "told"] (spIsAhead K)) (c_is_whole : Cal P w K mg base 1 "is_whole" ["thing"] (spIsWhole K)) (c_share_row : Cal P w K mg base 1 "share_row" ["row", "by"] (spShare K)) : Cal P w K mg base 4 "told_share" ["problem", "best", "told", "line"] (spTell K "share") := by
 refine cal_of F scTShare (fun _ _ _ _ _ _ => bind4 (fun _ _ _ _ => rfl)) (fun vs H Q E h => ?_) (fun f cdv A outer s H vs Q E hr h => ?_)
 ·obtain ⟨t, l, ln, rs, cs, best, ws, told, us, xs, rfl, _⟩ := h
  rfl
 obtain ⟨t, l, ln, rs, cs, best, ws, told, us, xs, rfl, J, hln, hul, hget, hsm, hlw, hok, qn, qs⟩ := h
 refine ⟨_, (pss_cons (ps_set (i := 4) scTShare.nd rfl (Or.inr rfl) (pe_ix ix_tup (pv 3) pe_int (fun _ _ => rfl)))
  (pss_cons (ps_if (PW.pt (pw_or (pt_not (pt_val (pe_fn c_is_ahead (hr.mono (by decide)) (pa_cons (pe_ix ix_tup (pv 3) pe_int (fun _ _ => rfl)) (pa_cons (pv 2) pa_nil))))) (pw_or (pt_not (pt_val (pe_fn c_is_whole (hr.mono (by decide)) (pa_cons (pv 4) pa_nil)))) (pw_or1 (pt_cmpR op_lt (pv 4) pe_int (nomark _)))))) (pss_one (ps_ret pe_non)) pss_nil)
  (pss_cons (ps_set (i := 5) scTShare.nd rfl (Or.inl rfl) (pe_ix ix_list (pv 2) (pe_ix ix_tup (pv 3) pe_int (fun _ _ => rfl)) (fun _ _ => rfl)))
  (pss_cons (ps_if (pt_val (pe_callB (call_anyB rfl) rfl M.any bt_any (pa_cons (pe_lc ["number", "by"] [none, some 4] rfl (pi_tup (pe_ix ix_tup (pv 5) pe_int (fun _ _ => rfl))) (fun _ _ _ => (pg_name (i := 0) (show (["number", "by"] : List Str).Nodup by decide +kernel) rfl (Or.inl rfl) (Or.inr rfl))) (fun _ _ _ => pf_nil) (fun _ _ _ => (pe_cmpR op_ne (pe_op op_mod (pv 0) (pv 1)) pe_int (nomark _)))) pa_nil))) (pss_one (ps_ret pe_non)) pss_nil)
  (pss_one (ps_ret (pe_fn c_share_row (hr.mono (by decide)) (pa_cons (pv 5) (pa_cons (pv 4) pa_nil))))))))), ?_⟩
 refine seq_let5 ?_
 intro rT5 rT4 rT3 rT2
 obtain ⟨l0, c0, us0, ht, hl0, hrw0, hc0⟩ := id J.prob
 have lr0 := hrw0.length
 have lw0 := J.rows.length
 have hn50 := J.n
 have hm60 := J.m
 have hk1000 := J.k
 have lc : (cs.map V.int).length = cs.length := jQ ..
 have hx2 : xs.length = 3 := (Option.some.inj (show some 3 = some xs.length from hlw)).symm
 obtain ⟨d0, d1, d2, rfl⟩ : ∃ d0 d1 d2, xs = [d0, d1, d2] := len3 hx2
 obtain ⟨v0, v1, v2, rfl⟩ : ∃ v0 v1 v2, us = [v0, v1, v2] := len3 hul
 have h1 := hget 1 v1 d1 rfl rfl
 have m1 := hsm d1 (List.Mem.tail _ (List.Mem.head _))
 have h2 := hget 2 v2 d2 rfl rfl
 have m2 := hsm d2 (List.Mem.tail _ (List.Mem.tail _ (List.Mem.head _)))
 have eq : tellBy "share" rs cs best told [d0, d1, d2] = shareD told d1 d2 := rfl
 rw [eq] at qn qs
 refine ⟨_, rfl, ln, _, _, _, rfl, rfl, hln, (show atI _ ((2 : Nat) : Int) = some _ from atNat rfl), ?_⟩
 refine ⟨_, rfl, ln, _, _, _, rfl, rfl, hln, (show atI _ ((1 : Nat) : Int) = some _ from atNat rfl), _, rfl, v1, d1, l, ws, rfl, h1, J.lst, J.ne, _, rfl, ?_⟩
 rw [lw0]
 cases e : numT told.length d1 with
 | none =>
  have : shareD told d1 d2 = none := by
   unfold shareD
   split
   ·split
    ·rw [e]; rfl
    ·rfl
   ·rfl
  exact iteT (iteT (qn this H (Same.refl H)))
 | some k =>
  obtain ⟨rfl, hk⟩ := numT_some e
  obtain rfl := hasT_int h1
  refine iteF ⟨_, rfl, v2, d2, rfl, h2, _, rfl, ?_⟩
  cases d2 with
  | int b =>
   obtain rfl := hasT_int h2
   obtain ⟨b1, b2⟩ := m2.int_inv
   have eD : shareD told (.int ((k : Nat) : Int)) (.int b) = if 1 ≤ b then (if divides (rowK told k) b = true then some (shareRow (rowK told k) b) else none) else none := by
    show (if 1 ≤ b then _ else _) = _
    rw [e]
    rfl
   rw [eD] at qn qs
   refine iteF ⟨_, rfl, _, _, rfl, rfl, _, rfl, ite2 (fun c => ?_) (fun c => ?_)⟩
   ·have c' : b < 1 := yV c
    exact qn (if_neg (by lia)) H (Same.refl H)
   ·have c' : ¬ b < 1 := fun z => c (kY z)
    rw [if_pos (by lia)] at qn qs
    obtain ⟨a, ea, hra, hla⟩ := J.row hk
    obtain ⟨p, r1, r2⟩ := id hra
    refine ⟨_, rfl, _, rfl, ln, _, _, _, rfl, rfl, hln, (show atI _ ((1 : Nat) : Int) = some _ from atNat rfl), l, _, _, _, rfl, rfl, J.lst, atNat ea, ?_⟩
    refine ⟨_, rfl, a, _, _, _, rfl, rfl, r1, at0, p, rfl, ⟨_, r2⟩, fun D hD => ?_⟩
    generalize hrr : rowK told k = r at qn qs r1 r2 hla hra
    let Pv1 : Nat → St → List V → Hp → Prop := fun i τ ys H1 => ∃ v : Option V, τ = [v, some (.int b)] ∧ ys = ((r.1.map fun x => !decide (x % b = 0)).take i).map V.bl ∧ H1 D = some (.lst ys) ∧ Same H H1
    refine lc_any (n := r.1.length) Pv1 ?_ (fun i τ ys H1 hi h => ?_) (fun i τ ys H1 hi h => ?_) (fun τ ys H1 h => ?_) ?_ ?_
    ·exact ⟨none, rfl, rfl, upd_same, same_new' hD _⟩
    ·obtain ⟨v, rfl, rfl, hE, s1⟩ := h
     have hz : (1000 : Nat) < sizeLine := by decide
     exact ⟨hE, by rw [jQ, yX]; lia⟩
    ·obtain ⟨v, rfl, rfl, hE, s1⟩ := h
     exact ⟨_, .int r.1[i], s1.tup r2, by rw [jK, gE hi]; rfl⟩
    ·obtain ⟨v, rfl, rfl, hE, s1⟩ := h
     exact ⟨_, s1.tup r2, by rw [jQ]; exact jJ _⟩
    ·rintro i τ ys H1 x H2 hi ⟨v, rfl, rfl, hE, s1⟩ ⟨rfl, e1⟩
     obtain ⟨z, ez, rfl⟩ := getMapI (e1 _ (s1.tup r2))
     refine ⟨_, rfl, _, rfl, _, _, rfl, rfl, by lia, rfl, hE, _, rfl, ?_, upd_same, fun b' o e => ?_⟩
     ·rw [takeS (show (r.1.map fun x => !decide (x % b = 0))[i]? = some (!decide (z % b = 0)) by rw [jK, ez]; rfl), kW]
      have : decide (V.int (z % b) = V.int 0) = decide (z % b = 0) := decide_eq_decide.mpr ⟨V.int.inj, congrArg V.int⟩
      show _ ++ [V.bl (!decide (V.int (z % b) = V.int 0))] = _
      rw [this]
      rfl
     ·rw [upd_ne (ne_of_none e hD)]; exact s1 _ _ e
    ·rintro τ ys H1 ⟨v, rfl, rfl, hE, s1⟩
     rw [xQ (by rw [jQ]; exact jJ _)] at hE
     refine ⟨D, _, rfl, sqL_new hE, _, rfl, ?_⟩
     have ed : ((r.1.map fun x => !decide (x % b = 0)).any id) = !divides r b := by
      unfold divides
      rw [List.any_map, List.all_eq_not_any_not, Bool.not_not]
      rfl
     rw [ed]
     by_cases hd : divides r b = true
     ·rw [hd]
      rw [if_pos hd] at qs
      exact iteF ⟨_, rfl, _, rfl, a, r, b, rfl, hra.same s1, by lia, by lia, big62 (by lia) b2, fun t' H' s' hr' => qs _ rfl t' H' (s1.trans s') hr'⟩
     ·rw [if_neg hd] at qn
      have : divides r b = false := by cases h9 : divides r b with | true => exact absurd h9 hd | false => rfl
      rw [this]
      exact iteT (qn rfl H1 s1)
  | non => exact iteT (iteT (qn rfl H (Same.refl H)))
  | bl b => exact iteT (iteT (qn rfl H (Same.refl H)))
  | str b => exact iteT (iteT (qn rfl H (Same.refl H)))
  | tup b => exact iteT (iteT (qn rfl H (Same.refl H)))
  | lst b => exact iteT (iteT (qn rfl H (Same.refl H)))
end
abbrev sTShut : Stmt := top 29
section
variable {P : Program} {w : World} {K : Fg} {mg : Str → Option Value} {base : Heap} {aT aL : Addr} {fT fL : Str → Option Value}
theorem scTShut : FnScope ["problem", "best", "told", "line", "count", "holds", "row"] ["problem", "best", "told", "line"] (defScope sTShut) := ⟨rfl, rfl, rfl, by decide +kernel, rfl, by decide +kernel, by decide +kernel⟩
theorem okTShut (F : Fn K mg "told_shut" sTShut) (M : Mg mg) (c_is_ahead : Cal P w K mg base 3 "is_ahead" ["thing", "told"] (spIsAhead K)) (c_are_holds : Cal P w K mg base 4 "are_holds" ["thing", "count"] (spAreHolds K)) (c_most_of : Cal P w K mg base 1 "most_of" ["row", "holds"] (spMost K)) (c_shut_row : Cal P w K mg base 1 "shut_row" ["count", "holds"] (spShutRow K)) : Cal P w K mg base 5 "told_shut" ["problem", "best", "told", "line"] (spTell K "shut") := by
 refine cal_of F scTShut (fun _ _ _ _ _ _ => bind4 (fun _ _ _ _ => rfl)) (fun vs H Q E h => ?_) (fun f cdv A outer s H vs Q E hr h => ?_)
 ·obtain ⟨t, l, ln, rs, cs, best, ws, told, us, xs, rfl, _⟩ := h
  rfl
 obtain ⟨t, l, ln, rs, cs, best, ws, told, us, xs, rfl, J, hln, hul, hget, hsm, hlw, hok, qn, qs⟩ := h
 refine ⟨_, (pss_cons (ps_set (i := 4) scTShut.nd rfl (Or.inl rfl) (pe_callB call_len_seq rfl M.len bt_len (pa_cons (pe_ix ix_tup (pv 0) pe_int (fun _ _ => rfl)) pa_nil)))
  (pss_cons (ps_set (i := 5) scTShut.nd rfl (Or.inl rfl) (pe_ix ix_tup (pv 3) pe_int (fun _ _ => rfl)))
  (pss_cons (ps_if (PW.pt (pw_or (pt_not (pt_val (pe_fn c_is_ahead (hr.mono (by decide)) (pa_cons (pe_ix ix_tup (pv 3) pe_int (fun _ _ => rfl)) (pa_cons (pv 2) pa_nil))))) (pw_or1 (pt_not (pt_val (pe_fn c_are_holds (hr.mono (by decide)) (pa_cons (pv 5) (pa_cons (pv 4) pa_nil)))))))) (pss_one (ps_ret pe_non)) pss_nil)
  (pss_cons (ps_set (i := 6) scTShut.nd rfl (Or.inl rfl) (pe_ix ix_list (pv 2) (pe_ix ix_tup (pv 3) pe_int (fun _ _ => rfl)) (fun _ _ => rfl)))
  (pss_cons (ps_if (pt_cmpR op_ge (pe_fn c_most_of (hr.mono (by decide)) (pa_cons (pv 6) (pa_cons (pv 5) pa_nil))) (pe_ix ix_tup (pv 6) pe_int (fun _ _ => rfl)) (nomark _)) (pss_one (ps_ret pe_non)) pss_nil)
  (pss_one (ps_ret (pe_fn c_shut_row (hr.mono (by decide)) (pa_cons (pv 4) (pa_cons (pv 5) pa_nil)))))))))), ?_⟩
 refine seq_let6 ?_
 intro rT6 rT5 rT4 rT3 rT2
 obtain ⟨l0, c0, us0, ht, hl0, hrw0, hc0⟩ := id J.prob
 have lr0 := hrw0.length
 have lw0 := J.rows.length
 have hn50 := J.n
 have hm60 := J.m
 have hk1000 := J.k
 have lc : (cs.map V.int).length = cs.length := jQ ..
 have hx2 : xs.length = 3 := (Option.some.inj (show some 3 = some xs.length from hlw)).symm
 obtain ⟨d0, d1, d2, rfl⟩ : ∃ d0 d1 d2, xs = [d0, d1, d2] := len3 hx2
 obtain ⟨v0, v1, v2, rfl⟩ : ∃ v0 v1 v2, us = [v0, v1, v2] := len3 hul
 have h1 := hget 1 v1 d1 rfl rfl
 have m1 := hsm d1 (List.Mem.tail _ (List.Mem.head _))
 have h2 := hget 2 v2 d2 rfl rfl
 have m2 := hsm d2 (List.Mem.tail _ (List.Mem.tail _ (List.Mem.head _)))
 have eq : tellBy "shut" rs cs best told [d0, d1, d2] = (numT told.length d1).bind fun k => (holdsT cs.length d2).bind fun hs => if mostR (rowK told k) hs < (rowK told k).2 then some (shutRow cs.length hs) else none := rfl
 rw [eq] at qn qs
 refine ⟨_, rfl, t, _, _, _, rfl, rfl, ht, at1, c0, _, rfl, .inr hc0, ?_⟩
 rw [lc]
 refine ⟨_, rfl, ln, _, _, _, rfl, rfl, hln, (show atI _ ((2 : Nat) : Int) = some _ from atNat rfl), ?_⟩
 refine ⟨_, rfl, ln, _, _, _, rfl, rfl, hln, (show atI _ ((1 : Nat) : Int) = some _ from atNat rfl), _, rfl, v1, d1, l, ws, rfl, h1, J.lst, J.ne, _, rfl, ?_⟩
 rw [lw0]
 cases e : numT told.length d1 with
 | none => rw [e] at qn; exact iteT (iteT (qn rfl H (Same.refl H)))
 | some k =>
  rw [e] at qn qs
  obtain ⟨rfl, hk⟩ := numT_some e
  obtain rfl := hasT_int h1
  have hl60 : lenT d2 < 1000 := by have := lenT_small m2; lia
  have go : ∀ (H1 : Hp), Same H H1 → (holdsT cs.length d2 = none → Q .non H1) := fun H1 s1 hh => qn (by show (holdsT cs.length d2).bind _ = none; rw [hh]; rfl) H1 s1
  cases hh : holdsT cs.length d2 with
  | none =>
   cases d2 with
   | tup zs => exact iteF ⟨_, rfl, _, rfl, v2, _, cs.length, rfl, h2, hl60, fun H1 s1 => ⟨_, rfl, iteT (go H1 s1 rfl)⟩⟩
   | lst zs => exact iteF ⟨_, rfl, _, rfl, v2, _, cs.length, rfl, h2, hl60, fun H1 s1 => ⟨_, rfl, by rw [hh]; exact iteT (go H1 s1 hh)⟩⟩
   | non => exact iteF ⟨_, rfl, _, rfl, v2, _, cs.length, rfl, h2, hl60, fun H1 s1 => ⟨_, rfl, iteT (go H1 s1 rfl)⟩⟩
   | bl b => exact iteF ⟨_, rfl, _, rfl, v2, _, cs.length, rfl, h2, hl60, fun H1 s1 => ⟨_, rfl, iteT (go H1 s1 rfl)⟩⟩
   | str b => exact iteF ⟨_, rfl, _, rfl, v2, _, cs.length, rfl, h2, hl60, fun H1 s1 => ⟨_, rfl, iteT (go H1 s1 rfl)⟩⟩
   | int b => exact iteF ⟨_, rfl, _, rfl, v2, _, cs.length, rfl, h2, hl60, fun H1 s1 => ⟨_, rfl, iteT (go H1 s1 rfl)⟩⟩
  | some hs =>
   obtain ⟨zs, rfl⟩ := holdsT_inv hh
   obtain ⟨ea, hnd⟩ := holds_of hh
   obtain ⟨al, vs2, rfl, hal, hall, hgl⟩ := h2.lst_inv
   obtain ⟨hpa, hok⟩ := holds_vals (n := cs.length) hall hgl ea
   have hzl := (m2.lst_inv).1
   have hsl : hs.length = zs.length := (allT_get ea).1
   have qs' : ∀ r, (if mostR (rowK told k) hs < (rowK told k).2 then some (shutRow cs.length hs) else none) = some r → ∀ t' H', Same H H' → RowAt K H' t' r → Q (.ref t') H' := fun r er => qs r (by show (holdsT cs.length (.lst zs)).bind _ = some r; rw [hh]; exact er)
   have qn' : (if mostR (rowK told k) hs < (rowK told k).2 then some (shutRow cs.length hs) else none) = none → ∀ H', Same H H' → Q .non H' := fun er => qn (by show (holdsT cs.length (.lst zs)).bind _ = none; rw [hh]; exact er)
   refine iteF ⟨_, rfl, _, rfl, _, _, cs.length, rfl, h2, by show zs.length < 1000; lia, fun H1 s1 => ⟨_, rfl, ?_⟩⟩
   rw [hh]
   refine iteF ?_
   obtain ⟨a, ewa, hra, hla⟩ := J.row hk
   obtain ⟨p, r1, r2⟩ := id hra
   have hln1 := s1.tup hln
   refine ⟨_, rfl, _, rfl, ln, _, _, _, rfl, rfl, hln1, (show atI _ ((1 : Nat) : Int) = some _ from atNat rfl), l, _, _, _, rfl, rfl, s1.seq J.lst, atNat ewa, ?_⟩
   have hH1 : HoldsAt K H1 al hs := ⟨vs2, s1.seq hal, PairsAre.same s1 hpa⟩
   refine ⟨_, rfl, _, rfl, a, al, rowK told k, hs, rfl, hra.same s1, hH1, by lia, fun p hp => (hok p hp).2.2, fun H2 s2 => ⟨_, rfl, a, _, _, _, rfl, rfl, (s1.trans s2).tup r1, at1, _, _, rfl, rfl, _, rfl, ite2 (fun c => ?_) (fun c => ?_)⟩⟩
   ·have c' : (rowK told k).2 ≤ mostR (rowK told k) hs := yV c
    exact qn' (if_neg (by lia)) H2 (s1.trans s2)
   ·have c' : ¬ (rowK told k).2 ≤ mostR (rowK told k) hs := fun z => c (kY z)
    exact ⟨_, rfl, _, rfl, al, cs.length, hs, rfl, hH1.same s2, hok, by lia, fun t' H' s' hr' => qs' _ (if_pos (by lia)) t' H' ((s1.trans s2).trans s') hr'⟩
end
abbrev sTEither : Stmt := top 30
abbrev sTLike : Stmt := top 31
section
variable {P : Program} {w : World} {K : Fg} {mg : Str → Option Value} {base : Heap} {aT aL : Addr} {fT fL : Str → Option Value}
theorem scTEither : FnScope ["problem", "best", "told", "line", "choice", "one", "other"] ["problem", "best", "told", "line"] (defScope sTEither) := ⟨rfl, rfl, rfl, by decide +kernel, rfl, by decide +kernel, by decide +kernel⟩
theorem okTEither (F : Fn K mg "told_either" sTEither) (M : Mg mg) (c_is_ahead : Cal P w K mg base 3 "is_ahead" ["thing", "told"] (spIsAhead K)) (c_is_number_of : Cal P w K mg base 2 "is_number_of" ["thing", "count"] (spIsNum K)) (c_without : Cal P w K mg base 1 "without" ["row", "choice"] (spWithout K)) (c_either_row : Cal P w K mg base 2 "either_row" ["one", "other", "choice"] (spEitherRow K)) : Cal P w K mg base 4 "told_either" ["problem", "best", "told", "line"] (spTell K "either") := by
 refine cal_of F scTEither (fun _ _ _ _ _ _ => bind4 (fun _ _ _ _ => rfl)) (fun vs H Q E h => ?_) (fun f cdv A outer s H vs Q E hr h => ?_)
 ·obtain ⟨t, l, ln, rs, cs, best, ws, told, us, xs, rfl, _⟩ := h
  rfl
 obtain ⟨t, l, ln, rs, cs, best, ws, told, us, xs, rfl, J, hln, hul, hget, hsm, hlw, hok, qn, qs⟩ := h
 have hu6 : (A.deeper (PyProof.Rows.envOfC "told_either" (defScope sTEither) s.heap.objs.size f cdv)).units + 6 < cLine := wV (jQf (by decide) _) hr.un
 refine ⟨_, (pss_cons (ps_set (i := 4) scTEither.nd rfl (Or.inl rfl) (pe_ix ix_tup (pv 3) pe_int (fun _ _ => rfl)))
  (pss_cons (ps_if (PW.pt (pw_or (pt_not (pt_val (pe_fn c_is_ahead (hr.mono (by decide)) (pa_cons (pe_ix ix_tup (pv 3) pe_int (fun _ _ => rfl)) (pa_cons (pv 2) pa_nil))))) (pw_or1 (pt_not (pt_val (pe_fn c_is_ahead (hr.mono (by decide)) (pa_cons (pe_ix ix_tup (pv 3) pe_int (fun _ _ => rfl)) (pa_cons (pv 2) pa_nil)))))))) (pss_one (ps_ret pe_non)) pss_nil)
  (pss_cons (ps_if (pt_not (pt_val (pe_fn c_is_number_of (hr.mono (by decide)) (pa_cons (pv 4) (pa_cons (pe_callB call_len_seq rfl M.len bt_len (pa_cons (pe_ix ix_tup (pv 0) pe_int (fun _ _ => rfl)) pa_nil)) pa_nil))))) (pss_one (ps_ret pe_non)) pss_nil)
  (pss_cons (ps_set (i := 5) scTEither.nd rfl (Or.inl rfl) (pe_ix ix_list (pv 2) (pe_ix ix_tup (pv 3) pe_int (fun _ _ => rfl)) (fun _ _ => rfl)))
  (pss_cons (ps_set (i := 6) scTEither.nd rfl (Or.inl rfl) (pe_ix ix_list (pv 2) (pe_ix ix_tup (pv 3) pe_int (fun _ _ => rfl)) (fun _ _ => rfl)))
  (pss_cons (ps_if (pt_cmpR (op_neD (n := 6) hu6) (pe_fn c_without (hr.mono (by decide)) (pa_cons (pv 5) (pa_cons (pv 4) pa_nil))) (pe_fn c_without (hr.mono (by decide)) (pa_cons (pv 6) (pa_cons (pv 4) pa_nil))) (nomark _)) (pss_one (ps_ret pe_non)) pss_nil)
  (pss_one (ps_ret (pe_fn c_either_row (hr.mono (by decide)) (pa_cons (pv 5) (pa_cons (pv 6) (pa_cons (pv 4) pa_nil)))))))))))), ?_⟩
 refine seq_let7 ?_
 intro rT7 rT6 rT5 rT4 rT3 rT2
 obtain ⟨l0, c0, us0, ht, hl0, hrw0, hc0⟩ := id J.prob
 have lr0 := hrw0.length
 have lw0 := J.rows.length
 have hn50 := J.n
 have hm60 := J.m
 have hk1000 := J.k
 have lc : (cs.map V.int).length = cs.length := jQ ..
 have hx2 : xs.length = 4 := (Option.some.inj (show some 4 = some xs.length from hlw)).symm
 obtain ⟨d0, d1, d2, d3, rfl⟩ : ∃ d0 d1 d2 d3, xs = [d0, d1, d2, d3] := len4 hx2
 obtain ⟨v0, v1, v2, v3, rfl⟩ : ∃ v0 v1 v2 v3, us = [v0, v1, v2, v3] := len4 hul
 have h1 := hget 1 v1 d1 rfl rfl
 have m1 := hsm d1 (List.Mem.tail _ (List.Mem.head _))
 have h2 := hget 2 v2 d2 rfl rfl
 have m2 := hsm d2 (List.Mem.tail _ (List.Mem.tail _ (List.Mem.head _)))
 have h3 := hget 3 v3 d3 rfl rfl
 have m3 := hsm d3 (List.Mem.tail _ (List.Mem.tail _ (List.Mem.tail _ (List.Mem.head _))))
 have eq : tellBy "either" rs cs best told [d0, d1, d2, d3] = (numT told.length d1).bind fun i => (numT told.length d2).bind fun j => (numT cs.length d3).bind fun c => if withoutN (rowK told i).1 c = withoutN (rowK told j).1 c then some (eitherRow (rowK told i) (rowK told j) c) else none := rfl
 rw [eq] at qn qs
 refine ⟨_, rfl, ln, _, _, _, rfl, rfl, hln, (show atI _ ((3 : Nat) : Int) = some _ from atNat rfl), ?_⟩
 refine ⟨_, rfl, ln, _, _, _, rfl, rfl, hln, (show atI _ ((1 : Nat) : Int) = some _ from atNat rfl), _, rfl, v1, d1, l, ws, rfl, h1, J.lst, J.ne, _, rfl, ?_⟩
 rw [lw0]
 cases e : numT told.length d1 with
 | none => rw [e] at qn; exact iteT (iteT (qn rfl H (Same.refl H)))
 | some i =>
  rw [e] at qn qs
  obtain ⟨rfl, hi⟩ := numT_some e
  obtain rfl := hasT_int h1
  refine iteF ⟨_, rfl, ln, _, _, _, rfl, rfl, hln, (show atI _ ((2 : Nat) : Int) = some _ from atNat rfl), _, rfl, v2, d2, l, ws, rfl, h2, J.lst, J.ne, _, rfl, ?_⟩
  rw [lw0]
  cases e2 : numT told.length d2 with
  | none => exact iteT (qn (by show (numT told.length d2).bind _ = none; rw [e2]; rfl) H (Same.refl H))
  | some j =>
   have qs2 := fun r er => qs r (show (numT told.length d2).bind _ = some r by rw [e2]; exact er)
   have qn2 := fun er => qn (show (numT told.length d2).bind _ = none by rw [e2]; exact er)
   obtain ⟨rfl, hj⟩ := numT_some e2
   obtain rfl := hasT_int h2
   refine iteF ⟨_, rfl, _, rfl, t, _, _, _, rfl, rfl, ht, at1, c0, _, rfl, .inr hc0, v3, d3, (cs.map V.int).length, rfl, h3, _, rfl, ?_⟩
   rw [lc]
   cases e3 : numT cs.length d3 with
   | none => exact iteT (qn2 (by show (numT cs.length d3).bind _ = none; rw [e3]; rfl) H (Same.refl H))
   | some c =>
    have qs3 := fun r er => qs2 r (show (numT cs.length d3).bind _ = some r by rw [e3]; exact er)
    have qn3 := fun er => qn2 (show (numT cs.length d3).bind _ = none by rw [e3]; exact er)
    obtain ⟨rfl, hc⟩ := numT_some e3
    obtain rfl := hasT_int h3
    obtain ⟨a1, ea1, hra1, hla1⟩ := J.row hi
    obtain ⟨a2, ea2, hra2, hla2⟩ := J.row hj
    refine iteF ⟨_, rfl, _, rfl, ln, _, _, _, rfl, rfl, hln, (show atI _ ((1 : Nat) : Int) = some _ from atNat rfl), l, _, _, _, rfl, rfl, J.lst, atNat ea1, ?_⟩
    refine ⟨_, rfl, _, rfl, ln, _, _, _, rfl, rfl, hln, (show atI _ ((2 : Nat) : Int) = some _ from atNat rfl), l, _, _, _, rfl, rfl, J.lst, atNat ea2, ?_⟩
    generalize rowK told i = one at qs3 qn3 hra1 hla1
    generalize rowK told j = other at qs3 qn3 hra2 hla2
    refine ⟨_, rfl, _, rfl, a1, one, c, rfl, hra1, by lia, by lia, fun p1 H1 s1 hp1 => ?_⟩
    refine ⟨_, rfl, _, rfl, a2, other, c, rfl, hra2.same s1, by lia, by lia, fun p2 H2 s2 hp2 => ?_⟩
    have s12 := s1.trans s2
    refine ⟨p1, p2, _, _, rfl, rfl, intsD (s2.tup hp1), intsD hp2, alikeInts _ _, fun b hb => ?_⟩
    have hb' : b = true ↔ withoutN one.1 c = withoutN other.1 c := by
     rw [hb]
     constructor
     ·intro z
      have z1 : (withoutN one.1 c).map L2.D.int = (withoutN other.1 c).map L2.D.int := by injection z
      exact (List.map_inj_right (fun _ _ h => by cases h; rfl)).mp z1
     ·intro z; rw [z]
    cases b with
    | true => exact ⟨_, rfl, iteF ⟨_, rfl, _, rfl, _, rfl, a1, a2, one, other, c, rfl, hra1.same s12, hra2.same s12, by lia, by lia, fun t' H' s' hr' => qs3 _ (if_pos (hb'.mp rfl)) t' H' (s12.trans s') hr'⟩⟩
    | false => exact ⟨_, rfl, iteT (qn3 (if_neg fun z => nomatch hb'.mpr z) H2 s12)⟩
theorem scTLike : FnScope ["problem", "best", "told", "line", "turn"] ["problem", "best", "told", "line"] (defScope sTLike) := ⟨rfl, rfl, rfl, by decide +kernel, rfl, by decide +kernel, by decide +kernel⟩
theorem okTLike (F : Fn K mg "told_like" sTLike) (M : Mg mg) (c_is_turn : Cal P w K mg base 3 "is_turn" ["thing", "count"] (spIsTurn K)) (c_turn_keeps : Cal P w K mg base 2 "turn_keeps" ["problem", "turn"] (spKT K)) (c_like_row : Cal P w K mg base 1 "like_row" ["turn"] (spLikeRow K)) : Cal P w K mg base 4 "told_like" ["problem", "best", "told", "line"] (spTell K "like") := by
 refine cal_of F scTLike (fun _ _ _ _ _ _ => bind4 (fun _ _ _ _ => rfl)) (fun vs H Q E h => ?_) (fun f cdv A outer s H vs Q E hr h => ?_)
 ·obtain ⟨t, l, ln, rs, cs, best, ws, told, us, xs, rfl, _⟩ := h
  rfl
 obtain ⟨t, l, ln, rs, cs, best, ws, told, us, xs, rfl, J, hln, hul, hget, hsm, hlw, hok, qn, qs⟩ := h
 refine ⟨_, (pss_cons (ps_set (i := 4) scTLike.nd rfl (Or.inl rfl) (pe_ix ix_tup (pv 3) pe_int (fun _ _ => rfl)))
  (pss_cons (ps_if (PW.pt (pw_or (pt_not (pt_val (pe_fn c_is_turn (hr.mono (by decide)) (pa_cons (pv 4) (pa_cons (pe_callB call_len_seq rfl M.len bt_len (pa_cons (pe_ix ix_tup (pv 0) pe_int (fun _ _ => rfl)) pa_nil)) pa_nil))))) (pw_or1 (pt_not (pt_val (pe_fn c_turn_keeps (hr.mono (by decide)) (pa_cons (pv 0) (pa_cons (pv 4) pa_nil)))))))) (pss_one (ps_ret pe_non)) pss_nil)
  (pss_one (ps_ret (pe_fn c_like_row (hr.mono (by decide)) (pa_cons (pv 4) pa_nil)))))), ?_⟩
 refine seq_let3 ?_
 intro rT3 rT2
 obtain ⟨l0, c0, us0, ht, hl0, hrw0, hc0⟩ := id J.prob
 have lr0 := hrw0.length
 have lw0 := J.rows.length
 have hn50 := J.n
 have hm60 := J.m
 have hk1000 := J.k
 have lc : (cs.map V.int).length = cs.length := jQ ..
 have hx2 : xs.length = 2 := (Option.some.inj (show some 2 = some xs.length from hlw)).symm
 obtain ⟨d0, d1, rfl⟩ : ∃ d0 d1, xs = [d0, d1] := len2 hx2
 obtain ⟨v0, v1, rfl⟩ : ∃ v0 v1, us = [v0, v1] := len2 hul
 have h1 := hget 1 v1 d1 rfl rfl
 have m1 := hsm d1 (List.Mem.tail _ (List.Mem.head _))
 have eq : tellBy "like" rs cs best told [d0, d1] = (turnT cs.length d1).bind fun t => @ite _ (KeepsT rs cs t cs.length) (Classical.propDecidable _) (some (likeRow t)) none := rfl
 rw [eq] at qn qs
 refine ⟨_, rfl, ln, _, _, _, rfl, rfl, hln, (show atI _ ((1 : Nat) : Int) = some _ from atNat rfl), ?_⟩
 have hl60 : lenT d1 < 64 := by have := lenT_small m1; lia
 have go : ∀ (H1 : Hp), Same H H1 → (turnT cs.length d1 = none → Q .non H1) := fun H1 s1 hh => qn (by rw [hh]; rfl) H1 s1
 cases hh : turnT cs.length d1 with
 | none =>
  cases d1 with
  | lst zs => exact ⟨_, rfl, _, rfl, t, _, _, _, rfl, rfl, ht, at1, c0, _, rfl, .inr hc0, v1, _, (cs.map V.int).length, rfl, h1, hl60, by rw [lc]; lia, fun H1 s1 => ⟨_, rfl, by rw [lc, hh]; exact iteT (iteT (go H1 s1 hh))⟩⟩
  | tup zs => exact ⟨_, rfl, _, rfl, t, _, _, _, rfl, rfl, ht, at1, c0, _, rfl, .inr hc0, v1, _, (cs.map V.int).length, rfl, h1, hl60, by rw [lc]; lia, fun H1 s1 => ⟨_, rfl, iteT (iteT (go H1 s1 rfl))⟩⟩
  | non => exact ⟨_, rfl, _, rfl, t, _, _, _, rfl, rfl, ht, at1, c0, _, rfl, .inr hc0, v1, _, (cs.map V.int).length, rfl, h1, hl60, by rw [lc]; lia, fun H1 s1 => ⟨_, rfl, iteT (iteT (go H1 s1 rfl))⟩⟩
  | bl b => exact ⟨_, rfl, _, rfl, t, _, _, _, rfl, rfl, ht, at1, c0, _, rfl, .inr hc0, v1, _, (cs.map V.int).length, rfl, h1, hl60, by rw [lc]; lia, fun H1 s1 => ⟨_, rfl, iteT (iteT (go H1 s1 rfl))⟩⟩
  | str b => exact ⟨_, rfl, _, rfl, t, _, _, _, rfl, rfl, ht, at1, c0, _, rfl, .inr hc0, v1, _, (cs.map V.int).length, rfl, h1, hl60, by rw [lc]; lia, fun H1 s1 => ⟨_, rfl, iteT (iteT (go H1 s1 rfl))⟩⟩
  | int b => exact ⟨_, rfl, _, rfl, t, _, _, _, rfl, rfl, ht, at1, c0, _, rfl, .inr hc0, v1, _, (cs.map V.int).length, rfl, h1, hl60, by rw [lc]; lia, fun H1 s1 => ⟨_, rfl, iteT (iteT (go H1 s1 rfl))⟩⟩
 | some tn =>
  obtain ⟨zs, rfl⟩ := turnT_inv hh
  obtain ⟨ea, hnd, hlen⟩ := isTurn_of hh
  obtain ⟨al, vs2, rfl, hal, hall, hgl⟩ := h1.lst_inv
  obtain ⟨ev, hlt⟩ := allT_vals (n := cs.length) hall hgl ea
  have hzl := (m1.lst_inv).1
  have hT : IsTurn cs.length tn := ⟨nodup_perm_range hlt hnd hlen⟩
  rw [hh] at qn qs
  refine ⟨_, rfl, _, rfl, t, _, _, _, rfl, rfl, ht, at1, c0, _, rfl, .inr hc0, _, _, (cs.map V.int).length, rfl, h1, by show zs.length < 64; lia, by rw [lc]; lia, fun H1 s1 => ⟨_, rfl, ?_⟩⟩
  rw [lc, hh]
  have htn : SqL K H1 al ((tI tn).map V.int) := by show SqL K H1 al ((tn.map fun (k : Nat) => (k : Int)).map V.int); rw [← ev]; exact s1.seq hal
  refine iteF ⟨_, rfl, _, rfl, t, al, rs, cs, cs.length, tn, rfl, J.prob.same s1, htn, hT, by lia, J.rl, rfl, J.m, fun b H2 s2 hb => ⟨_, rfl, ?_⟩⟩
  have s12 := s1.trans s2
  cases b with
  | true => exact iteF ⟨_, rfl, al, tn, rfl, s2.seq htn, by lia, fun k hk => by rw [hlen]; exact hlt k hk, fun t' H' s' hr' => qs _ (show (some tn).bind _ = some _ from if_pos (hb.mp rfl)) t' H' (s12.trans s') hr'⟩
  | false => exact iteT (qn (show (some tn).bind _ = none from if_neg fun z => nomatch hb.mpr z) H2 s12)
end
abbrev sTSum : Stmt := top 27
theorem parts_nil {K : Fg} {H : Hp} : PartsAre K H [] [] := ⟨rfl, fun i v p e => by simp at e⟩
theorem parts_snoc {K : Fg} {H : Hp} {vs : List V} {ps : List Part} {T t : Addr} {p : Part} (h : PartsAre K H vs ps) (h1 : SqT K H T [.ref t, .int p.2]) (h2 : RowAt K H t p.1) : PartsAre K H (vs ++ [.ref T]) (ps ++ [p]) := by
 refine ⟨by rw [kQ, kQ, h.1]; rfl, fun i v q e1 e2 => ?_⟩
 by_cases hi : i < vs.length
 ·rw [kYd hi] at e1
  rw [kYd (by rw [← h.1]; exact hi)] at e2
  exact h.2 i v q e1 e2
 ·have hi2 : i = vs.length := by
   have := (yQ.mp e1).1
   rw [kQ] at this
   simp at this
   lia
  subst hi2
  rw [kXf (jJ _)] at e1
  rw [kXf (by rw [h.1]; exact jJ _), h.1] at e2
  simp at e1 e2
  subst e1 e2
  exact ⟨T, t, rfl, h1, h2⟩
theorem parts_imp {K : Fg} {H H' : Hp} {vs : List V} {ps : List Part} (f : ∀ a xs, SqT K H a xs → SqT K H' a xs) (h : PartsAre K H vs ps) : PartsAre K H' vs ps :=
 ⟨h.1, fun i v p e1 e2 => let ⟨T, t, a, b, q, c1, c2⟩ := h.2 i v p e1 e2; ⟨T, t, a, f _ _ b, q, f _ _ c1, f _ _ c2⟩⟩
theorem part_vals {K : Fg} {H : Hp} {n : Nat} {vs : List V} {xs : List Dt} {qs : List (Nat × Int)} (hl : vs.length = xs.length) (h : ∀ (i : Nat) v x, vs[i]? = some v → xs[i]? = some x → HasT K H v x) (hs : ∀ x ∈ xs, Sm x) (e : allT (partT n) xs = some qs) {i : Nat} {v : V} (ev : vs[i]? = some v) :
  ∃ T p, v = .ref T ∧ qs[i]? = some p ∧ SqT K H T [.int ((p.1 : Nat) : Int), .int p.2] ∧ p.1 < n ∧ 0 ≤ p.2 ∧ p.2 < 2 ^ 62 := by
 have hi : i < vs.length := (yQ.mp ev).1
 obtain ⟨x, ex⟩ : ∃ x, xs[i]? = some x := ⟨_, gE (by lia)⟩
 obtain ⟨p, ep, en⟩ := (allT_get e).2 i x ex
 obtain ⟨rfl, h1, h2⟩ := partT_some en
 obtain ⟨T, a, b, rfl, g1, g2, g3⟩ := (h i v _ ev ex).pair_inv
 cases g2
 cases g3
 have := (hs _ (kX ex)).tup_inv (.int p.2) (by simp)
 exact ⟨T, p, rfl, ep, g1, h1, h2, this.int_inv.2⟩
theorem parts_ok {n : Nat} {xs : List Dt} {qs : List (Nat × Int)} (e : allT (partT n) xs = some qs) (hs : ∀ x ∈ xs, Sm x) : ∀ p ∈ qs, p.1 < n ∧ 0 ≤ p.2 ∧ p.2 < 2 ^ 62 := by
 intro p hp
 obtain ⟨el, eg⟩ := allT_get e
 obtain ⟨i, hi, rfl⟩ := jXd.mp hp
 obtain ⟨x, ex⟩ : ∃ x, xs[i]? = some x := ⟨_, gE (by lia)⟩
 obtain ⟨p, ep, en⟩ := eg i x ex
 rw [gE hi] at ep
 cases ep
 obtain ⟨rfl, h1, h2⟩ := partT_some en
 exact ⟨h1, h2, ((hs _ (kX ex)).tup_inv (.int _) (by simp)).int_inv.2⟩
section
variable {P : Program} {w : World} {K : Fg} {mg : Str → Option Value} {base : Heap} {aT aL : Addr} {fT fL : Str → Option Value}
theorem scTSum : FnScope ["problem", "best", "told", "line", "parts"] ["problem", "best", "told", "line"] (defScope sTSum) := ⟨rfl, rfl, rfl, by decide +kernel, rfl, by decide +kernel, by decide +kernel⟩
theorem okTSum (F : Fn K mg "told_sum" sTSum) (M : Mg mg) (c_is_part : Cal P w K mg base 4 "is_part" ["thing", "told"] (spIsPart K)) (c_sum_row : Cal P w K mg base 1 "sum_row" ["count", "parts"] (spSum K)) : Cal P w K mg base 5 "told_sum" ["problem", "best", "told", "line"] (spTell K "sum") := by
 refine cal_of F scTSum (fun _ _ _ _ _ _ => bind4 (fun _ _ _ _ => rfl)) (fun vs H Q E h => ?_) (fun f cdv A outer s H vs Q E hr h => ?_)
 ·obtain ⟨t, l, ln, rs, cs, best, ws, told, us, xs, rfl, _⟩ := h
  rfl
 obtain ⟨t, l, ln, rs, cs, best, ws, told, us, xs, rfl, J, hln, hul, hget, hsm, hlw, hok, qn, qs⟩ := h
 refine ⟨_, (pss_cons (ps_set (i := 4) scTSum.nd rfl (Or.inl rfl) (pe_ix ix_tup (pv 3) pe_int (fun _ _ => rfl)))
  (pss_cons (ps_if (PW.pt (pw_or (pt_not (pt_val (pe_callB call_isiW rfl M.isinstance bt_isinstance (pa_cons (pv 4) (pa_cons (pe_ty M.list_ bt_list) pa_nil))))) (pw_or1 (pt_cmpR op_eq (pe_callB call_len_seq rfl M.len bt_len (pa_cons (pv 4) pa_nil)) pe_int (nomark _))))) (pss_one (ps_ret pe_non)) pss_nil)
  (pss_cons (ps_if (pt_not (pt_val (pe_callB (call_allB rfl) rfl M.all bt_all (pa_cons (pe_lc ["part", "told"] [none, some 2] rfl (pi_list (pv 4)) (fun _ _ _ => (pg_name (i := 0) (show (["part", "told"] : List Str).Nodup by decide +kernel) rfl (Or.inl rfl) (Or.inr rfl))) (fun _ _ _ => pf_nil) (fun _ _ _ => (pe_fn c_is_part (hr.mono (by decide)) (pa_cons (pv 0) (pa_cons (pv 1) pa_nil))))) pa_nil)))) (pss_one (ps_ret pe_non)) pss_nil)
  (pss_one (ps_ret (pe_fn c_sum_row (hr.mono (by decide)) (pa_cons (pe_callB call_len_seq rfl M.len bt_len (pa_cons (pe_ix ix_tup (pv 0) pe_int (fun _ _ => rfl)) pa_nil)) (pa_cons (pe_lc ["place", "many", "told"] [none, none, some 2] rfl (pi_list (pv 4)) (fun _ _ _ => (pg_pair (K := K) (i := 0) (j := 1) rfl rfl (show (["place", "many", "told"] : List Str).Nodup by decide +kernel) rfl rfl rfl rfl)) (fun _ _ _ => pf_nil) (fun _ _ _ => (pe_tup (pa_cons (pe_ix (ix_listK (K := K) rfl) (pv 2) (pv 0) (fun _ _ => rfl)) (pa_cons (pv 1) pa_nil))))) pa_nil)))))))), ?_⟩
 refine seq_let4 ?_
 intro rT4 rT3 rT2
 obtain ⟨l0, c0, us0, ht, hl0, hrw0, hc0⟩ := id J.prob
 have lr0 := hrw0.length
 have lw0 := J.rows.length
 have hn50 := J.n
 have hm60 := J.m
 have hk1000 := J.k
 have lc : (cs.map V.int).length = cs.length := jQ ..
 have hx2 : xs.length = 2 := (Option.some.inj (show some 2 = some xs.length from hlw)).symm
 obtain ⟨d0, d1, rfl⟩ : ∃ d0 d1, xs = [d0, d1] := len2 hx2
 obtain ⟨v0, v1, rfl⟩ : ∃ v0 v1, us = [v0, v1] := len2 hul
 have h1 := hget 1 v1 d1 rfl rfl
 have m1 := hsm d1 (List.Mem.tail _ (List.Mem.head _))
 have eq : tellBy "sum" rs cs best told [d0, d1] = sumD cs.length told d1 := rfl
 rw [eq] at qn qs
 have hz : (2000 : Nat) < sizeLine := by decide
 refine ⟨_, rfl, ln, _, _, _, rfl, rfl, hln, (show atI _ ((1 : Nat) : Int) = some _ from atNat rfl), ?_⟩
 cases d1 with
 | lst xs =>
  obtain ⟨a, us, rfl, hl, hlen, hgl⟩ := h1.lst_inv
  obtain ⟨hx60, hxs⟩ := m1.lst_inv
  refine ⟨_, rfl, _, "list", _, rfl, .list, h1.isi _, _, rfl, iteF ⟨_, rfl, a, us, rfl, .inl hl, rfl, _, rfl, ?_⟩⟩
  cases xs with
  | nil =>
   have : us = [] := zW hlen
   subst this
   exact iteT (qn rfl H (Same.refl H))
  | cons d r =>
   have eS : sumD cs.length told (.lst (d :: r)) = (allT (partT told.length) (d :: r)).map fun qs => sumRow cs.length (partsOf told qs) := rfl
   rw [eS] at qn qs
   generalize hxx : d :: r = xs at *
   have hpos : 0 < xs.length := by rw [← hxx]; simp
   refine ite2 (fun c => absurd (V.int.inj (yV c)) (by lia)) (fun _ => ?_)
   refine ⟨_, rfl, a, rfl, ⟨_, hl⟩, fun D hD => ?_⟩
   let Pv1 : Nat → St → List V → Hp → Prop := fun i τ ys H1 => ∃ u : Option V, τ = [u, some (.ref l)] ∧ ys = ((xs.take i).map fun d => (partT ws.length d).isSome).map V.bl ∧ H1 D = some (.lst ys) ∧ Same H H1
   refine lc_any (n := xs.length) Pv1 ?_ (fun i τ ys H1 hi h => ?_) (fun i τ ys H1 hi h => ?_) (fun τ ys H1 h => ?_) ?_ ?_
   ·exact ⟨none, rfl, rfl, upd_same, same_new' hD _⟩
   ·obtain ⟨u, rfl, rfl, hE, s1⟩ := h
    exact ⟨hE, by rw [jQ, jQ, yX]; lia⟩
   ·obtain ⟨u, rfl, rfl, hE, s1⟩ := h
    exact ⟨us, us[i]'(by lia), s1.seq hl, gE (by lia)⟩
   ·obtain ⟨u, rfl, rfl, hE, s1⟩ := h
    exact ⟨us, s1.seq hl, by lia⟩
   ·rintro i τ ys H1 x H2 hi ⟨u, rfl, rfl, hE, s1⟩ ⟨rfl, e1⟩
    obtain ⟨dd, ed⟩ : ∃ d, xs[i]? = some d := ⟨_, gE hi⟩
    have hx := (hgl i _ _ (e1 _ (s1.seq hl)) ed).same s1
    refine ⟨_, rfl, _, rfl, _, dd, l, ws, rfl, hx, s1.seq J.lst, J.ne, hE, _, rfl, ?_, upd_same, fun b o e => ?_⟩
    ·rw [takeS ed, kW, kW]; rfl
    ·rw [upd_ne (ne_of_none e hD)]; exact s1 _ _ e
   rintro τ ys H1 ⟨u, rfl, rfl, hE, s1⟩
   rw [xW] at hE
   refine ⟨D, _, rfl, sqL_new hE, _, rfl, ?_⟩
   have eall : (xs.map fun d => (partT ws.length d).isSome).all id = (allT (partT told.length) xs).isSome := by rw [lw0, allT_isSome, List.all_map]; rfl
   rw [eall]
   cases ea : allT (partT told.length) xs with
   | none => rw [ea] at qn; exact iteT (qn rfl H1 s1)
   | some qq =>
    rw [ea] at qs
    obtain ⟨el, eg⟩ := allT_get ea
    have hok := parts_ok ea hxs
    refine iteF ⟨_, rfl, t, _, _, _, rfl, rfl, s1.tup ht, at1, c0, _, rfl, .inr (s1.tup hc0), ?_⟩
    refine ⟨_, rfl, a, rfl, ⟨_, s1.seq hl⟩, fun D2 hD2 => ?_⟩
    have lpo : (partsOf told qq).length = qq.length := jQ ..
    let Pv2 : Nat → St → List V → Hp → Prop := fun i τ ys H2 => ∃ u v : Option V, τ = [u, v, some (.ref l)] ∧ PartsAre K H2 ys ((partsOf told qq).take i) ∧ H2 D2 = some (.lst ys) ∧ Same H1 H2
    refine lc_any (n := xs.length) Pv2 ?_ (fun i τ ys H2 hi h => ?_) (fun i τ ys H2 hi h => ?_) (fun τ ys H2 h => ?_) ?_ ?_
    ·exact ⟨none, none, rfl, parts_nil, upd_same, same_new' hD2 _⟩
    ·obtain ⟨u, v, rfl, hp, hE2, s2⟩ := h
     have := hp.1
     rw [yX] at this
     exact ⟨hE2, by lia⟩
    ·obtain ⟨u, v, rfl, hp, hE2, s2⟩ := h
     exact ⟨us, us[i]'(by lia), (s1.trans s2).seq hl, gE (by lia)⟩
    ·obtain ⟨u, v, rfl, hp, hE2, s2⟩ := h
     exact ⟨us, (s1.trans s2).seq hl, by lia⟩
    ·rintro i τ ys H2 x H3 hi ⟨u, v, rfl, hp, hE2, s2⟩ ⟨rfl, e1⟩
     have s12 := s1.trans s2
     obtain ⟨T, p, rfl, ep, hT, hp1, hp2, hp3⟩ := part_vals hlen hgl hxs ea (e1 _ (s12.seq hl))
     obtain ⟨ar, ear, hra, hla⟩ := J.row hp1
     refine ⟨T, _, rfl, s12.tup hT, rfl, _, _, rfl, _, _, rfl, rfl, ?_⟩
     refine ⟨_, rfl, _, rfl, l, _, _, _, rfl, rfl, s12.seq J.lst, atNat ear, _, rfl, by show 2 ≤ sizeLine; decide, fun T2 hT2 => ?_⟩
     have s3 := same_new' hT2 (.tup [.ref ar, .int p.2])
     have hE3 := s3 _ _ hE2
     refine ⟨hE3, _, _, rfl, ?_, upd_same, fun b o e => ?_⟩
     ·rw [takeS (show (partsOf told qq)[i]? = some (rowK told p.1, p.2) by unfold partsOf; rw [jK, ep]; rfl)]
      refine parts_imp (fun a xs z => SqT_upd hE3 z) (parts_snoc (parts_imp (fun a xs z => s3.tup z) hp) (sqT_new upd_same) (hra.same (s12.trans s3)))
     ·rw [upd_ne (ne_of_none e hD2)]; exact s3 _ _ (s2 _ _ e)
    ·rintro τ ys H2 ⟨u, v, rfl, hp, hE2, s2⟩
     rw [xQ (by lia)] at hp
     refine ⟨D2, ys, partsOf told qq, (cs.map V.int).length, rfl, sqL_new hE2, hp, by rw [lc]; lia, fun p hp' => ?_, fun t' H' s' hr' => ?_⟩
     ·unfold partsOf at hp'
      obtain ⟨pq, hpq, rfl⟩ := wK.mp hp'
      obtain ⟨k1, k2, k3⟩ := hok pq hpq
      rw [lc]
      obtain ⟨_, _, _, hla⟩ := J.row k1
      exact ⟨hla, by show -(2 ^ 64) < pq.2; lia, by show pq.2 < 2 ^ 64; lia⟩
     ·rw [lc] at hr'
      exact qs _ rfl t' H' ((s1.trans s2).trans s') hr'
 | int i => exact ⟨_, rfl, _, "list", _, rfl, .list, h1.isi _, _, rfl, iteT (iteT (qn rfl H (Same.refl H)))⟩
 | non => exact ⟨_, rfl, _, "list", _, rfl, .list, h1.isi _, _, rfl, iteT (iteT (qn rfl H (Same.refl H)))⟩
 | bl b => exact ⟨_, rfl, _, "list", _, rfl, .list, h1.isi _, _, rfl, iteT (iteT (qn rfl H (Same.refl H)))⟩
 | str s => exact ⟨_, rfl, _, "list", _, rfl, .list, h1.isi _, _, rfl, iteT (iteT (qn rfl H (Same.refl H)))⟩
 | tup xs => exact ⟨_, rfl, _, "list", _, rfl, .list, h1.isi _, _, rfl, iteT (iteT (qn rfl H (Same.refl H)))⟩
end
theorem findBy_cons (e : DictEntry) (l : List DictEntry) (x : Str) (t : Tok) (h : e.key = .str x t) (s : Str) : PySem.findBy PySem.Value.isStrOf ⟨e :: l⟩ s = if s = x then some e.val else PySem.findBy PySem.Value.isStrOf ⟨l⟩ s := by
 unfold PySem.findBy
 rw [List.find?_toArray, List.find?_toArray, jJf]
 by_cases hs : s = x
 ·subst hs
  rw [if_pos rfl, h]
  have : PySem.Value.isStrOf s (.str s t) = true := by simp [PySem.Value.isStrOf]
  rw [this]
  rfl
 ·rw [if_neg hs, h]
  have : PySem.Value.isStrOf s (.str x t) = false := by simp [PySem.Value.isStrOf]; exact fun z => hs z.symm
  rw [this]
structure JTab0 (w : World) (K : Fg) (mg : Str → Option Value) (aT aL : Addr) (fT fL : Str → Option Value) : Prop where
 tt : Tab w K mg "TELLERS" aT fT
 lt : Tab w K mg "LENGTHS" aL fL
 nt : ∃ v1 v2 v3 v4 v5 v6 v7 v8 v9 : Value, mg "told_given" = some v1 ∧ mg "told_low" = some v2 ∧ mg "told_high" = some v3 ∧ mg "told_better" = some v4 ∧ mg "told_sum" = some v5 ∧ mg "told_share" = some v6 ∧ mg "told_shut" = some v7 ∧ mg "told_either" = some v8 ∧ mg "told_like" = some v9 ∧ ∀ s, fT s = if s = "given" then some v1 else if s = "low" then some v2 else if s = "high" then some v3 else if s = "better" then some v4 else if s = "sum" then some v5 else if s = "share" then some v6 else if s = "shut" then some v7 else if s = "either" then some v8 else if s = "like" then some v9 else none
 nl : ∃ t1 t2 t3 t4 t5 t6 t7 t8 t9 : Tok, ∀ s, fL s = if s = "given" then some (.int 2 t1) else if s = "low" then some (.int 2 t2) else if s = "high" then some (.int 2 t3) else if s = "better" then some (.int 1 t4) else if s = "sum" then some (.int 2 t5) else if s = "share" then some (.int 3 t6) else if s = "shut" then some (.int 3 t7) else if s = "either" then some (.int 4 t8) else if s = "like" then some (.int 2 t9) else none
theorem jtab0 {w : World} {K : Fg} {mg : Str → Option Value} {aT aL : Addr} {es fs : Array DictEntry} {m n : Nat} {v1 v2 v3 v4 v5 v6 v7 v8 v9 : Value} {h1 g1 h2 g2 h3 g3 h4 g4 h5 g5 h6 g6 h7 g7 h8 g8 h9 g9 : Int} {t1 q1 j1 t2 q2 j2 t3 q3 j3 t4 q4 j4 t5 q5 j5 t6 q6 j6 t7 q7 j7 t8 q8 j8 t9 q9 j9 : Tok}
  (b1 : mg "TELLERS" = some (.ref aT)) (l1 : K.lookup aT = some ⟨.type "dict", none, .dict es m, #[]⟩) (k1 : PySem.W.KeysLit w.params es.toList) (o1 : (aT == sysModules) = false) (e1 : es = ⟨[⟨h1, .str "given" t1, v1⟩, ⟨h2, .str "low" t2, v2⟩, ⟨h3, .str "high" t3, v3⟩, ⟨h4, .str "better" t4, v4⟩, ⟨h5, .str "sum" t5, v5⟩, ⟨h6, .str "share" t6, v6⟩, ⟨h7, .str "shut" t7, v7⟩, ⟨h8, .str "either" t8, v8⟩, ⟨h9, .str "like" t9, v9⟩]⟩)
  (b2 : mg "LENGTHS" = some (.ref aL)) (l2 : K.lookup aL = some ⟨.type "dict", none, .dict fs n, #[]⟩) (k2 : PySem.W.KeysLit w.params fs.toList) (o2 : (aL == sysModules) = false) (e2 : fs = ⟨[⟨g1, .str "given" q1, .int 2 j1⟩, ⟨g2, .str "low" q2, .int 2 j2⟩, ⟨g3, .str "high" q3, .int 2 j3⟩, ⟨g4, .str "better" q4, .int 1 j4⟩, ⟨g5, .str "sum" q5, .int 2 j5⟩, ⟨g6, .str "share" q6, .int 3 j6⟩, ⟨g7, .str "shut" q7, .int 3 j7⟩, ⟨g8, .str "either" q8, .int 4 j8⟩, ⟨g9, .str "like" q9, .int 2 j9⟩]⟩)
  (n1 : mg "told_given" = some v1) (n2 : mg "told_low" = some v2) (n3 : mg "told_high" = some v3) (n4 : mg "told_better" = some v4) (n5 : mg "told_sum" = some v5) (n6 : mg "told_share" = some v6) (n7 : mg "told_shut" = some v7) (n8 : mg "told_either" = some v8) (n9 : mg "told_like" = some v9) : JTab0 w K mg aT aL (fun k => PySem.findBy PySem.Value.isStrOf es k) (fun k => PySem.findBy PySem.Value.isStrOf fs k) := by
 refine ⟨tab_mk b1 l1 k1 o1, tab_mk b2 l2 k2 o2, ⟨v1, v2, v3, v4, v5, v6, v7, v8, v9, n1, n2, n3, n4, n5, n6, n7, n8, n9, fun s => ?_⟩, ⟨j1, j2, j3, j4, j5, j6, j7, j8, j9, fun s => ?_⟩⟩
 ·subst e1
  show PySem.findBy _ _ s = _
  rw [findBy_cons _ _ "given" t1 rfl, findBy_cons _ _ "low" t2 rfl, findBy_cons _ _ "high" t3 rfl, findBy_cons _ _ "better" t4 rfl, findBy_cons _ _ "sum" t5 rfl, findBy_cons _ _ "share" t6 rfl, findBy_cons _ _ "shut" t7 rfl, findBy_cons _ _ "either" t8 rfl, findBy_cons _ _ "like" t9 rfl]
  rfl
 ·subst e2
  show PySem.findBy _ _ s = _
  rw [findBy_cons _ _ "given" q1 rfl, findBy_cons _ _ "low" q2 rfl, findBy_cons _ _ "high" q3 rfl, findBy_cons _ _ "better" q4 rfl, findBy_cons _ _ "sum" q5 rfl, findBy_cons _ _ "share" q6 rfl, findBy_cons _ _ "shut" q7 rfl, findBy_cons _ _ "either" q8 rfl, findBy_cons _ _ "like" q9 rfl]
  rfl
theorem jtabs_of {P : Program} {w : World} {K : Fg} {mg : Str → Option Value} {base : Heap} {aT aL : Addr} {fT fL : Str → Option Value} (J : JTab0 w K mg aT aL fT fL)
  (c1 : Cal P w K mg base 4 "told_given" ["problem", "best", "told", "line"] (spTell K "given")) (c2 : Cal P w K mg base 4 "told_low" ["problem", "best", "told", "line"] (spTell K "low")) (c3 : Cal P w K mg base 4 "told_high" ["problem", "best", "told", "line"] (spTell K "high")) (c4 : Cal P w K mg base 2 "told_better" ["problem", "best", "told", "line"] (spTell K "better")) (c5 : Cal P w K mg base 5 "told_sum" ["problem", "best", "told", "line"] (spTell K "sum")) (c6 : Cal P w K mg base 4 "told_share" ["problem", "best", "told", "line"] (spTell K "share")) (c7 : Cal P w K mg base 5 "told_shut" ["problem", "best", "told", "line"] (spTell K "shut")) (c8 : Cal P w K mg base 4 "told_either" ["problem", "best", "told", "line"] (spTell K "either")) (c9 : Cal P w K mg base 4 "told_like" ["problem", "best", "told", "line"] (spTell K "like")) : JTabs P w K mg base aT aL fT fL := by
 obtain ⟨v1, v2, v3, v4, v5, v6, v7, v8, v9, m1, m2, m3, m4, m5, m6, m7, m8, m9, ef⟩ := J.nt
 obtain ⟨k1, k2, k3, k4, k5, k6, k7, k8, k9, el⟩ := J.nl
 have cal : ∀ {x : Str} {sp : Sp} {v : Value} {k : Nat}, k ≤ 5 → Cal P w K mg base k x ["problem", "best", "told", "line"] sp → mg x = some v → ∃ fa fd, v = .ref fa ∧ FnOk P w K mg base CX0 5 fa fd ["problem", "best", "told", "line"] sp ∧ PySem.W.keepIn K (.ref fa) = true ∧ Binds K fd ["problem", "best", "told", "line"] [] := by
  intro x sp v k hk c hm
  obtain ⟨f, fd, F, m, kp, b⟩ := (c.mono hk).ex
  rw [hm] at m
  exact ⟨f, fd, Option.some.inj m, F, kp, b⟩
 refine ⟨J.tt, J.lt, fun s => ?_, fun s n h => ?_, fun s v h => ?_⟩
 ·rw [ef s]
  unfold lenW
  repeat' split
  all_goals rfl
 ·rw [el s]
  unfold lenW at h
  by_cases w1 : s = "given"
  ·rw [if_pos w1] at h ⊢; cases h; exact ⟨_, rfl⟩
  rw [if_neg w1] at h ⊢
  by_cases w2 : s = "low"
  ·rw [if_pos w2] at h ⊢; cases h; exact ⟨_, rfl⟩
  rw [if_neg w2] at h ⊢
  by_cases w3 : s = "high"
  ·rw [if_pos w3] at h ⊢; cases h; exact ⟨_, rfl⟩
  rw [if_neg w3] at h ⊢
  by_cases w4 : s = "better"
  ·rw [if_pos w4] at h ⊢; cases h; exact ⟨_, rfl⟩
  rw [if_neg w4] at h ⊢
  by_cases w5 : s = "sum"
  ·rw [if_pos w5] at h ⊢; cases h; exact ⟨_, rfl⟩
  rw [if_neg w5] at h ⊢
  by_cases w6 : s = "share"
  ·rw [if_pos w6] at h ⊢; cases h; exact ⟨_, rfl⟩
  rw [if_neg w6] at h ⊢
  by_cases w7 : s = "shut"
  ·rw [if_pos w7] at h ⊢; cases h; exact ⟨_, rfl⟩
  rw [if_neg w7] at h ⊢
  by_cases w8 : s = "either"
  ·rw [if_pos w8] at h ⊢; cases h; exact ⟨_, rfl⟩
  rw [if_neg w8] at h ⊢
  by_cases w9 : s = "like"
  ·rw [if_pos w9] at h ⊢; cases h; exact ⟨_, rfl⟩
  rw [if_neg w9] at h ⊢
  cases h
 ·rw [ef s] at h
  by_cases w1 : s = "given"
  ·rw [if_pos w1] at h; cases h; subst w1; exact cal (by decide) c1 m1
  rw [if_neg w1] at h
  by_cases w2 : s = "low"
  ·rw [if_pos w2] at h; cases h; subst w2; exact cal (by decide) c2 m2
  rw [if_neg w2] at h
  by_cases w3 : s = "high"
  ·rw [if_pos w3] at h; cases h; subst w3; exact cal (by decide) c3 m3
  rw [if_neg w3] at h
  by_cases w4 : s = "better"
  ·rw [if_pos w4] at h; cases h; subst w4; exact cal (by decide) c4 m4
  rw [if_neg w4] at h
  by_cases w5 : s = "sum"
  ·rw [if_pos w5] at h; cases h; subst w5; exact cal (by decide) c5 m5
  rw [if_neg w5] at h
  by_cases w6 : s = "share"
  ·rw [if_pos w6] at h; cases h; subst w6; exact cal (by decide) c6 m6
  rw [if_neg w6] at h
  by_cases w7 : s = "shut"
  ·rw [if_pos w7] at h; cases h; subst w7; exact cal (by decide) c7 m7
  rw [if_neg w7] at h
  by_cases w8 : s = "either"
  ·rw [if_pos w8] at h; cases h; subst w8; exact cal (by decide) c8 m8
  rw [if_neg w8] at h
  by_cases w9 : s = "like"
  ·rw [if_pos w9] at h; cases h; subst w9; exact cal (by decide) c9 m9
  rw [if_neg w9] at h
  cases h
def htop (i : Nat) : Stmt := PySem.Challenge.pw_nonebetter_k12_whole_what_is_let_by_is_s.main.body.getD i (.Pass ⟨0, 0, 0, 0⟩)
def hob0 (i : Nat) (P : Params) : Obj :=
 bif Nat.beq i 2 then .mk .none none (.dict #[]) #[] else
 bif Nat.beq i 3 then .mk (.type "dict") none (.dict #[.mk (PyData.keyHash P "__name__") (.str "__name__" 165) (.str "law_nonebetter_k12_whole_what_is_let_by_is_s" 528), .mk (PyData.keyHash P "__doc__") (.str "__doc__" 166) .none, .mk (PyData.keyHash P "__package__") (.str "__package__" 167) .none, .mk (PyData.keyHash P "__loader__") (.str "__loader__" 168) (.builtin "__main__.__loader__#opaque"), .mk (PyData.keyHash P "__spec__") (.str "__spec__" 169) .none, .mk (PyData.keyHash P "__annotations__") (.str "__annotations__" 170) (.ref 6), .mk (PyData.keyHash P "__builtins__") (.str "__builtins__" 171) (.ref 4), .mk (PyData.keyHash P "__file__") (.str "__file__" 173) (.str "/claim/cut.py" 172), .mk (PyData.keyHash P "__cached__") (.str "__cached__" 174) .none, .mk (PyData.keyHash P "is_whole") (.str "is_whole" 195) (.ref 21), .mk (PyData.keyHash P "is_number_of") (.str "is_number_of" 203) (.ref 28), .mk (PyData.keyHash P "is_pair") (.str "is_pair" 210) (.ref 35), .mk (PyData.keyHash P "single_row") (.str "single_row" 223) (.ref 42), .mk (PyData.keyHash P "better_row") (.str "better_row" 229) (.ref 47), .mk (PyData.keyHash P "sum_row") (.str "sum_row" 235) (.ref 52), .mk (PyData.keyHash P "share_row") (.str "share_row" 241) (.ref 57), .mk (PyData.keyHash P "shut_row") (.str "shut_row" 253) (.ref 64), .mk (PyData.keyHash P "without") (.str "without" 261) (.ref 71), .mk (PyData.keyHash P "either_row") (.str "either_row" 270) (.ref 78), .mk (PyData.keyHash P "like_row") (.str "like_row" 280) (.ref 85), .mk (PyData.keyHash P "most_of") (.str "most_of" 295) (.ref 92), .mk (PyData.keyHash P "turned") (.str "turned" 306) (.ref 99), .mk (PyData.keyHash P "turn_keeps") (.str "turn_keeps" 312) (.ref 104), .mk (PyData.keyHash P "is_ahead") (.str "is_ahead" 322) (.ref 111), .mk (PyData.keyHash P "is_part") (.str "is_part" 330) (.ref 118), .mk (PyData.keyHash P "is_hold") (.str "is_hold" 338) (.ref 125), .mk (PyData.keyHash P "are_holds") (.str "are_holds" 344) (.ref 130), .mk (PyData.keyHash P "is_turn") (.str "is_turn" 350) (.ref 135), .mk (PyData.keyHash P "told_given") (.str "told_given" 360) (.ref 142), .mk (PyData.keyHash P "told_low") (.str "told_low" 371) (.ref 149), .mk (PyData.keyHash P "told_high") (.str "told_high" 382) (.ref 156), .mk (PyData.keyHash P "told_better") (.str "told_better" 392) (.ref 163), .mk (PyData.keyHash P "told_sum") (.str "told_sum" 398) (.ref 168), .mk (PyData.keyHash P "told_share") (.str "told_share" 404) (.ref 173), .mk (PyData.keyHash P "told_shut") (.str "told_shut" 417) (.ref 180), .mk (PyData.keyHash P "told_either") (.str "told_either" 430) (.ref 187), .mk (PyData.keyHash P "told_like") (.str "told_like" 441) (.ref 194), .mk (PyData.keyHash P "LENGTHS") (.str "LENGTHS" 469) (.ref 195), .mk (PyData.keyHash P "TELLERS") (.str "TELLERS" 488) (.ref 196), .mk (PyData.keyHash P "row_told") (.str "row_told" 499) (.ref 203), .mk (PyData.keyHash P "rows_told") (.str "rows_told" 511) (.ref 210), .mk (PyData.keyHash P "is_broken") (.str "is_broken" 517) (.ref 215), .mk (PyData.keyHash P "judged") (.str "judged" 527) (.ref 222), .mk (PyData.keyHash P "_law_mix") (.str "_law_mix" 539) (.ref 229), .mk (PyData.keyHash P "_law_draws") (.str "_law_draws" 550) (.ref 236), .mk (PyData.keyHash P "_law_row") (.str "_law_row" 556) (.ref 241), .mk (PyData.keyHash P "_law_problem") (.str "_law_problem" 562) (.ref 246), .mk (PyData.keyHash P "_law_alike") (.str "_law_alike" 579) (.ref 253), .mk (PyData.keyHash P "_law_turned") (.str "_law_turned" 589) (.ref 260), .mk (PyData.keyHash P "_law_points") (.str "_law_points" 595) (.ref 265), .mk (PyData.keyHash P "_law_sum") (.str "_law_sum" 601) (.ref 270), .mk (PyData.keyHash P "_law_kept") (.str "_law_kept" 612) (.ref 277), .mk (PyData.keyHash P "_law_even") (.str "_law_even" 618) (.ref 282), .mk (PyData.keyHash P "_law_given") (.str "_law_given" 628) (.ref 289), .mk (PyData.keyHash P "_law_holds") (.str "_law_holds" 638) (.ref 296), .mk (PyData.keyHash P "_law_turn") (.str "_law_turn" 648) (.ref 303), .mk (PyData.keyHash P "_law_line") (.str "_law_line" 664) (.ref 310), .mk (PyData.keyHash P "_law_paper") (.str "_law_paper" 677) (.ref 317), .mk (PyData.keyHash P "_law_greatest") (.str "_law_greatest" 683) (.ref 322), .mk (PyData.keyHash P "law") (.str "law" 689) (.ref 327)] 60) #[] else
 bif Nat.beq i 15 then .mk (.type "tuple") none (.seq #[]) #[] else
 bif Nat.beq i 17 then .mk (.type "tuple") none (.seq #[.str "thing" 192]) #[] else
 .mk (.type "tuple") none (.seq #[]) #[]
def hob1 (i : Nat) (P : Params) : Obj :=
 bif Nat.beq i 20 then .mk (.type "code") none (.fields #[.str "is_whole" 189, .str "is_whole" 190, .str "/claim/cut.py" 191, .int 2 0, .int 1 0, .int 0 0, .int 0 0, .int 3 0, .ref 15, .bool Bool.true, .int 181 0, .ref 16, .none, .ref 17, .ref 18, .ref 19, .int 193 0, .int 2 0, .str "/claim/cut.py" 194]) #[] else
 bif Nat.beq i 21 then .mk (.type "function") (none) (.func (.mk "is_whole" "is_whole" (L2.defArgs (htop 1)) (.stmts (L2.defBody (htop 1))) (L2.defScope (htop 1)) (3) ([]) (.none) (.none) (.none) (.str "nonebetter.kinds" 187) (none) (.ref 20) (.none) (0))) (#[]) else
 bif Nat.beq i 22 then .mk (.type "tuple") none (.seq #[]) #[] else
 bif Nat.beq i 24 then .mk (.type "tuple") none (.seq #[.str "thing" 199, .str "count" 200]) #[] else
 .mk (.type "tuple") none (.seq #[]) #[]
def hob2 (i : Nat) (P : Params) : Obj :=
 bif Nat.beq i 27 then .mk (.type "code") none (.fields #[.str "is_number_of" 196, .str "is_number_of" 197, .str "/claim/cut.py" 198, .int 4 0, .int 2 0, .int 0 0, .int 0 0, .int 3 0, .ref 22, .bool Bool.true, .int 181 0, .ref 23, .none, .ref 24, .ref 25, .ref 26, .int 201 0, .int 4 0, .str "/claim/cut.py" 202]) #[] else
 bif Nat.beq i 28 then .mk (.type "function") (none) (.func (.mk "is_number_of" "is_number_of" (L2.defArgs (htop 2)) (.stmts (L2.defBody (htop 2))) (L2.defScope (htop 2)) (3) ([]) (.none) (.none) (.none) (.str "nonebetter.kinds" 187) (none) (.ref 27) (.none) (0))) (#[]) else
 bif Nat.beq i 29 then .mk (.type "tuple") none (.seq #[]) #[] else
 bif Nat.beq i 31 then .mk (.type "tuple") none (.seq #[.str "thing" 207]) #[] else
 .mk (.type "tuple") none (.seq #[]) #[]
def hob3 (i : Nat) (P : Params) : Obj :=
 bif Nat.beq i 34 then .mk (.type "code") none (.fields #[.str "is_pair" 204, .str "is_pair" 205, .str "/claim/cut.py" 206, .int 6 0, .int 1 0, .int 0 0, .int 0 0, .int 3 0, .ref 29, .bool Bool.true, .int 181 0, .ref 30, .none, .ref 31, .ref 32, .ref 33, .int 208 0, .int 6 0, .str "/claim/cut.py" 209]) #[] else
 bif Nat.beq i 35 then .mk (.type "function") (none) (.func (.mk "is_pair" "is_pair" (L2.defArgs (htop 3)) (.stmts (L2.defBody (htop 3))) (L2.defScope (htop 3)) (3) ([]) (.none) (.none) (.none) (.str "nonebetter.kinds" 187) (none) (.ref 34) (.none) (0))) (#[]) else
 bif Nat.beq i 36 then .mk (.type "tuple") none (.seq #[]) #[] else
 bif Nat.beq i 38 then .mk (.type "tuple") none (.seq #[.str "count" 216, .str "choice" 217, .str "number" 218, .str "least" 219, .str "numbers" 220]) #[] else
 .mk (.type "tuple") none (.seq #[]) #[]
def hob4 (i : Nat) (P : Params) : Obj :=
 bif Nat.beq i 41 then .mk (.type "code") none (.fields #[.str "single_row" 213, .str "single_row" 214, .str "/claim/cut.py" 215, .int 9 0, .int 4 0, .int 0 0, .int 0 0, .int 3 0, .ref 36, .bool Bool.true, .int 181 0, .ref 37, .none, .ref 38, .ref 39, .ref 40, .int 221 0, .int 9 0, .str "/claim/cut.py" 222]) #[] else
 bif Nat.beq i 42 then .mk (.type "function") (none) (.func (.mk "single_row" "single_row" (L2.defArgs (htop 5)) (.stmts (L2.defBody (htop 5))) (L2.defScope (htop 5)) (3) ([]) (.none) (.none) (.none) (.str "nonebetter.lines" 211) (none) (.ref 41) (.none) (0))) (#[]) else
 bif Nat.beq i 43 then .mk (.type "tuple") none (.seq #[]) #[] else
 bif Nat.beq i 46 then .mk (.type "code") none (.fields #[.str "better_row" 224, .str "better_row" 225, .str "/claim/cut.py" 226, .int 13 0, .int 2 0, .int 0 0, .int 0 0, .int 3 0, .ref 43, .bool Bool.true, .int 181 0, .ref 44, .none, .none, .none, .ref 45, .int 227 0, .int 13 0, .str "/claim/cut.py" 228]) #[] else
 .mk (.type "function") (none) (.func (.mk "better_row" "better_row" (L2.defArgs (htop 6)) (.stmts (L2.defBody (htop 6))) (L2.defScope (htop 6)) (3) ([]) (.none) (.none) (.none) (.str "nonebetter.lines" 211) (none) (.ref 46) (.none) (0))) (#[])
def hob5 (i : Nat) (P : Params) : Obj :=
 bif Nat.beq i 48 then .mk (.type "tuple") none (.seq #[]) #[] else
 bif Nat.beq i 51 then .mk (.type "code") none (.fields #[.str "sum_row" 230, .str "sum_row" 231, .str "/claim/cut.py" 232, .int 15 0, .int 2 0, .int 0 0, .int 0 0, .int 3 0, .ref 48, .bool Bool.true, .int 181 0, .ref 49, .none, .none, .none, .ref 50, .int 233 0, .int 15 0, .str "/claim/cut.py" 234]) #[] else
 bif Nat.beq i 52 then .mk (.type "function") (none) (.func (.mk "sum_row" "sum_row" (L2.defArgs (htop 7)) (.stmts (L2.defBody (htop 7))) (L2.defScope (htop 7)) (3) ([]) (.none) (.none) (.none) (.str "nonebetter.lines" 211) (none) (.ref 51) (.none) (0))) (#[]) else
 bif Nat.beq i 53 then .mk (.type "tuple") none (.seq #[]) #[] else
 .mk (.type "code") none (.fields #[.str "share_row" 236, .str "share_row" 237, .str "/claim/cut.py" 238, .int 22 0, .int 2 0, .int 0 0, .int 0 0, .int 3 0, .ref 53, .bool Bool.true, .int 181 0, .ref 54, .none, .none, .none, .ref 55, .int 239 0, .int 22 0, .str "/claim/cut.py" 240]) #[]
def hob6 (i : Nat) (P : Params) : Obj :=
 bif Nat.beq i 57 then .mk (.type "function") (none) (.func (.mk "share_row" "share_row" (L2.defArgs (htop 8)) (.stmts (L2.defBody (htop 8))) (L2.defScope (htop 8)) (3) ([]) (.none) (.none) (.none) (.str "nonebetter.lines" 211) (none) (.ref 56) (.none) (0))) (#[]) else
 bif Nat.beq i 58 then .mk (.type "tuple") none (.seq #[]) #[] else
 bif Nat.beq i 60 then .mk (.type "tuple") none (.seq #[.str "count" 245, .str "holds" 246, .str "numbers" 247, .str "least" 248, .str "choice" 249, .str "worth" 250]) #[] else
 bif Nat.beq i 61 then .mk (.type "tuple") none (.seq #[]) #[] else
 .mk (.type "code") none (.fields #[.str "shut_row" 242, .str "shut_row" 243, .str "/claim/cut.py" 244, .int 24 0, .int 2 0, .int 0 0, .int 0 0, .int 3 0, .ref 58, .bool Bool.true, .int 181 0, .ref 59, .none, .ref 60, .ref 61, .ref 62, .int 251 0, .int 24 0, .str "/claim/cut.py" 252]) #[]
def hob7 (i : Nat) (P : Params) : Obj :=
 bif Nat.beq i 64 then .mk (.type "function") (none) (.func (.mk "shut_row" "shut_row" (L2.defArgs (htop 9)) (.stmts (L2.defBody (htop 9))) (L2.defScope (htop 9)) (3) ([]) (.none) (.none) (.none) (.str "nonebetter.lines" 211) (none) (.ref 63) (.none) (0))) (#[]) else
 bif Nat.beq i 65 then .mk (.type "tuple") none (.seq #[]) #[] else
 bif Nat.beq i 67 then .mk (.type "tuple") none (.seq #[.str "row" 257, .str "choice" 258]) #[] else
 bif Nat.beq i 68 then .mk (.type "tuple") none (.seq #[]) #[] else
 .mk (.type "code") none (.fields #[.str "without" 254, .str "without" 255, .str "/claim/cut.py" 256, .int 31 0, .int 2 0, .int 0 0, .int 0 0, .int 3 0, .ref 65, .bool Bool.true, .int 181 0, .ref 66, .none, .ref 67, .ref 68, .ref 69, .int 259 0, .int 31 0, .str "/claim/cut.py" 260]) #[]
def hob8 (i : Nat) (P : Params) : Obj :=
 bif Nat.beq i 71 then .mk (.type "function") (none) (.func (.mk "without" "without" (L2.defArgs (htop 10)) (.stmts (L2.defBody (htop 10))) (L2.defScope (htop 10)) (3) ([]) (.none) (.none) (.none) (.str "nonebetter.lines" 211) (none) (.ref 70) (.none) (0))) (#[]) else
 bif Nat.beq i 72 then .mk (.type "tuple") none (.seq #[]) #[] else
 bif Nat.beq i 74 then .mk (.type "tuple") none (.seq #[.str "one" 265, .str "other" 266, .str "choice" 267]) #[] else
 bif Nat.beq i 75 then .mk (.type "tuple") none (.seq #[]) #[] else
 .mk (.type "code") none (.fields #[.str "either_row" 262, .str "either_row" 263, .str "/claim/cut.py" 264, .int 33 0, .int 3 0, .int 0 0, .int 0 0, .int 3 0, .ref 72, .bool Bool.true, .int 181 0, .ref 73, .none, .ref 74, .ref 75, .ref 76, .int 268 0, .int 33 0, .str "/claim/cut.py" 269]) #[]
def hob9 (i : Nat) (P : Params) : Obj :=
 bif Nat.beq i 78 then .mk (.type "function") (none) (.func (.mk "either_row" "either_row" (L2.defArgs (htop 11)) (.stmts (L2.defBody (htop 11))) (L2.defScope (htop 11)) (3) ([]) (.none) (.none) (.none) (.str "nonebetter.lines" 211) (none) (.ref 77) (.none) (0))) (#[]) else
 bif Nat.beq i 79 then .mk (.type "tuple") none (.seq #[]) #[] else
 bif Nat.beq i 81 then .mk (.type "tuple") none (.seq #[.str "turn" 274, .str "numbers" 275, .str "weight" 276, .str "choice" 277]) #[] else
 bif Nat.beq i 82 then .mk (.type "tuple") none (.seq #[]) #[] else
 .mk (.type "code") none (.fields #[.str "like_row" 271, .str "like_row" 272, .str "/claim/cut.py" 273, .int 35 0, .int 1 0, .int 0 0, .int 0 0, .int 3 0, .ref 79, .bool Bool.true, .int 181 0, .ref 80, .none, .ref 81, .ref 82, .ref 83, .int 278 0, .int 35 0, .str "/claim/cut.py" 279]) #[]
def hob10 (i : Nat) (P : Params) : Obj :=
 bif Nat.beq i 85 then .mk (.type "function") (none) (.func (.mk "like_row" "like_row" (L2.defArgs (htop 12)) (.stmts (L2.defBody (htop 12))) (L2.defScope (htop 12)) (3) ([]) (.none) (.none) (.none) (.str "nonebetter.lines" 211) (none) (.ref 84) (.none) (0))) (#[]) else
 bif Nat.beq i 86 then .mk (.type "tuple") none (.seq #[]) #[] else
 bif Nat.beq i 88 then .mk (.type "tuple") none (.seq #[.str "row" 286, .str "holds" 287, .str "held" 288, .str "most" 289, .str "choice" 290, .str "number" 291, .str "worth" 292]) #[] else
 bif Nat.beq i 89 then .mk (.type "tuple") none (.seq #[]) #[] else
 .mk (.type "code") none (.fields #[.str "most_of" 283, .str "most_of" 284, .str "/claim/cut.py" 285, .int 44 0, .int 2 0, .int 0 0, .int 0 0, .int 3 0, .ref 86, .bool Bool.true, .int 181 0, .ref 87, .none, .ref 88, .ref 89, .ref 90, .int 293 0, .int 44 0, .str "/claim/cut.py" 294]) #[]
def hob11 (i : Nat) (P : Params) : Obj :=
 bif Nat.beq i 92 then .mk (.type "function") (none) (.func (.mk "most_of" "most_of" (L2.defArgs (htop 14)) (.stmts (L2.defBody (htop 14))) (L2.defScope (htop 14)) (3) ([]) (.none) (.none) (.none) (.str "nonebetter.rows" 281) (none) (.ref 91) (.none) (0))) (#[]) else
 bif Nat.beq i 93 then .mk (.type "tuple") none (.seq #[]) #[] else
 bif Nat.beq i 95 then .mk (.type "tuple") none (.seq #[.str "row" 299, .str "turn" 300, .str "numbers" 301, .str "number" 302, .str "place" 303]) #[] else
 bif Nat.beq i 96 then .mk (.type "tuple") none (.seq #[]) #[] else
 .mk (.type "code") none (.fields #[.str "turned" 296, .str "turned" 297, .str "/claim/cut.py" 298, .int 52 0, .int 2 0, .int 0 0, .int 0 0, .int 3 0, .ref 93, .bool Bool.true, .int 181 0, .ref 94, .none, .ref 95, .ref 96, .ref 97, .int 304 0, .int 52 0, .str "/claim/cut.py" 305]) #[]
def hob12 (i : Nat) (P : Params) : Obj :=
 bif Nat.beq i 99 then .mk (.type "function") (none) (.func (.mk "turned" "turned" (L2.defArgs (htop 15)) (.stmts (L2.defBody (htop 15))) (L2.defScope (htop 15)) (3) ([]) (.none) (.none) (.none) (.str "nonebetter.rows" 281) (none) (.ref 98) (.none) (0))) (#[]) else
 bif Nat.beq i 100 then .mk (.type "tuple") none (.seq #[]) #[] else
 bif Nat.beq i 103 then .mk (.type "code") none (.fields #[.str "turn_keeps" 307, .str "turn_keeps" 308, .str "/claim/cut.py" 309, .int 57 0, .int 2 0, .int 0 0, .int 0 0, .int 3 0, .ref 100, .bool Bool.true, .int 181 0, .ref 101, .none, .none, .none, .ref 102, .int 310 0, .int 57 0, .str "/claim/cut.py" 311]) #[] else
 bif Nat.beq i 104 then .mk (.type "function") (none) (.func (.mk "turn_keeps" "turn_keeps" (L2.defArgs (htop 16)) (.stmts (L2.defBody (htop 16))) (L2.defScope (htop 16)) (3) ([]) (.none) (.none) (.none) (.str "nonebetter.rows" 281) (none) (.ref 103) (.none) (0))) (#[]) else
 .mk (.type "tuple") none (.seq #[]) #[]
def hob13 (i : Nat) (P : Params) : Obj :=
 bif Nat.beq i 107 then .mk (.type "tuple") none (.seq #[.str "thing" 318, .str "told" 319]) #[] else
 bif Nat.beq i 108 then .mk (.type "tuple") none (.seq #[]) #[] else
 bif Nat.beq i 110 then .mk (.type "code") none (.fields #[.str "is_ahead" 315, .str "is_ahead" 316, .str "/claim/cut.py" 317, .int 64 0, .int 2 0, .int 0 0, .int 0 0, .int 3 0, .ref 105, .bool Bool.true, .int 181 0, .ref 106, .none, .ref 107, .ref 108, .ref 109, .int 320 0, .int 64 0, .str "/claim/cut.py" 321]) #[] else
 bif Nat.beq i 111 then .mk (.type "function") (none) (.func (.mk "is_ahead" "is_ahead" (L2.defArgs (htop 18)) (.stmts (L2.defBody (htop 18))) (L2.defScope (htop 18)) (3) ([]) (.none) (.none) (.none) (.str "nonebetter.judge" 313) (none) (.ref 110) (.none) (0))) (#[]) else
 .mk (.type "tuple") none (.seq #[]) #[]
def hob14 (i : Nat) (P : Params) : Obj :=
 bif Nat.beq i 114 then .mk (.type "tuple") none (.seq #[.str "thing" 326, .str "told" 327]) #[] else
 bif Nat.beq i 115 then .mk (.type "tuple") none (.seq #[]) #[] else
 bif Nat.beq i 117 then .mk (.type "code") none (.fields #[.str "is_part" 323, .str "is_part" 324, .str "/claim/cut.py" 325, .int 66 0, .int 2 0, .int 0 0, .int 0 0, .int 3 0, .ref 112, .bool Bool.true, .int 181 0, .ref 113, .none, .ref 114, .ref 115, .ref 116, .int 328 0, .int 66 0, .str "/claim/cut.py" 329]) #[] else
 bif Nat.beq i 118 then .mk (.type "function") (none) (.func (.mk "is_part" "is_part" (L2.defArgs (htop 19)) (.stmts (L2.defBody (htop 19))) (L2.defScope (htop 19)) (3) ([]) (.none) (.none) (.none) (.str "nonebetter.judge" 313) (none) (.ref 117) (.none) (0))) (#[]) else
 .mk (.type "tuple") none (.seq #[]) #[]
def hob15 (i : Nat) (P : Params) : Obj :=
 bif Nat.beq i 121 then .mk (.type "tuple") none (.seq #[.str "thing" 334, .str "count" 335]) #[] else
 bif Nat.beq i 122 then .mk (.type "tuple") none (.seq #[]) #[] else
 bif Nat.beq i 124 then .mk (.type "code") none (.fields #[.str "is_hold" 331, .str "is_hold" 332, .str "/claim/cut.py" 333, .int 68 0, .int 2 0, .int 0 0, .int 0 0, .int 3 0, .ref 119, .bool Bool.true, .int 181 0, .ref 120, .none, .ref 121, .ref 122, .ref 123, .int 336 0, .int 68 0, .str "/claim/cut.py" 337]) #[] else
 bif Nat.beq i 125 then .mk (.type "function") (none) (.func (.mk "is_hold" "is_hold" (L2.defArgs (htop 20)) (.stmts (L2.defBody (htop 20))) (L2.defScope (htop 20)) (3) ([]) (.none) (.none) (.none) (.str "nonebetter.judge" 313) (none) (.ref 124) (.none) (0))) (#[]) else
 .mk (.type "tuple") none (.seq #[]) #[]
def hob16 (i : Nat) (P : Params) : Obj :=
 bif Nat.beq i 129 then .mk (.type "code") none (.fields #[.str "are_holds" 339, .str "are_holds" 340, .str "/claim/cut.py" 341, .int 70 0, .int 2 0, .int 0 0, .int 0 0, .int 3 0, .ref 126, .bool Bool.true, .int 181 0, .ref 127, .none, .none, .none, .ref 128, .int 342 0, .int 70 0, .str "/claim/cut.py" 343]) #[] else
 bif Nat.beq i 130 then .mk (.type "function") (none) (.func (.mk "are_holds" "are_holds" (L2.defArgs (htop 21)) (.stmts (L2.defBody (htop 21))) (L2.defScope (htop 21)) (3) ([]) (.none) (.none) (.none) (.str "nonebetter.judge" 313) (none) (.ref 129) (.none) (0))) (#[]) else
 bif Nat.beq i 131 then .mk (.type "tuple") none (.seq #[]) #[] else
 bif Nat.beq i 134 then .mk (.type "code") none (.fields #[.str "is_turn" 345, .str "is_turn" 346, .str "/claim/cut.py" 347, .int 74 0, .int 2 0, .int 0 0, .int 0 0, .int 3 0, .ref 131, .bool Bool.true, .int 181 0, .ref 132, .none, .none, .none, .ref 133, .int 348 0, .int 74 0, .str "/claim/cut.py" 349]) #[] else
 .mk (.type "function") (none) (.func (.mk "is_turn" "is_turn" (L2.defArgs (htop 22)) (.stmts (L2.defBody (htop 22))) (L2.defScope (htop 22)) (3) ([]) (.none) (.none) (.none) (.str "nonebetter.judge" 313) (none) (.ref 134) (.none) (0))) (#[])
def hob17 (i : Nat) (P : Params) : Obj :=
 bif Nat.beq i 136 then .mk (.type "tuple") none (.seq #[]) #[] else
 bif Nat.beq i 138 then .mk (.type "tuple") none (.seq #[.str "problem" 354, .str "best" 355, .str "told" 356, .str "line" 357]) #[] else
 bif Nat.beq i 139 then .mk (.type "tuple") none (.seq #[]) #[] else
 bif Nat.beq i 141 then .mk (.type "code") none (.fields #[.str "told_given" 351, .str "told_given" 352, .str "/claim/cut.py" 353, .int 78 0, .int 4 0, .int 0 0, .int 0 0, .int 3 0, .ref 136, .bool Bool.true, .int 181 0, .ref 137, .none, .ref 138, .ref 139, .ref 140, .int 358 0, .int 78 0, .str "/claim/cut.py" 359]) #[] else
 .mk (.type "function") (none) (.func (.mk "told_given" "told_given" (L2.defArgs (htop 23)) (.stmts (L2.defBody (htop 23))) (L2.defScope (htop 23)) (3) ([]) (.none) (.none) (.none) (.str "nonebetter.judge" 313) (none) (.ref 141) (.none) (0))) (#[])
def hob18 (i : Nat) (P : Params) : Obj :=
 bif Nat.beq i 143 then .mk (.type "tuple") none (.seq #[]) #[] else
 bif Nat.beq i 145 then .mk (.type "tuple") none (.seq #[.str "problem" 364, .str "best" 365, .str "told" 366, .str "line" 367, .str "count" 368]) #[] else
 bif Nat.beq i 146 then .mk (.type "tuple") none (.seq #[]) #[] else
 bif Nat.beq i 148 then .mk (.type "code") none (.fields #[.str "told_low" 361, .str "told_low" 362, .str "/claim/cut.py" 363, .int 82 0, .int 4 0, .int 0 0, .int 0 0, .int 3 0, .ref 143, .bool Bool.true, .int 181 0, .ref 144, .none, .ref 145, .ref 146, .ref 147, .int 369 0, .int 82 0, .str "/claim/cut.py" 370]) #[] else
 .mk (.type "function") (none) (.func (.mk "told_low" "told_low" (L2.defArgs (htop 24)) (.stmts (L2.defBody (htop 24))) (L2.defScope (htop 24)) (3) ([]) (.none) (.none) (.none) (.str "nonebetter.judge" 313) (none) (.ref 148) (.none) (0))) (#[])
def hob19 (i : Nat) (P : Params) : Obj :=
 bif Nat.beq i 150 then .mk (.type "tuple") none (.seq #[]) #[] else
 bif Nat.beq i 152 then .mk (.type "tuple") none (.seq #[.str "problem" 375, .str "best" 376, .str "told" 377, .str "line" 378, .str "count" 379]) #[] else
 bif Nat.beq i 153 then .mk (.type "tuple") none (.seq #[]) #[] else
 bif Nat.beq i 155 then .mk (.type "code") none (.fields #[.str "told_high" 372, .str "told_high" 373, .str "/claim/cut.py" 374, .int 87 0, .int 4 0, .int 0 0, .int 0 0, .int 3 0, .ref 150, .bool Bool.true, .int 181 0, .ref 151, .none, .ref 152, .ref 153, .ref 154, .int 380 0, .int 87 0, .str "/claim/cut.py" 381]) #[] else
 .mk (.type "function") (none) (.func (.mk "told_high" "told_high" (L2.defArgs (htop 25)) (.stmts (L2.defBody (htop 25))) (L2.defScope (htop 25)) (3) ([]) (.none) (.none) (.none) (.str "nonebetter.judge" 313) (none) (.ref 155) (.none) (0))) (#[])
def hob20 (i : Nat) (P : Params) : Obj :=
 bif Nat.beq i 157 then .mk (.type "tuple") none (.seq #[]) #[] else
 bif Nat.beq i 159 then .mk (.type "tuple") none (.seq #[.str "problem" 386, .str "best" 387, .str "told" 388, .str "line" 389]) #[] else
 bif Nat.beq i 160 then .mk (.type "tuple") none (.seq #[]) #[] else
 bif Nat.beq i 162 then .mk (.type "code") none (.fields #[.str "told_better" 383, .str "told_better" 384, .str "/claim/cut.py" 385, .int 92 0, .int 4 0, .int 0 0, .int 0 0, .int 3 0, .ref 157, .bool Bool.true, .int 181 0, .ref 158, .none, .ref 159, .ref 160, .ref 161, .int 390 0, .int 92 0, .str "/claim/cut.py" 391]) #[] else
 .mk (.type "function") (none) (.func (.mk "told_better" "told_better" (L2.defArgs (htop 26)) (.stmts (L2.defBody (htop 26))) (L2.defScope (htop 26)) (3) ([]) (.none) (.none) (.none) (.str "nonebetter.judge" 313) (none) (.ref 162) (.none) (0))) (#[])
def hob21 (i : Nat) (P : Params) : Obj :=
 bif Nat.beq i 164 then .mk (.type "tuple") none (.seq #[]) #[] else
 bif Nat.beq i 167 then .mk (.type "code") none (.fields #[.str "told_sum" 393, .str "told_sum" 394, .str "/claim/cut.py" 395, .int 96 0, .int 4 0, .int 0 0, .int 0 0, .int 3 0, .ref 164, .bool Bool.true, .int 181 0, .ref 165, .none, .none, .none, .ref 166, .int 396 0, .int 96 0, .str "/claim/cut.py" 397]) #[] else
 bif Nat.beq i 168 then .mk (.type "function") (none) (.func (.mk "told_sum" "told_sum" (L2.defArgs (htop 27)) (.stmts (L2.defBody (htop 27))) (L2.defScope (htop 27)) (3) ([]) (.none) (.none) (.none) (.str "nonebetter.judge" 313) (none) (.ref 167) (.none) (0))) (#[]) else
 bif Nat.beq i 169 then .mk (.type "tuple") none (.seq #[]) #[] else
 .mk (.type "code") none (.fields #[.str "told_share" 399, .str "told_share" 400, .str "/claim/cut.py" 401, .int 103 0, .int 4 0, .int 0 0, .int 0 0, .int 3 0, .ref 169, .bool Bool.true, .int 181 0, .ref 170, .none, .none, .none, .ref 171, .int 402 0, .int 103 0, .str "/claim/cut.py" 403]) #[]
def hob22 (i : Nat) (P : Params) : Obj :=
 bif Nat.beq i 173 then .mk (.type "function") (none) (.func (.mk "told_share" "told_share" (L2.defArgs (htop 28)) (.stmts (L2.defBody (htop 28))) (L2.defScope (htop 28)) (3) ([]) (.none) (.none) (.none) (.str "nonebetter.judge" 313) (none) (.ref 172) (.none) (0))) (#[]) else
 bif Nat.beq i 174 then .mk (.type "tuple") none (.seq #[]) #[] else
 bif Nat.beq i 176 then .mk (.type "tuple") none (.seq #[.str "problem" 408, .str "best" 409, .str "told" 410, .str "line" 411, .str "count" 412, .str "holds" 413, .str "row" 414]) #[] else
 bif Nat.beq i 177 then .mk (.type "tuple") none (.seq #[]) #[] else
 .mk (.type "code") none (.fields #[.str "told_shut" 405, .str "told_shut" 406, .str "/claim/cut.py" 407, .int 111 0, .int 4 0, .int 0 0, .int 0 0, .int 3 0, .ref 174, .bool Bool.true, .int 181 0, .ref 175, .none, .ref 176, .ref 177, .ref 178, .int 415 0, .int 111 0, .str "/claim/cut.py" 416]) #[]
def hob23 (i : Nat) (P : Params) : Obj :=
 bif Nat.beq i 180 then .mk (.type "function") (none) (.func (.mk "told_shut" "told_shut" (L2.defArgs (htop 29)) (.stmts (L2.defBody (htop 29))) (L2.defScope (htop 29)) (3) ([]) (.none) (.none) (.none) (.str "nonebetter.judge" 313) (none) (.ref 179) (.none) (0))) (#[]) else
 bif Nat.beq i 181 then .mk (.type "tuple") none (.seq #[]) #[] else
 bif Nat.beq i 183 then .mk (.type "tuple") none (.seq #[.str "problem" 421, .str "best" 422, .str "told" 423, .str "line" 424, .str "choice" 425, .str "one" 426, .str "other" 427]) #[] else
 bif Nat.beq i 184 then .mk (.type "tuple") none (.seq #[]) #[] else
 .mk (.type "code") none (.fields #[.str "told_either" 418, .str "told_either" 419, .str "/claim/cut.py" 420, .int 120 0, .int 4 0, .int 0 0, .int 0 0, .int 3 0, .ref 181, .bool Bool.true, .int 181 0, .ref 182, .none, .ref 183, .ref 184, .ref 185, .int 428 0, .int 120 0, .str "/claim/cut.py" 429]) #[]
def hob24 (i : Nat) (P : Params) : Obj :=
 bif Nat.beq i 187 then .mk (.type "function") (none) (.func (.mk "told_either" "told_either" (L2.defArgs (htop 30)) (.stmts (L2.defBody (htop 30))) (L2.defScope (htop 30)) (3) ([]) (.none) (.none) (.none) (.str "nonebetter.judge" 313) (none) (.ref 186) (.none) (0))) (#[]) else
 bif Nat.beq i 188 then .mk (.type "tuple") none (.seq #[]) #[] else
 bif Nat.beq i 190 then .mk (.type "tuple") none (.seq #[.str "problem" 434, .str "best" 435, .str "told" 436, .str "line" 437, .str "turn" 438]) #[] else
 bif Nat.beq i 191 then .mk (.type "tuple") none (.seq #[]) #[] else
 .mk (.type "code") none (.fields #[.str "told_like" 431, .str "told_like" 432, .str "/claim/cut.py" 433, .int 131 0, .int 4 0, .int 0 0, .int 0 0, .int 3 0, .ref 188, .bool Bool.true, .int 181 0, .ref 189, .none, .ref 190, .ref 191, .ref 192, .int 439 0, .int 131 0, .str "/claim/cut.py" 440]) #[]
def hob25 (i : Nat) (P : Params) : Obj :=
 bif Nat.beq i 194 then .mk (.type "function") (none) (.func (.mk "told_like" "told_like" (L2.defArgs (htop 31)) (.stmts (L2.defBody (htop 31))) (L2.defScope (htop 31)) (3) ([]) (.none) (.none) (.none) (.str "nonebetter.judge" 313) (none) (.ref 193) (.none) (0))) (#[]) else
 bif Nat.beq i 195 then .mk (.type "dict") none (.dict #[.mk (PyData.keyHash P "given") (.str "given" 442) (.int 2 443), .mk (PyData.keyHash P "low") (.str "low" 444) (.int 2 445), .mk (PyData.keyHash P "high") (.str "high" 446) (.int 2 447), .mk (PyData.keyHash P "better") (.str "better" 448) (.int 1 449), .mk (PyData.keyHash P "sum") (.str "sum" 450) (.int 2 451), .mk (PyData.keyHash P "share") (.str "share" 452) (.int 3 453), .mk (PyData.keyHash P "shut") (.str "shut" 454) (.int 3 455), .mk (PyData.keyHash P "either") (.str "either" 456) (.int 4 457), .mk (PyData.keyHash P "like") (.str "like" 458) (.int 2 459)] 9) #[] else
 bif Nat.beq i 196 then .mk (.type "dict") none (.dict #[.mk (PyData.keyHash P "given") (.str "given" 470) (.ref 142), .mk (PyData.keyHash P "low") (.str "low" 471) (.ref 149), .mk (PyData.keyHash P "high") (.str "high" 472) (.ref 156), .mk (PyData.keyHash P "better") (.str "better" 473) (.ref 163), .mk (PyData.keyHash P "sum") (.str "sum" 474) (.ref 168), .mk (PyData.keyHash P "share") (.str "share" 475) (.ref 173), .mk (PyData.keyHash P "shut") (.str "shut" 476) (.ref 180), .mk (PyData.keyHash P "either") (.str "either" 477) (.ref 187), .mk (PyData.keyHash P "like") (.str "like" 478) (.ref 194)] 9) #[] else
 bif Nat.beq i 197 then .mk (.type "tuple") none (.seq #[]) #[] else
 .mk (.type "tuple") none (.seq #[.str "problem" 492, .str "best" 493, .str "told" 494, .str "line" 495, .str "word" 496]) #[]
def hob26 (i : Nat) (P : Params) : Obj :=
 bif Nat.beq i 200 then .mk (.type "tuple") none (.seq #[]) #[] else
 bif Nat.beq i 202 then .mk (.type "code") none (.fields #[.str "row_told" 489, .str "row_told" 490, .str "/claim/cut.py" 491, .int 138 0, .int 4 0, .int 0 0, .int 0 0, .int 3 0, .ref 197, .bool Bool.true, .int 181 0, .ref 198, .none, .ref 199, .ref 200, .ref 201, .int 497 0, .int 138 0, .str "/claim/cut.py" 498]) #[] else
 bif Nat.beq i 203 then .mk (.type "function") (none) (.func (.mk "row_told" "row_told" (L2.defArgs (htop 34)) (.stmts (L2.defBody (htop 34))) (L2.defScope (htop 34)) (3) ([]) (.none) (.none) (.none) (.str "nonebetter.judge" 313) (none) (.ref 202) (.none) (0))) (#[]) else
 bif Nat.beq i 204 then .mk (.type "tuple") none (.seq #[]) #[] else
 .mk (.type "tuple") none (.seq #[.str "problem" 503, .str "best" 504, .str "paper" 505, .str "told" 506, .str "line" 507, .str "row" 508]) #[]
def hob27 (i : Nat) (P : Params) : Obj :=
 bif Nat.beq i 207 then .mk (.type "tuple") none (.seq #[]) #[] else
 bif Nat.beq i 209 then .mk (.type "code") none (.fields #[.str "rows_told" 500, .str "rows_told" 501, .str "/claim/cut.py" 502, .int 145 0, .int 3 0, .int 0 0, .int 0 0, .int 3 0, .ref 204, .bool Bool.true, .int 181 0, .ref 205, .none, .ref 206, .ref 207, .ref 208, .int 509 0, .int 145 0, .str "/claim/cut.py" 510]) #[] else
 bif Nat.beq i 210 then .mk (.type "function") (none) (.func (.mk "rows_told" "rows_told" (L2.defArgs (htop 35)) (.stmts (L2.defBody (htop 35))) (L2.defScope (htop 35)) (3) ([]) (.none) (.none) (.none) (.str "nonebetter.judge" 313) (none) (.ref 209) (.none) (0))) (#[]) else
 bif Nat.beq i 211 then .mk (.type "tuple") none (.seq #[]) #[] else
 .mk (.type "code") none (.fields #[.str "is_broken" 512, .str "is_broken" 513, .str "/claim/cut.py" 514, .int 153 0, .int 1 0, .int 0 0, .int 0 0, .int 3 0, .ref 211, .bool Bool.true, .int 181 0, .ref 212, .none, .none, .none, .ref 213, .int 515 0, .int 153 0, .str "/claim/cut.py" 516]) #[]
def hob28 (i : Nat) (P : Params) : Obj :=
 bif Nat.beq i 215 then .mk (.type "function") (none) (.func (.mk "is_broken" "is_broken" (L2.defArgs (htop 36)) (.stmts (L2.defBody (htop 36))) (L2.defScope (htop 36)) (3) ([]) (.none) (.none) (.none) (.str "nonebetter.judge" 313) (none) (.ref 214) (.none) (0))) (#[]) else
 bif Nat.beq i 216 then .mk (.type "tuple") none (.seq #[]) #[] else
 bif Nat.beq i 218 then .mk (.type "tuple") none (.seq #[.str "problem" 521, .str "best" 522, .str "paper" 523, .str "told" 524]) #[] else
 bif Nat.beq i 219 then .mk (.type "tuple") none (.seq #[]) #[] else
 .mk (.type "code") none (.fields #[.str "judged" 518, .str "judged" 519, .str "/claim/cut.py" 520, .int 155 0, .int 3 0, .int 0 0, .int 0 0, .int 3 0, .ref 216, .bool Bool.true, .int 181 0, .ref 217, .none, .ref 218, .ref 219, .ref 220, .int 525 0, .int 155 0, .str "/claim/cut.py" 526]) #[]
def hob29 (i : Nat) (P : Params) : Obj :=
 bif Nat.beq i 222 then .mk (.type "function") (none) (.func (.mk "judged" "judged" (L2.defArgs (htop 37)) (.stmts (L2.defBody (htop 37))) (L2.defScope (htop 37)) (3) ([]) (.none) (.none) (.none) (.str "nonebetter.judge" 313) (none) (.ref 221) (.none) (0))) (#[]) else
 bif Nat.beq i 223 then .mk (.type "tuple") none (.seq #[]) #[] else
 bif Nat.beq i 225 then .mk (.type "tuple") none (.seq #[.str "_law_script" 533, .str "_law_k" 534, .str "_law_cell" 535, .str "_law_number" 536]) #[] else
 bif Nat.beq i 226 then .mk (.type "tuple") none (.seq #[]) #[] else
 .mk (.type "code") none (.fields #[.str "_law_mix" 530, .str "_law_mix" 531, .str "/claim/cut.py" 532, .int 161 0, .int 2 0, .int 0 0, .int 0 0, .int 3 0, .ref 223, .bool Bool.true, .int 181 0, .ref 224, .none, .ref 225, .ref 226, .ref 227, .int 537 0, .int 161 0, .str "/claim/cut.py" 538]) #[]
def hob30 (i : Nat) (P : Params) : Obj :=
 bif Nat.beq i 229 then .mk (.type "function") (none) (.func (.mk "_law_mix" "_law_mix" (L2.defArgs (htop 39)) (.stmts (L2.defBody (htop 39))) (L2.defScope (htop 39)) (3) ([]) (.none) (.none) (.none) (.str "law_nonebetter_k12_whole_what_is_let_by_is_s" 528) (none) (.ref 228) (.none) (0))) (#[]) else
 bif Nat.beq i 230 then .mk (.type "tuple") none (.seq #[]) #[] else
 bif Nat.beq i 232 then .mk (.type "tuple") none (.seq #[.str "_law_script" 543, .str "_law_many" 544, .str "_law_found" 545, .str "_law_k" 546, .str "_law_cell" 547]) #[] else
 bif Nat.beq i 233 then .mk (.type "tuple") none (.seq #[]) #[] else
 .mk (.type "code") none (.fields #[.str "_law_draws" 540, .str "_law_draws" 541, .str "/claim/cut.py" 542, .int 168 0, .int 2 0, .int 0 0, .int 0 0, .int 3 0, .ref 230, .bool Bool.true, .int 181 0, .ref 231, .none, .ref 232, .ref 233, .ref 234, .int 548 0, .int 168 0, .str "/claim/cut.py" 549]) #[]
def hob31 (i : Nat) (P : Params) : Obj :=
 bif Nat.beq i 236 then .mk (.type "function") (none) (.func (.mk "_law_draws" "_law_draws" (L2.defArgs (htop 40)) (.stmts (L2.defBody (htop 40))) (L2.defScope (htop 40)) (3) ([]) (.none) (.none) (.none) (.str "law_nonebetter_k12_whole_what_is_let_by_is_s" 528) (none) (.ref 235) (.none) (0))) (#[]) else
 bif Nat.beq i 237 then .mk (.type "tuple") none (.seq #[]) #[] else
 bif Nat.beq i 240 then .mk (.type "code") none (.fields #[.str "_law_row" 551, .str "_law_row" 552, .str "/claim/cut.py" 553, .int 183 0, .int 3 0, .int 0 0, .int 0 0, .int 3 0, .ref 237, .bool Bool.true, .int 181 0, .ref 238, .none, .none, .none, .ref 239, .int 554 0, .int 183 0, .str "/claim/cut.py" 555]) #[] else
 bif Nat.beq i 241 then .mk (.type "function") (none) (.func (.mk "_law_row" "_law_row" (L2.defArgs (htop 41)) (.stmts (L2.defBody (htop 41))) (L2.defScope (htop 41)) (3) ([]) (.none) (.none) (.none) (.str "law_nonebetter_k12_whole_what_is_let_by_is_s" 528) (none) (.ref 240) (.none) (0))) (#[]) else
 .mk (.type "tuple") none (.seq #[]) #[]
def hob32 (i : Nat) (P : Params) : Obj :=
 bif Nat.beq i 245 then .mk (.type "code") none (.fields #[.str "_law_problem" 557, .str "_law_problem" 558, .str "/claim/cut.py" 559, .int 186 0, .int 4 0, .int 0 0, .int 0 0, .int 3 0, .ref 242, .bool Bool.true, .int 181 0, .ref 243, .none, .none, .none, .ref 244, .int 560 0, .int 186 0, .str "/claim/cut.py" 561]) #[] else
 bif Nat.beq i 246 then .mk (.type "function") (none) (.func (.mk "_law_problem" "_law_problem" (L2.defArgs (htop 42)) (.stmts (L2.defBody (htop 42))) (L2.defScope (htop 42)) (3) ([]) (.none) (.none) (.none) (.str "law_nonebetter_k12_whole_what_is_let_by_is_s" 528) (none) (.ref 245) (.none) (0))) (#[]) else
 bif Nat.beq i 247 then .mk (.type "tuple") none (.seq #[]) #[] else
 bif Nat.beq i 249 then .mk (.type "tuple") none (.seq #[.str "_law_problem_here" 566, .str "_law_draws_here" 567, .str "_law_at" 568, .str "_law_many" 569, .str "_law_one" 570, .str "_law_other" 571, .str "_law_turn_here" 572, .str "_law_rows" 573, .str "_law_row_here" 574, .str "_law_moved" 575, .str "_law_costs" 576]) #[] else
 .mk (.type "tuple") none (.seq #[]) #[]
def hob33 (i : Nat) (P : Params) : Obj :=
 bif Nat.beq i 252 then .mk (.type "code") none (.fields #[.str "_law_alike" 563, .str "_law_alike" 564, .str "/claim/cut.py" 565, .int 190 0, .int 3 0, .int 0 0, .int 0 0, .int 3 0, .ref 247, .bool Bool.true, .int 181 0, .ref 248, .none, .ref 249, .ref 250, .ref 251, .int 577 0, .int 190 0, .str "/claim/cut.py" 578]) #[] else
 bif Nat.beq i 253 then .mk (.type "function") (none) (.func (.mk "_law_alike" "_law_alike" (L2.defArgs (htop 43)) (.stmts (L2.defBody (htop 43))) (L2.defScope (htop 43)) (3) ([]) (.none) (.none) (.none) (.str "law_nonebetter_k12_whole_what_is_let_by_is_s" 528) (none) (.ref 252) (.none) (0))) (#[]) else
 bif Nat.beq i 254 then .mk (.type "tuple") none (.seq #[]) #[] else
 bif Nat.beq i 256 then .mk (.type "tuple") none (.seq #[.str "_law_row_here" 583, .str "_law_turn_here" 584, .str "_law_numbers" 585, .str "_law_choice" 586]) #[] else
 .mk (.type "tuple") none (.seq #[]) #[]
def hob34 (i : Nat) (P : Params) : Obj :=
 bif Nat.beq i 259 then .mk (.type "code") none (.fields #[.str "_law_turned" 580, .str "_law_turned" 581, .str "/claim/cut.py" 582, .int 209 0, .int 2 0, .int 0 0, .int 0 0, .int 3 0, .ref 254, .bool Bool.true, .int 181 0, .ref 255, .none, .ref 256, .ref 257, .ref 258, .int 587 0, .int 209 0, .str "/claim/cut.py" 588]) #[] else
 bif Nat.beq i 260 then .mk (.type "function") (none) (.func (.mk "_law_turned" "_law_turned" (L2.defArgs (htop 44)) (.stmts (L2.defBody (htop 44))) (L2.defScope (htop 44)) (3) ([]) (.none) (.none) (.none) (.str "law_nonebetter_k12_whole_what_is_let_by_is_s" 528) (none) (.ref 259) (.none) (0))) (#[]) else
 bif Nat.beq i 261 then .mk (.type "tuple") none (.seq #[]) #[] else
 bif Nat.beq i 264 then .mk (.type "code") none (.fields #[.str "_law_points" 590, .str "_law_points" 591, .str "/claim/cut.py" 592, .int 214 0, .int 1 0, .int 0 0, .int 0 0, .int 3 0, .ref 261, .bool Bool.true, .int 181 0, .ref 262, .none, .none, .none, .ref 263, .int 593 0, .int 214 0, .str "/claim/cut.py" 594]) #[] else
 .mk (.type "function") (none) (.func (.mk "_law_points" "_law_points" (L2.defArgs (htop 45)) (.stmts (L2.defBody (htop 45))) (L2.defScope (htop 45)) (3) ([]) (.none) (.none) (.none) (.str "law_nonebetter_k12_whole_what_is_let_by_is_s" 528) (none) (.ref 264) (.none) (0))) (#[])
def hob35 (i : Nat) (P : Params) : Obj :=
 bif Nat.beq i 266 then .mk (.type "tuple") none (.seq #[]) #[] else
 bif Nat.beq i 269 then .mk (.type "code") none (.fields #[.str "_law_sum" 596, .str "_law_sum" 597, .str "/claim/cut.py" 598, .int 219 0, .int 2 0, .int 0 0, .int 0 0, .int 3 0, .ref 266, .bool Bool.true, .int 181 0, .ref 267, .none, .none, .none, .ref 268, .int 599 0, .int 219 0, .str "/claim/cut.py" 600]) #[] else
 bif Nat.beq i 270 then .mk (.type "function") (none) (.func (.mk "_law_sum" "_law_sum" (L2.defArgs (htop 46)) (.stmts (L2.defBody (htop 46))) (L2.defScope (htop 46)) (3) ([]) (.none) (.none) (.none) (.str "law_nonebetter_k12_whole_what_is_let_by_is_s" 528) (none) (.ref 269) (.none) (0))) (#[]) else
 bif Nat.beq i 271 then .mk (.type "tuple") none (.seq #[]) #[] else
 .mk (.type "tuple") none (.seq #[.str "_law_problem_here" 605, .str "_law_best" 606, .str "_law_point" 607, .str "_law_numbers" 608, .str "_law_least" 609]) #[]
def hob36 (i : Nat) (P : Params) : Obj :=
 bif Nat.beq i 274 then .mk (.type "tuple") none (.seq #[]) #[] else
 bif Nat.beq i 276 then .mk (.type "code") none (.fields #[.str "_law_kept" 602, .str "_law_kept" 603, .str "/claim/cut.py" 604, .int 221 0, .int 3 0, .int 0 0, .int 0 0, .int 3 0, .ref 271, .bool Bool.true, .int 181 0, .ref 272, .none, .ref 273, .ref 274, .ref 275, .int 610 0, .int 221 0, .str "/claim/cut.py" 611]) #[] else
 bif Nat.beq i 277 then .mk (.type "function") (none) (.func (.mk "_law_kept" "_law_kept" (L2.defArgs (htop 47)) (.stmts (L2.defBody (htop 47))) (L2.defScope (htop 47)) (3) ([]) (.none) (.none) (.none) (.str "law_nonebetter_k12_whole_what_is_let_by_is_s" 528) (none) (.ref 276) (.none) (0))) (#[]) else
 bif Nat.beq i 278 then .mk (.type "tuple") none (.seq #[]) #[] else
 .mk (.type "code") none (.fields #[.str "_law_even" 613, .str "_law_even" 614, .str "/claim/cut.py" 615, .int 226 0, .int 1 0, .int 0 0, .int 0 0, .int 3 0, .ref 278, .bool Bool.true, .int 181 0, .ref 279, .none, .none, .none, .ref 280, .int 616 0, .int 226 0, .str "/claim/cut.py" 617]) #[]
def hob37 (i : Nat) (P : Params) : Obj :=
 bif Nat.beq i 282 then .mk (.type "function") (none) (.func (.mk "_law_even" "_law_even" (L2.defArgs (htop 48)) (.stmts (L2.defBody (htop 48))) (L2.defScope (htop 48)) (3) ([]) (.none) (.none) (.none) (.str "law_nonebetter_k12_whole_what_is_let_by_is_s" 528) (none) (.ref 281) (.none) (0))) (#[]) else
 bif Nat.beq i 283 then .mk (.type "tuple") none (.seq #[]) #[] else
 bif Nat.beq i 285 then .mk (.type "tuple") none (.seq #[.str "_law_draws_here" 622, .str "_law_many" 623, .str "_law_problem_here" 624, .str "_law_best" 625]) #[] else
 bif Nat.beq i 286 then .mk (.type "tuple") none (.seq #[]) #[] else
 .mk (.type "code") none (.fields #[.str "_law_given" 619, .str "_law_given" 620, .str "/claim/cut.py" 621, .int 230 0, .int 1 0, .int 0 0, .int 0 0, .int 3 0, .ref 283, .bool Bool.true, .int 181 0, .ref 284, .none, .ref 285, .ref 286, .ref 287, .int 626 0, .int 230 0, .str "/claim/cut.py" 627]) #[]
def hob38 (i : Nat) (P : Params) : Obj :=
 bif Nat.beq i 289 then .mk (.type "function") (none) (.func (.mk "_law_given" "_law_given" (L2.defArgs (htop 49)) (.stmts (L2.defBody (htop 49))) (L2.defScope (htop 49)) (3) ([]) (.none) (.none) (.none) (.str "law_nonebetter_k12_whole_what_is_let_by_is_s" 528) (none) (.ref 288) (.none) (0))) (#[]) else
 bif Nat.beq i 290 then .mk (.type "tuple") none (.seq #[]) #[] else
 bif Nat.beq i 292 then .mk (.type "tuple") none (.seq #[.str "_law_number" 632, .str "_law_many" 633, .str "_law_found" 634, .str "_law_k" 635]) #[] else
 bif Nat.beq i 293 then .mk (.type "tuple") none (.seq #[]) #[] else
 .mk (.type "code") none (.fields #[.str "_law_holds" 629, .str "_law_holds" 630, .str "/claim/cut.py" 631, .int 241 0, .int 2 0, .int 0 0, .int 0 0, .int 3 0, .ref 290, .bool Bool.true, .int 181 0, .ref 291, .none, .ref 292, .ref 293, .ref 294, .int 636 0, .int 241 0, .str "/claim/cut.py" 637]) #[]
def hob39 (i : Nat) (P : Params) : Obj :=
 bif Nat.beq i 296 then .mk (.type "function") (none) (.func (.mk "_law_holds" "_law_holds" (L2.defArgs (htop 50)) (.stmts (L2.defBody (htop 50))) (L2.defScope (htop 50)) (3) ([]) (.none) (.none) (.none) (.str "law_nonebetter_k12_whole_what_is_let_by_is_s" 528) (none) (.ref 295) (.none) (0))) (#[]) else
 bif Nat.beq i 297 then .mk (.type "tuple") none (.seq #[]) #[] else
 bif Nat.beq i 299 then .mk (.type "tuple") none (.seq #[.str "_law_number" 642, .str "_law_many" 643, .str "_law_found" 644, .str "_law_k" 645]) #[] else
 bif Nat.beq i 300 then .mk (.type "tuple") none (.seq #[]) #[] else
 .mk (.type "code") none (.fields #[.str "_law_turn" 639, .str "_law_turn" 640, .str "/claim/cut.py" 641, .int 248 0, .int 2 0, .int 0 0, .int 0 0, .int 3 0, .ref 297, .bool Bool.true, .int 181 0, .ref 298, .none, .ref 299, .ref 300, .ref 301, .int 646 0, .int 248 0, .str "/claim/cut.py" 647]) #[]
def hob40 (i : Nat) (P : Params) : Obj :=
 bif Nat.beq i 303 then .mk (.type "function") (none) (.func (.mk "_law_turn" "_law_turn" (L2.defArgs (htop 51)) (.stmts (L2.defBody (htop 51))) (L2.defScope (htop 51)) (3) ([]) (.none) (.none) (.none) (.str "law_nonebetter_k12_whole_what_is_let_by_is_s" 528) (none) (.ref 302) (.none) (0))) (#[]) else
 bif Nat.beq i 304 then .mk (.type "tuple") none (.seq #[]) #[] else
 bif Nat.beq i 306 then .mk (.type "tuple") none (.seq #[.str "_law_draws_here" 652, .str "_law_at" 653, .str "_law_count" 654, .str "_law_many" 655, .str "_law_rows" 656, .str "_law_word" 657, .str "_law_one" 658, .str "_law_other" 659, .str "_law_choice" 660, .str "_law_parts" 661]) #[] else
 bif Nat.beq i 307 then .mk (.type "tuple") none (.seq #[]) #[] else
 .mk (.type "code") none (.fields #[.str "_law_line" 649, .str "_law_line" 650, .str "/claim/cut.py" 651, .int 254 0, .int 5 0, .int 0 0, .int 0 0, .int 3 0, .ref 304, .bool Bool.true, .int 181 0, .ref 305, .none, .ref 306, .ref 307, .ref 308, .int 662 0, .int 254 0, .str "/claim/cut.py" 663]) #[]
def hob41 (i : Nat) (P : Params) : Obj :=
 bif Nat.beq i 310 then .mk (.type "function") (none) (.func (.mk "_law_line" "_law_line" (L2.defArgs (htop 52)) (.stmts (L2.defBody (htop 52))) (L2.defScope (htop 52)) (3) ([]) (.none) (.none) (.none) (.str "law_nonebetter_k12_whole_what_is_let_by_is_s" 528) (none) (.ref 309) (.none) (0))) (#[]) else
 bif Nat.beq i 311 then .mk (.type "tuple") none (.seq #[]) #[] else
 bif Nat.beq i 313 then .mk (.type "tuple") none (.seq #[.str "_law_draws_here" 668, .str "_law_problem_here" 669, .str "_law_best" 670, .str "_law_paper_here" 671, .str "_law_k" 672, .str "_law_line_here" 673, .str "_law_at" 674]) #[] else
 bif Nat.beq i 314 then .mk (.type "tuple") none (.seq #[]) #[] else
 .mk (.type "code") none (.fields #[.str "_law_paper" 665, .str "_law_paper" 666, .str "/claim/cut.py" 667, .int 277 0, .int 3 0, .int 0 0, .int 0 0, .int 3 0, .ref 311, .bool Bool.true, .int 181 0, .ref 312, .none, .ref 313, .ref 314, .ref 315, .int 675 0, .int 277 0, .str "/claim/cut.py" 676]) #[]
def hob42 (i : Nat) (P : Params) : Obj :=
 bif Nat.beq i 317 then .mk (.type "function") (none) (.func (.mk "_law_paper" "_law_paper" (L2.defArgs (htop 53)) (.stmts (L2.defBody (htop 53))) (L2.defScope (htop 53)) (3) ([]) (.none) (.none) (.none) (.str "law_nonebetter_k12_whole_what_is_let_by_is_s" 528) (none) (.ref 316) (.none) (0))) (#[]) else
 bif Nat.beq i 318 then .mk (.type "tuple") none (.seq #[]) #[] else
 bif Nat.beq i 321 then .mk (.type "code") none (.fields #[.str "_law_greatest" 678, .str "_law_greatest" 679, .str "/claim/cut.py" 680, .int 287 0, .int 2 0, .int 0 0, .int 0 0, .int 3 0, .ref 318, .bool Bool.true, .int 181 0, .ref 319, .none, .none, .none, .ref 320, .int 681 0, .int 287 0, .str "/claim/cut.py" 682]) #[] else
 bif Nat.beq i 322 then .mk (.type "function") (none) (.func (.mk "_law_greatest" "_law_greatest" (L2.defArgs (htop 54)) (.stmts (L2.defBody (htop 54))) (L2.defScope (htop 54)) (3) ([]) (.none) (.none) (.none) (.str "law_nonebetter_k12_whole_what_is_let_by_is_s" 528) (none) (.ref 321) (.none) (0))) (#[]) else
 .mk (.type "tuple") none (.seq #[]) #[]
def hob43 (i : Nat) (P : Params) : Obj :=
 bif Nat.beq i 326 then .mk (.type "code") none (.fields #[.str "law" 684, .str "law" 685, .str "/claim/cut.py" 686, .int 301 0, .int 1 0, .int 0 0, .int 0 0, .int 3 0, .ref 323, .bool Bool.true, .int 181 0, .ref 324, .none, .none, .none, .ref 325, .int 687 0, .int 301 0, .str "/claim/cut.py" 688]) #[] else
 .mk (.type "function") (none) (.func (.mk "law" "law" (L2.defArgs (htop 55)) (.stmts (L2.defBody (htop 55))) (L2.defScope (htop 55)) (3) ([]) (.none) (.none) (.none) (.str "law_nonebetter_k12_whole_what_is_let_by_is_s" 528) (none) (.ref 326) (.none) (0))) (#[])
def hob (i : Nat) (P : Params) : Obj := (bif Nat.ble i 172 then (bif Nat.ble i 91 then (bif Nat.ble i 47 then (bif Nat.ble i 25 then (bif Nat.ble i 18 then hob0 i P else hob1 i P) else (bif Nat.ble i 32 then hob2 i P else (bif Nat.ble i 39 then hob3 i P else hob4 i P))) else (bif Nat.ble i 70 then (bif Nat.ble i 56 then hob5 i P else (bif Nat.ble i 63 then hob6 i P else hob7 i P)) else (bif Nat.ble i 77 then hob8 i P else (bif Nat.ble i 84 then hob9 i P else hob10 i P)))) else (bif Nat.ble i 126 then (bif Nat.ble i 105 then (bif Nat.ble i 98 then hob11 i P else hob12 i P) else (bif Nat.ble i 112 then hob13 i P else (bif Nat.ble i 119 then hob14 i P else hob15 i P))) else (bif Nat.ble i 149 then (bif Nat.ble i 135 then hob16 i P else (bif Nat.ble i 142 then hob17 i P else hob18 i P)) else (bif Nat.ble i 156 then hob19 i P else (bif Nat.ble i 163 then hob20 i P else hob21 i P))))) else (bif Nat.ble i 250 then (bif Nat.ble i 206 then (bif Nat.ble i 186 then (bif Nat.ble i 179 then hob22 i P else hob23 i P) else (bif Nat.ble i 193 then hob24 i P else (bif Nat.ble i 199 then hob25 i P else hob26 i P))) else (bif Nat.ble i 228 then (bif Nat.ble i 214 then hob27 i P else (bif Nat.ble i 221 then hob28 i P else hob29 i P)) else (bif Nat.ble i 235 then hob30 i P else (bif Nat.ble i 242 then hob31 i P else hob32 i P)))) else (bif Nat.ble i 288 then (bif Nat.ble i 265 then (bif Nat.ble i 257 then hob33 i P else hob34 i P) else (bif Nat.ble i 273 then hob35 i P else (bif Nat.ble i 281 then hob36 i P else hob37 i P))) else (bif Nat.ble i 309 then (bif Nat.ble i 295 then hob38 i P else (bif Nat.ble i 302 then hob39 i P else hob40 i P)) else (bif Nat.ble i 316 then hob41 i P else (bif Nat.ble i 323 then hob42 i P else hob43 i P))))))
def heapK : Params → W.Frag := fun P => (nat_lit 2, hob (nat_lit 2) P) :: (nat_lit 3, hob (nat_lit 3) P) :: (nat_lit 15, hob (nat_lit 15) P) :: (nat_lit 17, hob (nat_lit 17) P) :: (nat_lit 18, hob (nat_lit 18) P) :: (nat_lit 20, hob (nat_lit 20) P) :: (nat_lit 21, hob (nat_lit 21) P) :: (nat_lit 22, hob (nat_lit 22) P) :: (nat_lit 24, hob (nat_lit 24) P) :: (nat_lit 25, hob (nat_lit 25) P) :: (nat_lit 27, hob (nat_lit 27) P) :: (nat_lit 28, hob (nat_lit 28) P) :: (nat_lit 29, hob (nat_lit 29) P) :: (nat_lit 31, hob (nat_lit 31) P) :: (nat_lit 32, hob (nat_lit 32) P) :: (nat_lit 34, hob (nat_lit 34) P) :: (nat_lit 35, hob (nat_lit 35) P) :: (nat_lit 36, hob (nat_lit 36) P) :: (nat_lit 38, hob (nat_lit 38) P) :: (nat_lit 39, hob (nat_lit 39) P) :: (nat_lit 41, hob (nat_lit 41) P) :: (nat_lit 42, hob (nat_lit 42) P) :: (nat_lit 43, hob (nat_lit 43) P) :: (nat_lit 46, hob (nat_lit 46) P) :: (nat_lit 47, hob (nat_lit 47) P) :: (nat_lit 48, hob (nat_lit 48) P) :: (nat_lit 51, hob (nat_lit 51) P) :: (nat_lit 52, hob (nat_lit 52) P) :: (nat_lit 53, hob (nat_lit 53) P) :: (nat_lit 56, hob (nat_lit 56) P) :: (nat_lit 57, hob (nat_lit 57) P) :: (nat_lit 58, hob (nat_lit 58) P) :: (nat_lit 60, hob (nat_lit 60) P) :: (nat_lit 61, hob (nat_lit 61) P) :: (nat_lit 63, hob (nat_lit 63) P) :: (nat_lit 64, hob (nat_lit 64) P) :: (nat_lit 65, hob (nat_lit 65) P) :: (nat_lit 67, hob (nat_lit 67) P) :: (nat_lit 68, hob (nat_lit 68) P) :: (nat_lit 70, hob (nat_lit 70) P) :: (nat_lit 71, hob (nat_lit 71) P) :: (nat_lit 72, hob (nat_lit 72) P) :: (nat_lit 74, hob (nat_lit 74) P) :: (nat_lit 75, hob (nat_lit 75) P) :: (nat_lit 77, hob (nat_lit 77) P) :: (nat_lit 78, hob (nat_lit 78) P) :: (nat_lit 79, hob (nat_lit 79) P) :: (nat_lit 81, hob (nat_lit 81) P) :: (nat_lit 82, hob (nat_lit 82) P) :: (nat_lit 84, hob (nat_lit 84) P) :: (nat_lit 85, hob (nat_lit 85) P) :: (nat_lit 86, hob (nat_lit 86) P) :: (nat_lit 88, hob (nat_lit 88) P) :: (nat_lit 89, hob (nat_lit 89) P) :: (nat_lit 91, hob (nat_lit 91) P) :: (nat_lit 92, hob (nat_lit 92) P) :: (nat_lit 93, hob (nat_lit 93) P) :: (nat_lit 95, hob (nat_lit 95) P) :: (nat_lit 96, hob (nat_lit 96) P) :: (nat_lit 98, hob (nat_lit 98) P) :: (nat_lit 99, hob (nat_lit 99) P) :: (nat_lit 100, hob (nat_lit 100) P) :: (nat_lit 103, hob (nat_lit 103) P) :: (nat_lit 104, hob (nat_lit 104) P) :: (nat_lit 105, hob (nat_lit 105) P) :: (nat_lit 107, hob (nat_lit 107) P) :: (nat_lit 108, hob (nat_lit 108) P) :: (nat_lit 110, hob (nat_lit 110) P) :: (nat_lit 111, hob (nat_lit 111) P) :: (nat_lit 112, hob (nat_lit 112) P) :: (nat_lit 114, hob (nat_lit 114) P) :: (nat_lit 115, hob (nat_lit 115) P) :: (nat_lit 117, hob (nat_lit 117) P) :: (nat_lit 118, hob (nat_lit 118) P) :: (nat_lit 119, hob (nat_lit 119) P) :: (nat_lit 121, hob (nat_lit 121) P) :: (nat_lit 122, hob (nat_lit 122) P) :: (nat_lit 124, hob (nat_lit 124) P) :: (nat_lit 125, hob (nat_lit 125) P) :: (nat_lit 126, hob (nat_lit 126) P) :: (nat_lit 129, hob (nat_lit 129) P) :: (nat_lit 130, hob (nat_lit 130) P) :: (nat_lit 131, hob (nat_lit 131) P) :: (nat_lit 134, hob (nat_lit 134) P) :: (nat_lit 135, hob (nat_lit 135) P) :: (nat_lit 136, hob (nat_lit 136) P) :: (nat_lit 138, hob (nat_lit 138) P) :: (nat_lit 139, hob (nat_lit 139) P) :: (nat_lit 141, hob (nat_lit 141) P) :: (nat_lit 142, hob (nat_lit 142) P) :: (nat_lit 143, hob (nat_lit 143) P) :: (nat_lit 145, hob (nat_lit 145) P) :: (nat_lit 146, hob (nat_lit 146) P) :: (nat_lit 148, hob (nat_lit 148) P) :: (nat_lit 149, hob (nat_lit 149) P) :: (nat_lit 150, hob (nat_lit 150) P) :: (nat_lit 152, hob (nat_lit 152) P) :: (nat_lit 153, hob (nat_lit 153) P) :: (nat_lit 155, hob (nat_lit 155) P) :: (nat_lit 156, hob (nat_lit 156) P) :: (nat_lit 157, hob (nat_lit 157) P) :: (nat_lit 159, hob (nat_lit 159) P) :: (nat_lit 160, hob (nat_lit 160) P) :: (nat_lit 162, hob (nat_lit 162) P) :: (nat_lit 163, hob (nat_lit 163) P) :: (nat_lit 164, hob (nat_lit 164) P) :: (nat_lit 167, hob (nat_lit 167) P) :: (nat_lit 168, hob (nat_lit 168) P) :: (nat_lit 169, hob (nat_lit 169) P) :: (nat_lit 172, hob (nat_lit 172) P) :: (nat_lit 173, hob (nat_lit 173) P) :: (nat_lit 174, hob (nat_lit 174) P) :: (nat_lit 176, hob (nat_lit 176) P) :: (nat_lit 177, hob (nat_lit 177) P) :: (nat_lit 179, hob (nat_lit 179) P) :: (nat_lit 180, hob (nat_lit 180) P) :: (nat_lit 181, hob (nat_lit 181) P) :: (nat_lit 183, hob (nat_lit 183) P) :: (nat_lit 184, hob (nat_lit 184) P) :: (nat_lit 186, hob (nat_lit 186) P) :: (nat_lit 187, hob (nat_lit 187) P) :: (nat_lit 188, hob (nat_lit 188) P) :: (nat_lit 190, hob (nat_lit 190) P) :: (nat_lit 191, hob (nat_lit 191) P) :: (nat_lit 193, hob (nat_lit 193) P) :: (nat_lit 194, hob (nat_lit 194) P) :: (nat_lit 195, hob (nat_lit 195) P) :: (nat_lit 196, hob (nat_lit 196) P) :: (nat_lit 197, hob (nat_lit 197) P) :: (nat_lit 199, hob (nat_lit 199) P) :: (nat_lit 200, hob (nat_lit 200) P) :: (nat_lit 202, hob (nat_lit 202) P) :: (nat_lit 203, hob (nat_lit 203) P) :: (nat_lit 204, hob (nat_lit 204) P) :: (nat_lit 206, hob (nat_lit 206) P) :: (nat_lit 207, hob (nat_lit 207) P) :: (nat_lit 209, hob (nat_lit 209) P) :: (nat_lit 210, hob (nat_lit 210) P) :: (nat_lit 211, hob (nat_lit 211) P) :: (nat_lit 214, hob (nat_lit 214) P) :: (nat_lit 215, hob (nat_lit 215) P) :: (nat_lit 216, hob (nat_lit 216) P) :: (nat_lit 218, hob (nat_lit 218) P) :: (nat_lit 219, hob (nat_lit 219) P) :: (nat_lit 221, hob (nat_lit 221) P) :: (nat_lit 222, hob (nat_lit 222) P) :: (nat_lit 223, hob (nat_lit 223) P) :: (nat_lit 225, hob (nat_lit 225) P) :: (nat_lit 226, hob (nat_lit 226) P) :: (nat_lit 228, hob (nat_lit 228) P) :: (nat_lit 229, hob (nat_lit 229) P) :: (nat_lit 230, hob (nat_lit 230) P) :: (nat_lit 232, hob (nat_lit 232) P) :: (nat_lit 233, hob (nat_lit 233) P) :: (nat_lit 235, hob (nat_lit 235) P) :: (nat_lit 236, hob (nat_lit 236) P) :: (nat_lit 237, hob (nat_lit 237) P) :: (nat_lit 240, hob (nat_lit 240) P) :: (nat_lit 241, hob (nat_lit 241) P) :: (nat_lit 242, hob (nat_lit 242) P) :: (nat_lit 245, hob (nat_lit 245) P) :: (nat_lit 246, hob (nat_lit 246) P) :: (nat_lit 247, hob (nat_lit 247) P) :: (nat_lit 249, hob (nat_lit 249) P) :: (nat_lit 250, hob (nat_lit 250) P) :: (nat_lit 252, hob (nat_lit 252) P) :: (nat_lit 253, hob (nat_lit 253) P) :: (nat_lit 254, hob (nat_lit 254) P) :: (nat_lit 256, hob (nat_lit 256) P) :: (nat_lit 257, hob (nat_lit 257) P) :: (nat_lit 259, hob (nat_lit 259) P) :: (nat_lit 260, hob (nat_lit 260) P) :: (nat_lit 261, hob (nat_lit 261) P) :: (nat_lit 264, hob (nat_lit 264) P) :: (nat_lit 265, hob (nat_lit 265) P) :: (nat_lit 266, hob (nat_lit 266) P) :: (nat_lit 269, hob (nat_lit 269) P) :: (nat_lit 270, hob (nat_lit 270) P) :: (nat_lit 271, hob (nat_lit 271) P) :: (nat_lit 273, hob (nat_lit 273) P) :: (nat_lit 274, hob (nat_lit 274) P) :: (nat_lit 276, hob (nat_lit 276) P) :: (nat_lit 277, hob (nat_lit 277) P) :: (nat_lit 278, hob (nat_lit 278) P) :: (nat_lit 281, hob (nat_lit 281) P) :: (nat_lit 282, hob (nat_lit 282) P) :: (nat_lit 283, hob (nat_lit 283) P) :: (nat_lit 285, hob (nat_lit 285) P) :: (nat_lit 286, hob (nat_lit 286) P) :: (nat_lit 288, hob (nat_lit 288) P) :: (nat_lit 289, hob (nat_lit 289) P) :: (nat_lit 290, hob (nat_lit 290) P) :: (nat_lit 292, hob (nat_lit 292) P) :: (nat_lit 293, hob (nat_lit 293) P) :: (nat_lit 295, hob (nat_lit 295) P) :: (nat_lit 296, hob (nat_lit 296) P) :: (nat_lit 297, hob (nat_lit 297) P) :: (nat_lit 299, hob (nat_lit 299) P) :: (nat_lit 300, hob (nat_lit 300) P) :: (nat_lit 302, hob (nat_lit 302) P) :: (nat_lit 303, hob (nat_lit 303) P) :: (nat_lit 304, hob (nat_lit 304) P) :: (nat_lit 306, hob (nat_lit 306) P) :: (nat_lit 307, hob (nat_lit 307) P) :: (nat_lit 309, hob (nat_lit 309) P) :: (nat_lit 310, hob (nat_lit 310) P) :: (nat_lit 311, hob (nat_lit 311) P) :: (nat_lit 313, hob (nat_lit 313) P) :: (nat_lit 314, hob (nat_lit 314) P) :: (nat_lit 316, hob (nat_lit 316) P) :: (nat_lit 317, hob (nat_lit 317) P) :: (nat_lit 318, hob (nat_lit 318) P) :: (nat_lit 321, hob (nat_lit 321) P) :: (nat_lit 322, hob (nat_lit 322) P) :: (nat_lit 323, hob (nat_lit 323) P) :: (nat_lit 326, hob (nat_lit 326) P) :: (nat_lit 327, hob (nat_lit 327) P) :: []
theorem all_ok {P : Program} {w : World} {K : Fg} {mg : Str → Option Value} {base : Heap} (M : Mg mg) {aT aL : Addr} {fT fL : Str → Option Value} (J0 : JTab0 w K mg aT aL fT fL) (F1 : Fn K mg "single_row" sSingle) (F2 : Fn K mg "better_row" sBetterRow) (F3 : Fn K mg "sum_row" sSumRow) (F4 : Fn K mg "share_row" sShareRow) (F5 : Fn K mg "shut_row" sShutRow) (F6 : Fn K mg "without" sWithout) (F7 : Fn K mg "either_row" sEitherRow) (F8 : Fn K mg "like_row" sLikeRow) (F9 : Fn K mg "most_of" sMost) (F10 : Fn K mg "is_whole" sIsWhole) (F11 : Fn K mg "is_number_of" sIsNum) (F12 : Fn K mg "is_pair" sIsPair) (F13 : Fn K mg "is_ahead" sIsAhead) (F14 : Fn K mg "is_part" sIsPart) (F15 : Fn K mg "is_hold" sIsHold) (F16 : Fn K mg "are_holds" sAreHolds) (F17 : Fn K mg "is_turn" sIsTurn) (F18 : Fn K mg "turned" sTurned) (F19 : Fn K mg "turn_keeps" sKeepsT) (F20 : Fn K mg "told_given" sTGiven) (F21 : Fn K mg "told_low" sTLow) (F22 : Fn K mg "told_high" sTHigh) (F23 : Fn K mg "told_better" sTBetter) (F24 : Fn K mg "told_share" sTShare) (F25 : Fn K mg "told_shut" sTShut) (F26 : Fn K mg "told_either" sTEither) (F27 : Fn K mg "told_like" sTLike) (F28 : Fn K mg "told_sum" sTSum) (F29 : Fn K mg "row_told" sRowTold) (F30 : Fn K mg "rows_told" sRowsTold) (F31 : Fn K mg "is_broken" sIsBroken) (F32 : Fn K mg "judged" sJudged) (F33 : Fn K mg "_law_mix" sMix10) (F34 : Fn K mg "_law_draws" sDraws10) (F35 : Fn K mg "_law_row" sRow10) (F36 : Fn K mg "_law_problem" sProblem10) (F37 : Fn K mg "_law_turned" sTurned10) (F38 : Fn K mg "_law_alike" sAlike10) (F39 : Fn K mg "_law_even" sEven10) (F40 : Fn K mg "_law_given" sGiven10) (F41 : Fn K mg "_law_sum" sSum13) (F42 : Fn K mg "_law_points" sPoints) (F43 : Fn K mg "_law_kept" sKept13) (F44 : Fn K mg "_law_holds" sHolds12) (F45 : Fn K mg "_law_turn" sTurn12) (F46 : Fn K mg "_law_line" sLine12) (F47 : Fn K mg "_law_paper" sPaper12) (F48 : Fn K mg "_law_greatest" sGreat12) {f : Addr} {fd : FuncData} (F49 : Fun K "law" "law" sLaw f fd) : FnOk P w K mg base CX0 11 f fd ["_law_script"] (spLaw K) := by
 have h_c_single_row := okSingle (P := P) (w := w) (base := base) F1 M
 have h_c_better_row := okBetterRow (P := P) (w := w) (base := base) F2 M
 have h_c_sum_row := okSumRow (P := P) (w := w) (base := base) F3 M
 have h_c_share_row := okShareRow (P := P) (w := w) (base := base) F4 M
 have h_c_shut_row := okShutRow (P := P) (w := w) (base := base) F5 M
 have h_c_without := okWithout (P := P) (w := w) (base := base) F6 M
 have h_c_either_row := okEitherRow (P := P) (w := w) (base := base) F7 M h_c_without
 have h_c_like_row := okLikeRow (P := P) (w := w) (base := base) F8 M
 have h_c_most_of := okMost (P := P) (w := w) (base := base) F9 M
 have h_c_is_whole := okIsWhole (P := P) (w := w) (base := base) F10 M
 have h_c_is_number_of := okIsNum (P := P) (w := w) (base := base) F11 M h_c_is_whole
 have h_c_is_pair := okIsPair (P := P) (w := w) (base := base) F12 M
 have h_c_is_ahead := okIsAhead (P := P) (w := w) (base := base) F13 M h_c_is_number_of
 have h_c_is_part := okIsPart (P := P) (w := w) (base := base) F14 M h_c_is_pair h_c_is_ahead h_c_is_whole
 have h_c_is_hold := okIsHold (P := P) (w := w) (base := base) F15 M h_c_is_pair h_c_is_number_of
 have h_c_are_holds := okAreHolds (P := P) (w := w) (base := base) F16 M h_c_is_hold
 have h_c_is_turn := okIsTurn (P := P) (w := w) (base := base) F17 M h_c_is_number_of
 have h_c_turned := okTurned (P := P) (w := w) (base := base) F18 M
 have h_c_turn_keeps := okKeepsT (P := P) (w := w) (base := base) F19 M h_c_turned
 have h_c_told_given := okTGiven (P := P) (w := w) (base := base) F20 M h_c_is_number_of
 have h_c_told_low := okTLow (P := P) (w := w) (base := base) F21 M h_c_is_number_of h_c_single_row
 have h_c_told_high := okTHigh (P := P) (w := w) (base := base) F22 M h_c_is_number_of h_c_single_row
 have h_c_told_better := okTBetter (P := P) (w := w) (base := base) F23 M h_c_is_whole h_c_better_row
 have h_c_told_share := okTShare (P := P) (w := w) (base := base) F24 M h_c_is_ahead h_c_is_whole h_c_share_row
 have h_c_told_shut := okTShut (P := P) (w := w) (base := base) F25 M h_c_is_ahead h_c_are_holds h_c_most_of h_c_shut_row
 have h_c_told_either := okTEither (P := P) (w := w) (base := base) F26 M h_c_is_ahead h_c_is_number_of h_c_without h_c_either_row
 have h_c_told_like := okTLike (P := P) (w := w) (base := base) F27 M h_c_is_turn h_c_turn_keeps h_c_like_row
 have h_c_told_sum := okTSum (P := P) (w := w) (base := base) F28 M h_c_is_part h_c_sum_row
 have JT := jtabs_of (P := P) (base := base) J0 h_c_told_given h_c_told_low h_c_told_high h_c_told_better h_c_told_sum h_c_told_share h_c_told_shut h_c_told_either h_c_told_like
 have h_c_row_told := okRowTold (P := P) (w := w) (base := base) F29 M JT
 have h_c_rows_told := okRowsTold (P := P) (w := w) (base := base) F30 M h_c_row_told
 have h_c_is_broken := okIsBroken (P := P) (w := w) (base := base) F31 M
 have h_c_judged := okJudged (P := P) (w := w) (base := base) F32 M h_c_rows_told h_c_is_broken
 have h_cl_mix := okMix10 (P := P) (w := w) (base := base) F33 M
 have h_cl_draws := okDraws10 (P := P) (w := w) (base := base) F34 M h_cl_mix
 have h_cl_row := okRow10 (P := P) (w := w) (base := base) F35 M
 have h_cl_problem := okProblem10 (P := P) (w := w) (base := base) F36 M h_cl_row
 have h_cl_turned := okTurned10 (P := P) (w := w) (base := base) F37 M
 have h_cl_alike := okAlike10 (P := P) (w := w) (base := base) F38 M h_cl_turned
 have h_cl_even := okEven10 (P := P) (w := w) (base := base) F39 M
 have h_cl_given := okGiven10 (P := P) (w := w) (base := base) F40 M h_cl_problem h_cl_alike h_cl_even
 have h_cl_sum := okSum13 (P := P) (w := w) (base := base) F41 M
 have h_cl_points := okPoints (P := P) (w := w) (base := base) F42 M
 have h_cl_kept := okKept13 (P := P) (w := w) (base := base) F43 M h_cl_sum
 have h_cl_holds := okHolds12 (P := P) (w := w) (base := base) F44 M
 have h_cl_turn := okTurn12 (P := P) (w := w) (base := base) F45 M
 have h_cl_line := okLine12 (P := P) (w := w) (base := base) F46 M h_cl_holds h_cl_turn
 have h_cl_paper := okPaper12 (P := P) (w := w) (base := base) F47 M h_cl_line h_c_rows_told
 have h_cl_greatest := okGreat12 (P := P) (w := w) (base := base) F48 M
 have h_c_law := okLaw (P := P) (w := w) (base := base) F49 M h_cl_draws h_cl_given h_cl_paper h_cl_points h_cl_kept h_cl_greatest h_cl_sum h_c_rows_told h_c_judged
 exact h_c_law
theorem walk {l : PySem.W.OpenLaw} {q : Program} {loose : List Str} {XP : (Str → Option Value) → Heap → Prop} {YP : World → Heap → Prop} {d : DefRec} {K : Params → Fg} (hn : l.most = some 63) (hdf : d.params.defaults = [])
  (hY : ∀ (w : World) (h : Heap), YP w h → (K w.params).In h)
  (F : ∀ (w : World) (mg : Str → Option Value) (fa : Addr) (h : Heap), (K w.params).In h → h.Ns mainGlobals mg → mg d.name = some (.ref fa) →
   ∃ fd : FuncData, (∀ (s : Shared) (u : Value), BindsTo s fd ⟨[u], []⟩ [("_law_script", u)]) ∧ ∀ base : Heap, (K w.params).In base → base.Ns mainGlobals mg → FnOk l.prog w (K w.params) mg base CX0 11 fa fd ["_law_script"] (spLaw (K w.params))) :
  PySem.W.WalkO q loose XP YP l.row.toRowW d [] (fun f vs => PySem.call f vs) :=
 L2.walk_of (n := 63) (k := 11) (x := "_law_script") (CX := fun _ => CX0) (sp := fun w => spLaw (K w.params)) hn (by decide) hdf ⟨rfl, by decide, by decide⟩ hY F (fun _ _ a ns hl hb hS => ⟨a, ns, rfl, hS, hl, fun _ => rfl⟩) fun _ _ _ _ _ z => z
end Nb
def Nb.pwv : PySem.Program := { PySem.Challenge.pw_nonebetter_k12_whole_what_is_let_by_is_s with main := { PySem.Challenge.pw_nonebetter_k12_whole_what_is_let_by_is_s.main with body := [Nb.htop 0, Nb.htop 1, Nb.htop 2, Nb.htop 3, Nb.htop 4, Nb.htop 5, Nb.htop 6, Nb.htop 7, Nb.htop 8, Nb.htop 9, Nb.htop 10, Nb.htop 11, Nb.htop 12, Nb.htop 13, Nb.htop 14, Nb.htop 15, Nb.htop 16, Nb.htop 17, Nb.htop 18, Nb.htop 19, Nb.htop 20, Nb.htop 21, Nb.htop 22, Nb.htop 23, Nb.htop 24, Nb.htop 25, Nb.htop 26, Nb.htop 27, Nb.htop 28, Nb.htop 29, Nb.htop 30, Nb.htop 31, Nb.htop 32, Nb.htop 33, Nb.htop 34, Nb.htop 35, Nb.htop 36, Nb.htop 37, Nb.htop 38, Nb.htop 39, Nb.htop 40, Nb.htop 41, Nb.htop 42, Nb.htop 43, Nb.htop 44, Nb.htop 45, Nb.htop 46, Nb.htop 47, Nb.htop 48, Nb.htop 49, Nb.htop 50, Nb.htop 51, Nb.htop 52, Nb.htop 53, Nb.htop 54, Nb.htop 55] } }
def PySem.W.Fast.tw1653918685017820470 : Nat → PySem.Params → PySem.Obj := Nb.hob
theorem PySem.W.Fast.te1653918685017820470 : Nb.hob = PySem.W.Fast.tw1653918685017820470 := rfl
def PySem.W.Fast.tw6660205997649257576 : PySem.Program := PySem.Challenge.pw_nonebetter_k12_whole_what_is_let_by_is_s
theorem PySem.W.Fast.te6660205997649257576 : PySem.Challenge.pw_nonebetter_k12_whole_what_is_let_by_is_s = PySem.W.Fast.tw6660205997649257576 := rfl
def PySem.W.Fast.tw9401860820342270615 : PySem.Program := Nb.pwv
theorem PySem.W.Fast.te9401860820342270615 : Nb.pwv = PySem.W.Fast.tw9401860820342270615 := rfl
def PySem.W.Fast.tw11570947652754012800 : Nat → PySem.Stmt := Nb.htop
theorem PySem.W.Fast.te11570947652754012800 : Nb.htop = PySem.W.Fast.tw11570947652754012800 := rfl
namespace PySem.W.Fast
def tw6719675856184143344 := 0
def tw10080383478261686992 := 0
def tw16756869739877095333 := 0
def tw14766718261026487009 := 0
def tw11517794205203666417 := 0
def tw13786813901656908918 := 0
def tw16952323558856763954 := 0
end PySem.W.Fast
open PySem PySem.W PyProof.Rows
set_option maxRecDepth 100000 in
set_option maxHeartbeats 0 in
theorem PySem.Challenge.cw_nonebetter_k12_whole_what_is_let_by_is_s_holds : PySem.Challenge.rw_nonebetter_k12_whole_what_is_let_by_is_s.Holds := by
 w_on; refine PySem.W.holds_law (by kernel_rfl) fun said => ?_; show PySem.W.OpenRow.Holds { PySem.Challenge.rw_nonebetter_k12_whole_what_is_let_by_is_s.row with prog := Nb.pwv }; o_head (PySem.W.kHook Nb.heapK (nat_lit 2 :: nat_lit 3 :: nat_lit 15 :: nat_lit 17 :: nat_lit 18 :: nat_lit 20 :: nat_lit 21 :: nat_lit 22 :: nat_lit 24 :: nat_lit 25 :: nat_lit 27 :: nat_lit 28 :: nat_lit 29 :: nat_lit 31 :: nat_lit 32 :: nat_lit 34 :: nat_lit 35 :: nat_lit 36 :: nat_lit 38 :: nat_lit 39 :: nat_lit 41 :: nat_lit 42 :: nat_lit 43 :: nat_lit 46 :: nat_lit 47 :: nat_lit 48 :: nat_lit 51 :: nat_lit 52 :: nat_lit 53 :: nat_lit 56 :: nat_lit 57 :: nat_lit 58 :: nat_lit 60 :: nat_lit 61 :: nat_lit 63 :: nat_lit 64 :: nat_lit 65 :: nat_lit 67 :: nat_lit 68 :: nat_lit 70 :: nat_lit 71 :: nat_lit 72 :: nat_lit 74 :: nat_lit 75 :: nat_lit 77 :: nat_lit 78 :: nat_lit 79 :: nat_lit 81 :: nat_lit 82 :: nat_lit 84 :: nat_lit 85 :: nat_lit 86 :: nat_lit 88 :: nat_lit 89 :: nat_lit 91 :: nat_lit 92 :: nat_lit 93 :: nat_lit 95 :: nat_lit 96 :: nat_lit 98 :: nat_lit 99 :: nat_lit 100 :: nat_lit 103 :: nat_lit 104 :: nat_lit 105 :: nat_lit 107 :: nat_lit 108 :: nat_lit 110 :: nat_lit 111 :: nat_lit 112 :: nat_lit 114 :: nat_lit 115 :: nat_lit 117 :: nat_lit 118 :: nat_lit 119 :: nat_lit 121 :: nat_lit 122 :: nat_lit 124 :: nat_lit 125 :: nat_lit 126 :: nat_lit 129 :: nat_lit 130 :: nat_lit 131 :: nat_lit 134 :: nat_lit 135 :: nat_lit 136 :: nat_lit 138 :: nat_lit 139 :: nat_lit 141 :: nat_lit 142 :: nat_lit 143 :: nat_lit 145 :: nat_lit 146 :: nat_lit 148 :: nat_lit 149 :: nat_lit 150 :: nat_lit 152 :: nat_lit 153 :: nat_lit 155 :: nat_lit 156 :: nat_lit 157 :: nat_lit 159 :: nat_lit 160 :: nat_lit 162 :: nat_lit 163 :: nat_lit 164 :: nat_lit 167 :: nat_lit 168 :: nat_lit 169 :: nat_lit 172 :: nat_lit 173 :: nat_lit 174 :: nat_lit 176 :: nat_lit 177 :: nat_lit 179 :: nat_lit 180 :: nat_lit 181 :: nat_lit 183 :: nat_lit 184 :: nat_lit 186 :: nat_lit 187 :: nat_lit 188 :: nat_lit 190 :: nat_lit 191 :: nat_lit 193 :: nat_lit 194 :: nat_lit 195 :: nat_lit 196 :: nat_lit 197 :: nat_lit 199 :: nat_lit 200 :: nat_lit 202 :: nat_lit 203 :: nat_lit 204 :: nat_lit 206 :: nat_lit 207 :: nat_lit 209 :: nat_lit 210 :: nat_lit 211 :: nat_lit 214 :: nat_lit 215 :: nat_lit 216 :: nat_lit 218 :: nat_lit 219 :: nat_lit 221 :: nat_lit 222 :: nat_lit 223 :: nat_lit 225 :: nat_lit 226 :: nat_lit 228 :: nat_lit 229 :: nat_lit 230 :: nat_lit 232 :: nat_lit 233 :: nat_lit 235 :: nat_lit 236 :: nat_lit 237 :: nat_lit 240 :: nat_lit 241 :: nat_lit 242 :: nat_lit 245 :: nat_lit 246 :: nat_lit 247 :: nat_lit 249 :: nat_lit 250 :: nat_lit 252 :: nat_lit 253 :: nat_lit 254 :: nat_lit 256 :: nat_lit 257 :: nat_lit 259 :: nat_lit 260 :: nat_lit 261 :: nat_lit 264 :: nat_lit 265 :: nat_lit 266 :: nat_lit 269 :: nat_lit 270 :: nat_lit 271 :: nat_lit 273 :: nat_lit 274 :: nat_lit 276 :: nat_lit 277 :: nat_lit 278 :: nat_lit 281 :: nat_lit 282 :: nat_lit 283 :: nat_lit 285 :: nat_lit 286 :: nat_lit 288 :: nat_lit 289 :: nat_lit 290 :: nat_lit 292 :: nat_lit 293 :: nat_lit 295 :: nat_lit 296 :: nat_lit 297 :: nat_lit 299 :: nat_lit 300 :: nat_lit 302 :: nat_lit 303 :: nat_lit 304 :: nat_lit 306 :: nat_lit 307 :: nat_lit 309 :: nat_lit 310 :: nat_lit 311 :: nat_lit 313 :: nat_lit 314 :: nat_lit 316 :: nat_lit 317 :: nat_lit 318 :: nat_lit 321 :: nat_lit 322 :: nat_lit 323 :: nat_lit 326 :: nat_lit 327 :: []) (fun _ => by kernel_rfl)); (case hw => w_witness2)
 k_fill
 refine Nb.walk (l := PySem.Challenge.rw_nonebetter_k12_whole_what_is_let_by_is_s) rfl rfl (fun w h Y => PySem.W.kIn_of Y) ?F
 case F =>
  intro w mg fa h KX G hmg
  have F1 : L2.Fn (L2.KOf KX) mg "single_row" Nb.sSingle := by
   dsimp only [L2.KOf]
   refine' L2.fn_mk KX G ?a ?l ?c ?k
   (case a => k_is); (case l => k_is); (case c => k_is); (case k => k_is)
  have F2 : L2.Fn (L2.KOf KX) mg "better_row" Nb.sBetterRow := by
   dsimp only [L2.KOf]
   refine' L2.fn_mk KX G ?a ?l ?c ?k
   (case a => k_is); (case l => k_is); (case c => k_is); (case k => k_is)
  have F3 : L2.Fn (L2.KOf KX) mg "sum_row" Nb.sSumRow := by
   dsimp only [L2.KOf]
   refine' L2.fn_mk KX G ?a ?l ?c ?k
   (case a => k_is); (case l => k_is); (case c => k_is); (case k => k_is)
  have F4 : L2.Fn (L2.KOf KX) mg "share_row" Nb.sShareRow := by
   dsimp only [L2.KOf]
   refine' L2.fn_mk KX G ?a ?l ?c ?k
   (case a => k_is); (case l => k_is); (case c => k_is); (case k => k_is)
  have F5 : L2.Fn (L2.KOf KX) mg "shut_row" Nb.sShutRow := by
   dsimp only [L2.KOf]
   refine' L2.fn_mk KX G ?a ?l ?c ?k
   (case a => k_is); (case l => k_is); (case c => k_is); (case k => k_is)
  have F6 : L2.Fn (L2.KOf KX) mg "without" Nb.sWithout := by
   dsimp only [L2.KOf]
   refine' L2.fn_mk KX G ?a ?l ?c ?k
   (case a => k_is); (case l => k_is); (case c => k_is); (case k => k_is)
  have F7 : L2.Fn (L2.KOf KX) mg "either_row" Nb.sEitherRow := by
   dsimp only [L2.KOf]
   refine' L2.fn_mk KX G ?a ?l ?c ?k
   (case a => k_is); (case l => k_is); (case c => k_is); (case k => k_is)
  have F8 : L2.Fn (L2.KOf KX) mg "like_row" Nb.sLikeRow := by
   dsimp only [L2.KOf]
   refine' L2.fn_mk KX G ?a ?l ?c ?k
   (case a => k_is); (case l => k_is); (case c => k_is); (case k => k_is)
  have F9 : L2.Fn (L2.KOf KX) mg "most_of" Nb.sMost := by
   dsimp only [L2.KOf]
   refine' L2.fn_mk KX G ?a ?l ?c ?k
   (case a => k_is); (case l => k_is); (case c => k_is); (case k => k_is)
  have F10 : L2.Fn (L2.KOf KX) mg "is_whole" Nb.sIsWhole := by
   dsimp only [L2.KOf]
   refine' L2.fn_mk KX G ?a ?l ?c ?k
   (case a => k_is); (case l => k_is); (case c => k_is); (case k => k_is)
  have F11 : L2.Fn (L2.KOf KX) mg "is_number_of" Nb.sIsNum := by
   dsimp only [L2.KOf]
   refine' L2.fn_mk KX G ?a ?l ?c ?k
   (case a => k_is); (case l => k_is); (case c => k_is); (case k => k_is)
  have F12 : L2.Fn (L2.KOf KX) mg "is_pair" Nb.sIsPair := by
   dsimp only [L2.KOf]
   refine' L2.fn_mk KX G ?a ?l ?c ?k
   (case a => k_is); (case l => k_is); (case c => k_is); (case k => k_is)
  have F13 : L2.Fn (L2.KOf KX) mg "is_ahead" Nb.sIsAhead := by
   dsimp only [L2.KOf]
   refine' L2.fn_mk KX G ?a ?l ?c ?k
   (case a => k_is); (case l => k_is); (case c => k_is); (case k => k_is)
  have F14 : L2.Fn (L2.KOf KX) mg "is_part" Nb.sIsPart := by
   dsimp only [L2.KOf]
   refine' L2.fn_mk KX G ?a ?l ?c ?k
   (case a => k_is); (case l => k_is); (case c => k_is); (case k => k_is)
  have F15 : L2.Fn (L2.KOf KX) mg "is_hold" Nb.sIsHold := by
   dsimp only [L2.KOf]
   refine' L2.fn_mk KX G ?a ?l ?c ?k
   (case a => k_is); (case l => k_is); (case c => k_is); (case k => k_is)
  have F16 : L2.Fn (L2.KOf KX) mg "are_holds" Nb.sAreHolds := by
   dsimp only [L2.KOf]
   refine' L2.fn_mk KX G ?a ?l ?c ?k
   (case a => k_is); (case l => k_is); (case c => k_is); (case k => k_is)
  have F17 : L2.Fn (L2.KOf KX) mg "is_turn" Nb.sIsTurn := by
   dsimp only [L2.KOf]
   refine' L2.fn_mk KX G ?a ?l ?c ?k
   (case a => k_is); (case l => k_is); (case c => k_is); (case k => k_is)
  have F18 : L2.Fn (L2.KOf KX) mg "turned" Nb.sTurned := by
   dsimp only [L2.KOf]
   refine' L2.fn_mk KX G ?a ?l ?c ?k
   (case a => k_is); (case l => k_is); (case c => k_is); (case k => k_is)
  have F19 : L2.Fn (L2.KOf KX) mg "turn_keeps" Nb.sKeepsT := by
   dsimp only [L2.KOf]
   refine' L2.fn_mk KX G ?a ?l ?c ?k
   (case a => k_is); (case l => k_is); (case c => k_is); (case k => k_is)
  have F20 : L2.Fn (L2.KOf KX) mg "told_given" Nb.sTGiven := by
   dsimp only [L2.KOf]
   refine' L2.fn_mk KX G ?a ?l ?c ?k
   (case a => k_is); (case l => k_is); (case c => k_is); (case k => k_is)
  have F21 : L2.Fn (L2.KOf KX) mg "told_low" Nb.sTLow := by
   dsimp only [L2.KOf]
   refine' L2.fn_mk KX G ?a ?l ?c ?k
   (case a => k_is); (case l => k_is); (case c => k_is); (case k => k_is)
  have F22 : L2.Fn (L2.KOf KX) mg "told_high" Nb.sTHigh := by
   dsimp only [L2.KOf]
   refine' L2.fn_mk KX G ?a ?l ?c ?k
   (case a => k_is); (case l => k_is); (case c => k_is); (case k => k_is)
  have F23 : L2.Fn (L2.KOf KX) mg "told_better" Nb.sTBetter := by
   dsimp only [L2.KOf]
   refine' L2.fn_mk KX G ?a ?l ?c ?k
   (case a => k_is); (case l => k_is); (case c => k_is); (case k => k_is)
  have F24 : L2.Fn (L2.KOf KX) mg "told_share" Nb.sTShare := by
   dsimp only [L2.KOf]
   refine' L2.fn_mk KX G ?a ?l ?c ?k
   (case a => k_is); (case l => k_is); (case c => k_is); (case k => k_is)
  have F25 : L2.Fn (L2.KOf KX) mg "told_shut" Nb.sTShut := by
   dsimp only [L2.KOf]
   refine' L2.fn_mk KX G ?a ?l ?c ?k
   (case a => k_is); (case l => k_is); (case c => k_is); (case k => k_is)
  have F26 : L2.Fn (L2.KOf KX) mg "told_either" Nb.sTEither := by
   dsimp only [L2.KOf]
   refine' L2.fn_mk KX G ?a ?l ?c ?k
   (case a => k_is); (case l => k_is); (case c => k_is); (case k => k_is)
  have F27 : L2.Fn (L2.KOf KX) mg "told_like" Nb.sTLike := by
   dsimp only [L2.KOf]
   refine' L2.fn_mk KX G ?a ?l ?c ?k
   (case a => k_is); (case l => k_is); (case c => k_is); (case k => k_is)
  have F28 : L2.Fn (L2.KOf KX) mg "told_sum" Nb.sTSum := by
   dsimp only [L2.KOf]
   refine' L2.fn_mk KX G ?a ?l ?c ?k
   (case a => k_is); (case l => k_is); (case c => k_is); (case k => k_is)
  have F29 : L2.Fn (L2.KOf KX) mg "row_told" Nb.sRowTold := by
   dsimp only [L2.KOf]
   refine' L2.fn_mk KX G ?a ?l ?c ?k
   (case a => k_is); (case l => k_is); (case c => k_is); (case k => k_is)
  have F30 : L2.Fn (L2.KOf KX) mg "rows_told" Nb.sRowsTold := by
   dsimp only [L2.KOf]
   refine' L2.fn_mk KX G ?a ?l ?c ?k
   (case a => k_is); (case l => k_is); (case c => k_is); (case k => k_is)
  have F31 : L2.Fn (L2.KOf KX) mg "is_broken" Nb.sIsBroken := by
   dsimp only [L2.KOf]
   refine' L2.fn_mk KX G ?a ?l ?c ?k
   (case a => k_is); (case l => k_is); (case c => k_is); (case k => k_is)
  have F32 : L2.Fn (L2.KOf KX) mg "judged" Nb.sJudged := by
   dsimp only [L2.KOf]
   refine' L2.fn_mk KX G ?a ?l ?c ?k
   (case a => k_is); (case l => k_is); (case c => k_is); (case k => k_is)
  have F33 : L2.Fn (L2.KOf KX) mg "_law_mix" Nb.sMix10 := by
   dsimp only [L2.KOf]
   refine' L2.fn_mk KX G ?a ?l ?c ?k
   (case a => k_is); (case l => k_is); (case c => k_is); (case k => k_is)
  have F34 : L2.Fn (L2.KOf KX) mg "_law_draws" Nb.sDraws10 := by
   dsimp only [L2.KOf]
   refine' L2.fn_mk KX G ?a ?l ?c ?k
   (case a => k_is); (case l => k_is); (case c => k_is); (case k => k_is)
  have F35 : L2.Fn (L2.KOf KX) mg "_law_row" Nb.sRow10 := by
   dsimp only [L2.KOf]
   refine' L2.fn_mk KX G ?a ?l ?c ?k
   (case a => k_is); (case l => k_is); (case c => k_is); (case k => k_is)
  have F36 : L2.Fn (L2.KOf KX) mg "_law_problem" Nb.sProblem10 := by
   dsimp only [L2.KOf]
   refine' L2.fn_mk KX G ?a ?l ?c ?k
   (case a => k_is); (case l => k_is); (case c => k_is); (case k => k_is)
  have F37 : L2.Fn (L2.KOf KX) mg "_law_turned" Nb.sTurned10 := by
   dsimp only [L2.KOf]
   refine' L2.fn_mk KX G ?a ?l ?c ?k
   (case a => k_is); (case l => k_is); (case c => k_is); (case k => k_is)
  have F38 : L2.Fn (L2.KOf KX) mg "_law_alike" Nb.sAlike10 := by
   dsimp only [L2.KOf]
   refine' L2.fn_mk KX G ?a ?l ?c ?k
   (case a => k_is); (case l => k_is); (case c => k_is); (case k => k_is)
  have F39 : L2.Fn (L2.KOf KX) mg "_law_even" Nb.sEven10 := by
   dsimp only [L2.KOf]
   refine' L2.fn_mk KX G ?a ?l ?c ?k
   (case a => k_is); (case l => k_is); (case c => k_is); (case k => k_is)
  have F40 : L2.Fn (L2.KOf KX) mg "_law_given" Nb.sGiven10 := by
   dsimp only [L2.KOf]
   refine' L2.fn_mk KX G ?a ?l ?c ?k
   (case a => k_is); (case l => k_is); (case c => k_is); (case k => k_is)
  have F41 : L2.Fn (L2.KOf KX) mg "_law_sum" Nb.sSum13 := by
   dsimp only [L2.KOf]
   refine' L2.fn_mk KX G ?a ?l ?c ?k
   (case a => k_is); (case l => k_is); (case c => k_is); (case k => k_is)
  have F42 : L2.Fn (L2.KOf KX) mg "_law_points" Nb.sPoints := by
   dsimp only [L2.KOf]
   refine' L2.fn_mk KX G ?a ?l ?c ?k
   (case a => k_is); (case l => k_is); (case c => k_is); (case k => k_is)
  have F43 : L2.Fn (L2.KOf KX) mg "_law_kept" Nb.sKept13 := by
   dsimp only [L2.KOf]
   refine' L2.fn_mk KX G ?a ?l ?c ?k
   (case a => k_is); (case l => k_is); (case c => k_is); (case k => k_is)
  have F44 : L2.Fn (L2.KOf KX) mg "_law_holds" Nb.sHolds12 := by
   dsimp only [L2.KOf]
   refine' L2.fn_mk KX G ?a ?l ?c ?k
   (case a => k_is); (case l => k_is); (case c => k_is); (case k => k_is)
  have F45 : L2.Fn (L2.KOf KX) mg "_law_turn" Nb.sTurn12 := by
   dsimp only [L2.KOf]
   refine' L2.fn_mk KX G ?a ?l ?c ?k
   (case a => k_is); (case l => k_is); (case c => k_is); (case k => k_is)
  have F46 : L2.Fn (L2.KOf KX) mg "_law_line" Nb.sLine12 := by
   dsimp only [L2.KOf]
   refine' L2.fn_mk KX G ?a ?l ?c ?k
   (case a => k_is); (case l => k_is); (case c => k_is); (case k => k_is)
  have F47 : L2.Fn (L2.KOf KX) mg "_law_paper" Nb.sPaper12 := by
   dsimp only [L2.KOf]
   refine' L2.fn_mk KX G ?a ?l ?c ?k
   (case a => k_is); (case l => k_is); (case c => k_is); (case k => k_is)
  have F48 : L2.Fn (L2.KOf KX) mg "_law_greatest" Nb.sGreat12 := by
   dsimp only [L2.KOf]
   refine' L2.fn_mk KX G ?a ?l ?c ?k
   (case a => k_is); (case l => k_is); (case c => k_is); (case k => k_is)
  have F49 : L2.Fn (L2.KOf KX) mg "law" Nb.sLaw := by
   dsimp only [L2.KOf]
   refine' L2.fn_mk KX G ?a ?l ?c ?k
   (case a => k_is); (case l => k_is); (case c => k_is); (case k => k_is)
  have M : Nb.Mg mg := by
   refine' ⟨PySem.W.mg_none_of KX G ?m_len, PySem.W.mg_none_of KX G ?m_min, PySem.W.mg_none_of KX G ?m_max, PySem.W.mg_none_of KX G ?m_sum, PySem.W.mg_none_of KX G ?m_all, PySem.W.mg_none_of KX G ?m_any, PySem.W.mg_none_of KX G ?m_abs, PySem.W.mg_none_of KX G ?m_isinstance, PySem.W.mg_none_of KX G ?m_sorted, PySem.W.mg_none_of KX G ?m_range_, PySem.W.mg_none_of KX G ?m_zip_, PySem.W.mg_none_of KX G ?m_tuple_, PySem.W.mg_none_of KX G ?m_list_, PySem.W.mg_none_of KX G ?m_int_, PySem.W.mg_none_of KX G ?m_bool_, PySem.W.mg_none_of KX G ?m_dict_, PySem.W.mg_none_of KX G ?m_enumerate_, PySem.W.mg_none_of KX G ?m_reversed_, PySem.W.mg_none_of KX G ?m_ValueError_, PySem.W.mg_none_of KX G ?m_set_, PySem.W.mg_none_of KX G ?m_str_⟩
   (case m_len => k_is)
   (case m_min => k_is)
   (case m_max => k_is)
   (case m_sum => k_is)
   (case m_all => k_is)
   (case m_any => k_is)
   (case m_abs => k_is)
   (case m_isinstance => k_is)
   (case m_sorted => k_is)
   (case m_range_ => k_is)
   (case m_zip_ => k_is)
   (case m_tuple_ => k_is)
   (case m_list_ => k_is)
   (case m_int_ => k_is)
   (case m_bool_ => k_is)
   (case m_dict_ => k_is)
   (case m_enumerate_ => k_is)
   (case m_reversed_ => k_is)
   (case m_ValueError_ => k_is)
   (case m_set_ => k_is)
   (case m_str_ => k_is)
  have J0 : ∃ aT aL fT fL, Nb.JTab0 w (L2.KOf KX) mg aT aL fT fL := by
   dsimp only [L2.KOf]
   refine' ⟨_, _, _, _, Nb.jtab0 (PySem.W.mg_of KX G ?b1) ?l1 ?k1 ?o1 ?e1 (PySem.W.mg_of KX G ?b2) ?l2 ?k2 ?o2 ?e2 (PySem.W.mg_of KX G ?n1) (PySem.W.mg_of KX G ?n2) (PySem.W.mg_of KX G ?n3) (PySem.W.mg_of KX G ?n4) (PySem.W.mg_of KX G ?n5) (PySem.W.mg_of KX G ?n6) (PySem.W.mg_of KX G ?n7) (PySem.W.mg_of KX G ?n8) (PySem.W.mg_of KX G ?n9)⟩
   (case b1 => k_is); (case l1 => k_is); (case k1 => k_keys); (case o1 => decide); (case e1 => exact rfl)
   (case b2 => k_is); (case l2 => k_is); (case k2 => k_keys); (case o2 => decide); (case e2 => exact rfl)
   (case n1 => k_is); (case n2 => k_is); (case n3 => k_is); (case n4 => k_is); (case n5 => k_is); (case n6 => k_is); (case n7 => k_is); (case n8 => k_is); (case n9 => k_is)
  obtain ⟨aT, aL, fT, fL, J0⟩ := J0
  obtain ⟨f, fd, FF, hm⟩ := F49
  have e0 := hmg.symm.trans hm
  cases e0
  refine' ⟨fd, ?b, fun base kb nb => Nb.all_ok M J0 F1 F2 F3 F4 F5 F6 F7 F8 F9 F10 F11 F12 F13 F14 F15 F16 F17 F18 F19 F20 F21 F22 F23 F24 F25 F26 F27 F28 F29 F30 F31 F32 F33 F34 F35 F36 F37 F38 F39 F40 F41 F42 F43 F44 F45 F46 F47 F48 FF⟩
  obtain ⟨oc, od, kV, doc, pm, an, cdv, ct, osl, rfl, lk, hcd⟩ := FF.ex
  exact fun s u => .of_eq rfl

