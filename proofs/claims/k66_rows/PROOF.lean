import PyProof.Rows.All
import Wide.All
import OpenK.AllK
import Wide.FinOn
import Lean
import PyProof.EqAt
import PyProof.EqKinds
import PyProof.TupleCall
import KE.KDictOf
import KE.KRevIter
import KE.KEqDict
import KE.KMinKey
import KE.KTryDeep
import KE.KIsAll
import KE.KSortTup
import OpenK.KTop
import KE.KPairComp
import PyProof.NeKinds
import KE.KDictSum
import PyProof.Rows.SortStr
import PyProof.Rows.SortShellK
import KE.KDictList
import PySem.Challenge.RW_nonebetter_k66_rows_of_books
noncomputable section
abbrev Fg := PySem.W.Frag
section
open PySem PySem.Spec PySem.W PyProof.Rows
abbrev jQ := @wpAny_bind
abbrev jX := @List.length_map
abbrev jY := @List.length_append
abbrev jZ := @Nat.le_refl
abbrev jJ := @List.mem_singleton
abbrev jK := @wpAny_pure
abbrev jV := @List.size_toArray
abbrev jW := @Heap.get?_push_of_some
abbrev kQ := @List.getElem?_eq_some_iff
abbrev kX := @of_decide_eq_true
abbrev kY := @List.take_length
abbrev kZ := @List.mem_of_getElem?
abbrev kJ := @Bool.false_ne_true
abbrev kK := @List.map_append
abbrev kW := @List.length_filterMap_le
abbrev yQ := @decide_eq_true
abbrev yX := @List.mem_append
abbrev yY := @List.mem_filterMap
abbrev yZ := @Int.emod_lt_of_pos
abbrev yJ := @Heap.lt_size
abbrev yK := @Heap.get?_push_size
abbrev yV := @Int.emod_nonneg
abbrev yW := @List.append_nil
abbrev zQ := @List.length_take
abbrev zX := @List.mem_cons_self
abbrev zY := @List.mem_cons
abbrev zZ := @Nat.lt_of_lt_of_le
abbrev zJ := @decide_eq_false
abbrev zK := @List.getElem?_map
abbrev zV := @List.mem_append_right
abbrev zW := @List.append_assoc
abbrev xQ := @Nat.ne_of_lt
abbrev xX := @List.mem_cons_of_mem
abbrev xY := @List.map_cons
abbrev xZ := @List.length_range
abbrev xJ := @List.getElem?_append_left
abbrev xK := @List.length_cons
abbrev xV := @List.length_singleton
abbrev xW := @List.mem_filter
abbrev wQ := @Bool.and_eq_true
abbrev wX := @Nat.succ_le_succ
abbrev wY := @List.take_of_length_le
abbrev wZ := @List.filterMap_cons
abbrev wJ := @List.flatMap_append
abbrev wK := @Nat.lt_of_le_of_lt
abbrev wV := @List.flatMap_nil
abbrev wW := @List.mem_map
abbrev jQa := @List.mem_append_left
abbrev jQb := @Nat.add_le_add_left
abbrev jQc := @Nat.le_trans
abbrev jQd := @Nat.zero_le
abbrev jQe := @List.lookup_cons
abbrev jQf := @Option.toList_none
abbrev jXa := @List.range_succ
abbrev jXb := @Array.length_toList
abbrev jXc := @List.mem_nil_iff
abbrev jXd := @List.mem_flatMap
abbrev jXe := @Nat.min_eq_left
abbrev jXf := @List.find?_cons
abbrev jYa := @List.mem_iff_getElem?
abbrev jYb := @Int.toNat_natCast
abbrev jYc := @Nat.lt_irrefl
abbrev jYd := @Option.isSome_iff_exists
abbrev jYe := @Bool.eq_iff_iff
abbrev jYf := @List.pairwise_singleton
abbrev jZa := @List.map_nil
abbrev jZb := @Option.map_eq_some_iff
abbrev jZc := @List.any_eq_true
abbrev jZd := @List.pairwise_append
abbrev jZe := @List.mem_of_mem_take
abbrev jZf := @Bool.false_eq_true
abbrev jJa := @List.pairwise_cons
abbrev jJb := @List.flatMap_cons
abbrev jJc := @List.all_eq_true
abbrev jJd := @List.length_eq_zero_iff
abbrev jJe := @List.cons_ne_nil
abbrev jJf := @List.nodup_cons
abbrev jKa := @Option.map_some
abbrev jKb := @List.range_zero
abbrev jKc := @Heap.size_push
end
abbrev gE := @List.getElem?_eq_getElem
set_option Elab.async false
set_option linter.all false
set_option maxRecDepth 100000
set_option maxHeartbeats 4000000
set_option bootstrap.genMatcherCode false
set_option genSizeOfSpec false
set_option compiler.extract_closed false
namespace L2
theorem aRfl (h : True := by rfl) : True := h
theorem aDec (h : True := by decide) : True := h
theorem aFst (h : True := by first | exact .inl rfl | exact .inr rfl | assumption) : True := h
theorem aIrf (h : True := by intro _; rfl) : True := h
end L2
namespace L2
open PySem PySem.Spec PyProof.Rows
abbrev Key := Sum Int Str
def Qch : Key → Value → Bool
 | .inl k, v => Value.isInt k v
 | .inr x, v => Value.isStrOf x v
def keyH (w : World) : Key → Int
 | .inl k => hashInt k
 | .inr x => hashStr w x
theorem Xz : ∀ {k : Key} {v : Value}, Qch k v = true → (∃ i t, k = Sum.inl i ∧ v = Value.int i t) ∨ (∃ x t, k = Sum.inr x ∧ v = Value.str x t)
 | .inl i, v, h => by
  obtain ⟨t, e⟩ := Value.isInt_shape (k := i) (v := v) h
  exact .inl ⟨i, t, rfl, e⟩
 | .inr x, v, h => by
  obtain ⟨t, e⟩ := Value.isStrOf_shape (x := x) (v := v) h
  exact .inr ⟨x, t, rfl, e⟩
theorem Qfc (i : Int) (t : Tok) : Qch (.inl i) (.int i t) = true := by simp [Qch, Value.isInt]
theorem Qfd (x : Str) (t : Tok) : Qch (.inr x) (.str x t) = true := by simp [Qch, Value.isStrOf]
theorem key_ll (a b : Int) : decide ((Sum.inl a : Key) = Sum.inl b) = (a == b) := by
 by_cases e : a = b
 ·subst e; simp
 ·have h : ¬ (Sum.inl a : Key) = Sum.inl b := fun q => e (Sum.inl.inj q)
  rw [zJ h]
  exact (beq_eq_false_iff_ne.mpr e).symm
theorem key_rr (a b : Str) : decide ((Sum.inr a : Key) = Sum.inr b) = decide (a = b) := by
 by_cases e : a = b
 ·subst e; simp
 ·have h : ¬ (Sum.inr a : Key) = Sum.inr b := fun q => e (Sum.inr.inj q)
  rw [zJ h, zJ e]
theorem key_lr (a : Int) (b : Str) : decide ((Sum.inl a : Key) = Sum.inr b) = false := zJ (fun q => nomatch q)
theorem key_rl (a : Str) (b : Int) : decide ((Sum.inr a : Key) = Sum.inl b) = false := zJ (fun q => nomatch q)
def Xt (prog : Program) (w : World) : PySem.KeyKind prog w Key where
 is := Qch
 hash := keyH w
 inj := fun v a b ha hb => by
  rcases Xz ha with ⟨i, t, rfl, rfl⟩ | ⟨x, t, rfl, rfl⟩
  ·rcases Xz hb with ⟨j, u, rfl, e⟩ | ⟨y, u, rfl, e⟩
   ·injection e with e1 _; rw [e1]
   ·exact nomatch e
  ·rcases Xz hb with ⟨j, u, rfl, e⟩ | ⟨y, u, rfl, e⟩
   ·exact nomatch e
   ·injection e with e1 _; rw [e1]
 byValue := fun k v h => by
  rcases Xz h with ⟨i, t, rfl, rfl⟩ | ⟨x, t, rfl, rfl⟩ <;> rfl
 pyHash := fun hv h => by
  rcases Xz hv with ⟨i, t, rfl, rfl⟩ | ⟨x, t, rfl, rfl⟩
  ·exact wpAny_pyHash_int h
  ·exact wpAny_pyHash_str h
 eqBool := fun hu hv h => by
  rcases Xz hu with ⟨i, t, rfl, rfl⟩ | ⟨x, t, rfl, rfl⟩
  ·rcases Xz hv with ⟨j, u, rfl, rfl⟩ | ⟨y, u, rfl, rfl⟩
   ·rw [key_ll] at h; exact wpAny_eqBool_int h
   ·rw [key_lr] at h; exact SeqAt.EqAt.int_str i t y u _ _ _ _ h
  ·rcases Xz hv with ⟨j, u, rfl, rfl⟩ | ⟨y, u, rfl, rfl⟩
   ·rw [key_rl] at h; exact SeqAt.EqAt.str_int x t j u _ _ _ _ h
   ·rw [key_rr] at h; exact wpAny_eqBool_str h
 «strs» := fun k x t v h => by
  rcases Xz h with ⟨i, u, rfl, e⟩ | ⟨y, u, rfl, e⟩
  ·exact nomatch e
  ·injection e with e1 _
   subst e1
   cases v <;> rfl
theorem Qee (prog : Program) (w : World) (k : Key) (v : Value) : (Xt prog w).is k v = Qch k v := rfl
theorem Qci (prog : Program) (w : World) (i : Int) (t : Tok) : (Xt prog w).is (.inl i) (.int i t) = true := Qfc i t
theorem Qcj (prog : Program) (w : World) (x : Str) (t : Tok) : (Xt prog w).is (.inr x) (.str x t) = true := Qfd x t
inductive V where
 | non | bl (b : Bool) | int (i : Int) | str (x : Str) | byt (b : Array UInt8) | flt (b : UInt64) | ref (a : Addr) | ty (n : String)
 deriving DecidableEq
def RelV : V → Value → Prop
 | .non, u => u = Value.none
 | .bl b, u => u = Value.bool b
 | .int i, u => ∃ t, u = Value.int i t
 | .str x, u => ∃ t, u = Value.str x t
 | .byt b, u => ∃ t, u = Value.bytes b t
 | .flt b, u => ∃ t, u = Value.float b t
 | .ref a, u => u = Value.ref a
 | .ty n, u => u = Value.type n
abbrev Vals : List V → List Value → Prop := Paired RelV
theorem Vals.length {xs : List V} {us : List Value} (r : Vals xs us) : xs.length = us.length := Paired.length r
theorem Vals.get : ∀ {xs : List V} {us : List Value} {i : Nat} {x : V}, Vals xs us → xs[i]? = some x → ∃ u, us[i]? = some u ∧ RelV x u
 | _, _, _, _, .nil, e => by simp at e
 | _, _, 0, _, .cons r _, e => by simp at e; subst e; exact ⟨_, rfl, r⟩
 | _, _, i + 1, x, .cons _ t, e => by
  obtain ⟨u, h1, h2⟩ := Vals.get (i := i) (x := x) t (by simpa using e)
  exact ⟨u, by simpa using h1, h2⟩
theorem Vals.append {xs ys : List V} {us ws : List Value} (h : Vals xs us) (g : Vals ys ws) : Vals (xs ++ ys) (us ++ ws) := by
 induction h with
 | nil => exact g
 | cons r t ih => exact .cons r ih
theorem Vals.take : ∀ {xs : List V} {us : List Value} (n : Nat), Vals xs us → Vals (xs.take n) (us.take n)
 | _, _, 0, _ => .nil
 | _, _, _ + 1, .nil => .nil
 | _, _, n + 1, .cons r t => .cons r (Vals.take n t)
theorem Vals.drop : ∀ {xs : List V} {us : List Value} (n : Nat), Vals xs us → Vals (xs.drop n) (us.drop n)
 | _, _, 0, r => r
 | _, _, _ + 1, .nil => .nil
 | _, _, n + 1, .cons _ t => Vals.drop n t
def RelO : Option V → Option Value → Prop
 | some v, some u => RelV v u
 | none, none => True
 | _, _ => False
def KV {κ : Type} : List (κ × V) → List (κ × Value) → Prop := Paired fun (p : κ × V) (q : κ × Value) => p.1 = q.1 ∧ RelV p.2 q.2
def kV : Key → V
 | .inl i => .int i
 | .inr x => .str x
inductive HO where
 /-- a list -/
 | lst (xs : List V)
 /-- a tuple (never changes) -/
 | tup (xs : List V)
 /-- a dict whose keys are ints and texts; one whose keys are tuples of ints and texts (the empty one is both) -/
 | dK (kvs : List (Key × V)) | dT (kvs : List (List Key × V))
 /-- a set of ints: its members, its size -/
 | set (S : Int → Bool) (n : Nat)
 /-- an instance of the class at C, its dict at dx, its attributes -/
 | ins (C dx : Addr) (fs : List (Str × V))
 /-- the dict of the instance at x -/
 | own (x : Addr)
 /-- the dict of an exception -/
 | xd (fs : List (Str × V))
 /-- a bound method, f of x -/
 | met (f x : Addr)
 /-- a range object lo, lo + 1, .. below hi -/
 | rng (lo hi : Int)
 /-- a thing that is known to the object (the script; a dict while a loop walks it): read, never written while it is so -/
 | frz (o : Obj) (u : HO)
 /-- a code object's table -/
 | tbl (ps : Array Value)
 /-- any other thing, by what is true of its one object (a def of one's own: SetO a S n := HO.ext fun h => ..) -/
 | ext (φ : Heap → Prop)
abbrev Hp := Addr → Option HO
def upd (H : Hp) (a : Addr) (o : HO) : Hp := fun b => if b = a then some o else H b
theorem Qd {H : Hp} {a : Addr} {o : HO} : upd H a o a = some o := by unfold upd; rw [if_pos rfl]
theorem Qk {H : Hp} {a b : Addr} {o : HO} (h : b ≠ a) : upd H a o b = H b := by unfold upd; rw [if_neg h]
theorem Qkz {H : Hp} {a : Addr} {o u : HO} : upd (upd H a o) a u = upd H a u := by
 funext b; unfold upd; split <;> rfl
theorem Yx {H : Hp} {a b : Addr} {o u : HO} (h : H a = some o) (h' : H b = some u) (d : o ≠ u) : a ≠ b := by
 intro e; subst e; rw [h] at h'; exact d (Option.some.inj h')
theorem Qp {H : Hp} {a b : Addr} {o : HO} (h : H a = some o) (h' : H b = none) : a ≠ b := by
 intro e; subst e; rw [h] at h'; cases h'
section
variable (P : Program) (w : World)
def ObjOk (H : Hp) (h : Heap) (a : Addr) : HO → Prop
 | .lst xs => xs.length ≤ sizeLine ∧ ∃ (its : List Value) (n : Nat), Vals xs its ∧ h.get? a = some { cls := .type "list", data := .seq its.toArray n }
 | .tup xs => xs.length ≤ sizeLine ∧ ∃ its : List Value, Vals xs its ∧ IsTup h a its.toArray
 | .dK kvs => kvs.length ≤ sizeLine ∧ (a == sysModules) = false ∧ ∃ vs, KV kvs vs ∧ h.DictOf (Xt P w) a vs
 | .dT kvs => kvs.length ≤ sizeLine ∧ (a == sysModules) = false ∧ ∃ xs : List (List Key × Addr × Value),
   Paired (fun (p : List Key × V) (q : List Key × Addr × Value) => p.1 = q.1 ∧ H q.2.1 = some (.tup (p.1.map kV)) ∧ RelV p.2 q.2.2) kvs xs ∧
   ∃ o es ep, h.get? a = some o ∧ o.ExactDict ∧ o.data = .dict es ep ∧ es.toList = xs.map (entryOfKey (tupleKind (Xt P w))) ∧ (xs.map (·.1)).Nodup
 | .set S n => h.SetOf (intKind P w) a S n
 | .ins C dx fs => H dx = some (.own a) ∧ fs.length ≤ 1000 ∧ dx ≠ a ∧ h.get? a = some (PySem.W.instObj C dx) ∧
   ∃ mA, h.Ns1 dx mA ∧ (∀ f, RelO (fs.lookup f) (mA f)) ∧ PySem.Within mA (fs.map (·.1))
 | .own _ => ∃ o, h.get? a = some o
 | .xd fs => ∃ mA, h.Ns1 a mA ∧ ∀ f, RelO (fs.lookup f) (mA f)
 | .rng lo hi => ∃ t u v, h.get? a = some { cls := .type "range", data := .fields #[.int lo t, .int hi u, .int 1 v] }
 | .frz o u => h.get? a = some o ∧ ObjOk H h a u
 | .tbl ps => h.get? a = some { cls := .none, data := .fields ps }
 | .met f x => h.get? a = some (PySem.W.methodObj (.ref f) (.ref x))
 | .ext φ => φ h ∧ (∃ o, h.get? a = some o) ∧ ∀ h1 h2 : Heap, φ h1 → (∀ o, h1.get? a = some o → h2.get? a = some o) → φ h2
def HOk (H : Hp) (h : Heap) : Prop := ∀ a o, H a = some o → ObjOk P w H h a o
end
section
variable {P : Program} {w : World} {H H' : Hp} {h h' : Heap} {a : Addr} {o : HO}
theorem ObjOk.lt (x : ObjOk P w H h a o) : a < h.objs.size := by
 cases o with
 | lst xs => obtain ⟨_, _, _, _, e⟩ := x; exact yJ e
 | tup xs => obtain ⟨_, _, _, p⟩ := x; exact p.lt
 | dK kvs => obtain ⟨_, _, _, _, o, _, _, e, _⟩ := x; exact yJ e
 | dT kvs => obtain ⟨_, _, _, _, o, _, _, e, _⟩ := x; exact yJ e
 | set S n => obtain ⟨o, _, _, _, e, _⟩ := x; exact yJ e
 | ins C dx fs => obtain ⟨_, _, _, e, _⟩ := x; exact yJ e
 | own y => obtain ⟨_, e⟩ := x; exact yJ e
 | xd fs => obtain ⟨_, ⟨_, _, _, e, _⟩, _⟩ := x; exact yJ e
 | rng lo hi => obtain ⟨_, _, _, e⟩ := x; exact yJ e
 | frz ob u => obtain ⟨e, _⟩ := x; exact yJ e
 | tbl ps => exact yJ (show h.get? a = some _ from x)
 | met f y => exact yJ (show h.get? a = some _ from x)
 | ext φ => obtain ⟨_, ⟨_, e⟩, _⟩ := x; exact yJ e
theorem Paired.mapP {α β : Type} {F G : α → β → Prop} {l₁ : List α} {l₂ : List β} (h : Paired F l₁ l₂) (f : ∀ a b, F a b → G a b) : Paired G l₁ l₂ := by
 induction h with
 | nil => exact .nil
 | cons r t ih => exact .cons (f _ _ r) ih
theorem ObjOk.stay (x : ObjOk P w H h a o) (k : ∀ b u, (b = a ∨ H b = some (.own a)) → h.get? b = some u → h'.get? b = some u)
  (ho : ∀ b, H b = some (.own a) → H' b = some (.own a)) (ht : ∀ b xs, H b = some (.tup xs) → H' b = some (.tup xs)) : ObjOk P w H' h' a o := by
 induction o with
 | lst xs => obtain ⟨z, its, n, r, e⟩ := x; exact ⟨z, its, n, r, k _ _ (.inl rfl) e⟩
 | tup xs => obtain ⟨z, its, r, ob, e, c⟩ := x; exact ⟨z, its, r, ob, k _ _ (.inl rfl) e, c⟩
 | dK kvs => obtain ⟨z, y, vs, r, ob, es, ep, e, c⟩ := x; exact ⟨z, y, vs, r, ob, es, ep, k _ _ (.inl rfl) e, c⟩
 | dT kvs =>
  obtain ⟨z, y, xs, r, ob, es, ep, e, c⟩ := x
  exact ⟨z, y, xs, Paired.mapP r fun p q z => ⟨z.1, ht _ _ z.2.1, z.2.2⟩, ob, es, ep, k _ _ (.inl rfl) e, c⟩
 | set S n => obtain ⟨ob, es, ep, t, e, c⟩ := x; exact ⟨ob, es, ep, t, k _ _ (.inl rfl) e, c⟩
 | ins C dx fs =>
  obtain ⟨d, z, ne, e, mA, ⟨od, es, ep, e2, c⟩, r⟩ := x
  exact ⟨ho _ d, z, ne, k _ _ (.inl rfl) e, mA, ⟨od, es, ep, k _ _ (.inr d) e2, c⟩, r⟩
 | own y => obtain ⟨ob, e⟩ := x; exact ⟨ob, k _ _ (.inl rfl) e⟩
 | xd fs => obtain ⟨mA, ⟨od, es, ep, e, c⟩, r⟩ := x; exact ⟨mA, ⟨od, es, ep, k _ _ (.inl rfl) e, c⟩, r⟩
 | rng lo hi => obtain ⟨t, u, v, e⟩ := x; exact ⟨t, u, v, k _ _ (.inl rfl) e⟩
 | frz ob u ih => obtain ⟨e, q⟩ := x; exact ⟨k _ _ (.inl rfl) e, ih q⟩
 | tbl ps =>
  have e : h.get? a = some { cls := .none, data := .fields ps } := x
  show h'.get? a = some { cls := .none, data := .fields ps }
  exact k a _ (.inl rfl) e
 | met f y =>
  have e : h.get? a = some (PySem.W.methodObj (.ref f) (.ref y)) := x
  show h'.get? a = some (PySem.W.methodObj (.ref f) (.ref y))
  exact k a _ (.inl rfl) e
 | ext φ => obtain ⟨p, ⟨o, e⟩, st⟩ := x; exact ⟨st _ _ p fun o q => k _ _ (.inl rfl) q, ⟨o, k _ _ (.inl rfl) e⟩, st⟩
theorem HOk.lt (x : HOk P w H h) (e : H a = some o) : a < h.objs.size := (x a o e).lt
theorem HOk.fresh (x : HOk P w H h) (e : h.objs.size ≤ a) : H a = none := by
 cases q : H a with
 | none => rfl
 | some u => exact absurd (zZ (x.lt q) e) (jYc _)
theorem HOk.kept (x : HOk P w H h) (k : ∀ b u, h.get? b = some u → h'.get? b = some u) : HOk P w H h' := fun a o e =>
 (x a o e).stay (fun b u _ q => k b u q) (fun _ q => q) fun _ _ q => q
theorem HOk.laid (x : HOk P w H h) (k : ∀ b u, h.get? b = some u → h'.get? b = some u) (hp : h.objs.size ≤ a) (new : ObjOk P w (upd H a o) h' a o) : HOk P w (upd H a o) h' := fun b u e => by
 have hn := x.fresh hp
 by_cases hb : b = a
 ·subst hb; rw [Qd] at e; cases e; exact new
 ·rw [Qk hb] at e
  exact (x b u e).stay (fun c v _ q => k c v q) (fun c q => by rw [Qk (Qp q hn)]; exact q) fun c xs q => by rw [Qk (Qp q hn)]; exact q
end
def Rd (H : Hp) (a : Addr) (u : HO) : Prop := H a = some u ∨ ∃ o, H a = some (.frz o u)
theorem Rd.ok {P : Program} {w : World} {H : Hp} {h : Heap} {a : Addr} {u : HO} (r : Rd H a u) (x : HOk P w H h) : ObjOk P w H h a u := by
 rcases r with r | ⟨o, r⟩
 ·exact x a u r
 ·obtain ⟨_, q⟩ := x a _ r
  exact q
def Mut : Option HO → Prop
 | some (.lst _) => True
 | some (.dK _) => True
 | some (.dT _) => True
 | some (.set _ _) => True
 | some (.ins _ _ _) => True
 | some (.ext _) => True
 | _ => False
section
variable {P : Program} {w : World} {H : Hp} {h h' : Heap} {x e : Addr} {o' : HO}
theorem HOk.write (ok : HOk P w H h) (mu : Mut (H x)) (he : e = x ∨ H e = some (.own x)) (k : ∀ b u, b ≠ e → h.get? b = some u → h'.get? b = some u) (heo : ∃ u, h'.get? e = some u)
  (new : ObjOk P w (upd H x o') h' x o') : HOk P w (upd H x o') h' := fun b u q => by
 have nown : ∀ c y, H c = some (.own y) → c ≠ x := fun c y r z => by subst z; rw [r] at mu; exact mu
 have ntup : ∀ c xs, H c = some (.tup xs) → c ≠ x := fun c xs r z => by subst z; rw [r] at mu; exact mu
 by_cases hb : b = x
 ·subst hb; rw [Qd] at q; cases q; exact new
 ·rw [Qk hb] at q
  by_cases hbe : b = e
  ·have q' : H b = some (.own x) := by
    rcases he with z | z
    ·exact absurd (hbe.trans z) hb
    ·rw [hbe]; exact z
   rw [q] at q'; cases q'
   obtain ⟨v, hv⟩ := heo
   exact ⟨v, by rw [hbe]; exact hv⟩
  ·refine (ok b u q).stay (fun c v hc r => k c v ?_ r) (fun c r => by rw [Qk (nown c b r)]; exact r) fun c xs r => by rw [Qk (ntup c xs r)]; exact r
   rcases hc with rfl | hc
   ·exact hbe
   ·rintro rfl
    rcases he with z | z
    ·exact nown c b hc z
    ·rw [hc] at z; cases z; exact hb rfl
end
structure Un (fs ex : List Addr) (H H' : Hp) (h h' : Heap) : Prop where
 keep : ∀ b o, h.get? b = some o → H b = none → b ∉ fs → b ∉ ex → h'.get? b = some o
 slot : ∀ b o, h.get? b = some o → H b = none → b ∈ fs → b ∉ ex → ∃ sl, h'.get? b = some { o with slots := sl }
 free : ∀ b o, h.get? b = some o → H b = none → b ∉ ex → H' b = none
 there : ∀ b o, h.get? b = some o → b ∉ ex → ∃ o', h'.get? b = some o'
 tups : ∀ b xs, H b = some (.tup xs) → H' b = some (.tup xs)
 frzs : ∀ b o u, H b = some (.frz o u) → H' b = some (.frz o u)
 tbls : ∀ b ps, H b = some (.tbl ps) → ∃ more, H' b = some (.tbl (ps ++ more))
section
variable {fs fs' ex ex' : List Addr} {H H1 H2 : Hp} {h h1 h2 h' : Heap} {a x e : Addr} {o : HO}
theorem Un.any (u : Un fs ex H H1 h h1) {b : Addr} {ob : Obj} (q : h.get? b = some ob) (n : H b = none) (hx : b ∉ ex) : ∃ sl, h1.get? b = some { ob with slots := sl } := by
 by_cases hb : b ∈ fs
 ·exact u.slot b ob q n hb hx
 ·exact ⟨ob.slots, u.keep b ob q n hb hx⟩
theorem Un.kept (k : ∀ b u, h.get? b = some u → h'.get? b = some u) : Un fs ex H H h h' :=
 ⟨fun b ob q _ _ _ => k b ob q, fun b ob q _ _ _ => ⟨ob.slots, k b ob q⟩, fun _ _ _ n _ => n, fun b ob q _ => ⟨ob, k b ob q⟩, fun _ _ q => q, fun _ _ _ q => q, fun _ ps q => ⟨#[], by rw [q]; simp⟩⟩
theorem Un.refl : Un fs ex H H h h := Un.kept fun _ _ q => q
theorem Un.laid (k : ∀ b u, h.get? b = some u → h'.get? b = some u) (hp : h.objs.size ≤ a) (hn : H a = none) : Un fs ex H (upd H a o) h h' where
 keep := fun b u q _ _ _ => k b u q
 slot := fun b u q _ _ _ => ⟨u.slots, k b u q⟩
 free := fun b u q n _ => by rw [Qk (xQ (zZ (yJ q) hp))]; exact n
 there := fun b u q _ => ⟨u, k b u q⟩
 tups := fun b xs q => by rw [Qk (Qp q hn)]; exact q
 frzs := fun b u xs q => by rw [Qk (Qp q hn)]; exact q
 tbls := fun b ps q => ⟨#[], by rw [Qk (Qp q hn), q]; simp⟩
theorem Un.write (mu : Mut (H x)) (he : e = x ∨ H e = some (.own x)) (k : ∀ b u, b ≠ e → h.get? b = some u → h'.get? b = some u) (heo : ∃ u, h'.get? e = some u) : Un fs ex H (upd H x o) h h' := by
 have hx : ∀ b, H b = none → b ≠ x := fun b n z => by subst z; rw [n] at mu; exact mu
 have hb : ∀ b, H b = none → b ≠ e := fun b n z => by
  subst z
  rcases he with r | r
  ·exact hx b n r
  ·rw [n] at r; cases r
 have hm : ∀ b u, H b = some u → ¬ Mut (some u) → b ≠ x := fun b u q nm z => by subst z; rw [q] at mu; exact nm mu
 refine ⟨fun b u q n _ _ => k b u (hb b n) q, fun b u q n _ _ => ⟨u.slots, k b u (hb b n) q⟩, fun b u q n _ => by rw [Qk (hx b n)]; exact n, fun b u q _ => ?_,
  fun b xs q => by rw [Qk (hm b _ q fun z => z)]; exact q, fun b u xs q => by rw [Qk (hm b _ q fun z => z)]; exact q, fun b ps q => ⟨#[], by rw [Qk (hm b _ q fun z => z), q]; simp⟩⟩
 by_cases hbe : b = e
 ·subst hbe; exact heo
 ·exact ⟨u, k b u hbe q⟩
end
def trk (h : Heap) (H : Hp) : List Addr := (List.range h.objs.size).filter fun a => (H a).isSome
def hidT (h : Heap) (H : Hp) : Heap := PySem.W.hideAll h (trk h H)
theorem Qfe (h : Heap) (H : Hp) : (hidT h H).objs.size = h.objs.size := PySem.W.hideAll_size _ _
theorem Qia {h : Heap} {H : Hp} {b : Addr} {o : Obj} (e : h.get? b = some o) (n : H b = none) : (hidT h H).get? b = some o :=
 PySem.W.hideAll_get _ e fun hm => by
  have q : (H b).isSome = true := (xW.mp hm).2
  rw [n] at q; simp at q
theorem Qla {h : Heap} {H : Hp} {b : Addr} {o : Obj} (e : (hidT h H).get? b = some o) : h.get? b = some o ∧ H b = none := by
 have e' : h.get? b = some o := PySem.W.of_hideAll (trk h H) e
 refine ⟨e', ?_⟩
 cases q : H b with
 | none => rfl
 | some x =>
  have hm : b ∈ trk h H := xW.mpr ⟨List.mem_range.mpr (yJ e'), by simp [q]⟩
  have z : (hidT h H).get? b = none := PySem.W.hideAll_none (trk h H) hm
  rw [z] at e; cases e
structure Mod (K : Fg) (mg : Str → Option Value) (base : Heap) : Prop where
 kin : K.In base
 glob : base.Ns mainGlobals mg
 blt : ∃ mb, base.Ns builtinsNs mb ∧ ∀ x : Str, x ≠ "__name__" → mb x = bootBuiltins x
 nolimit : base.NoLimit
set_option genInjectivity false in
set_option genInjectivity false in
structure Cx where
 prog : Program
 w : World
 K : Fg
 mg : Str → Option Value
 base : Heap
 A : Around
 N : List Str
 s₀ : Shared
 H₀ : Hp
 env : Env
 outer : List Env
 stack : List Env
 ex : List Addr
 fn : Str → Bool
 calm : Bool
 pn : List (Addr × Obj)
 xe : Value → Shared → Prop
def frs (l : List Env) : List Addr := l.filterMap (·.frame)
abbrev Cx.fs (X : Cx) : List Addr := frs X.outer
def Vis (sc : Scope) (x : Str) : Prop := sc.names.lookup x = some .local ∨ sc.names.lookup x = some .cell ∨ sc.names.lookup x = some .free
def Loc (sc : Scope) (x : Str) : Prop := sc.names.lookup x = some .local ∨ sc.names.lookup x = some .cell
def Look (env : Env) (h : Heap) (m : Str → Option Value) (x : Str) (u : Value) : Prop :=
 (env.kindOf x = some .local ∧ m x = some u) ∨ ((env.kindOf x = some .cell ∨ env.kindOf x = some .free) ∧ ∃ c, env.cells.lookup x = some c ∧ h.IsCell c (some u))
structure Cx.Ok (X : Cx) : Prop where
 mod : Mod X.K X.mg X.base
 kind : X.env.scope.kind = .function
 glob : X.env.globals = mainGlobals
 blt : X.env.builtins = builtinsNs
 above : X.s₀.heap.objs.size ≤ X.env.locals
 inj : ∀ x y c, X.env.cells.lookup x = some c → X.env.cells.lookup y = some c → x = y
 has : ∀ x, (X.env.kindOf x = some .cell ∨ X.env.kindOf x = some .free) → ∃ c, X.env.cells.lookup x = some c
 cab : ∀ x c, X.fn x = true → X.env.cells.lookup x = some c → X.s₀.heap.objs.size ≤ c
 hd : X.calm = true → X.A.handled = none
 frames : X.A.frames = some X.stack
 stk : X.stack = X.outer ∨ (X.stack = X.env :: X.outer ∧ X.env.frame = some X.env.locals)
 exf : ∀ b ∈ X.ex, b ≠ X.env.locals ∧ ∀ x c, X.env.cells.lookup x = some c → c ≠ b
 bs : ∀ b o, X.base.get? b = some o → X.s₀.heap.get? b = some o ∧ X.H₀ b = none
 bsz : X.base.objs.size ≤ X.s₀.heap.objs.size
 noex : ∀ b o, X.base.get? b = some o → b ∉ X.ex
 exfs : ∀ b ∈ X.ex, b ∉ X.fs
 funs : X.s₀.heap.FunFrames X.base X.outer
 frf : ∀ b ∈ X.fs, X.H₀ b = none
structure Inv (X : Cx) (pins : List (Addr × Obj)) (σ : List (Option V)) (H : Hp) (s : Shared) : Prop where
 ok : X.Ok
 os : s.os = X.s₀.os
 bare : AllBare s.gens
 base : Un X.fs X.ex X.H₀ H X.s₀.heap s.heap
 loc : ∃ m, s.heap.Ns X.env.locals m ∧ ∀ (i : Nat) (x : Str) (v : V), X.N[i]? = some x → σ[i]? = some (some v) → Vis X.env.scope x → ∃ u, RelV v u ∧ Look X.env s.heap m x u
 cell : ∀ x c, X.env.cells.lookup x = some c → ∃ v, s.heap.IsCell c v
 free : H X.env.locals = none
 freeC : ∀ x c, X.env.cells.lookup x = some c → H c = none
 pin : ∀ p ∈ X.pn ++ pins, s.heap.get? p.1 = some p.2 ∧ H p.1 = none ∧ p.1 ≠ X.env.locals ∧ p.1 ∉ X.fs ∧ ∀ v, p.2.data ≠ .cell v
 hok : HOk X.prog X.w H s.heap
 len : σ.length = X.N.length
section
variable {X : Cx} {pins : List (Addr × Obj)} {σ : List (Option V)} {H H' : Hp} {s : Shared} {h' : Heap}
theorem Cx.Ok.nofr (ok : X.Ok) {b : Addr} {o : Obj} (e : X.base.get? b = some o) : b ∉ X.fs := fun hb => by
 have := (ok.funs.mem hb).1
 rw [e] at this; cases this
theorem Inv.bs (I : Inv X pins σ H s) : ∀ b o, X.base.get? b = some o → s.heap.get? b = some o ∧ H b = none := fun b o e =>
 ⟨I.base.keep b o (I.ok.bs b o e).1 (I.ok.bs b o e).2 (I.ok.nofr e) (I.ok.noex b o e), I.base.free b o (I.ok.bs b o e).1 (I.ok.bs b o e).2 (I.ok.noex b o e)⟩
theorem Inv.bk (I : Inv X pins σ H s) : ∀ b o, X.base.get? b = some o → s.heap.get? b = some o := fun b o e => (I.bs b o e).1
theorem Inv.mod (I : Inv X pins σ H s) : Mod X.K X.mg X.base := I.ok.mod
theorem Inv.kIn (I : Inv X pins σ H s) : X.K.In s.heap := I.ok.mod.kin.keeps I.bk
theorem Inv.lt (I : Inv X pins σ H s) : X.env.locals < s.heap.objs.size := by obtain ⟨_, hn, _⟩ := I.loc; exact hn.lt
theorem Inv.sz (I : Inv X pins σ H s) : X.s₀.heap.objs.size ≤ s.heap.objs.size := jQc I.ok.above (Nat.le_of_lt I.lt)
theorem Inv.nofs (I : Inv X pins σ H s) {a : Addr} (h : s.heap.objs.size ≤ a) : a ∉ X.fs := fun hb => by
 obtain ⟨_, o, ho, _⟩ := I.ok.funs.mem hb
 exact absurd (zZ (yJ ho) (jQc I.sz h)) (jYc _)
theorem Inv.cne (I : Inv X pins σ H s) : ∀ x c, X.env.cells.lookup x = some c → c ≠ X.env.locals := fun x c e z => by
 obtain ⟨v, o, ho, hd⟩ := I.cell x c e
 obtain ⟨m, ⟨o', es, ep, ho', hd', _⟩, _⟩ := I.loc
 rw [z, ho'] at ho; cases ho; rw [hd'] at hd; cases hd
theorem Inv.funs (I : Inv X pins σ H s) : s.heap.FunFrames X.base X.outer := by
 have all : ∀ (l : List Env), (∀ b ∈ frs l, b ∈ X.fs) → X.s₀.heap.FunFrames X.base l → s.heap.FunFrames X.base l := by
  intro l
  induction l with
  | nil => intro _ _; trivial
  | cons env r ih =>
   intro hs hl
   obtain ⟨hk, ⟨L, o, hf, hn, ho, hd⟩, hr⟩ := hl
   have hL : L ∈ X.fs := hs L (by unfold frs; rw [wZ, hf]; exact zX)
   obtain ⟨sl, e⟩ := I.base.slot L o ho (I.ok.frf L hL) hL fun z => I.ok.exfs L z hL
   exact ⟨hk, ⟨L, _, hf, hn, e, hd⟩, ih (fun b hb => hs b (by unfold frs; rw [wZ, hf]; exact xX _ hb)) hr⟩
 exact all X.outer (fun _ hb => hb) I.ok.funs
theorem Inv.stack (I : Inv X pins σ H s) : s.heap.FunFrames X.base X.stack := by
 rcases I.ok.stk with e | ⟨e, hf⟩
 ·rw [e]; exact I.funs
 ·rw [e]
  obtain ⟨m, hn, _⟩ := I.loc
  refine .cons (by rw [I.ok.kind]; decide) hf hn ?_ I.funs
  exact Heap.get?_none_of_le (jQc I.ok.bsz I.ok.above)
theorem Inv.stkSub (I : Inv X pins σ H s) : ∀ b ∈ frs X.stack, b ∈ X.env.locals :: X.fs := fun b hb => by
 rcases I.ok.stk with e | ⟨e, hf⟩
 ·rw [e] at hb; exact xX _ hb
 ·rw [e] at hb
  unfold frs at hb
  rw [wZ, hf] at hb
  exact hb
theorem Inv.stkFree (I : Inv X pins σ H s) : ∀ b ∈ frs X.stack, H b = none := fun b hb => by
 rcases zY.mp (I.stkSub b hb) with e | hb
 ·rw [e]; exact I.free
 ·obtain ⟨_, o, ho, _⟩ := I.ok.funs.mem hb
  exact I.base.free b o ho (I.ok.frf b hb) fun z => I.ok.exfs b z hb
theorem Inv.step {g' : Array GenState} {t' : Nat} {d' : Drawn} {ch : List Addr} (I : Inv X pins σ H s)
  (hch : ∀ b ∈ ch, (b ∈ X.ex ∨ X.s₀.heap.objs.size ≤ b) ∧ b ≠ X.env.locals ∧ (∀ x c, X.env.cells.lookup x = some c → c ≠ b) ∧ ∀ p ∈ X.pn ++ pins, p.1 ≠ b)
  (keep : ∀ b o, b ≠ X.env.locals → b ∉ X.fs → b ∉ ch → s.heap.get? b = some o → H b = none → h'.get? b = some o)
  (slot : ∀ b o, b ≠ X.env.locals → b ∈ X.fs → b ∉ ch → s.heap.get? b = some o → H b = none → ∃ sl, h'.get? b = some { o with slots := sl }) (free : ∀ b o, b ∉ ch → s.heap.get? b = some o → H b = none → H' b = none)
  (there : ∀ b o, b ∉ ch → s.heap.get? b = some o → ∃ o', h'.get? b = some o')
  (tups : ∀ b xs, H b = some (.tup xs) → H' b = some (.tup xs)) (frzs : ∀ b o u, H b = some (.frz o u) → H' b = some (.frz o u)) (tbls : ∀ b ps, H b = some (.tbl ps) → ∃ more, H' b = some (.tbl (ps ++ more)))
  (ns : ∀ m, s.heap.Ns X.env.locals m → h'.Ns X.env.locals m) (hok : HOk X.prog X.w H' h') (hg : AllBare g') :
  Inv X pins σ H' { s with heap := h', gens := g', drawn := d', toks := t' } := by
 have neL : ∀ b o, X.s₀.heap.get? b = some o → b ≠ X.env.locals := fun b o e => xQ (zZ (yJ e) I.ok.above)
 have neC : ∀ b o, X.s₀.heap.get? b = some o → b ∉ X.ex → b ∉ ch := fun b o e hx hb => by
  rcases (hch b hb).1 with z | z
  ·exact hx z
  ·exact absurd (zZ (yJ e) z) (jYc _)
 have cellK : ∀ x c, X.env.cells.lookup x = some c → ∀ v, s.heap.IsCell c v → h'.IsCell c v := fun x c e v ⟨o, ho, hd⟩ => by
  have nch : c ∉ ch := fun z => (hch c z).2.2.1 x c e rfl
  by_cases hc : c ∈ X.fs
  ·obtain ⟨sl, q⟩ := slot c o (I.cne x c e) hc nch ho (I.freeC x c e)
   exact ⟨_, q, hd⟩
  ·exact ⟨o, keep c o (I.cne x c e) hc nch ho (I.freeC x c e), hd⟩
 refine ⟨I.ok, I.os, hg, ⟨fun b o e n hb hx => ?_, fun b o e n hb hx => ?_, fun b o e n hx => ?_, fun b o e hx => ?_, fun b xs e => tups b xs (I.base.tups b xs e), fun b o xs e => frzs b o xs (I.base.frzs b o xs e), fun b ps e => ?_⟩, ?_, fun x c e => ?_, ?_, fun x c e => ?_, fun p hp => ?_, hok, I.len⟩
 ·exact keep b o (neL b o e) hb (neC b o e hx) (I.base.keep b o e n hb hx) (I.base.free b o e n hx)
 ·obtain ⟨sl, e1⟩ := I.base.slot b o e n hb hx
  obtain ⟨sl', e2⟩ := slot b _ (neL b o e) hb (neC b o e hx) e1 (I.base.free b o e n hx)
  exact ⟨sl', e2⟩
 ·obtain ⟨o', e1⟩ := I.base.there b o e hx
  exact free b o' (neC b o e hx) e1 (I.base.free b o e n hx)
 ·obtain ⟨o', e1⟩ := I.base.there b o e hx
  exact there b o' (neC b o e hx) e1
 ·obtain ⟨m1, e1⟩ := I.base.tbls b ps e
  obtain ⟨m2, e2⟩ := tbls b _ e1
  exact ⟨m1 ++ m2, by rw [e2, Array.append_assoc]⟩
 ·obtain ⟨m, hn, hl⟩ := I.loc
  refine ⟨m, ns m hn, fun i x v e1 e2 e3 => ?_⟩
  obtain ⟨u, r, l⟩ := hl i x v e1 e2 e3
  refine ⟨u, r, ?_⟩
  rcases l with l | ⟨k, c, e, z⟩
  ·exact .inl l
  ·exact .inr ⟨k, c, e, cellK x c e _ z⟩
 ·obtain ⟨v, z⟩ := I.cell x c e
  exact ⟨v, cellK x c e v z⟩
 ·obtain ⟨m, ⟨o, _, _, ho, _⟩, _⟩ := I.loc
  exact free _ o (fun z => (hch _ z).2.1 rfl) ho I.free
 ·obtain ⟨v, o, ho, hd⟩ := I.cell x c e
  exact free c o (fun z => (hch c z).2.2.1 x c e rfl) ho (I.freeC x c e)
 ·obtain ⟨e, n, ne, nf, d⟩ := I.pin p hp
  have nch : p.1 ∉ ch := fun z => (hch p.1 z).2.2.2 p hp rfl
  exact ⟨keep p.1 p.2 ne nf nch e n, free p.1 p.2 nch e n, ne, nf, d⟩
theorem Inv.un {t' : Nat} (I : Inv X pins σ H s) (u : Un X.fs [] H H' s.heap h') (hok : HOk X.prog X.w H' h') : Inv X pins σ H' { s with heap := h', toks := t' } := by
 obtain ⟨m, ⟨o, es, ep, ho, r⟩, _⟩ := id I.loc
 obtain ⟨sl, hL⟩ := u.any ho I.free (by simp)
 exact I.step (g' := s.gens) (d' := s.drawn) (ch := []) (fun _ z => nomatch z) (fun b o _ hb _ e n => u.keep b o e n hb (by simp)) (fun b o _ hb _ e n => u.slot b o e n hb (by simp)) (fun b o _ e n => u.free b o e n (by simp)) (fun b o _ e => u.there b o e (by simp)) u.tups u.frzs u.tbls (fun m' hm => by
  obtain ⟨o', es', ep', ho', r'⟩ := hm
  rw [ho] at ho'; cases ho'
  exact ⟨_, es', ep', hL, r'⟩) hok I.bare
theorem Inv.call {g' : Array GenState} {t' : Nat} {d' : Drawn} {ch : List Addr} (I : Inv X pins σ H s) (u : Un (frs X.stack) ch H H' s.heap h') (hok : HOk X.prog X.w H' h') (hg : AllBare g')
  (hch : ∀ b ∈ ch, (b ∈ X.ex ∨ X.s₀.heap.objs.size ≤ b) ∧ b ≠ X.env.locals ∧ (∀ x c, X.env.cells.lookup x = some c → c ≠ b) ∧ ∀ p ∈ X.pn ++ pins, p.1 ≠ b) :
  Inv X pins σ H' { s with heap := h', gens := g', drawn := d', toks := t' } := by
 obtain ⟨m, ⟨o, es, ep, ho, r⟩, _⟩ := id I.loc
 obtain ⟨sl, hL⟩ := u.any ho I.free fun z => (hch _ z).2.1 rfl
 exact I.step (ch := ch) hch (fun b o hL hb hc e n => u.keep b o e n (fun z => (zY.mp (I.stkSub b z)).elim hL hb) hc) (fun b o _ _ hc e n => u.any e n hc) (fun b o hc e n => u.free b o e n hc) (fun b o hc e => u.there b o e hc) u.tups u.frzs u.tbls (fun m' hm => by
  obtain ⟨o', es', ep', ho', r'⟩ := hm
  rw [ho] at ho'; cases ho'
  exact ⟨_, es', ep', hL, r'⟩) hok hg
theorem Inv.turned {t' : Nat} {it : Addr} (I : Inv X pins σ H s) (k : ∀ b o, b ≠ it → s.heap.get? b = some o → h'.get? b = some o) (hn : H it = none) (hL : it ≠ X.env.locals)
  (h1 : it ∈ X.ex ∨ X.s₀.heap.objs.size ≤ it) (h2 : ∀ x c, X.env.cells.lookup x = some c → c ≠ it) (h3 : ∀ p ∈ X.pn ++ pins, p.1 ≠ it) : Inv X pins σ H { s with heap := h', toks := t' } := by
 have nit : ∀ b u, H b = some u → b ≠ it := fun b u e z => by rw [z, hn] at e; cases e
 refine I.step (g' := s.gens) (d' := s.drawn) (ch := [it]) (fun b hb => ?_) (fun b o _ _ hc e _ => k b o (fun z => hc (by simp [z])) e) (fun b o _ _ hc e _ => ⟨o.slots, k b o (fun z => hc (by simp [z])) e⟩) (fun _ _ _ _ n => n)
  (fun b o hc e => ⟨o, k b o (fun z => hc (by simp [z])) e⟩) (fun _ _ e => e) (fun _ _ _ e => e) (fun b ps e => ⟨#[], by rw [e]; simp⟩) (fun m hm => ?_) (fun b u e => ?_) I.bare
 ·have e : b = it := by simpa using hb
  subst e
  exact ⟨h1, hL, h2, h3⟩
 ·obtain ⟨o, es, ep, ho, r⟩ := hm
  exact ⟨o, es, ep, k _ o (Ne.symm hL) ho, r⟩
 ·refine (I.hok b u e).stay (fun c v hc q => k c v ?_ q) (fun _ q => q) fun _ _ q => q
  rcases hc with z | z
  ·rw [z]; exact nit b u e
  ·exact nit c _ z
theorem Inv.tok (I : Inv X pins σ H s) (t : Nat) : Inv X pins σ H { s with toks := t } := I.un (h' := s.heap) (t' := t) Un.refl I.hok
theorem Inv.kept {t' : Nat} (I : Inv X pins σ H s) (k : ∀ b u, s.heap.get? b = some u → h'.get? b = some u) : Inv X pins σ H { s with heap := h', toks := t' } := I.un (Un.kept k) (I.hok.kept k)
theorem Inv.laid {a : Addr} {o : HO} {t' : Nat} (I : Inv X pins σ H s) (k : ∀ b u, s.heap.get? b = some u → h'.get? b = some u) (hp : s.heap.objs.size ≤ a) (new : ObjOk X.prog X.w (upd H a o) h' a o) :
  Inv X pins σ (upd H a o) { s with heap := h', toks := t' } := I.un (Un.laid k hp (I.hok.fresh hp)) (I.hok.laid k hp new)
theorem Inv.write {x e : Addr} {o : HO} {t' : Nat} (I : Inv X pins σ H s) (mu : Mut (H x)) (he : e = x ∨ H e = some (.own x)) (k : ∀ b u, b ≠ e → s.heap.get? b = some u → h'.get? b = some u) (heo : ∃ u, h'.get? e = some u)
  (new : ObjOk X.prog X.w (upd H x o) h' x o) : Inv X pins σ (upd H x o) { s with heap := h', toks := t' } := I.un (Un.write mu he k heo) (I.hok.write mu he k heo new)
theorem Inv.pins_of {pins' : List (Addr × Obj)} (I : Inv X pins σ H s) (h : ∀ p ∈ pins', s.heap.get? p.1 = some p.2 ∧ H p.1 = none ∧ p.1 ≠ X.env.locals ∧ p.1 ∉ X.fs ∧ ∀ v, p.2.data ≠ .cell v) : Inv X pins' σ H s :=
 ⟨I.ok, I.os, I.bare, I.base, I.loc, I.cell, I.free, I.freeC, fun p hp => (yX.mp hp).elim (fun z => I.pin p (jQa _ z)) (h p), I.hok, I.len⟩
theorem Qde {N : List Str} (hN : N.Nodup) {i j : Nat} {x : Str} (a : N[i]? = some x) (b : N[j]? = some x) : i = j := by
 obtain ⟨h1, e1⟩ := kQ.mp a
 obtain ⟨h2, e2⟩ := kQ.mp b
 exact (List.getElem_inj hN).mp (e1.trans e2.symm)
theorem Qat {M : Model} {A : Around} {E : Value → Shared → Prop} {i : Nat} {x : Str} {v : V} {u : Value} {Q : Unit → Shared → Prop} (I : Inv X pins σ H s) (hN : X.N.Nodup) (hi : X.N[i]? = some x) (hx : Loc X.env.scope x) (r : RelV v u)
  (h : ∀ s', Inv X pins (σ.set i (some v)) H s' → (∃ a, Heap.SameBut a s.heap s'.heap ∧ (a = X.env.locals ∨ X.env.cells.lookup x = some a)) → Q () s') (hf : autoParam (X.fn x = true ∨ X.env.scope.names.lookup x = some .local) L2.aFst._auto_1) : wpAny M A (storeName X.env x u) Q E s := by
 obtain ⟨m, hn, hl⟩ := id I.loc
 have hcls : (X.env.scope.kind == .class || (X.env.scope.kind == .module && X.env.locals != X.env.globals)) = false := by rw [I.ok.kind]; rfl
 have hiσ : i < σ.length := by rw [I.len]; exact (kQ.mp hi).1
 have cne := I.cne
 have tracked : ∀ {a : Addr} {h' : Heap}, (∃ o, s.heap.get? a = some o ∧ H a = none) → Heap.SameBut a s.heap h' → HOk X.prog X.w H h' := fun {a h'} ha hs b ob e => by
  obtain ⟨_, _, hfree⟩ := ha
  refine (I.hok b ob e).stay (fun c w' hc q => (hs.2 c ?_).trans q) (fun _ q => q) fun _ _ q => q
  rintro rfl
  rcases hc with rfl | hc
  ·rw [hfree] at e; cases e
  ·rw [hfree] at hc; cases hc
 rcases hx with hk | hk
 ·refine wpAny_storeName_local hk hn (fun h' hn' hs => ?_) hcls
  obtain ⟨oL, _, _, hoL, _⟩ := id hn
  refine h _ ⟨I.ok, I.os, I.bare, ⟨fun b o e n hb hx => ?_, fun b o e n hb hx => ?_, I.base.free, fun b o e hx => ?_, I.base.tups, I.base.frzs, I.base.tbls⟩, ⟨_, hn', fun j y v' e1 e2 e3 => ?_⟩, fun y c e => ?_, I.free, I.freeC, fun p hp => ?_, tracked ⟨oL, hoL, I.free⟩ hs, by simpa using I.len⟩ ⟨_, hs, .inl rfl⟩
  ·exact (hs.2 b (xQ (zZ (yJ e) I.ok.above))).trans (I.base.keep b o e n hb hx)
  ·obtain ⟨sl, e1⟩ := I.base.slot b o e n hb hx
   exact ⟨sl, (hs.2 b (xQ (zZ (yJ e) I.ok.above))).trans e1⟩
  ·obtain ⟨o', e1⟩ := I.base.there b o e hx
   exact ⟨o', (hs.2 b (xQ (zZ (yJ e) I.ok.above))).trans e1⟩
  ·by_cases hj : j = i
   ·subst hj
    rw [hi] at e1; cases e1
    rw [List.getElem?_set_self hiσ] at e2
    cases e2
    exact ⟨u, r, .inl ⟨hk, by simp⟩⟩
   ·rw [List.getElem?_set_ne (Ne.symm hj)] at e2
    obtain ⟨u', r', q⟩ := hl j y v' e1 e2 e3
    refine ⟨u', r', ?_⟩
    rcases q with ⟨k, e⟩ | ⟨k, c, e, z⟩
    ·refine .inl ⟨k, ?_⟩
     have : y ≠ x := fun e => hj (Qde hN e1 (e ▸ hi))
     simp [this, e]
    ·exact .inr ⟨k, c, e, z.sameBut hs (cne y c e)⟩
  ·obtain ⟨w', z⟩ := I.cell y c e
   exact ⟨w', z.sameBut hs (cne y c e)⟩
  ·obtain ⟨e, n, ne, nf, d⟩ := I.pin p hp
   exact ⟨(hs.2 p.1 ne).trans e, n, ne, nf, d⟩
 ·have hfn : X.fn x = true := by
   rcases hf with z | z
   ·exact z
   ·rw [z] at hk; cases hk
  obtain ⟨c, hc⟩ := I.ok.has x (.inl hk)
  obtain ⟨w', z⟩ := I.cell x c hc
  refine wpAny_storeName_cell I.ok.kind hk hc z (fun h' hc' hs => ?_)
  obtain ⟨oc, hoc, hocd⟩ := id z
  refine h { s with heap := h' } ⟨I.ok, I.os, I.bare, ⟨fun b o e n hb hx => ?_, fun b o e n hb hx => ?_, I.base.free, fun b o e hx => ?_, I.base.tups, I.base.frzs, I.base.tbls⟩, ⟨m, hn.sameBut hs (Ne.symm (cne x c hc)), fun j y v' e1 e2 e3 => ?_⟩, fun y c' e => ?_, I.free, I.freeC, fun p hp => ?_, tracked ⟨oc, hoc, I.freeC x c hc⟩ hs, by simpa using I.len⟩ ⟨c, hs, .inr hc⟩
  ·exact (hs.2 b (xQ (zZ (yJ e) (I.ok.cab x c hfn hc)))).trans (I.base.keep b o e n hb hx)
  ·obtain ⟨sl, e1⟩ := I.base.slot b o e n hb hx
   exact ⟨sl, (hs.2 b (xQ (zZ (yJ e) (I.ok.cab x c hfn hc)))).trans e1⟩
  ·obtain ⟨o', e1⟩ := I.base.there b o e hx
   exact ⟨o', (hs.2 b (xQ (zZ (yJ e) (I.ok.cab x c hfn hc)))).trans e1⟩
  ·by_cases hj : j = i
   ·subst hj
    rw [hi] at e1; cases e1
    rw [List.getElem?_set_self hiσ] at e2
    cases e2
    exact ⟨u, r, .inr ⟨.inl hk, c, hc, hc'⟩⟩
   ·rw [List.getElem?_set_ne (Ne.symm hj)] at e2
    obtain ⟨u', r', q⟩ := hl j y v' e1 e2 e3
    refine ⟨u', r', ?_⟩
    rcases q with q | ⟨k, c', e, z'⟩
    ·exact .inl q
    ·refine .inr ⟨k, c', e, z'.sameBut hs ?_⟩
     rintro rfl
     exact hj (Qde hN e1 (I.ok.inj _ _ _ e hc ▸ hi))
  ·by_cases hcc : c' = c
   ·subst hcc; exact ⟨_, hc'⟩
   ·obtain ⟨w2, z2⟩ := I.cell y c' e
    exact ⟨w2, z2.sameBut hs hcc⟩
  ·obtain ⟨e, n, ne, nf, d⟩ := I.pin p hp
   refine ⟨(hs.2 p.1 ?_).trans e, n, ne, nf, d⟩
   intro q
   rw [q, hoc] at e
   have q' : oc = p.2 := Option.some.inj e
   exact d w' (by rw [← q']; exact hocd)
theorem Wo {M : Model} {A : Around} {E : Value → Shared → Prop} {i : Nat} {x : Str} {v : V} {u : Value} {Q : Unit → Shared → Prop} (I : Inv X pins σ H s) (hN : X.N.Nodup) (hi : X.N[i]? = some x) (hx : Loc X.env.scope x) (r : RelV v u)
  (h : ∀ s', Inv X pins (σ.set i (some v)) H s' → Q () s') (hf : autoParam (X.fn x = true ∨ X.env.scope.names.lookup x = some .local) L2.aFst._auto_1) : wpAny M A (storeName X.env x u) Q E s :=
 Qat I hN hi hx r (fun s' I' _ => h s' I') hf
theorem Inv.call' {s' : Shared} {ch : List Addr} (I : Inv X pins σ H s) (ho : s'.os = s.os) (u : Un (frs X.stack) ch H H' s.heap s'.heap) (hok : HOk X.prog X.w H' s'.heap) (hg : AllBare s'.gens)
  (hch : ∀ b ∈ ch, (b ∈ X.ex ∨ X.s₀.heap.objs.size ≤ b) ∧ b ≠ X.env.locals ∧ (∀ x c, X.env.cells.lookup x = some c → c ≠ b) ∧ ∀ p ∈ X.pn ++ pins, p.1 ≠ b) : Inv X pins σ H' s' := by
 obtain ⟨h', g', d', t', o'⟩ := s'
 have e : o' = s.os := ho
 subst e
 exact I.call (g' := g') (t' := t') (d' := d') u hok hg hch
end
abbrev XK := Value → Option Addr → Hp → Prop
abbrev St := List (Option V)
abbrev VK := V → Hp → Prop
abbrev TE := St → Hp → VK → Prop
abbrev TT := St → Hp → (Bool → Hp → Prop) → Prop
abbrev TA := St → Hp → (List V → Hp → Prop) → Prop
set_option genInjectivity false in
set_option genInjectivity false in
structure Ends where
 nx : St → Hp → Prop
 rt : VK
 bk : St → Hp → Prop := fun _ _ => False
 ct : St → Hp → Prop := fun _ _ => False
abbrev TS := Ends → St → Hp → Prop
def EP (X : Cx) (pins : List (Addr × Obj)) (σ : St) (Q : VK) (u : Value) (s' : Shared) : Prop := ∃ v H', Inv X pins σ H' s' ∧ RelV v u ∧ Q v H'
def TP (X : Cx) (pins : List (Addr × Obj)) (σ : St) (Q : Bool → Hp → Prop) (b : Bool) (s' : Shared) : Prop := ∃ H', Inv X pins σ H' s' ∧ Q b H'
def AP (X : Cx) (pins : List (Addr × Obj)) (σ : St) (Q : List V → Hp → Prop) (us : List Value) (s' : Shared) : Prop := ∃ vs H', Inv X pins σ H' s' ∧ Vals vs us ∧ Q vs H'
def SP (X : Cx) (pins : List (Addr × Obj)) (D : Ends) (f : Flow) (s' : Shared) : Prop :=
 match f with
 | .next => ∃ σ' H', Inv X pins σ' H' s' ∧ D.nx σ' H'
 | .brk => ∃ σ' H', Inv X pins σ' H' s' ∧ D.bk σ' H'
 | .cont => ∃ σ' H', Inv X pins σ' H' s' ∧ D.ct σ' H'
 | .ret u => ∃ v σ' H', Inv X pins σ' H' s' ∧ RelV v u ∧ D.rt v H'
def PE (X : Cx) (e : Expr) (t : TE) : Prop :=
 ∀ (pins : List (Addr × Obj)) (s : Shared) (σ : St) (H : Hp) (Q : VK), Inv X pins σ H s → t σ H Q → wpAny (model X.prog X.w) X.A (eval e X.env) (EP X pins σ Q) X.xe s
def PT (X : Cx) (e : Expr) (t : TT) : Prop :=
 ∀ (pins : List (Addr × Obj)) (s : Shared) (σ : St) (H : Hp) (Q : Bool → Hp → Prop), Inv X pins σ H s → t σ H Q → wpAny (model X.prog X.w) X.A (isTrue e X.env (eval e X.env)) (TP X pins σ Q) X.xe s
def PW (X : Cx) (e : Expr) (t : TT) : Prop :=
 ∀ (whole : Sem Value) (pins : List (Addr × Obj)) (s : Shared) (σ : St) (H : Hp) (Q : Bool → Hp → Prop), Inv X pins σ H s → t σ H Q → wpAny (model X.prog X.w) X.A (isTrue e X.env whole) (TP X pins σ Q) X.xe s
theorem PW.pt {X : Cx} {e : Expr} {t : TT} (h : PW X e t) : PT X e t := h _
def PA (X : Cx) (es : List Expr) (t : TA) : Prop :=
 ∀ (pos : Pos) (pins : List (Addr × Obj)) (s : Shared) (σ : St) (H : Hp) (Q : List V → Hp → Prop), Inv X pins σ H s → t σ H Q → wpAny (model X.prog X.w) X.A (spliced (backTo pos (starEach es X.env))) (AP X pins σ Q) X.xe s
def PS (X : Cx) (st : Stmt) (t : TS) : Prop :=
 ∀ (pins : List (Addr × Obj)) (s : Shared) (σ : St) (H : Hp) (D : Ends), Inv X pins σ H s → t D σ H → wpAny (model X.prog X.w) X.A (exec st X.env) (SP X pins D) X.xe s
def PSs (X : Cx) (st : List Stmt) (t : TS) : Prop :=
 ∀ (pins : List (Addr × Obj)) (s : Shared) (σ : St) (H : Hp) (D : Ends), Inv X pins σ H s → t D σ H → wpAny (model X.prog X.w) X.A (execs st X.env) (SP X pins D) X.xe s
theorem thn {α : Type} {t : Sem α} {Q Q' : α → Shared → Prop} {M : Model} {A : Around} {E : Value → Shared → Prop} {s : Shared} (h : wpAny M A t Q E s) (hQ : ∀ a s, Q a s → Q' a s) : wpAny M A t Q' E s := wpAny_mono h hQ fun _ _ x => x
section
variable {X : Cx}
def tVar (i : Nat) : TE := fun σ H Q => ∃ v, σ[i]? = some (some v) ∧ Q v H
def tC (v : V) : TE := fun _ H Q => Q v H
theorem pe_var {i : Nat} {x : Str} {pos : Pos} (hN : X.N[i]? = some x) (hv : Vis X.env.scope x) (hd : autoParam ((x == ("__debug__" : Str)) = false) L2.aDec._auto_1) (hcd : autoParam ((x == ("__classdict__" : Str)) = false) L2.aDec._auto_1) : PE X (.Name x pos) (tVar i) := by
 intro pins s σ H Q I h
 obtain ⟨v, e, h⟩ := h
 obtain ⟨m, hn, hl⟩ := I.loc
 obtain ⟨u, r, l⟩ := hl i x v hN e hv
 have fin : EP X pins σ Q u s := ⟨v, H, I, r, h⟩
 rcases l with ⟨hk, hm⟩ | ⟨hk, c, hc, hcell⟩
 ·exact wpAny_Name (wpAny_loadName_local I.ok.kind hk hn hm fin) hd
 ·rcases hk with hk | hk
  ·exact wpAny_Name (wpAny_loadName_cell I.ok.kind hk hc hcell fin) hd
  ·exact wpAny_Name (wpAny_loadName_free I.ok.kind hk hc hcell fin hcd) hd
theorem Qe {i j pos} : PE X (.Constant (.int i) j pos) (tC (.int i)) := fun _ _ _ H _ I h => wpAny_Constant_int ⟨.int i, H, I.tok _, ⟨_, rfl⟩, h⟩
theorem Qlb {b j pos} : PE X (.Constant (.bool b) j pos) (tC (.bl b)) := fun _ _ _ H _ I h => Constant_bool ⟨.bl b, H, I, rfl, h⟩
theorem Qz {x j pos} : PE X (.Constant (.str x) j pos) (tC (.str x)) := fun _ _ _ H _ I h => Calls.Constant_str ⟨.str x, H, I.tok _, ⟨_, rfl⟩, h⟩
def Gl (X : Cx) (x : Str) : Prop := X.env.kindOf x = some .globalImplicit
theorem Qck {E : Value → Shared → Prop} {pins : List (Addr × Obj)} {s : Shared} {σ : St} {H : Hp} {x : Str} {u : Value} {pos : Pos} {Q : Value → Shared → Prop} (I : Inv X pins σ H s) (hg : Gl X x) (hm : X.mg x = some u) (h : Q u s)
  (hd : autoParam ((x == ("__debug__" : Str)) = false) L2.aDec._auto_1) : wpAny (model X.prog X.w) X.A (eval (.Name x pos) X.env) Q E s :=
 Calls.Name_function_global I.ok.kind hg (Calls.loadGlobal_global (by rw [I.ok.glob]; exact I.mod.glob.keeps I.bk) hm h) hd
theorem Wh {E : Value → Shared → Prop} {pins : List (Addr × Obj)} {s : Shared} {σ : St} {H : Hp} {x : Str} {u : Value} {pos : Pos} {Q : Value → Shared → Prop} (I : Inv X pins σ H s) (hg : Gl X x) (hm : X.mg x = none) (hv : bootBuiltins x = some u) (h : Q u s)
  (hn : autoParam (x ≠ "__name__") L2.aDec._auto_1) (hd : autoParam ((x == ("__debug__" : Str)) = false) L2.aDec._auto_1) : wpAny (model X.prog X.w) X.A (eval (.Name x pos) X.env) Q E s := by
 obtain ⟨mb, h1, h2⟩ := I.mod.blt
 exact Calls.Name_function_global I.ok.kind hg (Calls.loadGlobal_builtin (by rw [I.ok.glob]; exact I.mod.glob.keeps I.bk) hm (by rw [I.ok.blt]; exact h1.keeps I.bk) ((h2 x hn).trans hv) h) hd
theorem Qlc {x : Str} {v : V} {u : Value} {pos : Pos} (hg : Gl X x) (hm : X.mg x = some u) (r : RelV v u) (hd : autoParam ((x == ("__debug__" : Str)) = false) L2.aDec._auto_1) : PE X (.Name x pos) (tC v) :=
 fun _ _ _ H _ I h => Qck I hg hm ⟨v, H, I, r, h⟩ hd
theorem Qld {x : Str} {v : V} {u : Value} {pos : Pos} (hg : Gl X x) (hm : X.mg x = none) (hv : bootBuiltins x = some u) (r : RelV v u) (hn : autoParam (x ≠ "__name__") L2.aDec._auto_1) (hd : autoParam ((x == ("__debug__" : Str)) = false) L2.aDec._auto_1) : PE X (.Name x pos) (tC v) :=
 fun _ _ _ H _ I h => Wh I hg hm hv ⟨v, H, I, r, h⟩ hn hd
variable {a b : Expr} {ta tb : TE} {pos : Pos}
def PC (X : Cx) (op : CmpOp) (a b : Expr) (t : TE) : Prop :=
 ∀ (pins : List (Addr × Obj)) (s : Shared) (σ : St) (H : Hp) (Q : VK), Inv X pins σ H s → t σ H Q →
  wpAny (model X.prog X.w) X.A (eval a X.env) (fun v s₁ => wpAny (model X.prog X.w) X.A (eval b X.env) (fun u s₂ => wpAny (model X.prog X.w) X.A (compareOp op v u) (EP X pins σ Q) X.xe s₂) X.xe s₁) X.xe s
def tB (t : TE) : TT := fun σ H Q => t σ H fun x H1 => ∃ c, x = .bl c ∧ Q c H1
theorem pt_cmp {op : CmpOp} {t : TE} (h : PC X op a b t) (h1 : behindInMarks op b = false := by first | exact nobehind _ (by decide) (by decide) | rfl) : PT X (.Compare a [op] [b] pos) (tB t) := by
 intro pins s σ H Q I hw
 refine wpAny_isTrue_Compare1 (thn (h pins s σ H _ I hw) fun v s1 h1 => thn h1 fun u s2 h2 => thn h2 fun c s3 hqP => ?_) h1
 obtain ⟨x, H1, I1, r1, q1⟩ := hqP
 obtain ⟨d, rfl, q⟩ := q1
 cases r1
 exact wpAny_truthy_bool ⟨H1, I1, q⟩
theorem Qdf {e : Expr} {t : TE} (h : PE X e t) (he : autoParam (∀ whole, isTrue e X.env whole = (do let v ← whole; standAt e.pos; holding [v] (truthy v))) L2.aIrf._auto_1) : PT X e (tB t) := by
 intro pins s σ H Q I hw
 refine isTrue_plain (thn (h pins s σ H _ I hw) fun v s1 hqP => ?_) (he _)
 obtain ⟨x, H1, I1, r1, q1⟩ := hqP
 obtain ⟨d, rfl, q⟩ := q1
 cases r1
 exact wpAny_truthy_bool ⟨H1, I1, q⟩
variable {tA tB' : TT} {rest : List Expr}
def tAnd (t u : TT) : TT := fun σ H Q => t σ H fun c H1 => if c = true then u σ H1 Q else Q false H1
def tOr (t u : TT) : TT := fun σ H Q => t σ H fun c H1 => if c = true then Q true H1 else u σ H1 Q
def tNot (t : TT) : TT := fun σ H Q => t σ H fun c H1 => Q (!c) H1
theorem Vd (ha : PT X a tA) : PW X (.BoolOp .And [a] pos) tA := by
 intro wh pins s σ H Q I h
 refine isTrue_and (thn (ha pins s σ H Q I h) fun c s1 e => ?_)
 cases c with
 | true => exact isTrue_and_nil e
 | false => exact e
theorem Qdg (ha : PT X a tA) : PW X (.BoolOp .Or [a] pos) tA := by
 intro wh pins s σ H Q I h
 refine isTrue_or (thn (ha pins s σ H Q I h) fun c s1 e => ?_)
 cases c with
 | false => exact isTrue_or_nil e
 | true => exact e
theorem Ve (ha : PT X a tA) (hb : PW X (.BoolOp .And (b :: rest) pos) tB') : PW X (.BoolOp .And (a :: b :: rest) pos) (tAnd tA tB') := by
 intro wh pins s σ H Q I h
 refine isTrue_and (thn (ha pins s σ H _ I h) fun c s1 hqP => ?_)
 obtain ⟨H1, I1, q1⟩ := hqP
 cases c with
 | true => exact hb wh pins s1 σ H1 Q I1 q1
 | false => exact ⟨H1, I1, q1⟩
theorem Qff (ha : PT X a tA) (hb : PW X (.BoolOp .Or (b :: rest) pos) tB') : PW X (.BoolOp .Or (a :: b :: rest) pos) (tOr tA tB') := by
 intro wh pins s σ H Q I h
 refine isTrue_or (thn (ha pins s σ H _ I h) fun c s1 hqP => ?_)
 obtain ⟨H1, I1, q1⟩ := hqP
 cases c with
 | true => exact ⟨H1, I1, q1⟩
 | false => exact hb wh pins s1 σ H1 Q I1 q1
theorem Qke (ha : PT X a tA) : PT X (.UnaryOp .Not a pos) (tNot tA) := by
 intro pins s σ H Q I h
 exact isTrue_not (ha pins s σ H (fun c H1 => Q (!c) H1) I h)
def tAndV (ta tb : TE) : TE := fun σ H Q => ta σ H fun x H1 => ∃ c, x = .bl c ∧ if c = true then tb σ H1 Q else Q (.bl false) H1
def tNotV (ta : TE) : TE := fun σ H Q => ta σ H fun x H1 => ∃ c, x = .bl c ∧ Q (.bl (!c)) H1
theorem Qau {op} {t : TE} (h : PE X a t) : PE X (.BoolOp op [a] pos) t := fun pins s σ H Q I hw => BoolOp_one (h pins s σ H Q I hw)
theorem Qav (ha : PE X a ta) (hb : PE X (.BoolOp .And (b :: rest) pos) tb) : PE X (.BoolOp .And (a :: b :: rest) pos) (tAndV ta tb) := by
 intro pins s σ H Q I h
 refine BoolOp_and (thn (ha pins s σ H _ I h) fun v s1 hqP => ?_)
 obtain ⟨x, H1, I1, r1, q1⟩ := hqP
 obtain ⟨c, rfl, q1⟩ := q1
 cases r1
 refine wpAny_truthy_bool ?_
 cases c with
 | true => exact hb pins s1 σ H1 Q I1 q1
 | false => exact ⟨.bl false, H1, I1, rfl, q1⟩
theorem pe_not (ha : PE X a ta) : PE X (.UnaryOp .Not a pos) (tNotV ta) := by
 intro pins s σ H Q I h
 refine UnaryOp_ (thn (ha pins s σ H _ I h) fun v s1 hqP => ?_)
 obtain ⟨x, H1, I1, r1, q1⟩ := hqP
 obtain ⟨c, rfl, q1⟩ := q1
 cases r1
 exact not_of (wpAny_truthy_bool ⟨.bl (!c), H1, I1, rfl, q1⟩)
def tIf (t : TT) (ta tb : TE) : TE := fun σ H Q => t σ H fun c H1 => if c = true then ta σ H1 Q else tb σ H1 Q
theorem Wp {c : Expr} (hc : PT X c tA) (ha : PE X a ta) (hb : PE X b tb) : PE X (.IfExp c a b pos) (tIf tA ta tb) := by
 intro pins s σ H Q I h
 refine wpAny_IfExp (thn (hc pins s σ H _ I h) fun d s1 hqP => ?_)
 obtain ⟨H1, I1, q1⟩ := hqP
 cases d with
 | true => exact ha pins s1 σ H1 Q I1 q1
 | false => exact hb pins s1 σ H1 Q I1 q1
end
def SqL (K : Fg) (H : Hp) (a : Addr) (xs : List V) : Prop :=
 Rd H a (.lst xs) ∨
  ∃ (o : Obj) (its : Array Value) (n : Nat), K.lookup a = some o ∧ o.cls = .type "list" ∧ o.dict = none ∧ o.data = .seq its n ∧ its.size ≤ sizeLine ∧ Vals xs its.toList
def SqT (K : Fg) (H : Hp) (a : Addr) (xs : List V) : Prop :=
 Rd H a (.tup xs) ∨
  ∃ (o : Obj) (its : Array Value) (n : Nat), K.lookup a = some o ∧ o.cls = .type "tuple" ∧ o.data = .seq its n ∧ its.size ≤ sizeLine ∧ Vals xs its.toList
def absV : Value → Option V
 | .none => some .non
 | .bool b => some (.bl b)
 | .int i _ => some (.int i)
 | .str x _ => some (.str x)
 | .bytes b _ => some (.byt b)
 | .float b _ => some (.flt b)
 | .ref a => some (.ref a)
 | .type n => some (.ty n)
 | _ => none
theorem RelV.abs {x : V} {u : Value} (r : RelV x u) : absV u = some x := by
 cases x with
 | non => cases r; rfl
 | bl _ => cases r; rfl
 | int _ => obtain ⟨t, rfl⟩ := r; rfl
 | str _ => obtain ⟨t, rfl⟩ := r; rfl
 | byt _ => obtain ⟨t, rfl⟩ := r; rfl
 | flt _ => obtain ⟨t, rfl⟩ := r; rfl
 | ref _ => cases r; rfl
 | ty _ => cases r; rfl
theorem RelV.inj {x y : V} {u : Value} (r : RelV x u) (q : RelV y u) : x = y := Option.some.inj (r.abs.symm.trans q.abs)
theorem Vals.inj {xs ys : List V} {us : List Value} (h : Vals xs us) (g : Vals ys us) : xs = ys := by
 induction h generalizing ys with
 | nil => cases g; rfl
 | cons r t ih =>
  cases g with
  | cons r' t' => rw [r.inj r', ih t']
section
variable {X : Cx} {pins : List (Addr × Obj)} {σ : St} {H : Hp} {s : Shared} {a : Addr} {xs ys : List V}
theorem Inv.list (I : Inv X pins σ H s) (h : SqL X.K H a xs) : ∃ its : List Value, Vals xs its ∧ PlainL s.heap a its.toArray ∧ xs.length ≤ sizeLine := by
 rcases h with h | ⟨o, its, n, hk, hc, hd, hs, hz, r⟩
 ·obtain ⟨z, its, n, r, e⟩ := h.ok I.hok
  exact ⟨its, r, ⟨_, n, e, rfl, rfl, rfl⟩, z⟩
 ·refine ⟨its.toList, r, ⟨o, n, I.kIn a o hk, hc, hd, by simpa using hs⟩, ?_⟩
  have e := r.length
  simp only [jXb] at e
  omega
theorem Inv.tuple (I : Inv X pins σ H s) (h : SqT X.K H a xs) : ∃ its : List Value, Vals xs its ∧ IsTup s.heap a its.toArray ∧ xs.length ≤ sizeLine := by
 rcases h with h | ⟨o, its, n, hk, hc, hs, hz, r⟩
 ·obtain ⟨z, its, r, p⟩ := h.ok I.hok
  exact ⟨its, r, p, z⟩
 ·refine ⟨its.toList, r, ⟨o, I.kIn a o hk, hc, n, by simpa using hs⟩, ?_⟩
  have e := r.length
  simp only [jXb] at e
  omega
theorem Inv.list_inj (I : Inv X pins σ H s) (h : SqL X.K H a xs) (h' : SqL X.K H a ys) : xs = ys := by
 obtain ⟨its, r, ⟨o, n, e, _, _, d⟩, _⟩ := I.list h
 obtain ⟨its', r', ⟨o', n', e', _, _, d'⟩, _⟩ := I.list h'
 rw [e] at e'; cases e'
 rw [d] at d'
 injection d' with d1 _
 have : its = its' := by simpa using congrArg Array.toList d1
 subst this
 exact r.inj r'
theorem Inv.tuple_inj (I : Inv X pins σ H s) (h : SqT X.K H a xs) (h' : SqT X.K H a ys) : xs = ys := by
 obtain ⟨its, r, ⟨o, e, _, n, d⟩, _⟩ := I.tuple h
 obtain ⟨its', r', ⟨o', e', _, n', d'⟩, _⟩ := I.tuple h'
 rw [e] at e'; cases e'
 rw [d] at d'
 injection d' with d1 _
 have : its = its' := by simpa using congrArg Array.toList d1
 subst this
 exact r.inj r'
end
abbrev Cx.wish (X : Cx) (E : Value → Shared → Prop) : Cx := { X with xe := E }
abbrev Cx.nox (X : Cx) : Cx := X.wish fun _ _ => False
theorem Cx.Ok.wish {X : Cx} (ok : X.Ok) (E : Value → Shared → Prop) : (X.wish E).Ok :=
 ⟨ok.mod, ok.kind, ok.glob, ok.blt, ok.above, ok.inj, ok.has, ok.cab, ok.hd, ok.frames, ok.stk, ok.exf, ok.bs, ok.bsz, ok.noex, ok.exfs, ok.funs, ok.frf⟩
theorem Cx.Ok.unwish {X : Cx} {E : Value → Shared → Prop} (ok : (X.wish E).Ok) : X.Ok :=
 ⟨ok.mod, ok.kind, ok.glob, ok.blt, ok.above, ok.inj, ok.has, ok.cab, ok.hd, ok.frames, ok.stk, ok.exf, ok.bs, ok.bsz, ok.noex, ok.exfs, ok.funs, ok.frf⟩
section
variable {X : Cx} {pins : List (Addr × Obj)} {σ : St} {H : Hp} {s : Shared} {E : Value → Shared → Prop}
theorem Inv.wish (I : Inv X pins σ H s) (E : Value → Shared → Prop) : Inv (X.wish E) pins σ H s := ⟨I.ok.wish E, I.os, I.bare, I.base, I.loc, I.cell, I.free, I.freeC, I.pin, I.hok, I.len⟩
theorem Inv.unwish (I : Inv (X.wish E) pins σ H s) : Inv X pins σ H s := ⟨I.ok.unwish, I.os, I.bare, I.base, I.loc, I.cell, I.free, I.freeC, I.pin, I.hok, I.len⟩
theorem SP.unwish {D : Ends} {f : Flow} {s' : Shared} (h : SP (X.wish E) pins D f s') : SP X pins D f s' := by
 cases f with
 | next => obtain ⟨σ', H', I, q⟩ := h; exact ⟨σ', H', I.unwish, q⟩
 | brk => obtain ⟨σ', H', I, q⟩ := h; exact ⟨σ', H', I.unwish, q⟩
 | cont => obtain ⟨σ', H', I, q⟩ := h; exact ⟨σ', H', I.unwish, q⟩
 | ret u => obtain ⟨v, σ', H', I, r, q⟩ := h; exact ⟨v, σ', H', I.unwish, r, q⟩
theorem PSs.nox {st : List Stmt} {t : TS} (h : PSs X.nox st t) : PSs X st t := fun pins s σ H D I hw =>
 wpAny_mono (h pins s σ H D (I.wish _) hw) (fun _ _ q => q.unwish) fun _ _ z => False.elim z
end
section
variable {X : Cx} {st : Stmt} {rest : List Stmt} {t u : TS} {e : Expr} {te : TE} {pos : Pos}
def tNext : TS := fun D σ H => D.nx σ H
def tSeq (t u : TS) : TS := fun D σ H => t { D with nx := u D } σ H
theorem Xj : PSs X [] tNext := fun _ _ σ H _ I h => wpAny_execs_nil ⟨σ, H, I, h⟩
theorem Qh (h1 : PS X st t) (h2 : PSs X rest u) : PSs X (st :: rest) (tSeq t u) := by
 intro pins s σ H D I h
 refine wpAny_execs_cons (thn (h1 pins s σ H { D with nx := u D } I h) fun f s1 q => ?_)
 cases f with
 | next =>
  obtain ⟨σ', H', I', q⟩ := q
  exact h2 pins s1 σ' H' D I' q
 | ret v => exact q
 | brk => exact q
 | cont => exact q
theorem Qj (h1 : PS X st t) : PSs X [st] t := by
 intro pins s σ H D I h
 refine wpAny_execs_cons (thn (h1 pins s σ H D I h) fun f s1 q => ?_)
 cases f with
 | next => exact wpAny_execs_nil q
 | ret v => exact q
 | brk => exact q
 | cont => exact q
theorem Inv.quiet {pins : List (Addr × Obj)} {σ : St} {H : Hp} {s : Shared} (I : Inv X pins σ H s) : interactive X.env = false := by simp [interactive, I.ok.kind]
def tDrop (te : TE) : TS := fun D σ H => te σ H fun _ H1 => D.nx σ H1
theorem Xh (he : PE X e te) (hs : autoParam (swapsWith e none pos.line X.env = pure false) L2.aRfl._auto_1) : PS X (.Expr e pos) (tDrop te) := by
 intro pins s σ H D I h
 exact wpAny_Expr_any (thn (he pins s σ H _ I h) fun v s1 ⟨x, H1, I1, r1, q1⟩ => ⟨σ, H1, I1, q1⟩) I.quiet hs
def tRet (te : TE) : TS := fun D σ H => te σ H D.rt
theorem Xe (he : PE X e te) : PS X (.Return (some e) pos) (tRet te) := by
 intro pins s σ H D I h
 exact wpAny_Return_some (thn (he pins s σ H _ I h) fun v s1 ⟨x, H1, I1, r1, q1⟩ => ⟨x, σ, H1, I1, r1, q1⟩)
def tIfS (c : TT) (t u : TS) : TS := fun D σ H => c σ H fun b H1 => if b = true then t D σ H1 else u D σ H1
theorem Yu {c : Expr} {a b : List Stmt} {tc : TT} (hc : PT X c tc) (ha : PSs X a t) (hb : PSs X b u) : PS X (.If c a b pos) (tIfS tc t u) := by
 intro pins s σ H D I h
 refine wpAny_If (thn (hc pins s σ H _ I h) fun d s1 hqP => ?_)
 obtain ⟨H1, I1, q1⟩ := hqP
 cases d with
 | true => exact ha pins s1 σ H1 D I1 q1
 | false => exact hb pins s1 σ H1 D I1 q1
end
abbrev TG := V → St → Hp → (St → Hp → Prop) → Prop
abbrev TGs := List V → St → Hp → (St → Hp → Prop) → Prop
def PG (X : Cx) (target : Expr) (t : TG) : Prop :=
 ∀ (pins : List (Addr × Obj)) (s : Shared) (σ : St) (H : Hp) (v : V) (u : Value) (Q : St → Hp → Prop), Inv X pins σ H s → RelV v u → t v σ H Q →
  wpAny (model X.prog X.w) X.A (assign target X.env u) (fun _ s' => ∃ σ' H', Inv X pins σ' H' s' ∧ Q σ' H') X.xe s
def PGs (X : Cx) (ts : List Expr) (t : TGs) : Prop :=
 ∀ (pins : List (Addr × Obj)) (s : Shared) (σ : St) (H : Hp) (vs : List V) (us : List Value) (Q : St → Hp → Prop), Inv X pins σ H s → Vals vs us → t vs σ H Q →
  wpAny (model X.prog X.w) X.A (assignInOrder ((assignEach ts X.env).map (·.2)) us) (fun _ s' => ∃ σ' H', Inv X pins σ' H' s' ∧ Q σ' H') X.xe s
abbrev TIp := V → V → Hp → VK → Prop
def PIp (X : Cx) (op : Operator) (t : TIp) : Prop :=
 ∀ (pins : List (Addr × Obj)) (s : Shared) (σ : St) (H : Hp) (x y : V) (v u : Value) (Q : VK), Inv X pins σ H s → RelV x v → RelV y u → t x y H Q →
  wpAny (model X.prog X.w) X.A (inplaceOp op v u) (EP X pins σ Q) X.xe s
section
variable {X : Cx} {pos : Pos}
def Kq (i : Nat) : TG := fun v σ H Q => Q (σ.set i (some v)) H
theorem Qn {i : Nat} {x : Str} (hN : X.N.Nodup) (hi : X.N[i]? = some x) (hx : Loc X.env.scope x) (hf : autoParam (X.fn x = true ∨ X.env.scope.names.lookup x = some .local) L2.aFst._auto_1) : PG X (.Name x pos) (Kq i) := by
 intro pins s σ H v u Q I r h
 exact wpAny_assign_Name (Wo I hN hi hx r (fun s' I' => ⟨_, H, I', h⟩) hf)
def gNil : TGs := fun vs σ H Q => vs = [] ∧ Q σ H
def Qef (t : TG) (u : TGs) : TGs := fun vs σ H Q => ∃ v r, vs = v :: r ∧ t v σ H fun σ' H' => u r σ' H' Q
theorem Vf : PGs X [] gNil := by
 intro pins s σ H vs us Q I r h
 obtain ⟨e, h⟩ := h
 subst e
 cases r
 exact assignInOrder_nil ⟨σ, H, I, h⟩
theorem Yn {e : Expr} {es : List Expr} {t : TG} {u : TGs} (h1 : PG X e t) (h2 : PGs X es u)
  (hs : autoParam ((assignEach (e :: es) X.env).map (·.2) = assign e X.env :: (assignEach es X.env).map (·.2)) L2.aRfl._auto_1) : PGs X (e :: es) (Qef t u) := by
 intro pins s σ H vs us Q I r h
 obtain ⟨v, vr, e1, h⟩ := h
 subst e1
 cases r with
 | cons r rr =>
  rw [hs]
  refine assignInOrder_cons (thn (h1 pins s σ H _ _ _ I r h) fun _ s1 hqP => ?_)
  obtain ⟨σ1, H1, I1, q1⟩ := hqP
  exact h2 pins s1 σ1 H1 _ _ Q I1 rr q1
def gTup (K : Fg) (n : Nat) (t : TGs) : TG := fun v σ H Q => ∃ a xs, v = .ref a ∧ SqT K H a xs ∧ xs.length = n ∧ t xs σ H Q
theorem Qaw {es : List Expr} {k : Nat} {t : TGs} {n : Nat} (hc : X.calm = true) (h : PGs X es t)
  (hn : autoParam ((assignEach es X.env).length = n) L2.aRfl._auto_1) (hst : autoParam ((assignEach es X.env).findIdx? (·.1) = none) L2.aRfl._auto_1) : PG X (.Tuple es k pos) (gTup X.K n t) := by
 intro pins s σ H v u Q I r hw
 obtain ⟨a, xs, e1, hq, hl, hw⟩ := hw
 subst e1
 cases r
 obtain ⟨its, rv, ht, hz⟩ := I.tuple hq
 refine assign_Tuple_tuple (I.ok.hd hc) ht (by simp [hn, ← hl, rv.length]) hst fun h' hx => ?_
 have I1 : Inv X pins σ H { s with heap := h' } := I.kept (t' := s.toks) fun b o e => hx b o (xQ (yJ e)) e
 exact h pins _ σ H xs _ Q I1 (by simpa using rv) hw
def tAsg (te : TE) (g : TG) : TS := fun D σ H => te σ H fun x H1 => g x σ H1 D.nx
theorem ps_asg {tg e : Expr} {te : TE} {g : TG} (he : PE X e te) (hg : PG X tg g) (hs : autoParam (swapsWithSole [tg] e pos.line X.env = pure false) L2.aRfl._auto_1) (hw : autoParam (swappedStores [tg] e X.env = pure none) L2.aRfl._auto_1)
  (h1 : autoParam ((assignEach [tg] X.env).map (·.2) = [assign tg X.env]) L2.aRfl._auto_1) : PS X (.Assign [tg] e pos) (tAsg te g) := by
 intro pins s σ H D I h
 refine wpAny_Assign_stores (thn (he pins s σ H _ I h) fun v s1 hqP => ?_) hs hw
 obtain ⟨x, H1, I1, r1, q1⟩ := hqP
 rw [h1]
 exact thn (hg pins s1 σ H1 x v _ I1 r1 q1) fun _ s2 q => q
theorem Qq {i : Nat} {x : Str} {e : Expr} {te : TE} {pos' : Pos} (hN : X.N.Nodup) (hi : X.N[i]? = some x) (hx : Loc X.env.scope x) (he : PE X e te) (hs : autoParam (swapsWith e (some (.Name x pos')) pos.line X.env = pure false) L2.aRfl._auto_1) (hf : autoParam (X.fn x = true ∨ X.env.scope.names.lookup x = some .local) L2.aFst._auto_1) :
  PS X (.Assign [.Name x pos'] e pos) (tAsg te (Kq i)) := by
 intro pins s σ H D I h
 refine wpAny_Assign_Name (thn (he pins s σ H _ I h) fun v s1 hqP => ?_) hs
 obtain ⟨y, H1, I1, r1, q1⟩ := hqP
 exact Wo I1 hN hi hx r1 (fun s2 I2 => ⟨_, H1, I2, q1⟩) hf
def tAug (i : Nat) (te : TE) (ti : TIp) : TS := fun D σ H => ∃ x, σ[i]? = some (some x) ∧ te σ H fun y H1 => ti x y H1 fun z H2 => D.nx (σ.set i (some z)) H2
theorem Qfg {i : Nat} {x : Str} {e : Expr} {te : TE} {op : Operator} {ti : TIp} {pos' : Pos} (hN : X.N.Nodup) (hi : X.N[i]? = some x) (hx : Loc X.env.scope x) (he : PE X e te) (ho : PIp X op ti) (hf : autoParam (X.fn x = true ∨ X.env.scope.names.lookup x = some .local) L2.aFst._auto_1) :
  PS X (.AugAssign (.Name x pos') op e pos) (tAug i te ti) := by
 intro pins s σ H D I h
 obtain ⟨v, e1, h⟩ := h
 obtain ⟨m, hn, hl⟩ := I.loc
 have vis : Vis X.env.scope x := by rcases hx with k | k; exact .inl k; exact .inr (.inl k)
 obtain ⟨u, r, l⟩ := hl i x v hi e1 vis
 refine wpAny_AugAssign_Name ?_
 have go : wpAny (model X.prog X.w) X.A (eval e X.env) (fun w s₂ => wpAny (model X.prog X.w) X.A (inplaceOp op u w) (fun r s₃ => wpAny (model X.prog X.w) X.A (storeName X.env x r) (fun _ => SP X pins D .next) X.xe s₃) X.xe s₂) X.xe s := by
  refine thn (he pins s σ H _ I h) fun w s1 hqP => ?_
  obtain ⟨y, H1, I1, r1, q1⟩ := hqP
  refine thn (ho pins s1 σ H1 v y u w _ I1 r r1 q1) fun z s2 hqP => ?_
  obtain ⟨zv, H2, I2, r2, q2⟩ := hqP
  exact Wo I2 hN hi hx r2 (fun s3 I3 => ⟨_, H2, I3, q2⟩) hf
 rcases l with ⟨hk, hm⟩ | ⟨hk, c, hc, hcell⟩
 ·exact wpAny_loadName_local I.ok.kind hk hn hm go
 ·rcases hk with hk | hk
  ·exact wpAny_loadName_cell I.ok.kind hk hc hcell go
  ·rcases hx with k | k
   ·have : X.env.scope.names.lookup x = some .free := hk
    rw [k] at this; cases this
   ·have : X.env.scope.names.lookup x = some .free := hk
    rw [k] at this; cases this
def ipI (f : Int → Int → Int) : TIp := fun x y H Q => ∃ i j, x = .int i ∧ y = .int j ∧ Q (.int (f i j)) H
theorem ip_add : PIp X .Add (ipI fun i j => i + j) := by
 intro pins s σ H x y v u Q I r1 r2 h
 obtain ⟨i, j, e1, e2, q⟩ := h
 subst e1; subst e2
 obtain ⟨t, rfl⟩ := r1
 obtain ⟨t', rfl⟩ := r2
 exact iadd_int ⟨.int _, H, I.tok _, ⟨_, rfl⟩, q⟩
theorem ip_sub : PIp X .Sub (ipI fun i j => i - j) := by
 intro pins s σ H x y v u Q I r1 r2 h
 obtain ⟨i, j, e1, e2, q⟩ := h
 subst e1; subst e2
 obtain ⟨t, rfl⟩ := r1
 obtain ⟨t', rfl⟩ := r2
 exact isub_int ⟨.int _, H, I.tok _, ⟨_, rfl⟩, q⟩
end
section
variable {X : Cx} {pos : Pos}
end
set_option genInjectivity false in
set_option genInjectivity false in
structure It where
 go : Nat → Hp → Prop
 yld : Nat → Hp → V → Hp → Prop
 stop : Nat → Hp → Prop
def FpOk (X : Cx) (pins : List (Addr × Obj)) (H : Hp) (b : Addr) : Prop :=
 H b = none ∧ b ≠ X.env.locals ∧ b ∉ X.fs ∧ (b ∈ X.ex ∨ X.s₀.heap.objs.size ≤ b) ∧ (∀ x c, X.env.cells.lookup x = some c → c ≠ b) ∧ ∀ p ∈ X.pn ++ pins, p.1 ≠ b
theorem Inv.fpOk {X : Cx} {pins : List (Addr × Obj)} {σ : St} {H H' : Hp} {s : Shared} {b : Addr} (I : Inv X pins σ H s) (hb : s.heap.objs.size ≤ b) (hn : H' b = none) : FpOk X pins H' b := by
 refine ⟨hn, Nat.ne_of_gt (zZ I.lt hb), I.nofs hb, .inr (jQc I.sz hb), fun x c e z => ?_, fun p hp z => ?_⟩
 ·obtain ⟨v, q⟩ := I.cell x c e
  exact absurd (zZ q.lt (by rw [z]; exact hb)) (jYc _)
 ·exact absurd (zZ (yJ (I.pin p hp).1) (by rw [z]; exact hb)) (jYc _)
structure Turn (P : Program) (w : World) (K : Fg) (tg : Expr) (J : It) (fp : List Addr) (it : Addr) (tn : Nat → Heap → Prop) : Prop where
 mem : it ∈ fp
 obj : ∀ i h, tn i h → ∀ b ∈ fp, ∃ o, h.get? b = some o ∧ ∀ v, o.data ≠ .cell v
 keep : ∀ i h h', tn i h → (∀ b ∈ fp, ∀ o, h.get? b = some o → h'.get? b = some o) → tn i h'
 item : ∀ (X : Cx), X.prog = P → X.w = w → X.K = K → X.calm = true → ∀ (i : Nat) (pins : List (Addr × Obj)) (s : Shared) (σ : St) (H : Hp) (E : Value → Shared → Prop), Inv X pins σ H s → (∀ b ∈ fp, FpOk X pins H b) → tn i s.heap → J.go i H →
  wpAny (model P w) X.A (pyNext (.ref it)) (fun r s1 => ∃ u, r = some u ∧
   wpAny (model P w) X.A (letOwnedTupleGo tg (.ref it) u) (fun _ s2 => ∃ x H', Inv X pins σ H' s2 ∧ RelV x u ∧ J.yld i H x H' ∧ tn (i + 1) s2.heap ∧ ∀ b ∈ fp, H' b = none) E s1) E s
 done : ∀ (X : Cx), X.prog = P → X.w = w → X.K = K → X.calm = true → ∀ (i : Nat) (pins : List (Addr × Obj)) (s : Shared) (σ : St) (H : Hp) (E : Value → Shared → Prop), Inv X pins σ H s → (∀ b ∈ fp, FpOk X pins H b) → tn i s.heap → J.stop i H →
  wpAny (model P w) X.A (pyNext (.ref it)) (fun r s1 => r = none ∧ Inv X pins σ H s1) E s
 self : ∀ (A : Around) (i : Nat) (s : Shared) (Q : Value → Shared → Prop) (E : Value → Shared → Prop), tn i s.heap → Q (.ref it) s → wpAny (model P w) A (pyIter (.ref it)) Q E s
abbrev TI := St → Hp → (It → Hp → Prop) → Prop
def PIE (X : Cx) (pins : List (Addr × Obj)) (σ : St) (tg : Expr) (R : It → Hp → Prop) (itv : Value) (s2 : Shared) : Prop :=
 ∃ (it : Addr) (fp : List Addr) (tn : Nat → Heap → Prop) (J : It) (H' : Hp), itv = .ref it ∧ Inv X pins σ H' s2 ∧ Turn X.prog X.w X.K tg J fp it tn ∧ tn 0 s2.heap ∧ (∀ b ∈ fp, FpOk X pins H' b) ∧ R J H'
def PI (X : Cx) (tg iter : Expr) (wi : TI) : Prop :=
 ∀ (pins : List (Addr × Obj)) (s : Shared) (σ : St) (H : Hp) (R : It → Hp → Prop), Inv X pins σ H s → wi σ H R →
  wpAny (model X.prog X.w) X.A (eval iter X.env) (fun v s1 => wpAny (model X.prog X.w) X.A (pyIter v) (PIE X pins σ tg R) X.xe s1) X.xe s
theorem Qfh {M : Model} {A : Around} {E : Value → Shared → Prop} {s : Shared} {tg : Expr} {it : Addr} {u : Value} {o : Obj} {n : String} {vs : Array Value} {Q : Unit → Shared → Prop} (ho : s.heap.get? it = some o) (hc : o.cls = .type n) (hd : o.data = .fields vs)
    (hn : ["enumerate", "zip", "dict_itemiterator", "dict_reverseitemiterator", "odict_iterator", "itertools.zip_longest", "itertools.pairwise"].contains n = false) (hQ : Q () s) : wpAny M A (letOwnedTupleGo tg (.ref it) u) Q E s := by
  unfold letOwnedTupleGo
  cases tg <;> first
    | exact jK hQ
    | (cases u <;> first
        | exact jK hQ
        | (refine jQ (wpAny_load ho ?_)
           rw [hc, hd]
           show wpAny M A (if (["enumerate", "zip", "dict_itemiterator", "dict_reverseitemiterator", "odict_iterator", "itertools.zip_longest", "itertools.pairwise"].contains n && vs[0]? == some (rawInt _)) = true then _ else _) Q E s
           rw [if_neg (by intro h; rw [hn, Bool.false_and] at h; cases h)]
           exact jK hQ))
def Itl (K : Fg) (a : Addr) : It :=
 ⟨fun i H => ∃ xs x, SqL K H a xs ∧ xs[i]? = some x, fun i H x H' => H' = H ∧ ∀ xs, SqL K H a xs → xs[i]? = some x, fun i H => ∃ xs, SqL K H a xs ∧ xs.length ≤ i⟩
def Itt (K : Fg) (a : Addr) : It :=
 ⟨fun i H => ∃ xs x, SqT K H a xs ∧ xs[i]? = some x, fun i H x H' => H' = H ∧ ∀ xs, SqT K H a xs → xs[i]? = some x, fun i H => ∃ xs, SqT K H a xs ∧ xs.length ≤ i⟩
def Itr (lo : Int) (n : Nat) : It := ⟨fun i _ => i < n, fun i H x H' => H' = H ∧ x = .int (lo + i), fun i _ => n ≤ i⟩
theorem Qfi {P : Program} {w : World} {K : Fg} {tg : Expr} (a it : Addr) : Turn P w K tg (Itl K a) [it] it (fun i h => h.IsListIter it a i) where
 mem := by simp
 obj := fun i h st b hb => by
  have e : b = it := by simpa using hb
  subst e
  obtain ⟨o, e, c, d⟩ := st
  exact ⟨o, e, fun v z => by rw [d] at z; cases z⟩
 keep := fun i h h' st k => st.at fun o e => k it (by simp) o e
 item := by
  intro X hP hw hK hc i pins s σ H E I hf st hg
  subst hP hw hK
  obtain ⟨xs, x, hq, hx⟩ := hg
  obtain ⟨its, rv, p, hz⟩ := I.list hq
  obtain ⟨u, hu, ru⟩ := rv.get hx
  obtain ⟨f0, f1, f2, f3, f4, f5⟩ := hf it (by simp)
  refine wpAny_pyNext_list_item st p.isList (x := u) (by simpa using hu) fun h' st' sb => ?_
  have I1 : Inv X pins σ H { s with heap := h' } := I.turned (t' := s.toks) (fun b o hb e => (sb.2 b hb).trans e) f0 f1 f3 f4 f5
  obtain ⟨o, e, c, d⟩ := id st'
  exact ⟨u, rfl, Qfh (s := { s with heap := h' }) e c d (by decide) ⟨x, H, I1, ru, ⟨rfl, fun ys hy => by rw [I.list_inj hy hq]; exact hx⟩, st', fun b hb => (hf b hb).1⟩⟩
 done := by
  intro X hP hw hK hc i pins s σ H E I hf st hg
  subst hP hw hK
  obtain ⟨xs, hq, hx⟩ := hg
  obtain ⟨its, rv, p, hz⟩ := I.list hq
  obtain ⟨f0, f1, f2, f3, f4, f5⟩ := hf it (by simp)
  have hl := rv.length
  exact wpAny_pyNext_list_end (I.ok.hd hc) st p.isList (by simp; omega) fun h' eb => ⟨rfl, I.turned (t' := s.toks) (fun b o hb e => eb b o hb e) f0 f1 f3 f4 f5⟩
 self := fun _ _ _ _ _ st h => wpAny_pyIter_listiter st h
theorem Qeg {P : Program} {w : World} {K : Fg} {tg : Expr} (a it : Addr) : Turn P w K tg (Itt K a) [it] it (fun i h => h.IsTupleIter it a i) where
 mem := by simp
 obj := fun i h st b hb => by
  have e : b = it := by simpa using hb
  subst e
  obtain ⟨o, e, c, d⟩ := st
  exact ⟨o, e, fun v z => by rw [d] at z; cases z⟩
 keep := fun i h h' st k => st.at fun o e => k it (by simp) o e
 item := by
  intro X hP hw hK hc i pins s σ H E I hf st hg
  subst hP hw hK
  obtain ⟨xs, x, hq, hx⟩ := hg
  obtain ⟨its, rv, p, hz⟩ := I.tuple hq
  obtain ⟨u, hu, ru⟩ := rv.get hx
  obtain ⟨f0, f1, f2, f3, f4, f5⟩ := hf it (by simp)
  refine wpAny_pyNext_tuple_item st (show s.heap.IsTuple a its.toArray from p) (x := u) (by simpa using hu) fun h' st' sb => ?_
  have I1 : Inv X pins σ H { s with heap := h' } := I.turned (t' := s.toks) (fun b o hb e => (sb.2 b hb).trans e) f0 f1 f3 f4 f5
  obtain ⟨o, e, c, d⟩ := id st'
  exact ⟨u, rfl, Qfh (s := { s with heap := h' }) e c d (by decide) ⟨x, H, I1, ru, ⟨rfl, fun ys hy => by rw [I.tuple_inj hy hq]; exact hx⟩, st', fun b hb => (hf b hb).1⟩⟩
 done := by
  intro X hP hw hK hc i pins s σ H E I hf st hg
  subst hP hw hK
  obtain ⟨xs, hq, hx⟩ := hg
  obtain ⟨its, rv, p, hz⟩ := I.tuple hq
  obtain ⟨f0, f1, f2, f3, f4, f5⟩ := hf it (by simp)
  have hl := rv.length
  exact wpAny_pyNext_tuple_end (I.ok.hd hc) st (show s.heap.IsTuple a its.toArray from p) (by simp; omega) fun h' eb => ⟨rfl, I.turned (t' := s.toks) (fun b o hb e => eb b o hb e) f0 f1 f3 f4 f5⟩
 self := fun _ _ _ _ _ st h => wpAny_pyIter_tupleiter st h
theorem Qeh {P : Program} {w : World} {K : Fg} {tg : Expr} (it : Addr) (lo : Int) (n : Nat) : Turn P w K tg (Itr lo n) [it] it (fun i h => IsRangeIter h it (lo + (i : Nat) * 1) ((n : Int) - (i : Nat)) 1) where
 mem := by simp
 obj := fun i h st b hb => by
  have e : b = it := by simpa using hb
  subst e
  exact ⟨_, st, fun v z => by
   have z' : Data.fields _ = Data.cell v := z
   cases z'⟩
 keep := fun i h h' st k => k it (by simp) _ st
 item := by
  intro X hP hw hK hc i pins s σ H E I hf st hg
  subst hP hw hK
  obtain ⟨f0, f1, f2, f3, f4, f5⟩ := hf it (by simp)
  have W := Walks.range (prog := X.prog) (w := X.w) (I.ok.hd hc) it lo 1 n
  refine W.item i s _ _ hg st fun v h' tk hv st' kk => ?_
  obtain ⟨t, rfl⟩ := hv
  have I1 : Inv X pins σ H { s with heap := h', toks := tk } := I.turned (fun b o hb e => kk b o (by simpa using hb) e) f0 f1 f3 f4 f5
  refine ⟨_, rfl, Qfh (s := { s with heap := h', toks := tk }) (n := "range_iterator") st' rfl rfl (by decide) ⟨.int (lo + i), H, I1, ⟨t, ?_⟩, ⟨rfl, rfl⟩, st', fun b hb => (hf b hb).1⟩⟩
  rw [Int.mul_one]
 done := by
  intro X hP hw hK hc i pins s σ H E I hf st hg
  subst hP hw hK
  obtain ⟨f0, f1, f2, f3, f4, f5⟩ := hf it (by simp)
  exact wpAny_pyNext_range_end (I.ok.hd hc) st (by have : n ≤ i := hg; omega) fun h' eb => ⟨rfl, I.turned (t' := s.toks) (fun b o hb e => eb b o hb e) f0 f1 f3 f4 f5⟩
 self := fun _ _ _ _ _ st h => wpAny_pyIter_rangeiter st h
section
variable {X : Cx} {tg : Expr}
def iList (K : Fg) (tl : TE) : TI := fun σ H R => tl σ H fun x H1 => ∃ a, x = .ref a ∧ (∃ xs, SqL K H1 a xs) ∧ R (Itl K a) H1
def iTup (K : Fg) (tl : TE) : TI := fun σ H R => tl σ H fun x H1 => ∃ a, x = .ref a ∧ (∃ xs, SqT K H1 a xs) ∧ R (Itt K a) H1
theorem Qu {l : Expr} {tl : TE} (hl : PE X l tl) : PI X tg l (iList X.K tl) := by
 intro pins s σ H R I h
 refine thn (hl pins s σ H _ I h) fun v s1 hqP => ?_
 obtain ⟨x, H1, I1, r1, q1⟩ := hqP
 obtain ⟨a, e, ⟨xs, hq⟩, q⟩ := q1
 subst e
 cases r1
 obtain ⟨its, rv, p, hz⟩ := I1.list hq
 refine wpAny_pyIter_list p.isList ?_
 refine ⟨s1.heap.objs.size, [s1.heap.objs.size], _, _, H1, rfl, I1.kept (t' := s1.toks) fun b o e => jW _ e, Qfi a _, ⟨_, yK _ rfl, rfl, rfl⟩, fun b hb => ?_, q⟩
 have e : b = s1.heap.objs.size := by simpa using hb
 subst e
 exact I1.fpOk (jZ _) (I1.hok.fresh (jZ _))
theorem Qkf {l : Expr} {tl : TE} (hl : PE X l tl) : PI X tg l (iTup X.K tl) := by
 intro pins s σ H R I h
 refine thn (hl pins s σ H _ I h) fun v s1 hqP => ?_
 obtain ⟨x, H1, I1, r1, q1⟩ := hqP
 obtain ⟨a, e, ⟨xs, hq⟩, q⟩ := q1
 subst e
 cases r1
 obtain ⟨its, rv, p, hz⟩ := I1.tuple hq
 refine wpAny_pyIter_tuple (show s1.heap.IsTuple a its.toArray from p) ?_
 refine ⟨s1.heap.objs.size, [s1.heap.objs.size], _, _, H1, rfl, I1.kept (t' := s1.toks) fun b o e => jW _ e, Qeg a _, ⟨_, yK _ rfl, rfl, rfl⟩, fun b hb => ?_, q⟩
 have e : b = s1.heap.objs.size := by simpa using hb
 subst e
 exact I1.fpOk (jZ _) (I1.hok.fresh (jZ _))
theorem Qdh {pins : List (Addr × Obj)} {σ : St} {H : Hp} {s : Shared} {R : It → Hp → Prop} {E : Value → Shared → Prop} {lo hi : Int} {t u v : Tok} {tk : Nat} (I : Inv X pins σ H s) (h1 : -(2 ^ 62) ≤ lo) (h2 : lo < 2 ^ 62) (h3 : -(2 ^ 62) ≤ hi) (h4 : hi < 2 ^ 62)
  (q : R (Itr lo (hi - lo).toNat) H) : wpAny (model X.prog X.w) X.A (pyIter (.ref s.heap.objs.size)) (PIE X pins σ tg R) E { s with heap := s.heap.push { cls := .type "range", data := .fields #[.int lo t, .int hi u, .int 1 v] }, toks := tk } := by
 refine wpAny_pyIter_range (IsRange.new ..) (small_one h1 h2 h3 h4) ?_
 have I1 : Inv X pins σ H { s with heap := s.heap.push { cls := .type "range", data := .fields #[.int lo t, .int hi u, .int 1 v] }, toks := tk } := I.kept fun b o e => jW _ e
 refine ⟨(s.heap.push { cls := .type "range", data := .fields #[.int lo t, .int hi u, .int 1 v] }).objs.size, [(s.heap.push { cls := .type "range", data := .fields #[.int lo t, .int hi u, .int 1 v] }).objs.size], _, _, H, rfl,
  I1.kept (t' := tk) fun b o e => jW _ e, Qeh _ lo (hi - lo).toNat, ?_, fun b hb => ?_, q⟩
 ·have e1 : lo + ((0 : Nat) : Int) * 1 = lo := by simp
  have e2 : (((hi - lo).toNat : Nat) : Int) - ((0 : Nat) : Int) = Builtin.Range.rangeSize lo hi 1 := by rw [rangeSize_one]; split <;> omega
  show IsRangeIter _ _ (lo + ((0 : Nat) : Int) * 1) ((((hi - lo).toNat : Nat) : Int) - ((0 : Nat) : Int)) 1
  rw [e1, e2]
  exact yK _ rfl
 ·have e : b = (s.heap.push { cls := .type "range", data := .fields #[.int lo t, .int hi u, .int 1 v] }).objs.size := by simpa using hb
  subst e
  exact I1.fpOk (jZ _) (I1.hok.fresh (jZ _))
def iRng1 (ta : TA) : TI := fun σ H R => ta σ H fun vs H1 => ∃ j : Int, vs = [.int j] ∧ -(2 ^ 62) ≤ j ∧ j < 2 ^ 62 ∧ R (Itr 0 j.toNat) H1
def iRng2 (ta : TA) : TI := fun σ H R => ta σ H fun vs H1 => ∃ i j : Int, vs = [.int i, .int j] ∧ (-(2 ^ 62) ≤ i ∧ i < 2 ^ 62 ∧ -(2 ^ 62) ≤ j ∧ j < 2 ^ 62) ∧ R (Itr i (j - i).toNat) H1
theorem Xu {a : Expr} {ta : TA} {p pos : Pos} (hg : Gl X "range") (hm : X.mg "range" = none) (ha : PA X [a] ta) (hs : autoParam (starEach [a] X.env = [(false, eval a X.env)]) L2.aRfl._auto_1) : PI X tg (.Call (.Name "range" p) [a] [] pos) (iRng1 ta) := by
 intro pins s σ H R I h
 refine Call_ (Wh I hg hm boot_range (PyProof.Rows.callWith_type1 (thn (ha pos pins s σ H _ I h) fun us s1 hqP => ?_) hs rfl))
 obtain ⟨vs, H1, I1, r1, q1⟩ := hqP
 obtain ⟨j, e, q1, q2, q⟩ := q1
 subst e
 cases r1 with
 | cons r rr =>
  cases rr
  obtain ⟨t, rfl⟩ := r
  exact call_range_1 (Qdh I1 (by omega) (by omega) q1 q2 (by simpa using q))
theorem Qfj {a b : Expr} {ta : TA} {p pos : Pos} (hg : Gl X "range") (hm : X.mg "range" = none) (ha : PA X [a, b] ta) (hs : autoParam (starEach [a, b] X.env = [(false, eval a X.env), (false, eval b X.env)]) L2.aRfl._auto_1) (hs2 : autoParam (starEach [b] X.env = [(false, eval b X.env)]) L2.aRfl._auto_1) :
  PI X tg (.Call (.Name "range" p) [a, b] [] pos) (iRng2 ta) := by
 intro pins s σ H R I h
 refine Call_ (Wh I hg hm boot_range (PyProof.Rows.callWith_type1 (thn (ha pos pins s σ H _ I h) fun us s1 hqP => ?_) (by rw [hs, hs2]) (by rw [hs2]; rfl)))
 obtain ⟨vs, H1, I1, r1, q1⟩ := hqP
 obtain ⟨i, j, e, ⟨q1, q2, q3, q4⟩, q⟩ := q1
 subst e
 cases r1 with
 | cons r rr =>
  cases rr with
  | cons r' rr =>
   cases rr
   obtain ⟨t, rfl⟩ := r
   obtain ⟨t', rfl⟩ := r'
   exact call_range_2 (Qdh I1 q1 q2 q3 q4 q)
def tFor (wi : TI) (g : TG) (tb : TS) : TS := fun D σ H => wi σ H fun J H1 => ∃ W : Nat → Nat → St → Hp → Prop, (∃ m, W 0 m σ H1) ∧ ∀ i m σ H, W i m σ H →
 (J.stop i H ∧ D.nx σ H) ∨ (J.go i H ∧ ∃ N : St → Hp → Prop, (∀ σ' H', N σ' H' → ∃ m', m' < m ∧ W (i + 1) m' σ' H') ∧ ∀ x H', J.yld i H x H' → g x σ H' fun σ2 H2 => tb { D with nx := N, ct := N, bk := D.nx } σ2 H2)
def Qax (fp : List Addr) (h : Heap) : List (Addr × Obj) := fp.filterMap fun b => (h.get? b).map fun o => (b, o)
theorem Jh {fp : List Addr} {h : Heap} {b : Addr} {o : Obj} (hb : b ∈ fp) (e : h.get? b = some o) : (b, o) ∈ Qax fp h := yY.mpr ⟨b, hb, by rw [e]; rfl⟩
theorem Qfk {fp : List Addr} {h : Heap} {p : Addr × Obj} (hp : p ∈ Qax fp h) : p.1 ∈ fp ∧ h.get? p.1 = some p.2 := by
 obtain ⟨b, hb, e⟩ := yY.mp hp
 cases q : h.get? b with
 | none => rw [q] at e; cases e
 | some o =>
  rw [q] at e
  have e' : (b, o) = p := Option.some.inj e
  subst e'
  exact ⟨hb, q⟩
theorem Inv.pinned {pins : List (Addr × Obj)} {σ : St} {H : Hp} {s : Shared} {fp : List Addr} (I : Inv X pins σ H s) (hf : ∀ b ∈ fp, FpOk X pins H b) (ho : ∀ b ∈ fp, ∃ o, s.heap.get? b = some o ∧ ∀ v, o.data ≠ .cell v) : Inv X (pins ++ Qax fp s.heap) σ H s :=
 I.pins_of fun p hp => (yX.mp hp).elim (fun z => I.pin p (zV _ z)) fun z => by
  obtain ⟨hb, e⟩ := Qfk z
  obtain ⟨f0, f1, f2, _⟩ := hf p.1 hb
  obtain ⟨o, e', d⟩ := ho p.1 hb
  rw [e] at e'; cases e'
  exact ⟨e, f0, f1, f2, d⟩
theorem Inv.unpinned {pins pl : List (Addr × Obj)} {σ : St} {H : Hp} {s : Shared} (I : Inv X (pins ++ pl) σ H s) : Inv X pins σ H s := I.pins_of fun p hp => I.pin p (zV _ (jQa _ hp))
theorem Xk {iter : Expr} {body : List Stmt} {wi : TI} {g : TG} {tb : TS} {pos : Pos} (hp : PassesOwn (model X.prog X.w) X.A X.env X.xe) (hc : X.calm = true) (hi : PI X tg iter wi) (hg : PG X tg g) (hb : PSs X body tb)
  (hs : autoParam (∀ x, foldedSetIterable iter X.env x = pure x) L2.aIrf._auto_1) : PS X (.For tg iter body [] pos) (tFor wi g tb) := by
 intro pins s σ H D I h
 refine wpAny_For (thn (hi pins s σ H _ I h) fun v s1 h1 => thn h1 fun itv s2 h2 => ?_) hs
 obtain ⟨it, fp, tn, J, H2, e, I2, T, st2, f2, W, ⟨m0, w0⟩, turn⟩ := h2
 subst e
 -- what stays true of the iterator's objects through the loop
 have stat : ∀ {H' : Hp}, (∀ b ∈ fp, H' b = none) → ∀ b ∈ fp, FpOk X pins H' b := fun hn b hb => ⟨hn b hb, (f2 b hb).2⟩
 refine codeAny_forLoop_any (fun n s' => ∃ i σ' H', Inv X pins σ' H' s' ∧ tn i s'.heap ∧ (∀ b ∈ fp, H' b = none) ∧ W i n σ' H') ?_ m0 ⟨0, σ, H2, I2, st2, fun b hb => (f2 b hb).1, w0⟩
 rintro n s3 ⟨i, σ3, H3, I3, st3, fr3, w3⟩
 rcases turn i n σ3 H3 w3 with ⟨stop, qn⟩ | ⟨go, N, hN, step⟩
 ·refine wpAny_passesOwn hp (thn (T.done X rfl rfl rfl hc i pins s3 σ3 H3 X.xe I3 (stat fr3) st3 stop) fun r s4 hqP => ?_)
  obtain ⟨hr, I4⟩ := hqP
  subst hr
  exact wpAny_execs_nil ⟨σ3, H3, I4, qn⟩
 ·refine wpAny_passesOwn hp (thn (T.item X rfl rfl rfl hc i pins s3 σ3 H3 X.xe I3 (stat fr3) st3 go) fun r s4 hqP => ?_)
  obtain ⟨u, hr, h4⟩ := hqP
  subst hr
  refine wpAny_passesOwn hp (thn h4 fun _ s5 hqP => ?_)
  obtain ⟨x, H5, I5, r5, y5, st5, fr5⟩ := hqP
  have I5' := I5.pinned (stat fr5) (T.obj _ _ st5)
  refine wpAny_passesOwn hp (thn (hg _ s5 σ3 H5 x u _ I5' r5 (step x H5 y5)) fun _ s6 hqP => ?_)
  obtain ⟨σ6, H6, I6, q6⟩ := hqP
  refine wpAny_passesOwn hp (thn (hb _ s6 σ6 H6 _ I6 q6) fun f s7 q7 => ?_)
  have again : ∀ {σ7 : St} {H7 : Hp}, Inv X (pins ++ Qax fp s5.heap) σ7 H7 s7 → N σ7 H7 → ∃ m, m < n ∧ ∃ i σ' H', Inv X pins σ' H' s7 ∧ tn i s7.heap ∧ (∀ b ∈ fp, H' b = none) ∧ W i m σ' H' := fun {σ7 H7} I7 n7 => by
   obtain ⟨m', hm, w7⟩ := hN σ7 H7 n7
   refine ⟨m', hm, i + 1, σ7, H7, I7.unpinned, T.keep _ _ _ st5 fun b hb o e => (I7.pin (b, o) (zV _ (zV _ (Jh hb e)))).1, fun b hb => ?_, w7⟩
   obtain ⟨o, e, d⟩ := T.obj _ _ st5 b hb
   exact (I7.pin (b, o) (zV _ (zV _ (Jh hb e)))).2.1
  cases f with
  | next => obtain ⟨σ7, H7, I7, n7⟩ := q7; exact again I7 n7
  | cont => obtain ⟨σ7, H7, I7, n7⟩ := q7; exact again I7 n7
  | brk => obtain ⟨σ7, H7, I7, q7⟩ := q7; exact ⟨σ7, H7, I7.unpinned, q7⟩
  | ret v => obtain ⟨x7, σ7, H7, I7, r7, q7⟩ := q7; exact ⟨x7, σ7, H7, I7.unpinned, r7, q7⟩
end
theorem Xp {K : Fg} {a : Addr} {xs : List V} {g : TG} {tb : TS} {D : Ends} {σ : St} {H : Hp} (Pv : Nat → St → Hp → Prop) (h0 : Pv 0 σ H) (hl : ∀ i σ H, i ≤ xs.length → Pv i σ H → SqL K H a xs)
  (hs : ∀ i x σ H, xs[i]? = some x → Pv i σ H → g x σ H fun σ2 H2 => tb { D with nx := Pv (i + 1), ct := Pv (i + 1), bk := D.nx } σ2 H2) (hd : ∀ σ H, Pv xs.length σ H → D.nx σ H) :
  ∃ W : Nat → Nat → St → Hp → Prop, (∃ m, W 0 m σ H) ∧ ∀ i m σ H, W i m σ H →
   ((Itl K a).stop i H ∧ D.nx σ H) ∨ ((Itl K a).go i H ∧ ∃ N : St → Hp → Prop, (∀ σ' H', N σ' H' → ∃ m', m' < m ∧ W (i + 1) m' σ' H') ∧ ∀ x H', (Itl K a).yld i H x H' → g x σ H' fun σ2 H2 => tb { D with nx := N, ct := N, bk := D.nx } σ2 H2) := by
 refine ⟨fun i m σ H => m = xs.length - i ∧ i ≤ xs.length ∧ Pv i σ H, ⟨xs.length, by simp, jQd _, h0⟩, ?_⟩
 rintro i m σ H ⟨rfl, hi, p⟩
 have q := hl i σ H hi p
 by_cases hlt : i < xs.length
 ·refine .inr ⟨⟨xs, xs[i], q, by simp [hlt]⟩, Pv (i + 1), fun σ' H' p' => ⟨xs.length - (i + 1), by omega, rfl, hlt, p'⟩, fun x H' y => ?_⟩
  obtain ⟨e, y⟩ := y
  subst e
  exact hs i x σ _ (y xs q) p
 ·have e : i = xs.length := by omega
  subst e
  exact .inl ⟨⟨xs, q, jZ _⟩, hd σ H p⟩
theorem Yd {lo : Int} {n : Nat} {g : TG} {tb : TS} {D : Ends} {σ : St} {H : Hp} (Pv : Nat → St → Hp → Prop) (h0 : Pv 0 σ H)
  (hs : ∀ i σ H, i < n → Pv i σ H → g (.int (lo + i)) σ H fun σ2 H2 => tb { D with nx := Pv (i + 1), ct := Pv (i + 1), bk := D.nx } σ2 H2) (hd : ∀ σ H, Pv n σ H → D.nx σ H) :
  ∃ W : Nat → Nat → St → Hp → Prop, (∃ m, W 0 m σ H) ∧ ∀ i m σ H, W i m σ H →
   ((Itr lo n).stop i H ∧ D.nx σ H) ∨ ((Itr lo n).go i H ∧ ∃ N : St → Hp → Prop, (∀ σ' H', N σ' H' → ∃ m', m' < m ∧ W (i + 1) m' σ' H') ∧ ∀ x H', (Itr lo n).yld i H x H' → g x σ H' fun σ2 H2 => tb { D with nx := N, ct := N, bk := D.nx } σ2 H2) := by
 refine ⟨fun i m σ H => m = n - i ∧ i ≤ n ∧ Pv i σ H, ⟨n, by simp, jQd _, h0⟩, ?_⟩
 rintro i m σ H ⟨rfl, hi, p⟩
 by_cases hlt : i < n
 ·refine .inr ⟨hlt, Pv (i + 1), fun σ' H' p' => ⟨n - (i + 1), by omega, rfl, hlt, p'⟩, fun x H' y => ?_⟩
  obtain ⟨e, y⟩ := y
  subst e y
  exact hs i σ _ hlt p
 ·have e : i = n := by omega
  subst e
  exact .inl ⟨jZ _, hd σ H p⟩
abbrev R2 := V → V → Hp → VK → Prop
def OpR (X : Cx) (f : Value → Value → Sem Value) (r : R2) : Prop :=
 ∀ (pins : List (Addr × Obj)) (s : Shared) (σ : St) (H : Hp) (x y : V) (v u : Value) (Q : VK), Inv X pins σ H s → RelV x v → RelV y u → r x y H Q →
  wpAny (model X.prog X.w) X.A (f v u) (EP X pins σ Q) X.xe s
def UnR (X : Cx) (f : Value → Sem Value) (r : V → Hp → VK → Prop) : Prop :=
 ∀ (pins : List (Addr × Obj)) (s : Shared) (σ : St) (H : Hp) (x : V) (v : Value) (Q : VK), Inv X pins σ H s → RelV x v → r x H Q →
  wpAny (model X.prog X.w) X.A (f v) (EP X pins σ Q) X.xe s
def Jk (X : Cx) (f : Value) (r : List V → Hp → VK → Prop) : Prop :=
 ∀ (pins : List (Addr × Obj)) (s : Shared) (σ : St) (H : Hp) (xs : List V) (us : List Value) (Q : VK), Inv X pins σ H s → Vals xs us → r xs H Q →
  wpAny (model X.prog X.w) X.A (call f us) (EP X pins σ Q) X.xe s
def tOp (r : R2) (ta tb : TE) : TE := fun σ H Q => ta σ H fun x H1 => tb σ H1 fun y H2 => r x y H2 Q
def tUn (r : V → Hp → VK → Prop) (ta : TE) : TE := fun σ H Q => ta σ H fun x H1 => r x H1 Q
def rI (C : Int → Int → Prop) (g : Int → Int → V) : R2 := fun x y H Q => ∃ i j, x = .int i ∧ y = .int j ∧ C i j ∧ Q (g i j) H
def rI0 (g : Int → Int → V) : R2 := fun x y H Q => ∃ i j, x = .int i ∧ y = .int j ∧ Q (g i j) H
def rU (g : Int → V) : V → Hp → VK → Prop := fun x H Q => ∃ i, x = .int i ∧ Q (g i) H
section
variable {X : Cx} {a b c : Expr} {ta tb tc : TE} {pos : Pos}
theorem binT (ha : PE X a ta) (hb : PE X b tb) {pins : List (Addr × Obj)} {s : Shared} {σ : St} {H : Hp} {R : V → V → Hp → Prop} (I : Inv X pins σ H s)
  (h : ta σ H fun x H1 => tb σ H1 fun y H2 => R x y H2) {Q : Value → Shared → Prop} {f : Value → Value → Sem Value}
  (hf : ∀ v u s2 x y H2, Inv X pins σ H2 s2 → RelV x v → RelV y u → R x y H2 → wpAny (model X.prog X.w) X.A (f v u) Q X.xe s2) :
  wpAny (model X.prog X.w) X.A (eval a X.env) (fun v s₁ => wpAny (model X.prog X.w) X.A (eval b X.env) (fun u s₂ => wpAny (model X.prog X.w) X.A (f v u) Q X.xe s₂) X.xe s₁) X.xe s := by
 refine thn (ha pins s σ H _ I h) fun v s1 hqP => ?_
 obtain ⟨x, H1, I1, r1, q1⟩ := hqP
 refine thn (hb pins s1 σ H1 _ I1 q1) fun u s2 hqP => ?_
 obtain ⟨y, H2, I2, r2, q2⟩ := hqP
 exact hf v u s2 x y H2 I2 r1 r2 q2
theorem Ql {op : Operator} {r : R2} (ho : OpR X (binaryOp op) r) (ha : PE X a ta) (hb : PE X b tb) : PE X (.BinOp a op b pos) (tOp r ta tb) := by
 intro pins s σ H Q I h
 exact wpAny_BinOp (binT ha hb I h fun v u s2 x y H2 I2 rx ry q => ho pins s2 σ H2 x y v u Q I2 rx ry q)
theorem Qay {op : UnaryOp} {r : V → Hp → VK → Prop} (ho : UnR X (unaryOp op) r) (ha : PE X a ta) : PE X (.UnaryOp op a pos) (tUn r ta) := by
 intro pins s σ H Q I h
 exact UnaryOp_ (thn (ha pins s σ H _ I h) fun v s1 ⟨x, H1, I1, r1, q1⟩ => ho pins s1 σ H1 x v Q I1 r1 q1)
theorem opI {f : Value → Value → Sem Value} {C : Int → Int → Prop} {g : Int → Int → Int}
  (rule : ∀ (i j : Int) (t u : Tok) (s : Shared) (Q : Value → Shared → Prop) (E : Value → Shared → Prop), C i j → Q (.int (g i j) s.toks) { s with toks := s.toks + 1 } → wpAny (model X.prog X.w) X.A (f (.int i t) (.int j u)) Q E s) :
  OpR X f (rI C fun i j => .int (g i j)) := by
 intro pins s σ H x y v u Q I rx ry h
 obtain ⟨i, j, rfl, rfl, hc, q⟩ := h
 obtain ⟨t, rfl⟩ := rx
 obtain ⟨t', rfl⟩ := ry
 exact rule i j t t' s _ _ hc ⟨.int (g i j), H, I.tok _, ⟨_, rfl⟩, q⟩
theorem opI0 {f : Value → Value → Sem Value} {g : Int → Int → Int}
  (rule : ∀ (i j : Int) (t u : Tok) (s : Shared) (Q : Value → Shared → Prop) (E : Value → Shared → Prop), Q (.int (g i j) s.toks) { s with toks := s.toks + 1 } → wpAny (model X.prog X.w) X.A (f (.int i t) (.int j u)) Q E s) :
  OpR X f (rI0 fun i j => .int (g i j)) := by
 intro pins s σ H x y v u Q I rx ry h
 obtain ⟨i, j, rfl, rfl, q⟩ := h
 obtain ⟨t, rfl⟩ := rx
 obtain ⟨t', rfl⟩ := ry
 exact rule i j t t' s _ _ ⟨.int (g i j), H, I.tok _, ⟨_, rfl⟩, q⟩
theorem opB0 {f : Value → Value → Sem Value} {g : Int → Int → Bool}
  (rule : ∀ (i j : Int) (t u : Tok) (s : Shared) (Q : Value → Shared → Prop) (E : Value → Shared → Prop), Q (.bool (g i j)) s → wpAny (model X.prog X.w) X.A (f (.int i t) (.int j u)) Q E s) :
  OpR X f (rI0 fun i j => .bl (g i j)) := by
 intro pins s σ H x y v u Q I rx ry h
 obtain ⟨i, j, rfl, rfl, q⟩ := h
 obtain ⟨t, rfl⟩ := rx
 obtain ⟨t', rfl⟩ := ry
 exact rule i j t t' s _ _ ⟨.bl (g i j), H, I, rfl, q⟩
def CDiv (i j : Int) : Prop := 0 < j ∧ j < 1073741824
def CMul (i j : Int) : Prop := (-(2 ^ 64) < i ∧ i < 2 ^ 64) ∨ (-(2 ^ 64) < j ∧ j < 2 ^ 64)
theorem CMul.ok {i j : Int} (h : CMul i j) : IntMulOk i j := by
 rcases h with ⟨h1, h2⟩ | ⟨h1, h2⟩
 ·exact .of_left (intBits_le_64 h1 h2)
 ·exact .of_right (intBits_le_64 h1 h2)
theorem Qt : OpR X (binaryOp .Add) (rI0 fun i j => .int (i + j)) := opI0 fun _ _ _ _ _ _ _ q => add_int q
theorem Zj : OpR X (binaryOp .Sub) (rI0 fun i j => .int (i - j)) := opI0 fun _ _ _ _ _ _ _ q => sub_int q
theorem Zl : OpR X (binaryOp .Mult) (rI CMul fun i j => .int (i * j)) := opI fun _ _ _ _ _ _ _ hc q => mul_int q hc.ok
theorem Ya : OpR X (binaryOp .FloorDiv) (rI CDiv fun i j => .int (i / j)) := opI fun i j _ _ _ _ _ hc q => by
 have h1 : (0 : Int) < j := hc.1
 have h2 : j < 1073741824 := hc.2
 exact floordiv_int (by omega) (by rw [Int.fdiv_eq_ediv_of_nonneg i (by omega)]; exact q) (.inl (PyProof.noPylong_small (by omega)))
theorem Xl : OpR X (binaryOp .Mod) (rI (fun _ j => 0 < j) fun i j => .int (i % j)) := opI fun i j _ _ _ _ _ hc q => by
 have h1 : (0 : Int) < j := hc
 exact mod_int' (by omega) (by rw [Int.fmod_eq_emod_of_nonneg i (by omega)]; exact q)
theorem unI {f : Value → Sem Value} {g : Int → Int}
  (rule : ∀ (i : Int) (t : Tok) (s : Shared) (Q : Value → Shared → Prop) (E : Value → Shared → Prop), Q (.int (g i) s.toks) { s with toks := s.toks + 1 } → wpAny (model X.prog X.w) X.A (f (.int i t)) Q E s) :
  UnR X f (rU fun i => .int (g i)) := by
 intro pins s σ H x v Q I rx h
 obtain ⟨i, rfl, q⟩ := h
 obtain ⟨t, rfl⟩ := rx
 exact rule i t s _ _ ⟨.int (g i), H, I.tok _, ⟨_, rfl⟩, q⟩
theorem Km : UnR X (unaryOp .USub) (rU fun i => .int (-i)) := unI fun _ _ _ _ _ q => neg_int q
end
def scal : V → V → Bool
 | .non, .non => true | .non, .int _ => true | .int _, .non => true | .non, .bl _ => true | .bl _, .non => true | .non, .str _ => true | .str _, .non => true
 | .int _, .int _ => true | .bl _, .bl _ => true | .str _, .str _ => true | .byt _, .byt _ => true
 | .int _, .str _ => true | .str _, .int _ => true | .bl _, .str _ => true | .str _, .bl _ => true
 | _, _ => false
def rEq : R2 := fun x y H Q => scal x y = true ∧ Q (.bl (decide (x = y))) H
def rNe : R2 := fun x y H Q => scal x y = true ∧ Q (.bl (!decide (x = y))) H
theorem Qfl {i j : Int} : decide (V.int i = V.int j) = (i == j) := by
 rw [jYe]
 simp
theorem Qkg {i j : Bool} : decide (V.bl i = V.bl j) = (i == j) := by
 rw [jYe]
 simp
theorem Qfm {i j : Str} : decide (V.str i = V.str j) = (i == j) := by
 rw [jYe]
 simp
theorem Qfn {i j : Array UInt8} : decide (V.byt i = V.byt j) = (i.toList == j.toList) := by
 rw [jYe]
 cases i
 cases j
 simp
section
variable {X : Cx} {a b c : Expr} {ta tb tc : TE} {pos : Pos}
theorem Xw {pins : List (Addr × Obj)} {σ : St} {H : Hp} {s : Shared} {Q : VK} {k k' : Bool} (I : Inv X pins σ H s) (q : Q (.bl k) H) (e : k = k') : EP X pins σ Q (.bool k') s := by
 subst e
 exact ⟨.bl k, H, I, rfl, q⟩
theorem Yk : OpR X (compareOp .Eq) rEq := by
 intro pins s σ H x y v u Q I rx ry h
 obtain ⟨hs, q⟩ := h
 cases x with
 | non =>
  cases rx
  cases y with
  | non => cases ry; exact PySem.EqNone.eq_none_none (Xw I q (by simp))
  | bl j => cases ry; exact PySem.EqNone.eq_none_bool (Xw I q (by simp))
  | int j => obtain ⟨t', rfl⟩ := ry; exact PySem.EqNone.eq_none_int (Xw I q (by simp))
  | str j => obtain ⟨t', rfl⟩ := ry; exact PySem.EqNone.eq_none_str (Xw I q (by simp))
  | _ => exact absurd (show false = true from hs) kJ
 | bl i =>
  cases rx
  cases y with
  | non => cases ry; exact PySem.EqNone.eq_bool_none (Xw I q (by simp))
  | bl j => cases ry; exact eq_bool (Xw I q Qkg)
  | str j => obtain ⟨t', rfl⟩ := ry; exact PySem.EqMixed.eq_bool_str (Xw I q (by simp))
  | _ => exact absurd (show false = true from hs) kJ
 | int i =>
  obtain ⟨t, rfl⟩ := rx
  cases y with
  | non => cases ry; exact PySem.EqNone.eq_int_none (Xw I q (by simp))
  | int j => obtain ⟨t', rfl⟩ := ry; exact eq_int (Xw I q Qfl)
  | str j => obtain ⟨t', rfl⟩ := ry; exact PySem.EqMixed.eq_int_str (Xw I q (by simp))
  | _ => exact absurd (show false = true from hs) kJ
 | str i =>
  obtain ⟨t, rfl⟩ := rx
  cases y with
  | non => cases ry; exact PySem.EqNone.eq_str_none (Xw I q (by simp))
  | bl j => cases ry; exact PySem.EqMixed.eq_str_bool (Xw I q (by simp))
  | int j => obtain ⟨t', rfl⟩ := ry; exact PySem.EqMixed.eq_str_int (Xw I q (by simp))
  | str j => obtain ⟨t', rfl⟩ := ry; exact eq_str (Xw I q Qfm)
  | _ => exact absurd (show false = true from hs) kJ
 | byt i =>
  obtain ⟨t, rfl⟩ := rx
  cases y with
  | byt j => obtain ⟨t', rfl⟩ := ry; exact PySem.W.eq_bytes (Xw I q Qfn)
  | _ => exact absurd (show false = true from hs) kJ
 | _ => cases y <;> exact absurd (show false = true from hs) kJ
theorem op_ne : OpR X (compareOp .NotEq) rNe := by
 intro pins s σ H x y v u Q I rx ry h
 obtain ⟨hs, q⟩ := h
 cases x with
 | non =>
  cases rx
  cases y with
  | non => cases ry; exact PySem.EqNone.ne_none_none (Xw I q (by simp))
  | bl j => cases ry; exact PySem.EqNone.ne_none_bool (Xw I q (by simp))
  | int j => obtain ⟨t', rfl⟩ := ry; exact PySem.EqNone.ne_none_int (Xw I q (by simp))
  | str j => obtain ⟨t', rfl⟩ := ry; exact PySem.EqNone.ne_none_str (Xw I q (by simp))
  | _ => exact absurd (show false = true from hs) kJ
 | bl i =>
  cases rx
  cases y with
  | non => cases ry; exact PySem.EqNone.ne_bool_none (Xw I q (by simp))
  | bl j => cases ry; exact ne_bool (Xw I q (congrArg not Qkg))
  | str j => obtain ⟨t', rfl⟩ := ry; exact PySem.EqMixed.ne_bool_str (Xw I q (by simp))
  | _ => exact absurd (show false = true from hs) kJ
 | int i =>
  obtain ⟨t, rfl⟩ := rx
  cases y with
  | non => cases ry; exact PySem.EqNone.ne_int_none (Xw I q (by simp))
  | int j => obtain ⟨t', rfl⟩ := ry; exact ne_int (Xw I q (congrArg not Qfl))
  | str j => obtain ⟨t', rfl⟩ := ry; exact PySem.EqMixed.ne_int_str (Xw I q (by simp))
  | _ => exact absurd (show false = true from hs) kJ
 | str i =>
  obtain ⟨t, rfl⟩ := rx
  cases y with
  | non => cases ry; exact PySem.EqNone.ne_str_none (Xw I q (by simp))
  | bl j => cases ry; exact PySem.EqMixed.ne_str_bool (Xw I q (by simp))
  | int j => obtain ⟨t', rfl⟩ := ry; exact PySem.EqMixed.ne_str_int (Xw I q (by simp))
  | str j => obtain ⟨t', rfl⟩ := ry; exact ne_str (Xw I q (congrArg not Qfm))
  | _ => exact absurd (show false = true from hs) kJ
 | byt i =>
  obtain ⟨t, rfl⟩ := rx
  cases y with
  | byt j => obtain ⟨t', rfl⟩ := ry; exact PySem.W.ne_bytes (Xw I q (congrArg not Qfn))
  | _ => exact absurd (show false = true from hs) kJ
 | _ => cases y <;> exact absurd (show false = true from hs) kJ
theorem Qfo : OpR X (compareOp .Lt) (rI0 fun i j => .bl (decide (i < j))) := opB0 fun _ _ _ _ _ _ _ q => lt_int q
theorem Kr : OpR X (compareOp .LtE) (rI0 fun i j => .bl (decide (i ≤ j))) := opB0 fun _ _ _ _ _ _ _ q => le_int q
theorem op_gt : OpR X (compareOp .Gt) (rI0 fun i j => .bl (decide (j < i))) := opB0 fun _ _ _ _ _ _ _ q => gt_int q
theorem Qv (b : Expr) {op : CmpOp} (h : autoParam (op ≠ .In) L2.aDec._auto_1) (h2 : autoParam (op ≠ .NotIn) L2.aDec._auto_1) : behindInMarks op b = false := by
 have e1 : (op == CmpOp.In) = false := by cases op <;> first | rfl | exact absurd rfl h
 have e2 : (op == CmpOp.NotIn) = false := by cases op <;> first | rfl | exact absurd rfl h2
 cases b <;> simp [behindInMarks, e1, e2]
theorem Zs {op : CmpOp} {r : R2} (ho : OpR X (compareOp op) r) (ha : PE X a ta) (hb : PE X b tb) (hm : behindInMarks op b = false) : PE X (.Compare a [op] [b] pos) (tOp r ta tb) := by
 intro pins s σ H Q I h
 exact wpAny_Compare1 (binT ha hb I h fun v u s2 x y H2 I2 rx ry q => ho pins s2 σ H2 x y v u Q I2 rx ry q) hm
def tTest (t : TE) : TT := fun σ H Q => t σ H fun x H' => ∃ k, x = .bl k ∧ Q k H'
theorem Qr {op : CmpOp} {r : R2} (ho : OpR X (compareOp op) r) (ha : PE X a ta) (hb : PE X b tb) (hm : behindInMarks op b = false) : PT X (.Compare a [op] [b] pos) (tTest (tOp r ta tb)) := by
 intro pins s σ H Q I h
 refine wpAny_isTrue_Compare1 (thn (ha pins s σ H _ I h) fun v s1 ⟨x, H1, I1, r1, q1⟩ => thn (hb pins s1 σ H1 _ I1 q1) fun u s2 ⟨y, H2, I2, r2, q2⟩ =>
  thn (ho pins s2 σ H2 x y v u _ I2 r1 r2 q2) fun c s3 ⟨z, H3, I3, r3, k, e, q3⟩ => ?_) hm
 subst e
 cases r3
 exact wpAny_truthy_bool ⟨H3, I3, q3⟩
def Qkh (r r' : R2) (ta tb tc : TE) : TE := fun σ H Q => ta σ H fun x H1 => tb σ H1 fun y H2 => r x y H2 fun z H3 => ∃ k, z = .bl k ∧
 (if k = true then tc σ H3 fun w' H4 => r' y w' H4 Q else Q (.bl false) H3)
theorem Qib {op op' : CmpOp} {r r' : R2} (ho : OpR X (compareOp op) r) (ho' : OpR X (compareOp op') r') (ha : PE X a ta) (hb : PE X b tb) (hc : PE X c tc)
  (hm : lastMarks [op, op'] [b, c] = false := by with_unfolding_all rfl) : PE X (.Compare a [op, op'] [b, c] pos) (Qkh r r' ta tb tc) := by
 intro pins s σ H Q I h
 refine Compare_chain (thn (ha pins s σ H _ I h) fun v s1 ⟨x, H1, I1, r1, q1⟩ => chain_link (thn (hb pins s1 σ H1 _ I1 q1) fun u s2 ⟨y, H2, I2, r2, q2⟩ =>
  thn (ho pins s2 σ H2 x y v u _ I2 r1 r2 q2) fun d s3 ⟨z, H3, I3, r3, k, e, q3⟩ => ?_)) hm
 subst e
 cases r3
 refine wpAny_truthy_bool ?_
 cases k with
 | false => exact ite_ff ⟨.bl false, H3, I3, rfl, q3⟩
 | true => exact ite_tt (chain_last (thn (hc pins s3 σ H3 _ I3 q3) fun w' s4 ⟨z', H4, I4, r4, q4⟩ => ho' pins s4 σ H4 y z' u w' Q I4 r2 r4 q4))
theorem Qic {op op' : CmpOp} {r r' : R2} (ho : OpR X (compareOp op) r) (ho' : OpR X (compareOp op') r') (ha : PE X a ta) (hb : PE X b tb) (hc : PE X c tc)
  (hm : lastMarks [op, op'] [b, c] = false := by with_unfolding_all rfl) : PT X (.Compare a [op, op'] [b, c] pos) (tTest (Qkh r r' ta tb tc)) := by
 intro pins s σ H Q I h
 refine isTrue_chain (thn (ha pins s σ H _ I h) fun v s1 ⟨x, H1, I1, r1, q1⟩ => test_link (thn (hb pins s1 σ H1 _ I1 q1) fun u s2 ⟨y, H2, I2, r2, q2⟩ =>
  thn (ho pins s2 σ H2 x y v u _ I2 r1 r2 q2) fun d s3 ⟨z, H3, I3, r3, k, e, q3⟩ => ?_)) hm
 subst e
 cases r3
 refine wpAny_truthy_bool ?_
 cases k with
 | false =>
  obtain ⟨k', e', q'⟩ := q3
  cases e'
  exact ite_ff ⟨H3, I3, q'⟩
 | true =>
  refine ite_tt (test_last (thn (hc pins s3 σ H3 _ I3 q3) fun w' s4 ⟨z', H4, I4, r4, q4⟩ => thn (ho' pins s4 σ H4 y z' u w' _ I4 r2 r4 q4) fun d' s5 hqP => ?_))
  obtain ⟨z2, H5, I5, r5, k2, e2, q5⟩ := hqP
  subst e2
  cases r5
  exact wpAny_truthy_bool ⟨H5, I5, q5⟩
theorem Qdi : (sizeLine : Nat) < 2 ^ 63 := by rw [sizeLine_eq]; decide
theorem Qei : OpR X (binaryOp .Add) (fun x y H Q => ∃ i j, x = .str i ∧ y = .str j ∧ i.length + j.length ≤ sizeLine ∧ Q (.str (i ++ j)) H) := by
 intro pins s σ H x y v u Q I rx ry h
 obtain ⟨i, j, rfl, rfl, hz, q⟩ := h
 obtain ⟨t, rfl⟩ := rx
 obtain ⟨t', rfl⟩ := ry
 exact add_str (fun t' tk => ⟨.str (i ++ j), H, I.tok _, ⟨_, rfl⟩, q⟩) hz
theorem vals1 {x : V} {us : List Value} (r : Vals [x] us) : ∃ u, us = [u] ∧ RelV x u := by
 cases r with
 | cons r1 r2 => cases r2; exact ⟨_, rfl, r1⟩
theorem vals2 {x y : V} {us : List Value} (r : Vals [x, y] us) : ∃ u w', us = [u, w'] ∧ RelV x u ∧ RelV y w' := by
 cases r with
 | cons r1 r2 =>
  cases r2 with
  | cons r3 r4 => cases r4; exact ⟨_, _, rfl, r1, r3⟩
theorem Qaz (hc : X.calm = true) : Jk X (.builtin "max") (fun xs H Q => ∃ i j, xs = [.int i, .int j] ∧ Q (.int (if j > i then j else i)) H) := by
 intro pins s σ H xs us Q I r h
 obtain ⟨i, j, rfl, q⟩ := h
 obtain ⟨u, w', rfl, ⟨t, rfl⟩, ⟨t', rfl⟩⟩ := vals2 r
 refine max_two_ints (I.ok.hd hc) fun h' tk k => ⟨_, H, I.kept k, ?_, q⟩
 by_cases hj : j > i
 ·rw [if_pos hj, if_pos hj]; exact ⟨_, rfl⟩
 ·rw [if_neg hj, if_neg hj]; exact ⟨_, rfl⟩
theorem Ja (hc : X.calm = true) : Jk X (.builtin "min") (fun xs H Q => ∃ i j, xs = [.int i, .int j] ∧ Q (.int (if j < i then j else i)) H) := by
 intro pins s σ H xs us Q I r h
 obtain ⟨i, j, rfl, q⟩ := h
 obtain ⟨u, w', rfl, ⟨t, rfl⟩, ⟨t', rfl⟩⟩ := vals2 r
 refine min_two_ints (I.ok.hd hc) fun h' tk k => ⟨_, H, I.kept k, ?_, q⟩
 by_cases hj : j < i
 ·rw [if_pos hj, if_pos hj]; exact ⟨_, rfl⟩
 ·rw [if_neg hj, if_neg hj]; exact ⟨_, rfl⟩
theorem Js : Jk X (.type "int") (fun xs H Q => (∃ i, xs = [.int i] ∧ Q (.int i) H) ∨ ∃ k, xs = [.bl k] ∧ Q (.int (if k then 1 else 0)) H) := by
 intro pins s σ H xs us Q I r h
 rcases h with ⟨i, rfl, q⟩ | ⟨k, rfl, q⟩
 ·obtain ⟨u, rfl, t, rfl⟩ := vals1 r
  exact call_int_int ⟨.int i, H, I, ⟨_, rfl⟩, q⟩
 ·obtain ⟨u, rfl, r1⟩ := vals1 r
  cases r1
  exact call_int_bool ⟨.int (if k then 1 else 0), H, I.tok _, ⟨_, rfl⟩, q⟩
end
structure ObjM (h : Heap) (x dx C : Addr) (mA : Str → Option Value) : Prop where
 obj : h.get? x = some (PySem.W.instObj C dx)
 ns : h.Ns1 dx mA
 ne : dx ≠ x
theorem Qfp {h : Heap} {dx : Addr} {mA : Str → Option Value} (n : h.Ns1 dx mA) : ∃ od, h.get? dx = some od ∧ ∀ name, PySem.W.lookIn name od = some (mA name) := by
 obtain ⟨o, es, ep, ho, hd, hk, _, hm⟩ := n
 refine ⟨o, ho, fun name => ?_⟩
 have e := hm name
 unfold nsFind findBy at e
 rw [← Array.find?_toList] at e
 unfold PySem.W.lookIn
 rw [hd]
 dsimp only
 split
 ·rename_i y q
  rw [q] at e
  exact congrArg some e
 ·rename_i q
  rw [q] at e
  have a : es.toList.any (·.refKey) = false := by
   rw [List.any_eq_false]
   intro y hy
   obtain ⟨z, t, hkey⟩ := hk y (Array.mem_toList_iff.mp hy)
   simp [DictEntry.refKey, hkey]
  have a' : ¬ es.toList.any (·.refKey) = true := by rw [a]; exact kJ
  rw [if_neg a']
  exact congrArg some e
theorem ObjM.look {h : Heap} {x dx C : Addr} {mA : Str → Option Value} (I : ObjM h x dx C mA) : ∃ od, PySem.W.InstAt h x (PySem.W.instObj C dx) C (some od) ∧ ∀ name, PySem.W.lookIn name od = some (mA name) :=
 let ⟨od, ho, hl⟩ := Qfp I.ns
 ⟨od, ⟨I.obj, rfl, rfl, ho⟩, hl⟩
section
variable {prog : Program} {w : World} {A : Around} {E : Value → Shared → Prop} {s : Shared} {K : Fg} {x dx C f : Addr} {mA : Str → Option Value} {name : Str} {v : Value}
theorem get_map {expr : Bool} {Q : Value → Shared → Prop} (X : K.In s.heap) (I : ObjM s.heap x dx C mA) (hg : PySem.W.plainGet K C name = true) (hh : PySem.W.hasDictIn K C = true)
  (ha : PySem.W.findIn K (.ref C) name = some none) (hv : mA name = some v) (hv' : PySem.W.handedIn v = true) (h : Q v { s with toks := s.toks + 1 }) :
  wpAny (model prog w) A (getAttr (.ref x) name expr) Q E s := by
 obtain ⟨od, J, hl⟩ := I.look
 exact PySem.W.get_value X J (PySem.W.plainGet_of hg).1 (PySem.W.findObj_own hh ha rfl (by rw [hl, hv])) hv' h
theorem Qid {pl : Sem Bool} {Q : Value × List Value → Shared → Prop} (X : K.In s.heap) (I : ObjM s.heap x dx C mA) (hg : PySem.W.plainGet K C name = true)
  (hf : PySem.W.findIn K (.ref C) name = some (some (.ref f))) (ht : PySem.W.isFn K (.ref f) = true) (hv : mA name = none) (h : Q (.ref f, [.ref x]) s) :
  wpAny (model prog w) A (getMethod (.ref x) name pl) Q E s := by
 obtain ⟨od, J, hl⟩ := I.look
 exact PySem.W.method_fn X J (PySem.W.plainGet_of hg).1 (PySem.W.plainGet_of hg).2 hf (beq_iff_eq.mp ht) (by show (PySem.W.lookIn name od).map (·.isSome) = some false; rw [hl, hv]; rfl) h
theorem Qle {ns : List Str} {Q : Unit → Shared → Prop} (X : K.In s.heap) (I : ObjM s.heap x dx C mA)
  (hs : PySem.W.findIn K (.ref C) "__setattr__" = some (some (.builtin "object.__setattr__"))) (hp : PySem.W.plainOver K C = true) (ht : PySem.W.takerIn K C name = some none) (hh : PySem.W.hasDictIn K C = true)
  (hw : PySem.Within mA ns) (hsz : ns.length ≤ sizeLine)
  (h : ∀ h', ObjM h' x dx C (fun y => if y = name then some v else mA y) → Heap.SameBut dx s.heap h' → Q () { s with heap := h', toks := s.toks + 2 }) :
  wpAny (model prog w) A (setAttr (.ref x) name v) Q E s := by
 obtain ⟨od, J, hl⟩ := I.look
 refine PySem.W.set_plain X J hs (PySem.W.osa_open (s := { s with toks := s.toks + 1 }) (r := none) X J hp ht fun b => ?_)
 obtain ⟨cd, hc, hd'⟩ := PySem.W.any_some hh
 have hx : s.heap.get? x = some ⟨.ref C, some dx, .plain, #[]⟩ := I.obj
 refine jQ (jK (jQ (jQ (wpAny_loadPart hx (jQ (PySem.W.Looks.here (s := { s with toks := s.toks + 1 }) (PySem.W.looks_clsIn X hc) ?_))))))
 rw [hd']
 refine jK (a := some dx) (jQ (jK (jQ ?_)))
 refine wpAny_nsSet1 (s := { s with toks := s.toks + 1 }) I.ns fun h' hn2 hs2 => ?_
 obtain ⟨oD, esD, epD, hoD, hdD, hcD⟩ := hn2.count (PySem.Within.cons name v hw)
 refine jQ (wpAny_lookBehind hoD (by rw [hdD]; exact pastItsLine_dict (jQc hcD (by rw [xK]; omega))) ?_)
 exact jK (h _ ⟨(hs2.2 _ (Ne.symm I.ne)).trans I.obj, hn2, I.ne⟩ hs2)
theorem Qie {R : Result → Shared → Prop} {vs : List Value} {kw : List (Str × Value)} (X : K.In s.heap) (hm : PySem.W.makesIn K C = true)
  (hi : PySem.W.findIn K (.ref C) "__init__" = some (some (.ref f))) (hf : PySem.W.typeIn K (.ref f) = some (.type "function"))
  (h : codeAny (model prog w) (A.under (.builtin "type.__call__" ⟨.ref C :: vs, kw⟩)) (.call (.ref f) ⟨.ref (s.heap.objs.size + 1) :: vs, kw⟩) (PySem.W.InitBack (s.heap.objs.size + 1) R)
   { s with heap := (s.heap.push PySem.W.emptyDict).push (PySem.W.instObj C s.heap.objs.size) }) :
  codeAny (model prog w) A (.call (.ref C) ⟨vs, kw⟩) R s := by
 obtain ⟨hh, g, d, t, os⟩ := s
 exact PySem.W.make_core (PySem.W.makes_of X hm) (PySem.W.looks_findIn X hi) (fun self => PySem.W.bind_fn X self hf) (.inl rfl) h
end
def putF (f : Str) (v : V) : List (Str × V) → List (Str × V)
 | [] => [(f, v)]
 | (g, x) :: r => if g = f then (g, v) :: r else (g, x) :: putF f v r
theorem Qf (f g : Str) (v : V) : ∀ fs : List (Str × V), (putF f v fs).lookup g = if g = f then some v else fs.lookup g
 | [] => by
  show List.lookup g [(f, v)] = _
  by_cases h : g = f
  ·have hb : (g == f) = true := beq_iff_eq.mpr h
   simp only [List.lookup, hb, if_pos h]
  ·have hb : (g == f) = false := beq_eq_false_iff_ne.mpr h
   simp only [List.lookup, hb, if_neg h]
 | (k, x) :: r => by
  have ih := Qf f g v r
  rw [show putF f v ((k, x) :: r) = (if k = f then (k, v) :: r else (k, x) :: putF f v r) from rfl]
  by_cases hk : k = f
  ·rw [if_pos hk]
   by_cases h : g = k
   ·have hb : (g == k) = true := beq_iff_eq.mpr h
    simp only [List.lookup, hb, if_pos (h.trans hk)]
   ·have hb : (g == k) = false := beq_eq_false_iff_ne.mpr h
    simp only [List.lookup, hb, if_neg (fun e : g = f => h (e.trans hk.symm))]
  ·rw [if_neg hk]
   by_cases h : g = k
   ·have hb : (g == k) = true := beq_iff_eq.mpr h
    simp only [List.lookup, hb, if_neg (fun e : g = f => hk (h.symm.trans e))]
   ·have hb : (g == k) = false := beq_eq_false_iff_ne.mpr h
    simp only [List.lookup, hb]
    exact ih
theorem Vg (f : Str) (v : V) : ∀ fs : List (Str × V), f ∈ (putF f v fs).map (·.1) ∧ ∀ g, g ∈ fs.map (·.1) → g ∈ (putF f v fs).map (·.1)
 | [] => ⟨by simp [putF], fun g h => by simp at h⟩
 | (k, x) :: r => by
  obtain ⟨i1, i2⟩ := Vg f v r
  rw [show putF f v ((k, x) :: r) = (if k = f then (k, v) :: r else (k, x) :: putF f v r) from rfl]
  by_cases hk : k = f
  ·rw [if_pos hk]
   subst hk
   exact ⟨by simp, fun g h => by simpa using h⟩
  ·rw [if_neg hk]
   refine ⟨?_, fun g h => ?_⟩
   ·rw [xY]
    exact xX _ i1
   ·rw [xY] at h ⊢
    rcases zY.mp h with e | e
    ·exact zY.mpr (.inl e)
    ·exact xX _ (i2 g e)
theorem Xo (f : Str) (v : V) : ∀ fs : List (Str × V), (putF f v fs).length ≤ fs.length + 1
 | [] => by simp [putF]
 | (k, x) :: r => by
  have ih := Xo f v r
  rw [show putF f v ((k, x) :: r) = (if k = f then (k, v) :: r else (k, x) :: putF f v r) from rfl]
  by_cases hk : k = f
  ·rw [if_pos hk, xK, xK]; omega
  ·rw [if_neg hk, xK, xK]; omega
theorem RelO.some_of {v : V} {o : Option Value} (r : RelO (some v) o) : ∃ u, o = some u ∧ RelV v u := by
 cases o with
 | none => exact (show False from r).elim
 | some u => exact ⟨u, rfl, r⟩
theorem RelO.none_of {o : Option Value} (r : RelO none o) : o = none := by
 cases o with
 | none => rfl
 | some u => exact (show False from r).elim
theorem Qfq {v : V} {u : Value} (r : RelV v u) : PySem.W.handedIn u = true := by
 cases v with
 | non => cases (show u = Value.none from r); rfl
 | bl b => cases (show u = Value.bool b from r); rfl
 | int i => obtain ⟨t, e⟩ := (show ∃ t, u = Value.int i t from r); cases e; rfl
 | str x => obtain ⟨t, e⟩ := (show ∃ t, u = Value.str x t from r); cases e; rfl
 | byt b => obtain ⟨t, e⟩ := (show ∃ t, u = Value.bytes b t from r); cases e; rfl
 | flt b => obtain ⟨t, e⟩ := (show ∃ t, u = Value.float b t from r); cases e; rfl
 | ref a => cases (show u = Value.ref a from r); rfl
 | ty n => cases (show u = Value.type n from r); rfl
section
variable {P : Program} {w : World} {H H' : Hp} {h h' : Heap} {a C dx : Addr} {fs fs' : List (Str × V)}
theorem Qcl (hok : HOk P w H h) (e : H a = some (.ins C dx fs)) : ∃ mA, ObjM h a dx C mA ∧ (∀ f, RelO (fs.lookup f) (mA f)) ∧ PySem.Within mA (fs.map (·.1)) ∧ fs.length ≤ 1000 ∧ H dx = some (.own a) := by
 obtain ⟨d, z, ne, ob, mA, n, r, q⟩ := (show ObjOk P w H h a (.ins C dx fs) from hok a _ e)
 exact ⟨mA, ⟨ob, n, ne⟩, r, q, z, d⟩
end
structure Cls (K : Fg) (C : Addr) : Prop where
 pg : PySem.W.plainGet K C Str.empty = true
 hd : PySem.W.hasDictIn K C = true
 po : PySem.W.plainOver K C = true
 sa : PySem.W.findIn K (.ref C) "__setattr__" = some (some (.builtin "object.__setattr__"))
theorem Cls.get {K : Fg} {C : Addr} (c : Cls K C) (f : Str) : PySem.W.plainGet K C f = true := c.pg
def NoAttr (K : Fg) (C : Addr) (f : Str) : Prop := PySem.W.findIn K (.ref C) f = some none
theorem NoAttr.taker {K : Fg} {C : Addr} {f : Str} (n : NoAttr K C f) : PySem.W.takerIn K C f = some none := by
 unfold PySem.W.takerIn
 rw [show PySem.W.findIn K (.ref C) f = some none from n]
 rfl
structure Meth (K : Fg) (C : Addr) (m : Str) (f : Addr) : Prop where
 at_ : PySem.W.findIn K (.ref C) m = some (some (.ref f))
 fn : PySem.W.isFn K (.ref f) = true
 kp : PySem.W.keepIn K (.ref f) = true
section
variable {X : Cx} {pins : List (Addr × Obj)} {σ : St} {H : Hp} {s : Shared} {a C dx : Addr} {fs : List (Str × V)} {f : Str} {v : V} {A : Around} {E : Value → Shared → Prop}
theorem Qej {b : Bool} {Q : Value → Shared → Prop} (I : Inv X pins σ H s) (e : H a = some (.ins C dx fs)) (c : Cls X.K C) (n : NoAttr X.K C f) (l : fs.lookup f = some v)
  (h : ∀ u s', Inv X pins σ H s' → RelV v u → Q u s') : wpAny (model X.prog X.w) A (getAttr (.ref a) f b) Q E s := by
 obtain ⟨mA, O, r, _, _, _⟩ := Qcl I.hok e
 obtain ⟨u, hu, ru⟩ := RelO.some_of (v := v) (o := mA f) (by rw [← l]; exact r f)
 exact get_map I.kIn O (c.get f) c.hd n hu (Qfq ru) (h u _ (I.tok _) ru)
theorem Wi {m : Str} {g : Addr} {pl : Sem Bool} {Q : Value × List Value → Shared → Prop} (I : Inv X pins σ H s) (e : H a = some (.ins C dx fs)) (c : Cls X.K C) (k : Meth X.K C m g) (l : fs.lookup m = none)
  (h : Q (.ref g, [.ref a]) s) : wpAny (model X.prog X.w) A (getMethod (.ref a) m pl) Q E s := by
 obtain ⟨mA, O, r, _, _, _⟩ := Qcl I.hok e
 have hn : mA m = none := RelO.none_of (by rw [← l]; exact r m)
 exact Qid I.kIn O (c.get m) k.at_ k.fn hn h
theorem Qek {y : V} {u : Value} {Q : Unit → Shared → Prop} (I : Inv X pins σ H s) (e : H a = some (.ins C dx fs)) (c : Cls X.K C) (n : NoAttr X.K C f) (hl : fs.length < 1000) (ry : RelV y u)
  (h : ∀ s', Inv X pins σ (upd H a (.ins C dx (putF f y fs))) s' → Q () s') : wpAny (model X.prog X.w) A (setAttr (.ref a) f u) Q E s := by
 obtain ⟨mA, O, r, wi, _, ho⟩ := Qcl I.hok e
 have hz : (fs.map (·.1)).length ≤ sizeLine := by rw [jX, sizeLine_eq]; omega
 refine Qle I.kIn O c.sa c.po n.taker c.hd wi hz fun h' O' sb => h _ ?_
 have hd : ∃ o, h'.get? dx = some o := let ⟨o, _, _, e', _⟩ := O'.ns; ⟨o, e'⟩
 refine I.write (x := a) (e := dx) (by rw [e]; exact True.intro) (.inr ho) (fun b q hb z => (sb.2 b hb).trans z) hd ?_
 refine ⟨by rw [Qk O.ne]; exact ho, ?_, O.ne, O'.obj, _, O'.ns, fun g => ?_, fun g hg => ?_⟩
 ·have := Xo f y fs; omega
 ·show RelO ((putF f y fs).lookup g) (if g = f then some u else mA g)
  rw [Qf]
  by_cases q : g = f
  ·rw [if_pos q, if_pos q]; exact ry
  ·rw [if_neg q, if_neg q]; exact r g
 ·by_cases q : g = f
  ·rw [q]; exact (Vg f y fs).1
  ·refine (Vg f y fs).2 g (wi g fun z => hg ?_)
   show (if g = f then some u else mA g) = none
   rw [if_neg q]; exact z
theorem Inv.made (I : Inv X pins σ H s) : Inv X pins σ (upd (upd H s.heap.objs.size (.own (s.heap.objs.size + 1))) (s.heap.objs.size + 1) (.ins C s.heap.objs.size []))
  { s with heap := (s.heap.push PySem.W.emptyDict).push (PySem.W.instObj C s.heap.objs.size) } := by
 have e1 : (s.heap.push PySem.W.emptyDict).get? s.heap.objs.size = some PySem.W.emptyDict := yK s.heap rfl
 have e2 : ((s.heap.push PySem.W.emptyDict).push (PySem.W.instObj C s.heap.objs.size)).get? (s.heap.objs.size + 1) = some (PySem.W.instObj C s.heap.objs.size) := by
  have := yK (s.heap.push PySem.W.emptyDict) (o := PySem.W.instObj C s.heap.objs.size) rfl
  rwa [jKc] at this
 have e3 : (s.heap.push PySem.W.emptyDict).Ns s.heap.objs.size (fun _ => none) := ⟨PySem.W.emptyDict, #[], _, e1, rfl, (fun e he => absurd he (by simp)), fun _ => rfl⟩
 have I1 := I.laid (a := s.heap.objs.size) (o := .own (s.heap.objs.size + 1)) (h' := s.heap.push PySem.W.emptyDict) (t' := s.toks) (fun b u q => jW _ q) (jZ _) ⟨_, e1⟩
 refine I1.laid (a := s.heap.objs.size + 1) (o := .ins C s.heap.objs.size []) (t' := s.toks) (fun b u q => jW _ q) (Nat.le_of_eq (jKc _ _)) ?_
 have ne : s.heap.objs.size ≠ s.heap.objs.size + 1 := xQ (Nat.lt_succ_self _)
 refine ⟨by rw [Qk ne, Qd], jQd _, ne, e2, fun _ => none, (Heap.Ns1.of_empty e3).at fun o q => jW _ q, fun _ => True.intro, fun y hy => absurd rfl hy⟩
theorem Qlf {prog : Program} {w : World} {env : Env} {e : Expr} {f : Str} {pos : Pos} {s : Shared} {Q : Value → Shared → Prop} (hb : attributeBase e f env (eval e env) = eval e env)
  (h : wpAny (model prog w) A (eval e env) (fun o s₁ => wpAny (model prog w) A (getAttr o f true) Q E s₁) E s) : wpAny (model prog w) A (eval (.Attribute e f pos) env) Q E s :=
 Attribute_any_ h (by rw [arm_eval_Attribute, hb])
end
def tFld (K : Fg) (ta : TE) (f : Str) : TE := fun σ H Q => ta σ H fun x H1 => ∃ a C dx fs v, x = .ref a ∧ H1 a = some (.ins C dx fs) ∧ Cls K C ∧ NoAttr K C f ∧ fs.lookup f = some v ∧ Q v H1
def sFld (K : Fg) (ta tv : TE) (f : Str) : TS := fun D σ H => tv σ H fun y H1 => ta σ H1 fun x H2 => ∃ a C dx fs, x = .ref a ∧ H2 a = some (.ins C dx fs) ∧ Cls K C ∧ NoAttr K C f ∧ fs.length < 1000 ∧
 D.nx σ (upd H2 a (.ins C dx (putF f y fs)))
section
variable {X : Cx} {o e value : Expr} {f : Str} {pos pos' tpos : Pos} {ta tv : TE}
theorem Ze (he : PE X e ta) (hb : attributeBase e f X.env (eval e X.env) = eval e X.env) : PE X (.Attribute e f pos) (tFld X.K ta f) := by
 intro pins s σ H Q I h
 refine Qlf hb (thn (he pins s σ H _ I h) fun u s1 hqP => ?_)
 obtain ⟨x, H1, I1, rx, a, C, dx, fs, v, ex, ea, c, n, l, q⟩ := hqP
 subst ex
 obtain rfl : u = Value.ref a := rx
 exact Qej I1 ea c n l fun u' s2 I2 ru => ⟨v, H1, I2, ru, q⟩
theorem Vh (ha : PE X o ta) (hv : PE X value tv) (hs : swapsWith value (some (.Attribute o f pos')) pos.line X.env = pure false) : PS X (.Assign [.Attribute o f pos'] value pos) (sFld X.K ta tv f) := by
 intro pins s σ H D I h
 refine plainObj_wpAny_Assign_Attribute (thn (hv pins s σ H _ I h) fun u s1 ⟨y, H1, I1, ry, q⟩ => thn (ha pins s1 σ H1 _ I1 q) fun ov s2 hqP => ?_) hs
 obtain ⟨x, H2, I2, rx, a, C, dx, fs, ex, ea, c, n, l, q2⟩ := hqP
 subst ex
 obtain rfl : ov = Value.ref a := rx
 exact Qek I2 ea c n l ry fun s3 I3 => ⟨σ, _, I3, q2⟩
end
section
variable {X : Cx} {pins : List (Addr × Obj)} {σ : St} {H : Hp} {s : Shared} {A : Around} {E : Value → Shared → Prop} {Q : Value → Shared → Prop} {c : Value} {b : Bool}
end
structure Room (k : Nat) (A : Around) : Prop where
 hd : A.handled = none
 dp : A.depth + 3 * k + 5 < recursionLimit
 un : A.units + 16 * k + 200 < cLine
theorem Room.mono {j k : Nat} {A : Around} (r : Room k A) (h : j ≤ k) : Room j A := ⟨r.hd, by have := r.dp; omega, by have := r.un; omega⟩
theorem Room.deeper {k : Nat} {A : Around} (r : Room (k + 1) A) (env : Env) : Room k (A.deeper env) :=
 ⟨r.hd, by have := r.dp; show A.depth + 1 + 3 * k + 5 < _; omega, by have := r.un; show A.units + 3 + 16 * k + 200 < _; omega⟩
theorem Qel {A : Around} {C : Addr} {us : List Value} {kw : List (Str × Value)} : (A.under (.builtin "type.__call__" ⟨.ref C :: us, kw⟩)).depth = A.depth + 1 := by
 first | rfl | simp [Around.under, Code.weight, Code.isCreation, Code.isGuard, Code.isCaller, Code.frames, Code.isFrame, guardIds]
theorem Qem {A : Around} {C : Addr} {us : List Value} {kw : List (Str × Value)} : (A.under (.builtin "type.__call__" ⟨.ref C :: us, kw⟩)).units = A.units + 1 := by
 first | rfl | simp [Around.under, Code.cUnits, Code.frames, Code.isFrame]
theorem Room.make {k : Nat} {A : Around} (r : Room (k + 1) A) (C : Addr) (us : List Value) (kw : List (Str × Value)) : Room k (A.under (.builtin "type.__call__" ⟨.ref C :: us, kw⟩)) :=
 ⟨r.hd, by have := r.dp; rw [Qel]; omega, by have := r.un; rw [Qem]; omega⟩
theorem Room.depth {k : Nat} {A : Around} (r : Room k A) : A.depth < recursionLimit := by have := r.dp; omega
theorem Room.units {k : Nat} {A : Around} (r : Room k A) : A.units + 64 < cLine := by have := r.un; omega
def tNil : TA := fun _ H Q => Q [] H
def tCons (ta : TE) (tr : TA) : TA := fun σ H Q => ta σ H fun x H1 => tr σ H1 fun xs H2 => Q (x :: xs) H2
section
variable {X : Cx} {e : Expr} {es : List Expr} {te : TE} {t : TA} {pos : Pos}
theorem Qg : PA X [] tNil := fun _ _ _ _ H Q I h => Calls.spliced_nil ⟨[], H, I, .nil, h⟩
theorem Qa (ha : PE X e te) (hr : PA X es t) (hs : autoParam (starEach (e :: es) X.env = (false, eval e X.env) :: starEach es X.env) L2.aRfl._auto_1) : PA X (e :: es) (tCons te t) := by
 intro pos pins s σ H Q I h
 rw [hs]
 show wpAny _ _ (spliced ((false, eval e X.env) :: backTo pos (starEach es X.env))) _ _ s
 refine Calls.spliced_cons (thn (ha pins s σ H _ I h) fun u s1 hqP => ?_)
 obtain ⟨x, H1, I1, r1, q1⟩ := hqP
 exact thn (hr pos pins s1 σ H1 _ I1 q1) fun us s2 ⟨xs, H2, I2, r2, q2⟩ => ⟨x :: xs, H2, I2, .cons r1 r2, q2⟩
def tTup (t : TA) : TE := fun σ H Q => t σ H fun xs H1 => xs.length ≤ sizeLine ∧ ∀ p, H1 p = none → Q (.ref p) (upd H1 p (.tup xs))
def tLst (t : TA) : TE := fun σ H Q => t σ H fun xs H1 => xs.length ≤ sizeLine ∧ ∀ p, H1 p = none → Q (.ref p) (upd H1 p (.lst xs))
theorem Qx {x1} (h : PA X es t) : PE X (.Tuple es x1 pos) (tTup t) := by
 intro pins s σ H Q I hq
 refine wpAny_Tuple_spliced (thn (h pos pins s σ H _ I hq) fun us s1 ⟨xs, H1, I1, r, z, q⟩ => ⟨by rw [← r.length]; exact z, ?_⟩)
 have hf : H1 s1.heap.objs.size = none := I1.hok.fresh (jZ _)
 refine ⟨.ref s1.heap.objs.size, upd H1 s1.heap.objs.size (.tup xs), I1.laid (t' := s1.toks) (fun b u e => jW _ e) (jZ _) ?_, rfl, q _ hf⟩
 exact ⟨z, us, r, ⟨_, yK _ rfl, rfl, _, rfl⟩⟩
theorem Xr (h : PA X es t) : PE X (.List es pos) (tLst t) := by
 intro pins s σ H Q I hq
 refine wpAny_List_spliced (thn (h pos pins s σ H _ I hq) fun us s1 ⟨xs, H1, I1, r, z, q⟩ => ⟨by rw [← r.length]; exact z, ?_⟩)
 have hf : H1 s1.heap.objs.size = none := I1.hok.fresh (jZ _)
 refine ⟨.ref s1.heap.objs.size, upd H1 s1.heap.objs.size (.lst xs), I1.laid (t' := s1.toks) (fun b u e => jW _ e) (jZ _) ?_, rfl, q _ hf⟩
 exact ⟨z, us, 0, r, yK _ rfl⟩
end
abbrev Sp := List V → Hp → VK → XK → Prop
abbrev CXT := List Env → Hp → Shared → XK → Value → Shared → Prop
structure Env0 (P : Program) (w : World) (K : Fg) (mg : Str → Option Value) (base : Heap) (A : Around) (outer : List Env) (s : Shared) (H : Hp) : Prop where
 frames : A.frames = some outer
 mod : Mod K mg base
 bs : ∀ b o, base.get? b = some o → s.heap.get? b = some o ∧ H b = none
 bsz : base.objs.size ≤ s.heap.objs.size
 funs : s.heap.FunFrames base outer
 frf : ∀ b ∈ frs outer, H b = none
 hok : HOk P w H s.heap
 bare : AllBare s.gens
def CE (outer : List Env) (P : Program) (w : World) (H : Hp) (s : Shared) (Q : VK) (u : Value) (s' : Shared) : Prop :=
 ∃ v H', s'.os = s.os ∧ AllBare s'.gens ∧ Un (frs outer) [] H H' s.heap s'.heap ∧ HOk P w H' s'.heap ∧ RelV v u ∧ Q v H'
def CR (CX : CXT) (outer : List Env) (P : Program) (w : World) (H : Hp) (s : Shared) (Q : VK) (E : XK) (r : Result) (s' : Shared) : Prop :=
 match r with
 | .ok (.ret u) => CE outer P w H s Q u s'
 | .ok _ => False
 | .error e => CX outer H s E e s'
structure FnOk (P : Program) (w : World) (K : Fg) (mg : Str → Option Value) (base : Heap) (CX : CXT) (k : Nat) (f : Addr) (fd : FuncData) (ps : List Str) (sp : Sp) : Prop where
 len : ∀ vs H Q E, sp vs H Q E → vs.length = ps.length
 run : ∀ (A : Around) (outer : List Env) (s : Shared) (H : Hp) (args : Args) (us : List Value) (vs : List V) (Q : VK) (E : XK), Room k A → Env0 P w K mg base A outer s H → BindsTo s fd args (ps.zip us) → Vals vs us → sp vs H Q E →
  codeAny (model P w) A (.call (.ref f) args) (CR CX outer P w H s Q E) s
theorem Env0.make {P : Program} {w : World} {K : Fg} {mg : Str → Option Value} {base : Heap} {A : Around} {outer : List Env} {s : Shared} {H : Hp} (e : Env0 P w K mg base A outer s H) (C : Addr) (us : List Value) (kw : List (Str × Value)) :
  Env0 P w K mg base (A.under (.builtin "type.__call__" ⟨.ref C :: us, kw⟩)) outer s H := ⟨by first | exact e.frames | (simpa [Around.under, Code.envs, Code.isFrame, pushEnvs] using e.frames), e.mod, e.bs, e.bsz, e.funs, e.frf, e.hok, e.bare⟩
section
variable {X : Cx} {pins : List (Addr × Obj)} {σ : St} {H : Hp} {s s' : Shared}
theorem Inv.env0 (I : Inv X pins σ H s) : Env0 X.prog X.w X.K X.mg X.base X.A X.stack s H :=
 ⟨I.ok.frames, I.ok.mod, I.bs, jQc I.ok.bsz I.sz, I.stack, I.stkFree, I.hok, I.bare⟩
theorem Inv.after {Q : VK} {u : Value} (I : Inv X pins σ H s) (h : CE X.stack X.prog X.w H s Q u s') : EP X pins σ Q u s' := by
 obtain ⟨v, H', os, bare, un, hok, r, q⟩ := h
 obtain ⟨hh, g, d, t, os'⟩ := s'
 obtain rfl : os' = s.os := os
 exact ⟨v, H', I.call (h' := hh) (g' := g) (d' := d) (t' := t) (ch := []) un hok bare (fun b z => absurd z (by simp)), r, q⟩
end
def tCall (sp : Sp) (dvs : List V) (E : XK) (t : TA) : TE := fun σ H Q => t σ H fun vs H1 => sp (vs ++ dvs) H1 Q E
def tMeth (C : Addr) (m : Str) (sp : Sp) (dvs : List V) (E : XK) (ta : TE) (t : TA) : TE := fun σ H Q => ta σ H fun x H1 => ∃ a dx fs, x = .ref a ∧ H1 a = some (.ins C dx fs) ∧ fs.lookup m = none ∧
 t σ H1 fun vs H2 => sp (x :: (vs ++ dvs)) H2 Q E
def tMake (C : Addr) (sp : Sp) (dvs : List V) (E : XK) (t : TA) : TE := fun σ H Q => t σ H fun vs H1 => ∀ x dx, H1 x = none → H1 dx = none → dx ≠ x →
 sp (.ref x :: (vs ++ dvs)) (upd (upd H1 dx (.own x)) x (.ins C dx [])) (fun v H2 => v = .non ∧ Q (.ref x) H2) E
def Binds (K : Fg) (fd : FuncData) (ps : List Str) (ds : List Value) : Prop :=
 ∀ (s : Shared) (us : List Value), K.In s.heap → (us ++ ds).length = ps.length → BindsTo s fd ⟨us, []⟩ (ps.zip (us ++ ds))
theorem Binds.all {K : Fg} {fd : FuncData} {ps : List Str} (h : ∀ us : List Value, us.length = ps.length → bindArgs fd ⟨us, []⟩ = pure (ps.zip us)) : Binds K fd ps [] := fun s us _ hl => by
 rw [yW] at hl ⊢
 exact .of_eq (h us hl)
def Vi (CX : CXT) (X : Cx) (E : XK) : Prop := ∀ (pins : List (Addr × Obj)) (σ : St) (H : Hp) (s : Shared) (e : Value) (s' : Shared), Inv X pins σ H s → CX X.stack H s E e s' → X.xe e s'
section
variable {X : Cx} {CX : CXT} {k : Nat} {f C : Addr} {fd : FuncData} {ps : List Str} {sp : Sp} {dvs : List V} {ds : List Value} {E : XK} {x m : Str} {p pos apos : Pos} {e o : Expr} {es : List Expr} {ta : TE} {t : TA}
theorem Qfr {pins : List (Addr × Obj)} {σ : St} {H : Hp} {s : Shared} {Q : VK} {us : List Value} {vs : List V} (F : FnOk X.prog X.w X.K X.mg X.base CX k f fd ps sp) (hr : Room k X.A) (hb : Binds X.K fd ps ds) (hd : Vals dvs ds) (hx : Vi CX X E)
  (I : Inv X pins σ H s) (r : Vals vs us) (h : sp (vs ++ dvs) H Q E) : wpAny (model X.prog X.w) X.A (call (.ref f) us) (EP X pins σ Q) X.xe s := by
 have r2 : Vals (vs ++ dvs) (us ++ ds) := r.append hd
 have hl : (us ++ ds).length = ps.length := by rw [← r2.length]; exact F.len _ _ _ _ h
 refine wpAny_call (codeAny_mono (F.run X.A X.stack s H ⟨us, []⟩ (us ++ ds) (vs ++ dvs) Q E hr I.env0 (hb s us I.kIn hl) r2 h) fun r s' hq => ?_)
 cases r with
 | error e => exact hx pins σ H s e s' I hq
 | ok fl =>
  cases fl with
  | ret u => exact I.after hq
  | next => exact False.elim hq
  | brk => exact False.elim hq
  | cont => exact False.elim hq
theorem Qlg (F : FnOk X.prog X.w X.K X.mg X.base CX k f fd ps sp) (hr : Room k X.A) (hg : Gl X x) (hm : X.mg x = some (.ref f)) (hk : PySem.W.keepIn X.K (.ref f) = true) (hb : Binds X.K fd ps ds) (hd : Vals dvs ds) (hx : Vi CX X E)
  (ha : PA X (e :: es) t) (hdb : autoParam ((x == ("__debug__" : Str)) = false) L2.aDec._auto_1) (he : autoParam (starEach (e :: es) X.env = (false, eval e X.env) :: starEach es X.env) L2.aRfl._auto_1) (hpl : autoParam ((backTo pos (starEach es X.env)).any (·.1) = false) L2.aRfl._auto_1) :
  PE X (.Call (.Name x p) (e :: es) [] pos) (tCall sp dvs E t) := by
 intro pins s σ H Q I h
 refine wpAny_Call_Name_kw (Qck I hg hm ?_ hdb)
 refine PySem.W.callWith_K (h₀ := X.base) I.ok.mod.kin hk (thn (ha pos pins s σ H _ I h) fun us s1 ⟨vs, H1, I1, r, q⟩ => ⟨I1.kIn, ?_⟩) he hpl
 exact Qfr F hr hb hd hx I1 r q
theorem Zh {pl : Sem Bool} (he : PE X o ta) (c : Cls X.K C) (hm : Meth X.K C m f) (F : FnOk X.prog X.w X.K X.mg X.base CX k f fd ps sp) (hr : Room k X.A) (hb : Binds X.K fd ps ds) (hd : Vals dvs ds) (hx : Vi CX X E) (ha : PA X (e :: es) t)
  (hst : autoParam (starEach (e :: es) X.env = (false, eval e X.env) :: starEach es X.env) L2.aRfl._auto_1) (hpl : autoParam ((backTo pos (starEach es X.env)).any (·.1) = false) L2.aRfl._auto_1)
  (ht : eval (.Call (.Attribute o m apos) (e :: es) [] pos) X.env = (do
   let ov ← eval o X.env
   standAt apos.atName
   let (f, first) ← holding [ov] (getMethod ov m pl)
   callWith pos f first (backTo pos (starEach (e :: es) X.env)) (backToKw pos (keywordEach [] X.env))) := by rfl) :
  PE X (.Call (.Attribute o m apos) (e :: es) [] pos) (tMeth C m sp dvs E ta t) := by
 intro pins s σ H Q I h
 refine PySem.W.methodCall_KW (pl := pl) (thn (he pins s σ H _ I h) fun u s1 hqP => ?_) ht
 obtain ⟨x, H1, I1, rx, a, dx, fs, ex, ea, l, q⟩ := hqP
 subst ex
 obtain rfl : u = Value.ref a := rx
 refine Wi I1 ea c hm l ?_
 refine PySem.W.callWith_K (first := [.ref a]) (h₀ := X.base) I.ok.mod.kin hm.kp (thn (ha pos pins s1 σ H1 _ I1 q) fun us s2 ⟨vs, H2, I2, r, q2⟩ => ⟨I2.kIn, ?_⟩) hst hpl
 exact Qfr (us := .ref a :: us) (vs := .ref a :: vs) F hr hb hd hx I2 (.cons rfl r) q2
theorem Qdj {pl : Sem Bool} (he : PE X o ta) (c : Cls X.K C) (hm : Meth X.K C m f) (F : FnOk X.prog X.w X.K X.mg X.base CX k f fd ps sp) (hr : Room k X.A) (hb : Binds X.K fd ps ds) (hd : Vals dvs ds) (hx : Vi CX X E)
  (ht : eval (.Call (.Attribute o m apos) [] [] pos) X.env = (do
   let ov ← eval o X.env
   standAt apos.atName
   let (f, first) ← holding [ov] (getMethod ov m pl)
   callWith pos f first (backTo pos (starEach [] X.env)) (backToKw pos (keywordEach [] X.env))) := by rfl) :
  PE X (.Call (.Attribute o m apos) [] [] pos) (tMeth C m sp dvs E ta tNil) := by
 intro pins s σ H Q I h
 refine PySem.W.methodCall_KW (pl := pl) (thn (he pins s σ H _ I h) fun u s1 hqP => ?_) ht
 obtain ⟨x, H1, I1, rx, a, dx, fs, ex, ea, l, q⟩ := hqP
 subst ex
 obtain rfl : u = Value.ref a := rx
 refine Wi I1 ea c hm l ?_
 exact PySem.W.callWith_K0 (first := [.ref a]) I1.kIn hm.kp (Qfr (us := [.ref a]) (vs := [.ref a]) F hr hb hd hx I1 (.cons rfl .nil) q)
structure Mk (K : Fg) (C f : Addr) : Prop where
 makes : PySem.W.makesIn K C = true
 init : PySem.W.findIn K (.ref C) "__init__" = some (some (.ref f))
 fn : PySem.W.isFn K (.ref f) = true
 kp : PySem.W.keepIn K (.ref C) = true
theorem Qif {pins : List (Addr × Obj)} {σ : St} {H : Hp} {s : Shared} {Q : VK} {us : List Value} {vs : List V} (M : Mk X.K C f) (F : FnOk X.prog X.w X.K X.mg X.base CX k f fd ps sp) (hr : Room (k + 1) X.A) (hb : Binds X.K fd ps ds) (hd : Vals dvs ds)
  (hx : Vi CX X E) (I : Inv X pins σ H s) (r : Vals vs us)
  (h : ∀ x dx, H x = none → H dx = none → dx ≠ x → sp (.ref x :: (vs ++ dvs)) (upd (upd H dx (.own x)) x (.ins C dx [])) (fun v H2 => v = .non ∧ Q (.ref x) H2) E) :
  wpAny (model X.prog X.w) X.A (call (.ref C) us) (EP X pins σ Q) X.xe s := by
 have hq := h (s.heap.objs.size + 1) s.heap.objs.size (I.hok.fresh (Nat.le_succ _)) (I.hok.fresh (jZ _)) (xQ (Nat.lt_succ_self _))
 have I2 := Inv.made (C := C) I
 have r2 : Vals (V.ref (s.heap.objs.size + 1) :: (vs ++ dvs)) (Value.ref (s.heap.objs.size + 1) :: (us ++ ds)) := .cons rfl (r.append hd)
 have hl : (Value.ref (s.heap.objs.size + 1) :: us ++ ds).length = ps.length := by
  have e := r2.length
  rw [F.len _ _ _ _ hq] at e
  exact e.symm
 refine wpAny_call (Qie (f := f) I.kIn M.makes M.init (beq_iff_eq.mp M.fn) (codeAny_mono (F.run _ X.stack _ _ ⟨Value.ref (s.heap.objs.size + 1) :: us, []⟩ (Value.ref (s.heap.objs.size + 1) :: (us ++ ds)) _ _ E (hr.make C us [])
  (I2.env0.make C us []) (hb _ (Value.ref (s.heap.objs.size + 1) :: us) I2.kIn hl) r2 hq) fun r s' hq' => ?_))
 cases r with
 | error e => exact hx pins σ _ _ e s' I2 hq'
 | ok fl =>
  cases fl with
  | ret u =>
   obtain ⟨v, H', I3, rv, ev, q3⟩ := I2.after hq'
   subst ev
   exact ⟨rv, ⟨V.ref (s.heap.objs.size + 1), H', I3, rfl, q3⟩⟩
  | next => exact False.elim hq'
  | brk => exact False.elim hq'
  | cont => exact False.elim hq'
theorem Qfs (M : Mk X.K C f) (F : FnOk X.prog X.w X.K X.mg X.base CX k f fd ps sp) (hr : Room (k + 1) X.A) (hg : Gl X x) (hm : X.mg x = some (.ref C)) (hb : Binds X.K fd ps ds) (hd : Vals dvs ds) (hx : Vi CX X E)
  (ha : PA X (e :: es) t) (hdb : autoParam ((x == ("__debug__" : Str)) = false) L2.aDec._auto_1) (he : autoParam (starEach (e :: es) X.env = (false, eval e X.env) :: starEach es X.env) L2.aRfl._auto_1) (hpl : autoParam ((backTo pos (starEach es X.env)).any (·.1) = false) L2.aRfl._auto_1) :
  PE X (.Call (.Name x p) (e :: es) [] pos) (tMake C sp dvs E t) := by
 intro pins s σ H Q I h
 refine wpAny_Call_Name_kw (Qck I hg hm ?_ hdb)
 refine PySem.W.callWith_K (h₀ := X.base) I.ok.mod.kin M.kp (thn (ha pos pins s σ H _ I h) fun us s1 ⟨vs, H1, I1, r, q⟩ => ⟨I1.kIn, ?_⟩) he hpl
 exact Qif M F hr hb hd hx I1 r q
end
section
variable {X : Cx} {CX : CXT} {k : Nat} {f C : Addr} {fd : FuncData} {ps ks : List Str} {sp : Sp} {E : XK} {x m : Str} {p pos apos kpos : Pos} {e o : Expr} {es : List Expr} {kws : List Keyword} {te ta : TE} {t tk : TA} {nm : Option Str}
variable {g : List Value → List Value → List Value} {gV : List V → List V → List V}
end
structure FnScope (N P : List Str) (sc : Scope) : Prop where
 kind : sc.kind = .function
 co : sc.isCoroutine = false
 gen : sc.isGenerator = false
 nd : N.Nodup
 pre : N.take P.length = P
 par : ∀ x ∈ P, sc.names.lookup x = some .local ∨ sc.names.lookup x = some .cell
 nofree : ∀ y ∈ sc.names, y.2 ≠ .free
theorem Qba {kindOf : Str → Option NameKind} {x : Str} : ∀ {binds : List (Str × Value)} {m : Str → Option Value}, (∀ v, (x, v) ∉ binds) → bindL kindOf binds m x = m x
 | [], _, _ => rfl
 | (n, v) :: r, m, h => by
  unfold bindL
  rw [Qba fun w hw => h w (xX _ hw)]
  split
  ·have : x ≠ n := by rintro rfl; exact h v zX
   simp [this]
  ·rfl
theorem Qbb {kindOf : Str → Option NameKind} {x : Str} : ∀ {binds : List (Str × Value)} {m : Str → Option Value}, (∀ v, (x, v) ∉ binds) → bindC kindOf binds m x = m x
 | [], _, _ => rfl
 | (n, v) :: r, m, h => by
  unfold bindC
  rw [Qbb fun w hw => h w (xX _ hw)]
  split
  ·rfl
  ·have : x ≠ n := by rintro rfl; exact h v zX
   simp [this]
theorem Qbc {kindOf : Str → Option NameKind} {x : Str} {v : Value} : ∀ {P : List Str} {vs : List Value} {i : Nat} {m : Str → Option Value}, P.Nodup → P[i]? = some x → vs[i]? = some v → kindOf x = some .local →
  bindL kindOf (P.zip vs) m x = some v
 | [], _, _, _, _, h, _, _ => by simp at h
 | _ :: _, [], _, _, _, _, h, _ => by simp at h
 | p :: P, w :: vs, 0, m, nd, h1, h2, hk => by
  simp at h1 h2; subst h1; subst h2
  show bindL kindOf ((p, w) :: P.zip vs) m p = _
  unfold bindL
  rw [Qba fun v hv => (jJf.mp nd).1 (List.of_mem_zip hv).1, if_pos hk]
  simp
 | p :: P, w :: vs, i + 1, m, nd, h1, h2, hk => by
  show bindL kindOf ((p, w) :: P.zip vs) m x = _
  unfold bindL
  exact Qbc (i := i) (jJf.mp nd).2 (by simpa using h1) (by simpa using h2) hk
theorem Qbd {kindOf : Str → Option NameKind} {x : Str} {v : Value} : ∀ {P : List Str} {vs : List Value} {i : Nat} {m : Str → Option Value}, P.Nodup → P[i]? = some x → vs[i]? = some v → kindOf x ≠ some .local →
  bindC kindOf (P.zip vs) m x = some v
 | [], _, _, _, _, h, _, _ => by simp at h
 | _ :: _, [], _, _, _, _, h, _ => by simp at h
 | p :: P, w :: vs, 0, m, nd, h1, h2, hk => by
  simp at h1 h2; subst h1; subst h2
  show bindC kindOf ((p, w) :: P.zip vs) m p = _
  unfold bindC
  rw [Qbb fun v hv => (jJf.mp nd).1 (List.of_mem_zip hv).1, if_neg hk]
  simp
 | p :: P, w :: vs, i + 1, m, nd, h1, h2, hk => by
  show bindC kindOf ((p, w) :: P.zip vs) m x = _
  unfold bindC
  exact Qbd (i := i) (jJf.mp nd).2 (by simpa using h1) (by simpa using h2) hk
def start (N : List Str) (vs : List V) : St := vs.map some ++ List.replicate (N.length - vs.length) none
def cxOf (CX : CXT) (P : Program) (w : World) (K : Fg) (mg : Str → Option Value) (base : Heap) (N : List Str) (qual : Str) (scope : Scope) (f : Addr) (cd : Value) (A : Around) (outer : List Env) (s : Shared) (H : Hp) (E : XK) : Cx where
 prog := P
 w := w
 K := K
 mg := mg
 base := base
 A := A.deeper (envOfC qual scope s.heap.objs.size f cd)
 N := N
 s₀ := s
 H₀ := H
 env := envOfC qual scope s.heap.objs.size f cd
 outer := outer
 stack := envOfC qual scope s.heap.objs.size f cd :: outer
 ex := []
 calm := true
 fn := fun _ => true
 pn := []
 xe := fun e s' => wpAny (model P w) (A.deeper (envOfC qual scope s.heap.objs.size f cd)) (leaving (envOfC qual scope s.heap.objs.size f cd) e) (fun _ s'' => CX outer H s E e s'') (fun e' s'' => CX outer H s E e' s'') s'
theorem Qdk {sc : Scope} {n : Nat} {x : Str} (h : sc.names.lookup x = some .cell) : ∃ c, (cellsFrom n sc.names []).lookup x = some c := by
 have q := PySem.W.cellsFrom_some sc.names n [] (.inl h)
 exact jYd.mp q
theorem Qft {CX : CXT} {P : Program} {w : World} {K : Fg} {mg : Str → Option Value} {base : Heap} {N ps : List Str} {qual : Str} {scope : Scope} {f : Addr} {cd : Value} {A : Around} {outer : List Env} {s s1 : Shared} {H : Hp} {E : XK} {us : List Value} {vs : List V}
  (S : FnScope N ps scope) (hd : A.handled = none) (e0 : Env0 P w K mg base A outer s H) (hl : vs.length = ps.length) (r : Vals vs us)
  (x : InCallC s s.heap.objs.size (bindL (envOfC qual scope s.heap.objs.size f cd).kindOf (ps.zip us) fun _ => none) (cellsFrom (s.heap.objs.size + 1) scope.names []) (bindC (envOfC qual scope s.heap.objs.size f cd).kindOf (ps.zip us) fun _ => none) s1) :
  Inv (cxOf CX P w K mg base N qual scope f cd A outer s H E) [] (start N vs) H s1 := by
 have hpl : ps.length ≤ N.length := by have := congrArg List.length S.pre; rw [zQ] at this; omega
 obtain ⟨h1, tk, rfl, hk⟩ := x.done
 have noA : ∀ b : Addr, b ∉ (cxOf CX P w K mg base N qual scope f cd A outer s H E).ex := fun b z => absurd (show b ∈ ([] : List Addr) from z) (by simp)
 refine ⟨⟨e0.mod, S.kind, rfl, rfl, jZ _, fun y z c h1 h2 => ?_, fun y hy => ?_, fun y c _ h => ?_, fun _ => hd, Around.frames_deeper e0.frames, .inr ⟨rfl, rfl⟩, fun b z => absurd z (noA b), e0.bs, e0.bsz, fun b _ _ => noA b, fun b z => absurd z (noA b), e0.funs, e0.frf⟩,
  rfl, e0.bare, Un.kept hk, ⟨_, x.toInCall.ns, fun i y v h1 h2 h3 => ?_⟩, fun y c h => ⟨_, x.cell y c h⟩, e0.hok.fresh (jZ _), fun y c h => ?_, fun p hp => absurd (show p ∈ ([] : List (Addr × Obj)) from hp) (by simp), e0.hok.kept hk, ?_⟩
 ·exact name_of_addr x.apart (PySem.mem_of_lookup h1) (PySem.mem_of_lookup h2)
 ·have hy : scope.names.lookup y = some .cell ∨ scope.names.lookup y = some .free := hy
  rcases hy with hy | hy
  ·exact Qdk hy
  ·exact absurd rfl (S.nofree _ (PySem.mem_of_lookup hy))
 ·exact Nat.le_of_lt (x.above y c (PySem.mem_of_lookup h))
 ·have hi : i < vs.length := by
   unfold start at h2
   by_cases hi : i < vs.length
   ·exact hi
   ·rw [List.getElem?_append_right (by simpa using hi)] at h2
    rw [List.getElem?_replicate] at h2
    split at h2 <;> cases h2
  have ha : vs[i]? = some v := by
   unfold start at h2
   rw [xJ (by simpa using hi), zK] at h2
   cases e : vs[i]? with
   | none => rw [e] at h2; cases h2
   | some a => rw [e] at h2; cases h2; rfl
  obtain ⟨u, hu, rv⟩ := r.get ha
  have hp : ps[i]? = some y := by
   rw [← S.pre, List.getElem?_take_of_lt (by omega)]; exact h1
  have ndP : ps.Nodup := by rw [← S.pre]; exact S.nd.sublist (List.take_sublist _ _)
  refine ⟨u, rv, ?_⟩
  rcases S.par y (kZ hp) with k | k
  ·exact .inl ⟨k, Qbc ndP hp hu k⟩
  ·obtain ⟨c, e⟩ := Qdk (n := s.heap.objs.size + 1) k
   refine .inr ⟨.inl k, c, e, ?_⟩
   have q := x.cell y c e
   rw [Qbd ndP hp hu (by show scope.names.lookup y ≠ _; rw [k]; decide)] at q
   exact q
 ·exact e0.hok.fresh (Nat.le_of_lt (x.above y c (PySem.mem_of_lookup h)))
 ·unfold start
  show _ = N.length
  rw [jY, jX, List.length_replicate]
  omega
theorem fn_of {CX : CXT} {P : Program} {w : World} {K : Fg} {mg : Str → Option Value} {base : Heap} {k : Nat} {f : Addr} {name qual : Str} {params : Arguments} {body : List Stmt} {scope : Scope} {dV kV doc pm cdv ct oc : Value} {an od : Option Addr}
  {osl : Array (Option Value)} {N ps : List Str} {sp : Sp} (lk : K.lookup f = some ⟨oc, od, .func (PySem.W.fnOf name qual params body scope dV kV doc pm an cdv ct), osl⟩) (hcd : PySem.W.codeIn K cdv qual = true) (S : FnScope N ps scope)
  (len : ∀ vs H Q E, sp vs H Q E → vs.length = ps.length)
  (hbody : ∀ (A : Around) (outer : List Env) (s : Shared) (H : Hp) (vs : List V) (Q : VK) (E : XK), Room k (A.deeper (envOfC qual scope s.heap.objs.size f cdv)) → sp vs H Q E →
   ∃ t, PSs (cxOf CX P w K mg base N qual scope f cdv A outer s H E) body t ∧ t { nx := fun _ H' => Q .non H', rt := Q } (start N vs) H) :
  FnOk P w K mg base CX (k + 1) f (PySem.W.fnOf name qual params body scope dV kV doc pm an cdv ct) ps sp := by
 refine ⟨len, fun A outer s H args us vs Q E hr e0 hb r hsp => ?_⟩
 have hl := len _ _ _ _ hsp
 have KX : K.In s.heap := e0.mod.kin.keeps fun b o e => (e0.bs b o e).1
 have lim : s.heap.NoLimit := e0.mod.nolimit.keeps fun b o e => (e0.bs b o e).1
 have hkind : ∀ y ∈ ps.zip us, scope.names.lookup y.1 = some .local ∨ (scope.names.lookup y.1 = some .cell ∧ ((cellsFrom (s.heap.objs.size + 1) scope.names []).lookup y.1).isSome = true) := fun ⟨n, v⟩ hy => by
  rcases S.par n (List.of_mem_zip hy).1 with q | q
  ·exact .inl q
  ·exact .inr ⟨q, PySem.W.cellsFrom_some _ _ _ (.inl q)⟩
 refine codeAny_call_function hr.depth (KX _ _ lk) rfl S.co S.gen rfl (PySem.W.codeRec_of KX hcd) (hb _ _ _ _ ?_)
 refine wpAny_newFunctionEnv_cells S.kind hkind fun env he s1 x => ?_
 subst he
 refine ⟨lim.keeps x.toInCall.keep, codeAny_func ?_⟩
 obtain ⟨t, ht, hq⟩ := hbody A outer s H vs Q E (hr.deeper _) hsp
 have I : Inv (cxOf CX P w K mg base N qual scope f cdv A outer s H E) [] (start N vs) H s1 := Qft S hr.hd e0 hl r x
 refine wpAny_mono (ht [] s1 (start N vs) H _ I hq) (fun fl s' hs => ?_) fun e s' hs => hs
 have fin : ∀ {σ' : St} {H' : Hp} {v : V} {u : Value}, Inv (cxOf CX P w K mg base N qual scope f cdv A outer s H E) [] σ' H' s' → RelV v u → Q v H' → CE outer P w H s Q u s' :=
  fun {σ' H' v u} J rv q => ⟨v, H', J.os, J.bare, J.base, J.hok, rv, q⟩
 cases fl with
 | ret u =>
  obtain ⟨v, σ', H', J, rv, q⟩ := hs
  exact fin J rv q
 | next =>
  obtain ⟨σ', H', J, q⟩ := hs
  exact fin (v := V.non) (u := Value.none) J rfl q
 | brk =>
  obtain ⟨_, _, _, q⟩ := hs
  exact False.elim q
 | cont =>
  obtain ⟨_, _, _, q⟩ := hs
  exact False.elim q
section
variable {X : Cx} {x : Str} {p pos : Pos} {e : Expr} {es : List Expr} {t : TA} {id T : String} {r : List V → Hp → VK → Prop}
def tCB (r : List V → Hp → VK → Prop) (t : TA) : TE := fun σ H Q => t σ H fun vs H1 => r vs H1 Q
theorem Xm (hc : Jk X (.builtin id) r) (hg : Gl X x) (hm : X.mg x = none) (hv : bootBuiltins x = some (.builtin id)) (ha : PA X (e :: es) t) (hn : autoParam (x ≠ "__name__") L2.aDec._auto_1) (hdb : autoParam ((x == ("__debug__" : Str)) = false) L2.aDec._auto_1)
  (he : autoParam (starEach (e :: es) X.env = (false, eval e X.env) :: starEach es X.env) L2.aRfl._auto_1) (hpl : autoParam ((backTo pos (starEach es X.env)).any (·.1) = false) L2.aRfl._auto_1) : PE X (.Call (.Name x p) (e :: es) [] pos) (tCB r t) := by
 intro pins s σ H Q I h
 refine wpAny_Call_Name_kw (Wh I hg hm hv ?_ hn hdb)
 exact PyProof.Rows.callWith_builtin1 (thn (ha pos pins s σ H _ I h) fun us s1 ⟨vs, H1, I1, r1, q1⟩ => hc pins s1 σ H1 vs us Q I1 r1 q1) he hpl
theorem Xc (hc : Jk X (.type T) r) (hg : Gl X x) (hm : X.mg x = none) (hv : bootBuiltins x = some (.type T)) (ha : PA X (e :: es) t) (hn : autoParam (x ≠ "__name__") L2.aDec._auto_1) (hdb : autoParam ((x == ("__debug__" : Str)) = false) L2.aDec._auto_1)
  (he : autoParam (starEach (e :: es) X.env = (false, eval e X.env) :: starEach es X.env) L2.aRfl._auto_1) (hpl : autoParam ((backTo pos (starEach es X.env)).any (·.1) = false) L2.aRfl._auto_1) : PE X (.Call (.Name x p) (e :: es) [] pos) (tCB r t) := by
 intro pins s σ H Q I h
 refine wpAny_Call_Name_kw (Wh I hg hm hv ?_ hn hdb)
 exact PyProof.Rows.callWith_type1 (thn (ha pos pins s σ H _ I h) fun us s1 ⟨vs, H1, I1, r1, q1⟩ => hc pins s1 σ H1 vs us Q I1 r1 q1) he hpl
end
end L2
namespace HT
open PySem PyProof.Rows
section
open PySem.SeqAt
open PySem.AutoSeq1 (wpAny_loadPart')
open PySem.MeetsSeq PySem.MeetsSeq2 PySem.MeetsSeq3
end
section
variable {prog : Program} {w : World} {A : Around} {E : Value → Shared → Prop} {s : Shared}
theorem cat_tup {t b : Addr} {vs ws : List Value} {Q : Value → Shared → Prop} (ht : IsTup s.heap t vs.toArray) (hb : IsTup s.heap b ws.toArray) (hv : vs ≠ [])
  (h1 : ws = [] → Q (.ref t) s) (h2 : ws ≠ [] → Q (.ref s.heap.objs.size) { s with heap := s.heap.push { cls := .type "tuple", data := .seq (vs ++ ws).toArray } })
  (hsz : vs.length + ws.length ≤ sizeLine) : wpAny (model prog w) A (binaryOp .Add (.ref t) (.ref b)) Q E s := by
 obtain ⟨⟨cls, dd, data, sl⟩, ho, hc, n, hd⟩ := id ht
 obtain ⟨⟨cls2, dd2, data2, sl2⟩, ho2, hc2, n2, hd2⟩ := id hb
 simp only at hc hd hc2 hd2
 subst hc hd hc2 hd2
 have e : vs.toArray ++ ws.toArray = (vs ++ ws).toArray := by simp
 by_cases hw : ws = []
 ·exact concat_meets ⟨_, ho, rfl⟩ ⟨_, ho2, rfl⟩ noFill_tuple_add seq_tuple_add PySem.F.slot_tuple_add PySem.F.entry_tuple_add (PySem.F.args_tuple_add_2 _ _)
   (tuple_addW1 t b vs.toArray ws.toArray n n2 dd dd2 sl sl2 (by simpa using hv) (by simp [hw])) ⟨ho, ho2, h1 hw⟩
 ·refine concat_meets ⟨_, ho, rfl⟩ ⟨_, ho2, rfl⟩ noFill_tuple_add seq_tuple_add PySem.F.slot_tuple_add PySem.F.entry_tuple_add (PySem.F.args_tuple_add_2 _ _)
   (tuple_addW2 t b vs.toArray ws.toArray n n2 dd dd2 sl sl2 (by simpa using hv) (by simpa using hw) (by rw [jV, jV]; exact hsz)) ⟨ho, ho2, ?_⟩
  rw [e]
  exact h2 hw
def sIx (n d : Nat) : Option Int → Nat
 | none => d
 | some v => if v < 0 then (v + (n : Int)).toNat else min v.toNat n
theorem sIx_none (n d : Nat) : sIx n d none = d := rfl
theorem sIx_nat (n d k : Nat) : sIx n d (some (k : Int)) = min k n := by
 show (if (k : Int) < 0 then ((k : Int) + (n : Int)).toNat else min (k : Int).toNat n) = min k n
 rw [if_neg (by omega), jYb]
theorem sIx_le (n d : Nat) (hd : d ≤ n) (o : Option Int) : sIx n d o ≤ n := by
 cases o with
 | none => exact hd
 | some v =>
  show (if v < 0 then (v + (n : Int)).toNat else min v.toNat n) ≤ n
  by_cases hv : v < 0
  ·rw [if_pos hv]; omega
  ·rw [if_neg hv]; exact Nat.min_le_right _ _
theorem min_cast (v : Int) (n : Nat) (h : ¬ v < 0) : min v (n : Int) = ((min v.toNat n : Nat) : Int) := by
 obtain ⟨k, rfl⟩ := Int.eq_ofNat_of_zero_le (Int.not_lt.mp h)
 rw [jYb]
 rcases Nat.le_total k n with h | h
 ·rw [jXe h, Int.min_eq_left (Int.ofNat_le.mpr h)]
 ·rw [Nat.min_eq_right h, Int.min_eq_right (Int.ofNat_le.mpr h)]
theorem clip_eq (v : Int) (n d : Nat) : (if v < 0 then max (v + (n : Int)) 0 else min v (n : Int)) = ((sIx n d (some v) : Nat) : Int) := by
 show (if v < 0 then max (v + (n : Int)) 0 else min v (n : Int)) = (((if v < 0 then (v + (n : Int)).toNat else min v.toNat n) : Nat) : Int)
 by_cases hv : v < 0
 ·rw [if_pos hv, if_pos hv]; exact (Int.ofNat_toNat _).symm
 ·rw [if_neg hv, if_neg hv]; exact min_cast v n hv
theorem Qen (lo hi : Option Int) (n : Nat) : Builtin.Slice.sliceAdjust lo hi 1 (n : Int) = (((sIx n 0 lo : Nat) : Int), ((sIx n n hi : Nat) : Int)) := by
 have h1 : ¬ ((1 : Int) < 0) := by omega
 unfold Builtin.Slice.sliceAdjust
 simp only [h1, if_false]
 refine Prod.ext ?_ ?_
 ·cases lo with
  | none => rfl
  | some v => exact clip_eq v n 0
 ·cases hi with
  | none => rfl
  | some v => exact clip_eq v n n
theorem Qeo (i j : Nat) : Builtin.Slice.slicePlaces (i : Int) (j : Int) 1 = j - i := by
 unfold Builtin.Slice.slicePlaces
 have h1 : (1 : Int) > 0 := by omega
 simp only [h1, if_true, Int.ediv_one]
 split <;> omega
theorem Wj {v : Value} {o : Option Int} {Q : Option Int → Shared → Prop} (p : IsPart v o) (h : Q o s) : wpAny (model prog w) A (Builtin.Slice.slicePartIndex v) Q E s := by
 cases p with
 | none => exact slicePart_none h
 | int i t => exact slicePart_int h
theorem Zw {sl : Addr} {vl vu : Value} {lo hi : Option Int} {n : Nat} {Q : Int × Int × Nat → Shared → Prop} (hs : s.heap.IsSliceOf sl vl vu .none) (pl : IsPart vl lo) (pu : IsPart vu hi)
  (h : Q (((sIx n 0 lo : Nat) : Int), 1, sIx n n hi - sIx n 0 lo) s) : wpAny (model prog w) A (Builtin.Slice.sliceApplied (.ref sl) (pure (n : Int))) Q E s := by
 obtain ⟨os, hos, hcs, hds⟩ := id hs
 unfold Builtin.Slice.sliceApplied Builtin.Slice.sliceFields
 refine jQ (jQ (wpAny_field hos hds (x := vl) rfl (jQ (wpAny_field hos hds (x := vu) rfl (jQ (wpAny_field hos hds (x := .none) rfl (jK ?_)))))))
 refine jQ (slicePart_none ?_)
 show wpAny _ _ (if ((1 : Int) == 0) = true then _ else _) _ _ s
 rw [if_neg (by decide)]
 refine jQ (Wj pl (jQ (Wj pu (jQ (jK ?_)))))
 show wpAny _ _ (match Builtin.Slice.sliceAdjust lo hi 1 (n : Int) with | (lo, hi) => pure (lo, (1 : Int), Builtin.Slice.slicePlaces lo hi 1)) _ _ s
 rw [Qen lo hi n]
 show wpAny _ _ (pure (((sIx n 0 lo : Nat) : Int), (1 : Int), Builtin.Slice.slicePlaces ((sIx n 0 lo : Nat) : Int) ((sIx n n hi : Nat) : Int) 1)) _ _ s
 rw [Qeo]
 exact jK h
theorem Qig (xs : Array Value) (i k : Nat) : ((List.range k).filterMap fun (m : Nat) => xs[((i : Int) + (m : Int) * 1).toNat]?).toArray = ((xs.toList.drop i).take k).toArray := by
 have e : (fun (m : Nat) => xs[((i : Int) + (m : Int) * 1).toNat]?) = fun m => xs[i + m]? := by
  funext m
  have : ((i : Int) + (m : Int) * 1).toNat = i + m := by omega
  rw [this]
 rw [e]
 have := pick_run xs i k
 rw [List.filterMap_map] at this
 have e2 : ((fun x => xs[x]?) ∘ fun x => i + x) = fun m => xs[i + m]? := rfl
 rw [e2] at this
 rw [this]
theorem getItem_tuple_cut {t sl : Addr} {items : Array Value} {vl vu : Value} {lo hi : Option Int} {Q : Value → Shared → Prop} (ht : IsTup s.heap t items) (hs : s.heap.IsSliceOf sl vl vu .none) (pl : IsPart vl lo) (pu : IsPart vu hi)
  (hw : ¬ (sIx items.size 0 lo = 0 ∧ sIx items.size items.size hi = items.size))
  (h : Q (.ref s.heap.objs.size) { s with heap := s.heap.push { cls := .type "tuple", data := .seq ((items.toList.drop (sIx items.size 0 lo)).take (sIx items.size items.size hi - sIx items.size 0 lo)).toArray } })
  (hsz : items.size ≤ sizeLine) : wpAny (model prog w) A (getItem (.ref t) (.ref sl)) Q E s := by
 have htake : sizeOk (.seq ((items.toList.drop (sIx items.size 0 lo)).take (sIx items.size items.size hi - sIx items.size 0 lo)).toArray) := by
  show ((items.toList.drop (sIx items.size 0 lo)).take (sIx items.size items.size hi - sIx items.size 0 lo)).toArray.size ≤ sizeLine
  rw [jV, zQ, List.length_drop, jXb]
  omega
 have hj : sIx items.size items.size hi ≤ items.size := sIx_le _ _ (jZ _) hi
 obtain ⟨os, hos, hcs, hds⟩ := id hs
 have hTs : s.TypeIs (.ref sl) "slice" := ⟨os, hos, hcs⟩
 unfold getItem
 try with_reducible refine wpAny_holding ?_
 first | refine jQ (jK ?_) | skip
 refine jQ (wpAny_sequenceKey ht.typeIs (by decide) ?_)
 refine jQ (wpAny_callSpecial?_slot (name := Str.ofString "__getitem__") ht.typeIs PyProof.Rows.slot_tuple_getitem
  (wpAny_call_entry PyProof.Rows.slot_tuple_getitem ht.typeIs entry_tuple_getitem ?_ (args_tuple_getitem _ _)))
 show wpAny _ _ (Builtin.Tuple.tupleItemsOf (.ref t) >>= _) _ _ s
 refine jQ (tupleItemsOf_ ht ?_)
 refine jQ (wpAny_typeOf hTs ?_)
 rw [if_pos (by decide)]
 refine jQ (Zw hs pl pu ?_)
 have hno : ¬ ((((sIx items.size 0 lo : Nat) : Int) == 0 && (1 : Int) == 1 && (sIx items.size items.size hi - sIx items.size 0 lo) == items.size) = true) := by
  intro q
  rw [wQ, wQ] at q
  have q1 : ((sIx items.size 0 lo : Nat) : Int) = 0 := eq_of_beq q.1.1
  have q2 : sIx items.size items.size hi - sIx items.size 0 lo = items.size := eq_of_beq q.2
  exact hw ⟨by omega, by omega⟩
 show wpAny _ _ (if (((sIx items.size 0 lo : Nat) : Int) == 0 && (1 : Int) == 1 && (sIx items.size items.size hi - sIx items.size 0 lo) == items.size) = true then _ else _) _ _ s
 rw [if_neg hno, Qig]
 first
  | exact jQ (m := Builtin.Tuple.tupleExact _) (wpAny_newObj_type (jK ⟨_, rfl, jK h⟩) htake)
  | exact jQ (m := Builtin.Tuple.tupleExact _) (wpAny_newObj_type (jQ (jK (jK ⟨_, rfl, jK h⟩))) htake)
  | exact jQ (jQ (m := Builtin.Tuple.tupleExact _) (wpAny_newObj_type (jK (jK ⟨_, rfl, jK h⟩)) htake))
  | exact jQ (jQ (m := Builtin.Tuple.tupleExact _) (wpAny_newObj_type (jK ⟨_, rfl, jK h⟩) htake))
end
end HT
namespace L2
open PySem PySem.Spec PyProof.Rows
abbrev TO := St → Hp → (Option Int → Hp → Prop) → Prop
def PO (X : Cx) (e : Option Expr) (t : TO) : Prop :=
 ∀ (pins : List (Addr × Obj)) (s : Shared) (σ : St) (H : Hp) (Q : Option Int → Hp → Prop), Inv X pins σ H s → t σ H Q →
  wpAny (model X.prog X.w) X.A (evalPart e X.env) (fun u s' => ∃ o H', Inv X pins σ H' s' ∧ IsPart u o ∧ Q o H') X.xe s
def Qlh : TO := fun _ H Q => Q none H
def tPart (t : TE) : TO := fun σ H Q => t σ H fun x H1 => ∃ i, x = .int i ∧ Q (some i) H1
theorem intsAre_of {ns : List Int} : ∀ {us : List Value}, Vals (ns.map V.int) us → IntsAre us ns := by
 induction ns with
 | nil => intro us r; rw [jZa] at r; cases r; exact .nil
 | cons n ns ih =>
  intro us r
  rw [xY] at r
  cases r with
  | cons r1 r2 =>
   obtain ⟨t, e⟩ := r1
   subst e
   exact .cons n t (ih r2)
section
variable {X : Cx} {e : Expr} {te : TE} {lo hi : Option Expr} {tl th : TO} {pos p2 : Pos}
theorem Yy : PO X none Qlh := by
 intro pins s σ H Q I h
 rw [evalPart_none]
 exact jK ⟨none, H, I, .none, h⟩
theorem Ys (h : PE X e te) : PO X (some e) (tPart te) := by
 intro pins s σ H Q I hw
 rw [evalPart_some]
 refine thn (h pins s σ H _ I hw) fun u s1 hqP => ?_
 obtain ⟨x, H1, I1, r1, q1⟩ := hqP
 obtain ⟨i, rfl, q⟩ := q1
 obtain ⟨t, rfl⟩ := r1
 exact ⟨some i, H1, I1, .int i t, q⟩
def SlR (X : Cx) (r : V → Option Int → Option Int → Hp → VK → Prop) : Prop :=
 ∀ (pins : List (Addr × Obj)) (s : Shared) (σ : St) (H : Hp) (x : V) (v vl vu : Value) (lo hi : Option Int) (sl : Addr) (Q : VK), Inv X pins σ H s → RelV x v → s.heap.IsSliceOf sl vl vu .none → IsPart vl lo → IsPart vu hi → r x lo hi H Q →
  ∃ T id, typeLookup (.type T) "__getitem__" = pure (some (.builtin id)) ∧ s.TypeIs v T ∧ wpAny (model X.prog X.w) X.A (getItem v (.ref sl)) (EP X pins σ Q) X.xe s
def tSl (r : V → Option Int → Option Int → Hp → VK → Prop) (te : TE) (tl th : TO) : TE := fun σ H Q => te σ H fun x H1 => tl σ H1 fun l H2 => th σ H2 fun u H3 => r x l u H3 Q
theorem Yh {r : V → Option Int → Option Int → Hp → VK → Prop} (hr : SlR X r) (he : PE X e te) (hl : PO X lo tl) (hu : PO X hi th) : PE X (.Subscript e (.Slice lo hi none p2) pos) (tSl r te tl th) := by
 intro pins s σ H Q I h
 refine Subscript_ (thn (he pins s σ H _ I h) fun v s1 hqP => ?_)
 obtain ⟨x, H1, I1, r1, q1⟩ := hqP
 refine wpAny_Slice (thn (hl pins s1 σ H1 _ I1 q1) fun vl s2 ⟨l, H2, I2, pl, q2⟩ => thn (hu pins s2 σ H2 _ I2 q2) fun vu s3 hqP => ?_)
 obtain ⟨u, H3, I3, pu, q3⟩ := hqP
 rw [evalPart_none]
 refine jK ?_
 have I4 : Inv X pins σ H3 { s3 with heap := s3.heap.push { cls := .type "slice", data := .fields #[vl, vu, .none] } } := I3.kept (t' := s3.toks) fun b ob q => jW _ q
 obtain ⟨T, id, hT, ht, hg⟩ := hr pins { s3 with heap := s3.heap.push { cls := .type "slice", data := .fields #[vl, vu, .none] } } σ H3 x v vl vu l u s3.heap.objs.size Q I4 r1 (Heap.IsSliceOf.new ..) pl pu q3
 show wpAny (model X.prog X.w) X.A (subscriptTail e (.Slice lo hi none p2) v (.ref s3.heap.objs.size)) (EP X pins σ Q) X.xe { s3 with heap := s3.heap.push { cls := .type "slice", data := .fields #[vl, vu, .none] } }
 exact tail_any (ops := [.ref s3.heap.objs.size, v]) ht hT hg (by with_unfolding_all rfl)
def cutV (xs : List V) (lo hi : Option Int) : List V := (xs.drop (HT.sIx xs.length 0 lo)).take (HT.sIx xs.length xs.length hi - HT.sIx xs.length 0 lo)
theorem Vj (xs : List V) (lo hi : Option Int) : (cutV xs lo hi).length ≤ xs.length := by
 unfold cutV
 rw [zQ, List.length_drop]
 omega
def rSlT (K : Fg) : V → Option Int → Option Int → Hp → VK → Prop := fun x lo hi H Q => ∃ a xs, x = .ref a ∧ SqT K H a xs ∧
 ¬ (HT.sIx xs.length 0 lo = 0 ∧ HT.sIx xs.length xs.length hi = xs.length) ∧ ∀ p, H p = none → Q (.ref p) (upd H p (.tup (cutV xs lo hi)))
theorem Kn : SlR X (rSlT X.K) := by
 intro pins s σ H x v vl vu lo hi sl Q I rx hs pl pu h
 obtain ⟨a, xs, rfl, hx, hw, q⟩ := h
 cases rx
 obtain ⟨its, r, ht, hz⟩ := I.tuple hx
 have hlen : its.toArray.size = xs.length := by rw [jV]; exact r.length.symm
 refine ⟨"tuple", _, PyProof.Rows.slot_tuple_getitem.lookup, ht.typeIs, ?_⟩
 refine HT.getItem_tuple_cut ht hs pl pu (by rw [hlen]; exact hw) ?_ (by rw [hlen]; exact hz)
 rw [hlen]
 refine ⟨.ref s.heap.objs.size, _, I.laid (t' := s.toks) (o := .tup (cutV xs lo hi)) (fun b ob q => jW _ q) (jZ _) ?_, rfl, q _ (I.hok.fresh (jZ _))⟩
 exact ⟨jQc (Vj xs lo hi) hz, _, (r.drop (HT.sIx xs.length 0 lo)).take (HT.sIx xs.length xs.length hi - HT.sIx xs.length 0 lo), IsTup.new _ _⟩
def rCatT (K : Fg) : R2 := fun x y H Q => ∃ a b xs ys, x = .ref a ∧ y = .ref b ∧ SqT K H a xs ∧ SqT K H b ys ∧ xs ≠ [] ∧ xs.length + ys.length ≤ sizeLine ∧
 (ys = [] → Q (.ref a) H) ∧ (ys ≠ [] → ∀ p, H p = none → Q (.ref p) (upd H p (.tup (xs ++ ys))))
theorem Vals.nil_iff {xs : List V} {us : List Value} (r : Vals xs us) : us = [] ↔ xs = [] := by
 cases r with
 | nil => simp
 | cons _ _ => simp
theorem Wq : OpR X (binaryOp .Add) (rCatT X.K) := by
 intro pins s σ H x y v u Q I rx ry h
 obtain ⟨a, b, xs, ys, rfl, rfl, ha, hb, hx, hz, q1, q2⟩ := h
 cases rx
 cases ry
 obtain ⟨its, r1, p1, _⟩ := I.tuple ha
 obtain ⟨its2, r2, p2, _⟩ := I.tuple hb
 refine HT.cat_tup p1 p2 (fun z => hx (r1.nil_iff.mp z)) (fun z => ⟨.ref a, H, I, rfl, q1 (r2.nil_iff.mp z)⟩) (fun z => ?_) (by rw [← r1.length, ← r2.length]; exact hz)
 refine ⟨.ref s.heap.objs.size, _, I.laid (t' := s.toks) (o := .tup (xs ++ ys)) (fun b ob q => jW _ q) (jZ _) ?_, rfl, q2 (fun w => z (r2.nil_iff.mpr w)) _ (I.hok.fresh (jZ _))⟩
 exact ⟨by rw [jY]; exact hz, _, r1.append r2, IsTup.new _ _⟩
end
def ixN (n : Nat) (i : Int) : Option Nat := if 0 ≤ i then (if i < n then some i.toNat else none) else if -(n : Int) ≤ i then some (i + n).toNat else none
def atI {α : Type} (xs : List α) (i : Int) : Option α := (ixN xs.length i).bind fun j => xs[j]?
theorem Qli {n : Nat} {i : Int} {j : Nat} (h : ixN n i = some j) : seqIndex? i n = some j ∧ j < n ∧ -(n : Int) ≤ i ∧ i < n := by
 unfold ixN at h
 by_cases h0 : 0 ≤ i
 ·rw [if_pos h0] at h
  by_cases h1 : i < n
  ·rw [if_pos h1] at h
   have e : i.toNat = j := Option.some.inj h
   exact ⟨by rw [seqIndex_of h0 h1, e], by omega, by omega, h1⟩
  ·rw [if_neg h1] at h; cases h
 ·rw [if_neg h0] at h
  by_cases h1 : -(n : Int) ≤ i
  ·rw [if_pos h1] at h
   have e : (i + n).toNat = j := Option.some.inj h
   exact ⟨by rw [seqIndex_neg (by omega) h1, e], by omega, h1, by omega⟩
  ·rw [if_neg h1] at h; cases h
theorem Qcm {α : Type} {xs : List α} {i : Int} {v : α} (h : atI xs i = some v) : ∃ j, seqIndex? i xs.length = some j ∧ xs[j]? = some v ∧ j < xs.length ∧ -(xs.length : Int) ≤ i ∧ i < xs.length := by
 unfold atI at h
 cases e : ixN xs.length i with
 | none => rw [e] at h; cases h
 | some j =>
  rw [e] at h
  obtain ⟨h1, h2, h3, h4⟩ := Qli e
  exact ⟨j, h1, h, h2, h3, h4⟩
theorem Qcn {α : Type} {xs : List α} {j : Nat} {v : α} (h : xs[j]? = some v) : atI xs (j : Int) = some v := by
 have hj : j < xs.length := (kQ.mp h).1
 have e : ixN xs.length (j : Int) = some j := by
  unfold ixN
  rw [if_pos (by omega), if_pos (by omega)]; simp
 unfold atI; rw [e]; exact h
def Qlj (b : Expr) : Prop := ∀ o i, subscripted b false o i = operate [o, i] (getItem o i)
def IxR (X : Cx) (r : R2) : Prop :=
 ∀ (value slice : Expr) (pins : List (Addr × Obj)) (s : Shared) (σ : St) (H : Hp) (x y : V) (v u : Value) (Q : VK), Inv X pins σ H s → RelV x v → RelV y u → r x y H Q →
  subscripted slice false v u = operate [v, u] (getItem v u) → wpAny (model X.prog X.w) X.A (subscriptTail value slice v u) (EP X pins σ Q) X.xe s
def MtR (X : Cx) (id : String) (r : V → List V → Hp → VK → Prop) : Prop :=
 ∀ (pins : List (Addr × Obj)) (s : Shared) (σ : St) (H : Hp) (x : V) (xs : List V) (v : Value) (us : List Value) (Q : VK), Inv X pins σ H s → RelV x v → Vals xs us → r x xs H Q →
  wpAny (model X.prog X.w) X.A (call (.builtin id) (v :: us)) (EP X pins σ Q) X.xe s
section
variable {X : Cx} {a b : Expr} {ta tb : TE} {pos : Pos}
theorem Qo {r : R2} (hr : IxR X r) (ha : PE X a ta) (hb : PE X b tb) (hs : Qlj b) : PE X (.Subscript a b pos) (tOp r ta tb) := by
 intro pins s σ H Q I h
 exact Subscript_ (binT ha hb I h fun v u s2 x y H2 I2 rx ry q => hr a b pins s2 σ H2 x y v u Q I2 rx ry q (hs _ _))
def rIxL (K : Fg) : R2 := fun x y H Q => ∃ p xs i v, x = .ref p ∧ y = .int i ∧ SqL K H p xs ∧ atI xs i = some v ∧ Q v H
def rIxT (K : Fg) : R2 := fun x y H Q => ∃ p xs i v, x = .ref p ∧ y = .int i ∧ SqT K H p xs ∧ atI xs i = some v ∧ Q v H
def rIxS : R2 := fun x y H Q => ∃ z i c, x = .str z ∧ y = .int i ∧ z.length ≤ sizeLine ∧ atI z.cps.toList i = some c ∧ Q (.str ⟨#[c]⟩) H
theorem Qm : IxR X (rIxL X.K) := by
 intro value slice pins s σ H x y v u Q I rx ry h hs
 obtain ⟨p, xs, i, z, rfl, rfl, hq, he, q⟩ := h
 cases rx
 obtain ⟨t, rfl⟩ := ry
 obtain ⟨its, r, pl, hz⟩ := I.list hq
 obtain ⟨j, h1, h2, h3, h4, h5⟩ := Qcm he
 obtain ⟨w, ew, rw'⟩ := r.get h2
 have hl := r.length
 have hn := Qdi
 have fin : EP X pins σ Q w s := ⟨z, H, I, rw', q⟩
 by_cases h0 : 0 ≤ i
 ·have hj : i.toNat = j := by
   rw [seqIndex_of h0 h5] at h1
   exact Option.some.inj h1
  exact item_listR pl.isList h0 (by omega) (by rw [hj]; simpa using ew) fin hs
 ·have hj : (i + (its.toArray.size : Int)).toNat = j := by
   rw [seqIndex_neg (by omega) h4] at h1
   rw [jV, ← hl]
   exact Option.some.inj h1
  exact subscriptTail_builtinR (x := w) pl.isList.typeIs slot_list_getitem.lookup
   (wpAny_getItem_list_neg (Q := fun r s' => r = w ∧ EP X pins σ Q r s') pl.isList (by omega) (by rw [jV] <;> omega) (by omega) (by rw [hj]; simpa using ew) ⟨rfl, fin⟩) hs
theorem Xn : IxR X (rIxT X.K) := by
 intro value slice pins s σ H x y v u Q I rx ry h hs
 obtain ⟨p, xs, i, z, rfl, rfl, hq, he, q⟩ := h
 cases rx
 obtain ⟨t, rfl⟩ := ry
 obtain ⟨its, r, pl, hz⟩ := I.tuple hq
 obtain ⟨j, h1, h2, h3, h4, h5⟩ := Qcm he
 obtain ⟨w, ew, rw'⟩ := r.get h2
 have hl := r.length
 have hn := Qdi
 have fin : EP X pins σ Q w s := ⟨z, H, I, rw', q⟩
 exact subscriptTail_builtinR (x := w) pl.typeIs slot_tuple_getitem.lookup
  (getItem_tuple (j := j) (Q := fun r s' => r = w ∧ EP X pins σ Q r s') pl (by omega) (by omega) (by rw [jV, ← hl]; exact h1) (by simpa using ew) ⟨rfl, fin⟩) hs
theorem Qki : IxR X rIxS := by
 intro value slice pins s σ H x y v u Q I rx ry h hs
 obtain ⟨z, i, c, rfl, rfl, hz, he, q⟩ := h
 obtain ⟨t, rfl⟩ := rx
 obtain ⟨t', rfl⟩ := ry
 obtain ⟨j, h1, h2, h3, h4, h5⟩ := Qcm he
 have hl : z.cps.toList.length = z.length := by simp [Str.length]
 rw [hl] at h1 h4 h5
 have hn := Qdi
 exact tail_any (typeIs_str s z t) slot_str_getitem.lookup (getItem_str (c := c) (by
  have e1 : decide (i < -(2 ^ 63 : Int)) = false := zJ (by omega)
  have e2 : decide (i ≥ 2 ^ 63) = false := zJ (by omega)
  rw [e1, e2, Bool.or_false]) (by rw [h1]; simpa using h2) ⟨.str ⟨#[c]⟩, H, I.tok _, ⟨_, rfl⟩, q⟩) hs
theorem Vk (i : Int) (n d : Nat) : max 0 (min (if i < 0 then i + (n : Int) else i) (n : Int)) = ((HT.sIx n d (some i) : Nat) : Int) := by
 rw [← HT.clip_eq]
 by_cases h : i < 0
 ·rw [if_pos h, if_pos h, Int.min_eq_left (by have := Int.add_le_add_right (Int.le_of_lt h) (n : Int); rwa [Int.zero_add] at this), Int.max_comm]
 ·rw [if_neg h, if_neg h, HT.min_cast i n h, Int.max_eq_right (Int.natCast_nonneg _)]
theorem Qbe (lo hi : Option Int) (n : Nat) : (sliceBounds lo hi none n).1 = ((HT.sIx n 0 lo : Nat) : Int) ∧ (sliceBounds lo hi none n).2.1 = ((HT.sIx n n hi : Nat) : Int) ∧ (sliceBounds lo hi none n).2.2 = 1 := by
 refine ⟨?_, ?_, rfl⟩
 ·cases lo with
  | none => rfl
  | some i => exact Vk i n 0
 ·cases hi with
  | none => rfl
  | some i => exact Vk i n n
theorem Wr (its : List Value) (lo hi : Option Int) : slicePick its.toArray lo hi none = ((its.drop (HT.sIx its.length 0 lo)).take (HT.sIx its.length its.length hi - HT.sIx its.length 0 lo)).toArray := by
 obtain ⟨h1, h2, h3⟩ := Qbe lo hi its.toArray.size
 unfold slicePick
 rw [h1, h2, h3]
 simp only [sliceRange_one, pick_run, jV] <;> rfl
def rSlL (K : Fg) : V → Option Int → Option Int → Hp → VK → Prop := fun x lo hi H Q => ∃ a xs, x = .ref a ∧ SqL K H a xs ∧ ∀ p, H p = none → Q (.ref p) (upd H p (.lst (cutV xs lo hi)))
theorem Qfu : SlR X (rSlL X.K) := by
 intro pins s σ H x v vl vu lo hi sl Q I rx hs pl pu h
 obtain ⟨a, xs, rfl, hx, q⟩ := h
 cases rx
 obtain ⟨its, r, ht, hz⟩ := I.list hx
 have hlen := r.length
 refine ⟨"list", _, slot_list_getitem.lookup, ht.isList.typeIs, ?_⟩
 refine wpAny_getItem_list_slice ht.isList hs pl pu .none (by simp) ?_ (by rw [jV] <;> omega)
 rw [Wr, ← hlen]
 refine ⟨.ref s.heap.objs.size, _, I.laid (t' := s.toks) (o := .lst (cutV xs lo hi)) (fun b ob q => jW _ q) (jZ _) ?_, rfl, q _ (I.hok.fresh (jZ _))⟩
 exact ⟨jQc (Vj xs lo hi) hz, _, 0, (r.drop (HT.sIx xs.length 0 lo)).take (HT.sIx xs.length xs.length hi - HT.sIx xs.length 0 lo), yK _ rfl⟩
def Ws : V → Bool
 | .non => true
 | .bl _ => true
 | .int _ => true
 | .str _ => true
 | _ => false
def eqV : V → V → Bool
 | .non, .non => true
 | .bl a, .bl b => a == b
 | .bl a, .int b => (if a then 1 else 0) == b
 | .int a, .bl b => a == (if b then 1 else 0)
 | .int a, .int b => a == b
 | .str a, .str b => a == b
 | _, _ => false
theorem Qkj {A : Around} {s : Shared} {y x : V} {u v : Value} (ry : RelV y u) (rx : RelV x v) (fy : Ws y = true) (fx : Ws x = true) : SeqAt.EqAt A s u v (eqV y x) := by
 cases y with
 | non =>
  cases ry
  cases x with
  | non => cases rx; exact SeqAt.EqAt.same _
  | bl b => cases rx; exact SeqAt.EqAt.none_bool b
  | int b => obtain ⟨t, rfl⟩ := rx; exact SeqAt.EqAt.none_int b t
  | str b => obtain ⟨t, rfl⟩ := rx; exact SeqAt.EqAt.none_str b t
  | _ => exact absurd (show false = true from fx) kJ
 | bl a =>
  cases ry
  cases x with
  | non => cases rx; exact SeqAt.EqAt.bool_none a
  | bl b => cases rx; exact SeqAt.EqAt.bool_bool a b
  | int b => obtain ⟨t, rfl⟩ := rx; exact SeqAt.EqAt.bool_int a b t
  | str b => obtain ⟨t, rfl⟩ := rx; exact SeqAt.EqAt.bool_str a b t
  | _ => exact absurd (show false = true from fx) kJ
 | int a =>
  obtain ⟨t', rfl⟩ := ry
  cases x with
  | non => cases rx; exact SeqAt.EqAt.int_none a t'
  | bl b => cases rx; exact SeqAt.EqAt.int_bool a t' b
  | int b => obtain ⟨t, rfl⟩ := rx; exact SeqAt.EqAt.int_int a t' b t
  | str b => obtain ⟨t, rfl⟩ := rx; exact SeqAt.EqAt.int_str a t' b t
  | _ => exact absurd (show false = true from fx) kJ
 | str a =>
  obtain ⟨t', rfl⟩ := ry
  cases x with
  | non => cases rx; exact SeqAt.EqAt.str_none a t'
  | bl b => cases rx; exact SeqAt.EqAt.str_bool a t' b
  | int b => obtain ⟨t, rfl⟩ := rx; exact SeqAt.EqAt.str_int a t' b t
  | str b => obtain ⟨t, rfl⟩ := rx; exact SeqAt.EqAt.str_str a t' b t
  | _ => exact absurd (show false = true from fx) kJ
 | _ => exact absurd (show false = true from fy) kJ
theorem Yf : Jk X (.builtin "len") (fun xs H Q => ∃ p ys, xs = [.ref p] ∧ (SqL X.K H p ys ∨ SqT X.K H p ys) ∧ Q (.int ys.length) H) := by
 intro pins s σ H xs us Q I r h
 obtain ⟨p, ys, rfl, hq, q⟩ := h
 obtain ⟨u, rfl, rx⟩ := vals1 r
 cases rx
 have hn := Qdi
 rcases hq with hq | hq
 ·obtain ⟨its, r', pl, hz⟩ := I.list hq
  have hlen := r'.length
  exact Calls.call_len_list pl.isList (by simp only [jV] <;> omega) ⟨.int ys.length, H, I.tok _, ⟨s.toks + 1, by rw [jV, hlen]⟩, q⟩
 ·obtain ⟨its, r', pl, hz⟩ := I.tuple hq
  have hlen := r'.length
  exact len_tuple pl (by simp only [jV] <;> omega) ⟨.int ys.length, H, I.tok _, ⟨s.toks + 1, by rw [jV, hlen]⟩, q⟩
theorem Qbf : Jk X (.type "list") (fun xs H Q => ∃ p ys, xs = [.ref p] ∧ (SqL X.K H p ys ∨ SqT X.K H p ys) ∧ ∀ l, H l = none → Q (.ref l) (upd H l (.lst ys))) := by
 intro pins s σ H xs us Q I r h
 obtain ⟨p, ys, rfl, hq, q⟩ := h
 obtain ⟨u, rfl, rx⟩ := vals1 r
 cases rx
 have fin : ∀ (its : List Value), Vals ys its → ys.length ≤ sizeLine → ∀ (h' : Heap) (c' : Nat), (∀ b o', s.heap.get? b = some o' → h'.get? b = some o') →
   h'.get? s.heap.objs.size = some { cls := .type "list", dict := none, data := .seq its.toArray c', slots := #[] } → EP X pins σ Q (.ref s.heap.objs.size) { s with heap := h' } := fun its r' hz h' c' kp e =>
  ⟨.ref s.heap.objs.size, _, I.laid (t' := s.toks) kp (jZ _) (show ObjOk X.prog X.w _ h' _ (.lst ys) from ⟨hz, its, c', r', e⟩), rfl, q _ (I.hok.fresh (jZ _))⟩
 rcases hq with hq | hq
 ·obtain ⟨its, r', pl, hz⟩ := I.list hq
  have hlen := r'.length
  obtain ⟨o, ho, hc, n, hd⟩ := pl.isList
  exact call_list_seq p (.inl rfl) ho hc hd (fun h' c' kp e => fin its r' hz h' c' kp e) (by simp only [jV] <;> omega)
 ·obtain ⟨its, r', pl, hz⟩ := I.tuple hq
  have hlen := r'.length
  obtain ⟨o, ho, hc, n, hd⟩ := pl
  exact call_list_seq p (.inr rfl) ho hc hd (fun h' c' kp e => fin its r' hz h' c' kp e) (by simp only [jV] <;> omega)
theorem Xb : Jk X (.type "tuple") (fun xs H Q => ∃ p ys, xs = [.ref p] ∧ ((SqL X.K H p ys ∧ ∀ l, H l = none → Q (.ref l) (upd H l (.tup ys))) ∨ (SqT X.K H p ys ∧ Q (.ref p) H))) := by
 intro pins s σ H xs us Q I r h
 obtain ⟨p, ys, rfl, h⟩ := h
 obtain ⟨u, rfl, rx⟩ := vals1 r
 cases rx
 rcases h with ⟨hq, q⟩ | ⟨hq, q⟩
 ·obtain ⟨its, r', pl, hz⟩ := I.list hq
  have hlen := r'.length
  refine call_tuple_list pl.isList (fun h' kp => ?_) (by simp only [jV] <;> omega)
  have I1 : Inv X pins σ H { s with heap := h' } := I.kept (t' := s.toks) kp
  have I2 : Inv X pins σ (upd H h'.objs.size (.tup ys)) { s with heap := h'.push { cls := .type "tuple", data := .seq its.toArray } } :=
   I1.laid (t' := s.toks) (fun b o e => jW _ e) (jZ _) (show ObjOk X.prog X.w _ _ _ (.tup ys) from ⟨hz, its, r', IsTup.new _ _⟩)
  exact ⟨.ref h'.objs.size, _, I2, rfl, q _ (I1.hok.fresh (jZ _))⟩
 ·obtain ⟨its, r', pl, hz⟩ := I.tuple hq
  exact call_tuple_same pl ⟨.ref p, H, I, rfl, q⟩
def tyV (K : Fg) (T : String) (x : V) (H : Hp) : Prop := match x with
 | .str _ => T = "str"
 | .int _ => T = "int"
 | .ref p => (T = "list" ∧ ∃ xs, SqL K H p xs) ∨ (T = "tuple" ∧ ∃ o, K.lookup p = some o ∧ o.cls = .type "tuple" ∧ o.dict = none) ∨
   (T = "dict" ∧ ((∃ kvs, H p = some (.dK kvs)) ∨ ∃ kvs, H p = some (.dT kvs))) ∨ (T = "set" ∧ ∃ S n, H p = some (.set S n))
 | _ => False
theorem Qkk {pins : List (Addr × Obj)} {σ : St} {H : Hp} {s : Shared} {T : String} {x : V} {v : Value} (I : Inv X pins σ H s) (r : RelV x v) (ty : tyV X.K T x H) :
  s.TypeIs v T ∧ ∀ a, v = .ref a → ∃ ob, s.heap.get? a = some ob ∧ ob.dict = none := by
 cases x with
 | str z =>
  obtain ⟨t, rfl⟩ := r
  cases (show T = "str" from ty)
  exact ⟨typeIs_str s z t, fun _ e => nomatch e⟩
 | int i =>
  obtain ⟨t, rfl⟩ := r
  cases (show T = "int" from ty)
  exact ⟨typeIs_int s i t, fun _ e => nomatch e⟩
 | ref p =>
  cases r
  rcases ty with ⟨rfl, xs, hq⟩ | ⟨rfl, o, hk, hc, hd⟩ | ⟨rfl, hk⟩ | ⟨rfl, S, n, hk⟩
  ·obtain ⟨its, _, pl, _⟩ := I.list hq
   refine ⟨pl.isList.typeIs, fun a e => ?_⟩
   cases e
   obtain ⟨o, n, e, c, hd, _⟩ := pl
   exact ⟨o, e, hd⟩
  ·refine ⟨⟨o, I.kIn p o hk, hc⟩, fun a e => ?_⟩
   cases e
   exact ⟨o, I.kIn _ o hk, hd⟩
  ·have z : ∃ o, s.heap.get? p = some o ∧ o.ExactDict := by
    rcases hk with ⟨kvs, hk⟩ | ⟨kvs, hk⟩
    ·obtain ⟨_, _, _, _, o, _, _, e, ex, _⟩ := I.hok p _ hk
     exact ⟨o, e, ex⟩
    ·obtain ⟨_, _, _, _, o, _, _, e, ex, _⟩ := I.hok p _ hk
     exact ⟨o, e, ex⟩
   obtain ⟨o, e, ex⟩ := z
   refine ⟨⟨o, e, ex.1⟩, fun a e2 => ?_⟩
   cases e2
   exact ⟨o, e, ex.2.1⟩
  ·obtain ⟨o, _, _, _, e, ex, _⟩ := I.hok p _ hk
   refine ⟨⟨o, e, ex.1⟩, fun a e2 => ?_⟩
   cases e2
   exact ⟨o, e, ex.2.1⟩
 | _ => exact False.elim ty
def tBM0 (K : Fg) (T : String) (r : V → List V → Hp → VK → Prop) (to : TE) : TE := fun σ H Q => to σ H fun x H1 => tyV K T x H1 ∧ r x [] H1 Q
def tBM (K : Fg) (T : String) (r : V → List V → Hp → VK → Prop) (to : TE) (t : TA) : TE := fun σ H Q => to σ H fun x H1 => tyV K T x H1 ∧ t σ H1 fun xs H2 => r x xs H2 Q
variable {o e : Expr} {es : List Expr} {to : TE} {t : TA} {name : Str} {apos cpos : Pos} {T id : String} {r : V → List V → Hp → VK → Prop}
theorem Qkl (pa : PlainAttrs T) (slot : Slot T name id) (hty : typeOf (.builtin id) = pure (.type "method_descriptor")) (hm : MtR X id r) (ho : PE X o to)
  (hbase : autoParam (attributeBase o name X.env (eval o X.env) = eval o X.env) L2.aRfl._auto_1) (hline : autoParam ((apos.endLine == cpos.line) = true) L2.aRfl._auto_1) : PE X (.Call (.Attribute o name apos) [] [] cpos) (tBM0 X.K T r to) := by
 intro pins s σ H Q I h
 refine wpAny_Call_method0_late hbase hline (thn (ho pins s σ H _ I h) fun v s1 hqP => ?_)
 obtain ⟨x, H1, I1, r1, ty, q1⟩ := hqP
 obtain ⟨h1, h2⟩ := Qkk I1 r1 ty
 exact ⟨T, id, pa, slot, hty, h1, h2, Calls.callWith_builtin rfl (PySem.evalArgs_none (hm pins s1 σ H1 x [] v [] Q I1 r1 .nil q1))⟩
theorem Yz (pa : PlainAttrs T) (slot : Slot T name id) (hty : typeOf (.builtin id) = pure (.type "method_descriptor")) (hm : MtR X id r) (ho : PE X o to) (ha : PA X (e :: es) t)
  (hbase : autoParam (attributeBase o name X.env (eval o X.env) = eval o X.env) L2.aRfl._auto_1)
  (hfew : ((backTo cpos (starEach (e :: es) X.env)).all (fun x => !x.1) && (backToKw cpos (keywordEach [] X.env)).all (fun x => x.1.isSome)
   && decide ((e :: es).length + ([] : List Keyword).length + (if ([] : List Keyword).isEmpty then 0 else 1) < 30)) = true := by rfl)
  (hline : autoParam ((apos.endLine == cpos.line) = true) L2.aRfl._auto_1) (hs : autoParam (starEach (e :: es) X.env = (false, eval e X.env) :: starEach es X.env) L2.aRfl._auto_1) (hplain : autoParam ((backTo cpos (starEach es X.env)).any (·.1) = false) L2.aRfl._auto_1) :
  PE X (.Call (.Attribute o name apos) (e :: es) [] cpos) (tBM X.K T r to t) := by
 intro pins s σ H Q I h
 refine wpAny_Call_method_late hbase hfew hline rfl (thn (ho pins s σ H _ I h) fun v s1 hqP => ?_)
 obtain ⟨x, H1, I1, r1, ty, q1⟩ := hqP
 obtain ⟨h1, h2⟩ := Qkk I1 r1 ty
 refine ⟨T, id, pa, slot, hty, h1, h2, ?_⟩
 have hA := ha cpos pins s1 σ H1 _ I1 q1
 rw [hs] at hA ⊢
 refine Calls.callWith_builtin (by show (false || (backTo cpos (starEach es X.env)).any (·.1)) = false; rw [hplain] <;> rfl) (Calls.evalArgs_plain ?_)
 exact thn hA fun us s2 ⟨vs, H2, I2, r2, q2⟩ => hm pins s2 σ H2 x vs v us Q I2 r1 r2 q2
/- xs.append(e), list.index on a module's tuple .. are MtR facts of 06m -/
end
def MtM (X : Cx) (id : String) (r : V → List V → Hp → VK → Prop) : Prop :=
 ∀ (pins : List (Addr × Obj)) (s : Shared) (σ : St) (H : Hp) (x : V) (xs : List V) (v : Value) (us : List Value) (Q : VK), Inv X pins σ H s → RelV x v → Vals xs us → r x xs H Q →
  wpAny (model X.prog X.w) X.A (call (.builtin id) (v :: us)) (EP X pins σ Q) X.xe s
theorem Vals.one {x : V} {us : List Value} (h : Vals [x] us) : ∃ u, us = [u] ∧ RelV x u := by
 cases h with
 | cons r t => cases t; exact ⟨_, rfl, r⟩
theorem Vals.two {x y : V} {us : List Value} (h : Vals [x, y] us) : ∃ u v, us = [u, v] ∧ RelV x u ∧ RelV y v := by
 cases h with
 | cons r t =>
  cases t with
  | cons q t => cases t; exact ⟨_, _, rfl, r, q⟩
theorem Vals.zero : ∀ {us : List Value}, Vals [] us → us = []
 | _, .nil => rfl
section
variable {X : Cx} {pins : List (Addr × Obj)} {σ : St} {H : Hp} {s : Shared} {l b : Addr} {xs ys zs : List V}
theorem Inv.lset {its its' : List Value} {n : Nat} {f : Array Value → Array Value} {t' : Nat} (I : Inv X pins σ H s) (hH : H l = some (.lst xs))
  (e : s.heap.get? l = some { cls := .type "list", data := .seq its.toArray n }) (hf : f its.toArray = its'.toArray) (hv : Vals ys its') (hz : ys.length ≤ sizeLine) :
  Inv X pins σ (upd H l (.lst ys)) { s with heap := s.heap.update l (Obj.mapSeq f), toks := t' } := by
 have q := PySem.IsL.update e f
 rw [hf] at q
 refine I.write (x := l) (e := l) (by rw [hH]; exact trivial) (.inl rfl) (fun b' u hb hu => (Heap.get?_update_other s.heap (Obj.mapSeq f) (Ne.symm hb)).trans hu) ⟨_, q⟩ ?_
 exact ⟨hz, its', _, hv, q⟩
theorem Inv.lnew {its : List Value} {t' : Nat} (I : Inv X pins σ H s) (hv : Vals ys its) (hz : ys.length ≤ sizeLine) :
  Inv X pins σ (upd H s.heap.objs.size (.lst ys)) { s with heap := s.heap.push { cls := .type "list", data := .seq its.toArray }, toks := t' } :=
 I.laid (fun _ _ q => jW _ q) (jZ _) ⟨hz, its, 0, hv, yK _ rfl⟩
theorem Inv.fresh (I : Inv X pins σ H s) : H s.heap.objs.size = none := I.hok.fresh (jZ _)
theorem Inv.lstM (I : Inv X pins σ H s) (hH : H l = some (.lst xs)) : xs.length ≤ sizeLine ∧ ∃ (its : List Value) (n : Nat), Vals xs its ∧ xs.length = its.length ∧ s.heap.get? l = some { cls := .type "list", data := .seq its.toArray n } := by
 obtain ⟨z, its, n, r, e⟩ := I.hok l _ hH
 exact ⟨z, its, n, r, r.length, e⟩
theorem Qih {n : Nat} (h : n ≤ sizeLine) : Builtin.List.listTooLong n = false := by
 unfold Builtin.List.listTooLong
 exact zJ (by omega)
end
section
variable {X : Cx}
def Qlk : V → List V → Hp → VK → Prop := fun x vs H Q => ∃ l xs y, x = .ref l ∧ vs = [y] ∧ H l = some (.lst xs) ∧ xs.length < sizeLine ∧ Q .non (upd H l (.lst (xs ++ [y])))
theorem Qw : MtM X "list.append" Qlk := by
 intro pins s σ H x vs v us Q I rx rv h
 obtain ⟨l, xs, y, rfl, rfl, hH, hz, q⟩ := h
 cases rx
 obtain ⟨u, rfl, ru⟩ := rv.one
 obtain ⟨z, its, n, r, hl, e⟩ := I.lstM hH
 refine call_meets F.slot_list_append ⟨_, e, rfl⟩ F.entry_list_append (F.args_list_append_2 _ _) (PySem.list_append l its.toArray n u (by rw [jV]; omega)) ⟨e, ?_⟩
 refine ⟨.non, _, I.lset (its' := its ++ [u]) hH e (by simp) (r.append (.cons ru .nil)) ?_, rfl, q⟩
 rw [jY, xV]
 omega
def rClear : V → List V → Hp → VK → Prop := fun x vs H Q => ∃ l xs, x = .ref l ∧ vs = [] ∧ H l = some (.lst xs) ∧ Q .non (upd H l (.lst []))
theorem Qdl : MtM X "list.clear" rClear := by
 intro pins s σ H x vs v us Q I rx rv h
 obtain ⟨l, xs, rfl, rfl, hH, q⟩ := h
 cases rx
 have hus := rv.zero
 subst hus
 obtain ⟨z, its, n, r, hl, e⟩ := I.lstM hH
 refine call_meets F.slot_list_clear ⟨_, e, rfl⟩ F.entry_list_clear (F.args_list_clear_1 _) (AutoSeq1.list_clear_list_0 l its.toArray n (by rw [jV]; omega)) ⟨e, ?_⟩
 exact ⟨.non, _, I.lset (its' := []) (ys := []) hH e rfl .nil (jQd _), rfl, q⟩
def rCat : R2 := fun x y H Q => ∃ l b xs zs, x = .ref l ∧ y = .ref b ∧ H l = some (.lst xs) ∧ H b = some (.lst zs) ∧ xs.length + zs.length ≤ sizeLine ∧ ∀ p, H p = none → Q (.ref p) (upd H p (.lst (xs ++ zs)))
theorem Jl : OpR X (binaryOp .Add) rCat := by
 intro pins s σ H x y v u Q I rx ry h
 obtain ⟨l, b, xs, zs, rfl, rfl, hH, hB, hz, q⟩ := h
 cases rx
 cases ry
 obtain ⟨z, its, n, r, hl, e⟩ := I.lstM hH
 obtain ⟨z2, its2, n2, r2, hl2, e2⟩ := I.lstM hB
 refine PySem.P.add_list e e2 ?_ (by rw [jV, jV]; omega)
 have ea : its.toArray ++ its2.toArray = (its ++ its2).toArray := by simp
 rw [ea]
 exact ⟨.ref _, _, I.lnew (t' := s.toks) (r.append r2) (by rw [jY]; omega), rfl, q _ I.fresh⟩
end
section
variable {prog : Program} {w : World} {A : Around} {E : Value → Shared → Prop} {s : Shared}
end
section
variable {X : Cx}
end
end L2
namespace Att
open PySem PySem.W PySem.Calls PyProof.Rows
theorem Vl {P : Params} {h : Heap} : ∀ (ns : List Int) (vs : List Value), WellAll P h vs (ns.map WData.int) → IntsAre vs ns := by
 intro ns
 induction ns with
 | nil =>
  intro vs w
  rw [jZa] at w
  cases w
  exact .nil
 | cons n ns ih =>
  intro vs w
  rw [xY] at w
  cases w with
  | cons a b =>
   cases a
   exact .cons _ _ (ih _ b)
theorem Qfv {l : OpenLaw} {n : Nat} (hn : l.most = some n) {P : Params} {h : Heap} {args : List WData} {vals : List Value}
  (hpre : l.row.toRowW.claim.pre args = true) (hwl : WellAll P h vals args) :
  ∃ a vs ns, vals = [Value.ref a] ∧ args = [WData.list (ns.map WData.int)] ∧ h.get? a = some { cls := .type "list", data := .seq vs.toArray } ∧ IntsAre vs ns ∧ ns.length ≤ n := by
 have hsh : WShape.hasAll [] args [.list .int] = true := (pre_splitW hpre).1
 have hc : l.pre.holds [] { args := args } = true := (pre_splitW hpre).2
 obtain ⟨d, r, rfl, h1, h2⟩ := hasAllW_cons hsh
 obtain rfl := hasAllW_nil h2
 obtain ⟨xs, rfl, h3⟩ := hasW_list h1
 obtain ⟨ns, rfl⟩ := items_int h3
 have hlen : ns.length ≤ n := by
  unfold OpenLaw.pre at hc
  have h4 : (WTm.not (.lt (.lit (.int (n : Int))) (.len (.arg 0)))).holds [] { args := [.list (ns.map .int)] } = true := by
   have h4 := (holds_andW hc).1
   rw [hn] at h4
   exact h4
  have h5 := condW_of h4 (w_not (w_lt w_lit (w_len_list (w_arg rfl))))
  rw [jX] at h5
  refine Nat.le_of_not_lt fun q => ?_
  have q' : (n : Int) < ((ns.length : Nat) : Int) := by omega
  first
   | (rw [yQ q'] at h5; exact absurd h5 (by decide))
   | (simp at h5; omega)
 cases hwl with
 | cons w1 w2 =>
  cases w2
  cases w1 with
  | list ho hall => exact ⟨_, _, ns, rfl, rfl, ho, Vl ns _ hall, hlen⟩
theorem Qfw (l : OpenLaw) (args : List WData) : l.row.toRowW.claim.post args (.bool true) args = true :=
 postW_of (r := l.row.toRowW) (X := (true == true))
  (show WShape.has [] (.bool true) .bool = true by first | rfl | decide | simp [WShape.has, WShape.arms, WShape.armsAll])
  (show (WTm.eq .res (.lit (.bool true))).value [] { args := args, res := some (.bool true), after := args } = some (.bool (true == true)) from w_eq_bool (w_res rfl) w_lit) rfl
theorem attach_call {l : OpenLaw} {n : Nat} {q : Program} {loose : List Str} {XP : (Str → Option Value) → Heap → Prop} {YP : World → Heap → Prop} {d : DefRec}
  (hn : l.most = some n) (hdf : d.params.defaults = [])
  (call : ∀ (w : World) (s₀ s₁ : Shared) (mg mb : Str → Option Value) (fa : Addr) (o : Obj) (pm cd doc : Value) (a : Addr) (vs : List Value) (ns : List Int),
   Ground q loose [] XP w s₀ mg mb s₁.heap → YP w s₁.heap →
   s₁.heap.get? fa = some o → o.data = .func (docDef d.name d.params d.body d.scope pm cd doc) → s₁.heap.CodeRec cd d.name → mg d.name = some (.ref fa) →
   s₁.heap.get? a = some { cls := .type "list", data := .seq vs.toArray } → IntsAre vs ns → ns.length ≤ n → s₁.gens = #[] →
   codeAny (model l.prog w) callerA (.call (.ref fa) ⟨[.ref a], []⟩) (fun r s' => r = .ok (.ret (.bool true)) ∧ OldK s₁.heap s'.heap ∧ s'.os = s₁.os ∧ AllBare s'.gens) s₁) :
  WalkO q loose XP YP l.row.toRowW d [] (fun f vs => PySem.call f vs) := by
 intro w s₀ s₁ mg mb G Y fa o pm cd doc dV kV ho hd hcd hD hmg hg args vals as hpre hlay hrd hwl hlo
 obtain rfl : dV = .none := Dflts.none hD hdf
 obtain rfl : kV = .none := Dflts.noKw hD
 obtain ⟨a, vs, ns, rfl, rfl, hobj, hints, hlen⟩ := Qfv hn hpre hwl
 refine enter_call (codeAny_mono (call w s₀ s₁ mg mb fa o pm cd doc a vs ns G Y ho (fd_plain hd) hcd hmg hobj hints hlen hg) fun r s' hq => ?_)
 obtain ⟨rfl, h2, h3, h4⟩ := hq
 exact ⟨.inl ⟨.bool true, .bool true, [], rfl, fun _ => rfl, .bool true, Qfw l _, fun _ => ⟨List.Pairwise.nil, fun _ hm => (nomatch hm)⟩⟩, h2, h3, h4⟩
section
variable {prog : Program} {w : World} {A : Around} {E : Value → Shared → Prop} {s : Shared} {K : Frag}
end
end Att
namespace L2
open PySem PySem.Spec PyProof.Rows
theorem Qbg : ∀ {vs : List Value} {ns : List Int}, IntsAre vs ns → Vals (ns.map V.int) vs
 | _, _, .nil => .nil
 | _, _, .cons n t h => .cons ⟨t, rfl⟩ (Qbg h)
def Only (H : Hp) : Prop := ∀ b, H b = none ∨ ∃ o xs, H b = some (.frz o (.lst xs))
theorem Qii {P : Program} {w : World} {K : Fg} {mg mb : Str → Option Value} {CX : CXT} {k : Nat} {fa a : Addr} {fd : FuncData} {x : Str} {sp : Sp} {s₁ : Shared} {vs : List Value} {ns : List Int}
  (KX : K.In s₁.heap) (hns : s₁.heap.Ns mainGlobals mg) (hb : s₁.heap.Ns builtinsNs mb) (hbb : ∀ x : Str, x ≠ "__name__" → mb x = bootBuiltins x) (hlim : s₁.heap.NoLimit) (hg : s₁.gens = #[])
  (ha : s₁.heap.get? a = some { cls := .type "list", data := .seq vs.toArray }) (hi : IntsAre vs ns) (hl : ns.length ≤ sizeLine) (hr : Room k callerA)
  (F : ∀ base : Heap, K.In base → base.Ns mainGlobals mg → FnOk P w K mg base CX k fa fd [x] sp) (hbind : ∀ (s : Shared) (u : Value), BindsTo s fd ⟨[u], []⟩ [(x, u)])
  (hsp : ∀ H : Hp, Only H → SqL K H a (ns.map V.int) → sp [.ref a] H (fun v _ => v = .bl true) fun _ _ _ => False)
  (hCX : ∀ H e s', CX [] H s₁ (fun _ _ _ => False) e s' → False) :
  codeAny (model P w) callerA (.call (.ref fa) ⟨[.ref a], []⟩) (fun r s' => r = .ok (.ret (.bool true)) ∧ OldK s₁.heap s'.heap ∧ s'.os = s₁.os ∧ AllBare s'.gens) s₁ := by
 have rv := Qbg hi
 have lenV := hi.length
 -- from an abstract heap in which nothing but the script may be tracked
 have core : ∀ H : Hp, Only H → SqL K H a (ns.map V.int) → HOk P w H s₁.heap → (∀ b, H b ≠ none → b = a) → (H a ≠ none → K.lookup a = none) →
   codeAny (model P w) callerA (.call (.ref fa) ⟨[.ref a], []⟩) (fun r s' => r = .ok (.ret (.bool true)) ∧ OldK s₁.heap s'.heap ∧ s'.os = s₁.os ∧ AllBare s'.gens) s₁ := by
  intro H hO hS hok hA hK
  have base_of : ∀ {b : Addr} {o : Obj}, s₁.heap.get? b = some o → H b = none → (hidT s₁.heap H).get? b = some o := fun e n => Qia e n
  have noA : ∀ {b : Addr} {o : Obj} {es : Array DictEntry} {ep : Nat}, s₁.heap.get? b = some o → o.data = .dict es ep → H b = none := fun {b o es ep} e d => by
   cases q : H b with
   | none => rfl
   | some u =>
    have e' : b = a := hA b (by rw [q]; simp)
    subst e'
    rw [ha] at e; cases e
    have d' : Data.seq vs.toArray _ = Data.dict es ep := d
    cases d'
  have nsK : ∀ {b : Addr} {m : Str → Option Value}, s₁.heap.Ns b m → (hidT s₁.heap H).Ns b m := fun {b m} ⟨o, es, ep, e, d, r⟩ => ⟨o, es, ep, base_of e (noA e d), d, r⟩
  have hKb : K.In (hidT s₁.heap H) := fun b o e => base_of (KX b o e) (by
   cases q : H b with
   | none => rfl
   | some u =>
    have e' : b = a := hA b (by rw [q]; simp)
    subst e'
    rw [hK (by rw [q]; simp)] at e; cases e)
  have hM : Mod K mg (hidT s₁.heap H) := ⟨hKb, nsK hns, ⟨mb, nsK hb, hbb⟩, let ⟨mc, h1, h2⟩ := hlim; ⟨mc, nsK h1, h2⟩⟩
  have e0 : Env0 P w K mg (hidT s₁.heap H) callerA [] s₁ H := ⟨rfl, hM, fun b o e => Qla e, Nat.le_of_eq (Qfe _ _), trivial, fun b hb => absurd (show b ∈ ([] : List Addr) from hb) (by simp), hok, .of_eq hg⟩
  refine codeAny_mono ((F _ hKb (nsK hns)).run callerA [] s₁ H ⟨[.ref a], []⟩ [.ref a] [.ref a] _ _ hr e0 (hbind s₁ (.ref a)) (.cons rfl .nil) (hsp H hO hS)) fun r s' h => ?_
  cases r with
  | error e => exact (hCX H e s' h).elim
  | ok fl =>
   cases fl with
   | next => exact False.elim h
   | brk => exact False.elim h
   | cont => exact False.elim h
   | ret u =>
    obtain ⟨v, H', os, bare, un, hok', r', q⟩ := h
    have q' : v = .bl true := q
    subst q'
    obtain rfl : u = Value.bool true := r'
    refine ⟨rfl, OldK.of_keep fun b o e => ?_, os, bare⟩
    cases q : H b with
    | none => exact un.keep b o e q (by intro z; exact absurd (show b ∈ ([] : List Addr) from z) (by simp)) (by simp)
    | some u =>
     rcases hO b with z | ⟨ob, xs, z⟩
     ·rw [q] at z; cases z
     ·have z2 := un.frzs b ob _ z
      obtain ⟨e1, _⟩ := hok b _ z
      obtain ⟨e2, _⟩ := hok' b _ z2
      rw [e] at e1; cases e1
      exact e2
 cases hk : K.lookup a with
 | some o =>
  -- the script is one of the module's own objects
  have e := KX a o hk
  rw [ha] at e
  cases e
  refine core (fun _ => none) (fun _ => .inl rfl) (.inr ⟨_, vs.toArray, _, hk, rfl, rfl, rfl, by rw [jV, lenV]; exact hl, by simpa using rv⟩) (fun b u z => by have z' : (none : Option HO) = some u := z; cases z') (fun b z => absurd rfl z) fun z => absurd rfl z
 | none =>
  refine core (fun b => if b = a then some (.frz { cls := .type "list", data := .seq vs.toArray } (.lst (ns.map V.int))) else none) (fun b => ?_) (.inl (.inr ⟨{ cls := .type "list", data := .seq vs.toArray }, if_pos rfl⟩)) (fun b u z => ?_) (fun b z => ?_) fun _ => hk
  ·by_cases hb : b = a
   ·exact .inr ⟨_, _, if_pos hb⟩
   ·exact .inl (if_neg hb)
  ·by_cases hb : b = a
   ·have z' := (if_pos hb).symm.trans z
    cases z'
    subst hb
    exact ⟨ha, by rw [jX]; exact hl, vs, _, rv, ha⟩
   ·have z' := (if_neg hb).symm.trans z
    cases z'
  ·by_cases hb : b = a
   ·exact hb
   ·exact absurd (if_neg hb) z
abbrev KOf {K : Fg} {h : Heap} (_ : K.In h) : Fg := K
theorem Qfx {l : PySem.W.OpenLaw} {n k : Nat} {q : Program} {loose : List Str} {XP : (Str → Option Value) → Heap → Prop} {YP : World → Heap → Prop} {d : DefRec} {K : Params → Fg} {CX : World → CXT} {sp : World → Sp} {x : Str}
  (hn : l.most = some n) (hn2 : n ≤ sizeLine) (hdf : d.params.defaults = []) (hr : Room k callerA)
  (hY : ∀ (w : World) (h : Heap), YP w h → (K w.params).In h)
  (F : ∀ (w : World) (mg : Str → Option Value) (fa : Addr) (h : Heap), (K w.params).In h → h.Ns mainGlobals mg → mg d.name = some (.ref fa) →
   ∃ fd : FuncData, (∀ (s : Shared) (u : Value), BindsTo s fd ⟨[u], []⟩ [(x, u)]) ∧
    ∀ base : Heap, (K w.params).In base → base.Ns mainGlobals mg → FnOk l.prog w (K w.params) mg base (CX w) k fa fd [x] (sp w))
  (hsp : ∀ (w : World) (H : Hp) (a : Addr) (ns : List Int), ns.length ≤ n → Only H → SqL (K w.params) H a (ns.map V.int) → sp w [.ref a] H (fun v _ => v = .bl true) fun _ _ _ => False)
  (hCX : ∀ (w : World) (H : Hp) (s : Shared) (e : Value) (s' : Shared), CX w [] H s (fun _ _ _ => False) e s' → False) :
  PySem.W.WalkO q loose XP YP l.row.toRowW d [] (fun f vs => PySem.call f vs) := by
 refine Att.attach_call hn hdf fun w s₀ s₁ mg mb fa o pm cd doc a vs ns G Y ho hd hcd hmg hobj hints hlen hg => ?_
 have KX := hY w _ Y
 obtain ⟨fd, hb, hF⟩ := F w mg fa _ KX G.T.g hmg
 exact Qii KX G.T.g G.T.b G.T.builtins G.T.nolimit hg hobj hints (jQc hlen hn2) hr hF hb (fun H hO hS => hsp w H a ns hlen hO hS) fun H e s' => hCX w H s₁ e s'
end L2
/- THE LAST THEOREM (shape; LID, My.* are yours):
   My.Adr: a structure of the addresses that your layer names (classes, functions); My.Txt K t: a structure (Prop) of the equations over K;
   My.txt_mk : {K} {implicit addresses ..} (e1 : nsIn K mainGlobals "law" = some (some (.ref f))) (e2 : K.lookup f = some ⟨oc, od, .func (fnOf "law" "law" params body scope dV kV doc pm an cdv ct), sl⟩) (e3 : codeIn K cdv "law" = true) .. : ∃ t, My.Txt K t
set_option maxRecDepth 100000 in
set_option maxHeartbeats 0 in
theorem PySem.Challenge.cw_LID_holds : PySem.Challenge.rw_LID.Holds := by
 w_on; o_law; k_head; (case hw => w_witness2)
 k_fill
 refine L2.Qfx (l := PySem.Challenge.rw_LID) (n := 63) (k := 40) (x := "script") (CX := fun w => ..) (sp := fun _ => My.sp_law) rfl (by decide) rfl ⟨rfl, by decide, by decide⟩ (fun w h Y => PySem.W.kIn_of Y) ?F ?S ?C
 case F =>
  intro w mg fa h KX G hmg
  have T : ∃ t, My.Txt (L2.KOf KX) t := by
   dsimp only [L2.KOf]                          -- K must stand as «<heap const> w.params» for k_is
   refine' My.txt_mk ?e1 ?e2 ?e3 ..
   (case e1 => PySem.W.k_is)                    -- in the order: a name -> its address -> its object -> its parts
   (case e2 => PySem.W.k_is)
   ..
  obtain ⟨t, T⟩ := T
  have e0 := hmg.symm.trans (PySem.W.mg_of KX G T.law)
  cases e0                                       -- fa is the law's own address
  exact ⟨_, fun s u => .of_eq rfl, fun base kb nb => My.law_fn T kb nb⟩     -- if «.of_eq rfl» comes too early: refine' ⟨_, ?b, fun base kb nb => My.law_fn T kb nb⟩; exact fun s u => .of_eq rfl
 case S => exact fun w H a ns hl hO hS => ..
 case C => exact ..
(the tactic k_is has no namespace: write k_is) -/
namespace L2
open PySem PySem.Spec PyProof.Rows
def inClass (s : Stmt) (j : Nat) : Stmt := match s with
 | .ClassDef _ _ _ body _ _ _ _ _ _ _ => body.getD j (.Pass ⟨0, 0, 0, 0⟩)
 | _ => .Pass ⟨0, 0, 0, 0⟩
def Xd (s : Stmt) : Arguments := match s with
 | .FunctionDef _ a _ _ _ _ _ _ _ _ => a
 | _ => { posonlyargs := [], args := [], vararg := none, kwonlyargs := [], kw_defaults := [], kwarg := none, defaults := [] }
def Xa (s : Stmt) : List Stmt := match s with
 | .FunctionDef _ _ b _ _ _ _ _ _ _ => b
 | _ => []
def Qi (s : Stmt) : Scope := match s with
 | .FunctionDef _ _ _ _ _ _ sc _ _ _ => sc
 | _ => { kind := .function, names := [], isGenerator := false, isCoroutine := false }
abbrev CX0 : CXT := fun _ _ _ _ _ _ => False
abbrev E0 : XK := fun _ _ _ => False
theorem Jb {X : Cx} : Vi CX0 X E0 := fun _ _ _ _ _ _ _ h => h.elim
structure Fun (K : Fg) (x qual : Str) (st : Stmt) (f : Addr) (fd : FuncData) : Prop where
 ex : ∃ (oc : Value) (od : Option Addr) (kV doc pm : Value) (an : Option Addr) (cdv ct : Value) (osl : Array (Option Value)),
  fd = PySem.W.fnOf x qual (Xd st) (Xa st) (Qi st) .none kV doc pm an cdv ct ∧ K.lookup f = some ⟨oc, od, .func fd, osl⟩ ∧ PySem.W.codeIn K cdv qual = true
 kp : PySem.W.keepIn K (.ref f) = true
section
variable {P : Program} {w : World} {K : Fg} {mg : Str → Option Value} {base : Heap}
theorem Fun.ok {x qual : Str} {st : Stmt} {f : Addr} {fd : FuncData} {N ps : List Str} {k : Nat} {sp : Sp} (F : Fun K x qual st f fd) (S : FnScope N ps (Qi st)) (len : ∀ vs H Q E, sp vs H Q E → vs.length = ps.length)
  (hbody : ∀ (cdv : Value) (A : Around) (outer : List Env) (s : Shared) (H : Hp) (vs : List V) (Q : VK) (E : XK), Room k (A.deeper (envOfC qual (Qi st) s.heap.objs.size f cdv)) → sp vs H Q E →
   ∃ t, PSs (cxOf CX0 P w K mg base N qual (Qi st) f cdv A outer s H E).nox (Xa st) t ∧ t { nx := fun _ H' => Q .non H', rt := Q } (start N vs) H) : FnOk P w K mg base CX0 (k + 1) f fd ps sp := by
 obtain ⟨oc, od, kV, doc, pm, an, cdv, ct, osl, rfl, lk, hcd⟩ := F.ex
 refine fn_of lk hcd S len fun A outer s H vs Q E hr hsp => ?_
 obtain ⟨t, h, q⟩ := hbody cdv A outer s H vs Q E hr hsp
 exact ⟨t, h.nox, q⟩
theorem Fun.binds {x qual : Str} {st : Stmt} {f : Addr} {fd : FuncData} {ps : List Str} (F : Fun K x qual st f fd)
  (h : ∀ (kV doc pm : Value) (an : Option Addr) (cdv ct : Value) (us : List Value), us.length = ps.length → bindArgs (PySem.W.fnOf x qual (Xd st) (Xa st) (Qi st) .none kV doc pm an cdv ct) ⟨us, []⟩ = pure (ps.zip us)) : Binds K fd ps [] := by
 obtain ⟨oc, od, kV, doc, pm, an, cdv, ct, osl, rfl, lk, hcd⟩ := F.ex
 exact .all (h kV doc pm an cdv ct)
theorem Jm {x qual : Str} {st : Stmt} {f : Addr} {oc : Value} {od an : Option Addr} {osl : Array (Option Value)} {kV doc pm cdv ct : Value} (l : K.lookup f = some ⟨oc, od, .func (PySem.W.fnOf x qual (Xd st) (Xa st) (Qi st) .none kV doc pm an cdv ct), osl⟩)
  (c : PySem.W.codeIn K cdv qual = true) (k : PySem.W.keepIn K (.ref f) = true) : Fun K x qual st f (PySem.W.fnOf x qual (Xd st) (Xa st) (Qi st) .none kV doc pm an cdv ct) := ⟨⟨oc, od, kV, doc, pm, an, cdv, ct, osl, rfl, l, c⟩, k⟩
end
theorem Qfy {A : Around} {k : Nat} (hr : Room k A) : A.units + 1 < cLine := wK (jQb (by decide : 1 ≤ 64) _) hr.units
section
variable {X : Cx}
theorem pv (i : Nat) {x : Str} {pos : Pos} (hN : autoParam (X.N[i]? = some x) L2.aRfl._auto_1) (hv : Vis X.env.scope x := by first | exact Or.inl rfl | exact Or.inr (Or.inl rfl) | exact Or.inr (Or.inr rfl)) (hd : autoParam ((x == ("__debug__" : Str)) = false) L2.aDec._auto_1)
  (hcd : autoParam ((x == ("__classdict__" : Str)) = false) L2.aDec._auto_1) : PE X (.Name x pos) (tVar i) := pe_var hN hv hd hcd
end
theorem iteF {A B : Prop} (h : B) : if false = true then A else B := by
 rw [if_neg kJ]
 exact h
theorem iteT {A B : Prop} (h : A) : if true = true then A else B := by
 rw [if_pos rfl]
 exact h
theorem ite2 {c A B : Prop} [Decidable c] (h1 : c → A) (h2 : ¬ c → B) : if c then A else B := by
 by_cases h : c
 ·rw [if_pos h]
  exact h1 h
 ·rw [if_neg h]
  exact h2 h
def Same (H H' : Hp) : Prop := ∀ b o, H b = some o → H' b = some o
theorem Same.refl (H : Hp) : Same H H := fun _ _ h => h
theorem Same.trans {H H1 H2 : Hp} (a : Same H H1) (b : Same H1 H2) : Same H H2 := fun c o h => b c o (a c o h)
theorem Same.free {H H' : Hp} (e : Same H H') {l : Addr} (h : H' l = Option.none) : H l = none := by
 cases q : H l with
 | none => rfl
 | some o =>
  rw [e l o q] at h
  cases h
theorem Same.seq {K : Fg} {H H' : Hp} {a : Addr} {xs : List V} (e : Same H H') (h : SqL K H a xs) : SqL K H' a xs := by
 rcases h with (h | ⟨o, h⟩) | h
 ·exact .inl (.inl (e _ _ h))
 ·exact .inl (.inr ⟨o, e _ _ h⟩)
 ·exact .inr h
theorem Qbh {prog : Program} {w : World} {A : Around} {R : Result → Shared → Prop} {s : Shared} {elt target iter : Expr} {ifs : List Expr} {scope : Scope} {pos : Pos} {it acc : Value} {env : Env} (I : Nat → Shared → Prop)
  (turn : ∀ n s, I n s → wpAny (model prog w) A (pyNext it) (fun r s1 => match r with
   | none => R (.ok .next) s1
   | some v => wpAny (model prog w) A (letOwnedTupleGo target it v) (fun _ s1' => wpAny (model prog w) A (assign target env v) (fun _ s2 =>
     wpAny (model prog w) A (forIn ifs true fun c r => if r = true then do let ok ← isTrue c env (eval c env); pure (ForInStep.yield ok) else pure (ForInStep.yield r)) (fun ok s3 =>
      if ok = true then wpAny (model prog w) A (eval elt env) (fun x s4 =>
       wpAny (model prog w) A (call (.builtin "list.append") [acc, x]) (fun _ s5 => ∃ m, m < n ∧ I m s5) (fun _ _ => False) s4) (fun _ _ => False) s3
      else ∃ m, m < n ∧ I m s3) (fun _ _ => False) s2) (fun _ _ => False) s1') (fun _ _ => False) s1) (fun _ _ => False) s)
  (n : Nat) (h : I n s) :
  codeAny (model prog w) A (.compLoop (.ListComp elt [⟨target, iter, ifs, 0⟩] scope pos) 0 it acc env) R s := by
 refine codeAny_loop rfl I (fun n s hI => ?_) n h
 show wpAny _ A ((compTurn (.ListComp elt [⟨target, iter, ifs, 0⟩] scope pos) 0 it acc env).onRaise (fun x => do noteFrame x env; theTreesLotGoes x)) _ _ s
 refine wpAny_noted ?_
 rw [compTurn_list]
 refine jQ (wpAny_standAt (jQ (wpAny_mono (turn n s hI) (fun r s1 h1 => ?_) fun _ _ h' => h'.elim)))
 cases r with
 | none => exact jK h1
 | some v =>
  refine jQ (wpAny_mono h1 (fun _ s1' h1' => ?_) fun _ _ h' => h'.elim)
  refine jQ (wpAny_mono h1' (fun _ s2 h2 => jQ (wpAny_mono h2 (fun ok s3 h3 => ?_) fun _ _ h' => h'.elim)) fun _ _ h' => h'.elim)
  cases ok with
  | false => exact jK ⟨rfl, h3⟩
  | true =>
   exact jQ (jQ (wpAny_mono h3 (fun x s4 h4 => jQ (wpAny_mono h4 (fun _ s5 h5 => jK (jK ⟨rfl, h5⟩)) fun _ _ h' => h'.elim)) fun _ _ h' => h'.elim))
def freeOk (sc : Scope) : List (Str × NameKind) → Bool
 | [] => true
 | (n, k) :: r => (k != .free || sc.names.lookup n == some .cell || sc.names.lookup n == some .free) && freeOk sc r
def Za (env : Env) : List (Str × NameKind) → List (Str × Addr) → List (Str × Addr)
 | [], cs => cs
 | (n, k) :: r, cs => Za env r (if k = .free then (n, (env.cells.lookup n).getD 0) :: cs else cs)
theorem Jo {env : Env} : ∀ (l : List (Str × NameKind)) (cs : List (Str × Addr)), (∀ n, (n, NameKind.free) ∈ l → ∃ c, env.cells.lookup n = some c) → (∀ x c, cs.lookup x = some c → env.cells.lookup x = some c) →
  ∀ x c, (Za env l cs).lookup x = some c → env.cells.lookup x = some c
 | [], cs, _, h => h
 | (n, k) :: r, cs, hl, h => by
  refine Jo r _ (fun m hm => hl m (xX _ hm)) fun x c e => ?_
  by_cases hk : k = .free
  ·rw [if_pos hk] at e
   subst hk
   obtain ⟨c', hc⟩ := hl n zX
   rw [jQe] at e
   cases hx : x == n with
   | true =>
    rw [hx] at e
    have : x = n := by simpa using hx
    subst this
    rw [hc] at e
    simp at e
    rw [hc, e]
   | false => rw [hx] at e; exact h x c e
  ·rw [if_neg hk] at e
   exact h x c e
theorem Jp {env : Env} : ∀ (l : List (Str × NameKind)) (cs : List (Str × Addr)) (x : Str), ((cs.lookup x).isSome = true ∨ (x, NameKind.free) ∈ l) → ((Za env l cs).lookup x).isSome = true
 | [], cs, x, h => by
  rcases h with h | h
  ·exact h
  ·exact nomatch h
 | (n, k) :: r, cs, x, h => by
  refine Jp r _ x ?_
  rcases h with h | h
  ·left
   split
   ·rw [jQe]
    split
    ·rfl
    ·exact h
   ·exact h
  ·rcases zY.mp h with e | e
   ·cases e
    left
    rw [if_pos rfl, jQe]
    simp
   ·exact .inr e
theorem Zx {scope : Scope} {env : Env} (h : ∀ n, (n, NameKind.free) ∈ scope.names → ∃ c, env.cells.lookup n = some c) : closureFor scope env = pure (Za env scope.names []) := by
 unfold closureFor
 suffices ∀ (l : List (Str × NameKind)) (cs : List (Str × Addr)), (∀ n, (n, NameKind.free) ∈ l → ∃ c, env.cells.lookup n = some c) → (forIn l cs fun x r =>
   if (x.2 == NameKind.free) = true then do let a ← cellOf env x.1; pure (ForInStep.yield ((x.1, a) :: r)) else pure (ForInStep.yield r) : Sem _) = pure (Za env l cs) by
  have := this scope.names [] h
  simp only at this ⊢
  rw [this]
  rfl
 intro l
 induction l with
 | nil => intro cs _; rfl
 | cons p r ih =>
  intro cs hl
  obtain ⟨n, k⟩ := p
  rw [List.forIn_cons]
  by_cases hk : k = .free
  ·subst hk
   obtain ⟨c, hc⟩ := hl n zX
   have e : cellOf env n = pure c := by unfold cellOf; rw [hc]
   have hb : (NameKind.free == NameKind.free) = true := rfl
   simp only [hb, if_true, e, Za, hc, Option.getD_some]
   exact ih _ fun m hm => hl m (xX _ hm)
  ·have hb : (k == NameKind.free) = false := by simpa using hk
   simp only [hb, jZf, if_false, Za, if_neg hk]
   exact ih _ fun m hm => hl m (xX _ hm)
theorem Zk {sc : Scope} : ∀ {l : List (Str × NameKind)}, freeOk sc l = true → ∀ n, (n, NameKind.free) ∈ l → sc.names.lookup n = some .cell ∨ sc.names.lookup n = some .free
 | [], _, n, h => nomatch h
 | (m, k) :: r, h, n, hm => by
  simp only [freeOk, wQ] at h
  rcases zY.mp hm with e | e
  ·cases e
   have h1 := h.1
   have hb : (NameKind.free != NameKind.free) = false := rfl
   rw [hb] at h1
   simp only [Bool.false_or, Bool.or_eq_true, beq_iff_eq] at h1
   exact h1
  ·exact Zk h.2 n e
theorem Yp {env : Env} : ∀ {names : List (Str × NameKind)} {x : Str} {k : NameKind}, (names.map fun (n, k) => if (k == NameKind.free && env.scope.kind == .function && env.kindOf n == some .cell) then (n, NameKind.cell) else (n, k)).lookup x = some k →
  ∃ k0, names.lookup x = some k0 ∧ (k = k0 ∨ (k = .cell ∧ k0 = .free))
 | [], _, _, h => by simp at h
 | (n, k0) :: r, x, k, h => by
  rw [xY] at h
  by_cases hc : (k0 == NameKind.free && env.scope.kind == .function && env.kindOf n == some .cell) = true
  ·simp only [hc, if_true, jQe] at h
   rw [jQe]
   cases hx : x == n with
   | true =>
    rw [hx] at h
    refine ⟨k0, rfl, .inr ⟨(Option.some.inj h).symm, ?_⟩⟩
    simp only [wQ, beq_iff_eq] at hc
    exact hc.1.1
   | false => rw [hx] at h; exact Yp h
  ·simp only [hc, jZf, if_false, jQe] at h
   rw [jQe]
   cases hx : x == n with
   | true => rw [hx] at h; exact ⟨k0, rfl, .inl (Option.some.inj h).symm⟩
   | false => rw [hx] at h; exact Yp h
theorem lookup_mem {α : Type} : ∀ {l : List (Str × α)} {x : Str} {k : α}, l.lookup x = some k → (x, k) ∈ l
 | [], _, _, h => by simp at h
 | (n, k0) :: r, x, k, h => by
  rw [jQe] at h
  cases hx : x == n with
  | true =>
   rw [hx] at h
   have e1 : x = n := by simpa using hx
   have e2 : k0 = k := Option.some.inj h
   subst e1 e2
   exact zX
  | false => rw [hx] at h; exact xX _ (lookup_mem h)
def Vm (cp : List (Option Nat)) (σ : St) : St := cp.map fun (o : Option Nat) => match o with
 | none => none
 | some j => match σ[(j : Nat)]? with
  | some v => v
  | none => none
def Jt (X : Cx) (scope : Scope) : List Str → List (Option Nat) → Bool
 | [], [] => true
 | x :: N, o :: cp => (match o with | none => true | some j => X.N[j]? == some x && scope.names.lookup x == some .free) && Jt X scope N cp
 | _, _ => false
theorem Qbi {X : Cx} {scope : Scope} : ∀ {N : List Str} {cp : List (Option Nat)}, Jt X scope N cp = true → cp.length = N.length
 | [], [], _ => rfl
 | _ :: N, _ :: cp, h => by
  simp only [Jt, wQ] at h
  simp [Qbi h.2]
 | [], _ :: _, h => by simp [Jt] at h
 | _ :: _, [], h => by simp [Jt] at h
theorem Qbj {X : Cx} {scope : Scope} : ∀ {N : List Str} {cp : List (Option Nat)} {i : Nat} {x : Str} {v : V} {σ : St}, Jt X scope N cp = true → N[i]? = some x → (Vm cp σ)[i]? = some (some v) →
  ∃ j : Nat, X.N[j]? = some x ∧ σ[j]? = some (some v) ∧ scope.names.lookup x = some .free
 | [], [], i, x, v, σ, _, h, _ => by simp at h
 | y :: N, o :: cp, 0, x, v, σ, h, e, e2 => by
  simp only [Jt, wQ] at h
  have e' : y = x := by simpa using e
  subst e'
  cases o with
  | none => simp [Vm] at e2
  | some j =>
   have h1 := h.1
   simp only [wQ, beq_iff_eq] at h1
   refine ⟨j, h1.1, ?_, h1.2⟩
   simp only [Vm, xY, List.getElem?_cons_zero, Option.some.injEq] at e2
   cases q : σ[j]? with
   | none => rw [q] at e2; cases e2
   | some z => rw [q] at e2; exact congrArg some e2
 | y :: N, o :: cp, i + 1, x, v, σ, h, e, e2 => by
  simp only [Jt, wQ] at h
  exact Qbj (i := i) h.2 (by simpa using e) (by simpa [Vm] using e2)
 | [], _ :: _, _, _, _, _, h, _, _ => by simp [Jt] at h
 | _ :: _, [], _, _, _, _, h, _, _ => by simp [Jt] at h
def Yb (X : Cx) (N : List Str) (scope : Scope) (fp : List Addr) (H : Hp) (s : Shared) : Cx :=
 { X with N := N, s₀ := s, H₀ := H, env := compEnvC scope (Za X.env scope.names []) s.heap.objs.size X.env, outer := X.stack, stack := X.stack, ex := fp, fn := fun _ => false, pn := [], xe := fun _ _ => False }
section
variable {X : Cx}
theorem Wk {l : List (Str × NameKind)} (h : (l.all fun p => p.2 != .cell) = true) : ∀ y ∈ l, y.2 ≠ .cell := fun y hy => by
 have := jJc.mp h y hy
 simpa using this
theorem Qep {pins : List (Addr × Obj)} {σ : St} {H : Hp} {s : Shared} {N : List Str} {scope : Scope} {fp : List Addr} (I : Inv X pins σ H s) (hf : ∀ b ∈ fp, FpOk X pins H b) (hlt : ∀ b ∈ fp, b < s.heap.objs.size) (hk : scope.kind = .function)
  (hcell : (scope.names.all fun p => p.2 != .cell) = true) (hfree : freeOk X.env.scope scope.names = true) : (Yb X N scope fp H s).Ok := by
 have has : ∀ n, (n, NameKind.free) ∈ scope.names → ∃ c, X.env.cells.lookup n = some c := fun n hn => I.ok.has n (Zk hfree n hn)
 have sub : ∀ x c, (Za X.env scope.names []).lookup x = some c → X.env.cells.lookup x = some c := Jo _ _ has fun x c e => by simp at e
 have fs : ∀ b ∈ fp, b ∉ frs X.stack := fun b hb z => by
  obtain ⟨_, f1, f2, _⟩ := hf b hb
  rcases zY.mp (I.stkSub b z) with e | e
  ·exact f1 e
  ·exact f2 e
 refine ⟨I.ok.mod, hk, I.ok.glob, I.ok.blt, jZ _, fun x y c h1 h2 => I.ok.inj x y c (sub x c h1) (sub y c h2), fun x hx => ?_, (fun x c h => nomatch h), I.ok.hd, I.ok.frames, .inl rfl, fun b hb => ⟨xQ (hlt b hb), fun x c e => (hf b hb).2.2.2.2.1 x c (sub x c e)⟩,
  I.bs, jQc I.ok.bsz I.sz, fun b o e hb => ?_, fs, I.stack, I.stkFree⟩
 ·have hx' : (scope.names.map fun (n, k) => if (k == NameKind.free && X.env.scope.kind == .function && X.env.kindOf n == some .cell) then (n, NameKind.cell) else (n, k)).lookup x = some .cell ∨
    (scope.names.map fun (n, k) => if (k == NameKind.free && X.env.scope.kind == .function && X.env.kindOf n == some .cell) then (n, NameKind.cell) else (n, k)).lookup x = some .free := hx
  have fr : (x, NameKind.free) ∈ scope.names := by
   rcases hx' with e | e
   ·obtain ⟨k0, e0, z | z⟩ := Yp e
    ·subst z
     exact absurd rfl (Wk hcell _ (lookup_mem e0))
    ·obtain ⟨_, z⟩ := z
     subst z
     exact lookup_mem e0
   ·obtain ⟨k0, e0, z | z⟩ := Yp e
    ·subst z
     exact lookup_mem e0
    ·exact nomatch z.1
  exact jYd.mp (Jp _ _ x (.inr fr))
 ·obtain ⟨_, _, _, f3, _⟩ := hf b hb
  rcases f3 with z | z
  ·exact I.ok.noex b o e z
  ·exact absurd (zZ (yJ (I.ok.bs b o e).1) z) (jYc _)
theorem Qfz {pins : List (Addr × Obj)} {σ : St} {H : Hp} {s : Shared} {N : List Str} {scope : Scope} {fp : List Addr} {cp : List (Option Nat)} {h' : Heap} {m : Str → Option Value} {t' : Nat} (I : Inv X pins σ H s) (hf : ∀ b ∈ fp, FpOk X pins H b) (hlt : ∀ b ∈ fp, b < s.heap.objs.size) (hk : scope.kind = .function)
  (hcell : (scope.names.all fun p => p.2 != .cell) = true) (hfree : freeOk X.env.scope scope.names = true) (hcap : Jt X scope N cp = true)
  (hns : h'.Ns s.heap.objs.size m) (hx : ∀ b o, s.heap.get? b = some o → h'.get? b = some o) : Inv (Yb X N scope fp H s) [] (Vm cp σ) H { s with heap := h', toks := t' } := by
 have has : ∀ n, (n, NameKind.free) ∈ scope.names → ∃ c, X.env.cells.lookup n = some c := fun n hn => I.ok.has n (Zk hfree n hn)
 have sub : ∀ x c, (Za X.env scope.names []).lookup x = some c → X.env.cells.lookup x = some c := Jo _ _ has fun x c e => by simp at e
 refine ⟨Qep I hf hlt hk hcell hfree, rfl, I.bare, ⟨fun b o e n _ _ => hx b o e, fun b o e n _ _ => ⟨o.slots, hx b o e⟩, fun b o e n _ => n, fun b o e _ => ⟨o, hx b o e⟩, fun b xs e => e, fun b o xs e => e, fun b ps e => ⟨#[], by rw [Array.append_empty]; exact e⟩⟩, ⟨m, hns, fun i x v e1 e2 e3 => ?_⟩, fun x c e => ?_, I.hok.fresh (jZ _), fun x c e => I.freeC x c (sub x c e), (fun p hp => nomatch hp), I.hok.kept hx, ?_⟩
 ·obtain ⟨j, h1, h2, h3⟩ := Qbj hcap e1 e2
  obtain ⟨m', _, hl⟩ := I.loc
  have hkx := Zk hfree x (lookup_mem h3)
  obtain ⟨u, r, l⟩ := hl j x v h1 h2 (.inr hkx)
  rcases l with ⟨l, _⟩ | ⟨_, c, hc, hcell'⟩
  ·rcases hkx with z | z
   ·exact nomatch (Option.some.inj (l.symm.trans z))
   ·exact nomatch (Option.some.inj (l.symm.trans z))
  ·obtain ⟨c', hc'⟩ := jYd.mp (Jp (env := X.env) scope.names [] x (.inr (lookup_mem h3)))
   have ec := sub x c' hc'
   rw [hc] at ec
   cases ec
   refine ⟨u, r, .inr ⟨?_, c, hc', ?_⟩⟩
   ·rcases e3 with z | z | z
    ·obtain ⟨k0, e0, y | y⟩ := Yp (show (scope.names.map fun (n, k) => if (k == NameKind.free && X.env.scope.kind == .function && X.env.kindOf n == some .cell) then (n, NameKind.cell) else (n, k)).lookup x = some .local from z)
     ·rw [h3] at e0; cases e0; cases y
     ·exact nomatch y.1
    ·exact .inl z
    ·exact .inr z
   ·obtain ⟨o, ho, hd⟩ := hcell'
    exact ⟨o, hx c o ho, hd⟩
 ·obtain ⟨v, o, ho, hd⟩ := I.cell x c (sub x c e)
  exact ⟨v, o, hx c o ho, hd⟩
 ·show (Vm cp σ).length = N.length
  unfold Vm
  rw [jX]
  exact Qbi hcap
theorem Qco {pins : List (Addr × Obj)} {σ σ' : St} {H H' : Hp} {s s' : Shared} {N : List Str} {scope : Scope} {fp : List Addr} {pins' : List (Addr × Obj)} (I : Inv X pins σ H s) (hf : ∀ b ∈ fp, FpOk X pins H b)
  (J : Inv (Yb X N scope fp H s) pins' σ' H' s') : Inv X pins σ H' s' :=
 I.call' (ch := fp) J.os J.base J.hok J.bare fun b hb => ⟨(hf b hb).2.2.2.1, (hf b hb).2.1, (hf b hb).2.2.2.2.1, (hf b hb).2.2.2.2.2⟩
def PF (X : Cx) (ifs : List Expr) (t : TT) : Prop :=
 ∀ (pins : List (Addr × Obj)) (s : Shared) (σ : St) (H : Hp) (Q : Bool → Hp → Prop), Inv X pins σ H s → t σ H Q →
  wpAny (model X.prog X.w) X.A (forIn ifs true fun c r => if r = true then do let ok ← isTrue c X.env (eval c X.env); pure (ForInStep.yield ok) else pure (ForInStep.yield r)) (TP X pins σ Q) X.xe s
def tYes : TT := fun _ H Q => Q true H
theorem Yq : PF X [] tYes := fun _ _ _ H _ I h => wpAny_tests_nil ⟨H, I, h⟩
theorem Jc {c : Expr} {t : TT} (hc : PT X c t) : PF X [c] t := fun pins s σ H Q I h => wpAny_tests_one (hc pins s σ H Q I h)
def LcW (J : It) (D : Addr) (τ0 : St) (H : Hp) (g : TG) (tt : TT) (te : TE) (Q : Addr → Hp → Prop) : Prop := ∃ W : Nat → Nat → St → List V → Hp → Prop, (∃ m, W 0 m τ0 [] (upd H D (.lst []))) ∧ ∀ i m τ ys H, W i m τ ys H →
 H D = some (.lst ys) ∧ ((J.stop i H ∧ Q D H) ∨ (J.go i H ∧ ys.length < sizeLine ∧ ∃ (N1 : St → V → Hp → Prop) (N2 : St → Hp → Prop), (∀ τ v H, N1 τ v H → ∃ m', m' < m ∧ W (i + 1) m' τ (ys ++ [v]) (upd H D (.lst (ys ++ [v])))) ∧ (∀ τ H, N2 τ H → ∃ m', m' < m ∧ W (i + 1) m' τ ys H) ∧
  ∀ x H', J.yld i H x H' → g x τ H' fun σ2 H2 => tt σ2 H2 fun ok H3 => if ok = true then te σ2 H3 fun v H4 => H4 D = some (.lst ys) ∧ N1 σ2 v H4 else N2 σ2 H3))
def tLC (cp : List (Option Nat)) (wi : TI) (g : TG) (tt : TT) (te : TE) (σ : St) (H : Hp) (Q : Addr → Hp → Prop) : Prop := wi σ H fun J H1 => ∀ D, H1 D = none → LcW J D (Vm cp σ) H1 g tt te Q
theorem Qdm {elt iter target : Expr} {ifs : List Expr} {scope : Scope} {pos : Pos} {N : List Str} {cp : List (Option Nat)} {g : TG} {tt : TT} {te : TE} {pins : List (Addr × Obj)} {σ : St} {H : Hp} {s : Shared} {E : Value → Shared → Prop} {Q : Addr → Hp → Prop}
  {it : Addr} {fp : List Addr} {tn : Nat → Heap → Prop} {J : It} {RR : Value → Addr → Result → Shared → Prop} (hc : X.calm = true) (hk : scope.kind = .function) (hcell : (scope.names.all fun p => p.2 != .cell) = true) (hfree : freeOk X.env.scope scope.names = true) (hcap : Jt X scope N cp = true)
  (hg : ∀ fp H s, PG (Yb X N scope fp H s) target g) (ht : ∀ fp H s, PF (Yb X N scope fp H s) ifs tt) (he : ∀ fp H s, PE (Yb X N scope fp H s) elt te)
  (I : Inv X pins σ H s) (T : Turn X.prog X.w X.K target J fp it tn) (st : tn 0 s.heap) (hf : ∀ b ∈ fp, FpOk X pins H b)
  (h : ∀ D, H D = none → LcW J D (Vm cp σ) H g tt te Q)
  (hRR : ∀ D C s' H' m, Inv X pins σ H' s' → FpOk X pins H' C → s'.heap.Ns C m → Q D H' → RR (.ref D) C (.ok .next) s') :
  wpAny (model X.prog X.w) X.A (newList []) (fun acc s3 => wpAny (model X.prog X.w) X.A (newFunctionEnv scope X.env.globals (Za X.env scope.names []) [] X.env.qual none .none (some X.env)) (fun cenv s4 =>
   codeAny (model X.prog X.w) X.A (.compStart (.ListComp elt [⟨target, iter, ifs, 0⟩] scope pos) 0 (.ref it) acc { cenv with scope := relabel scope X.env }) (RR acc cenv.locals) s4) E s3) E s := by
 have hlt : ∀ b ∈ fp, b < s.heap.objs.size := fun b hb => by
  obtain ⟨o, e, _⟩ := T.obj _ _ st b hb
  exact yJ e
 refine wpAny_newObj_type (wpAny_newFunctionEnv (Wk hcell) (by intro y hy; simp at hy) (fun h1 hns1 hsb1 => ?_) hk)
 dsimp only at hns1 hsb1 ⊢
 have hD : H s.heap.objs.size = none := I.hok.fresh (jZ _)
 have I3 : Inv X pins σ (upd H s.heap.objs.size (.lst [])) { s with heap := s.heap.push { cls := .type "list", dict := none, data := .seq ([] : List Value).toArray } } :=
  I.laid (t' := s.toks) (fun b u e => jW _ e) (jZ _) ⟨jQd _, [], 0, .nil, yK _ rfl⟩
 have hf3 : ∀ b ∈ fp, FpOk X pins (upd H s.heap.objs.size (.lst [])) b := fun b hb => ⟨by rw [Qk (xQ (hlt b hb))]; exact (hf b hb).1, (hf b hb).2⟩
 have hlt3 : ∀ b ∈ fp, b < (s.heap.push { cls := .type "list", dict := none, data := .seq ([] : List Value).toArray }).objs.size := fun b hb => by rw [jKc]; exact Nat.lt_succ_of_lt (hlt b hb)
 generalize hH2 : s.heap.push { cls := .type "list", dict := none, data := .seq ([] : List Value).toArray } = H2 at hns1 hsb1 I3 hlt3 ⊢
 generalize hs3 : ({ s with heap := H2 } : Shared) = s3 at I3
 have hs3h : s3.heap = H2 := by rw [← hs3]
 have ext1 : ∀ b o, s3.heap.get? b = some o → h1.get? b = some o := fun b o e => by
  rw [hs3h] at e
  exact hsb1.extBut b o (xQ (yJ e)) (jW _ e)
 have J0 : Inv (Yb X N scope fp (upd H s.heap.objs.size (.lst [])) s3) [] (Vm cp σ) (upd H s.heap.objs.size (.lst [])) { s3 with heap := h1, toks := s.toks + ([] : List (Str × Value)).length } :=
  Qfz I3 hf3 (by rw [hs3h]; exact hlt3) hk hcell hfree hcap (by rw [hs3h]; exact hns1) ext1
 have st1 : tn 0 h1 := T.keep _ _ _ st fun b hb o e => ext1 b o (by rw [hs3h, ← hH2]; exact jW _ e)
 obtain ⟨W, ⟨m0, w0⟩, turn⟩ := h s.heap.objs.size hD
 have stat : ∀ {H' : Hp}, (∀ b ∈ fp, H' b = none) → ∀ b ∈ fp, FpOk (Yb X N scope fp (upd H s.heap.objs.size (.lst [])) s3) [] H' b := fun {H'} hn b hb =>
  ⟨hn b hb, (J0.ok.exf b hb).1, J0.ok.exfs b hb, .inl hb, (J0.ok.exf b hb).2, fun p hp => nomatch hp⟩
 have loop : codeAny (model X.prog X.w) X.A (.compLoop (.ListComp elt [⟨target, iter, ifs, 0⟩] scope pos) 0 (.ref it) (.ref s.heap.objs.size) (compEnvC scope (Za X.env scope.names []) H2.objs.size X.env))
   (RR (.ref s.heap.objs.size) H2.objs.size) { s3 with heap := h1, toks := s.toks + ([] : List (Str × Value)).length } := by
  have eEnv : compEnvC scope (Za X.env scope.names []) H2.objs.size X.env = (Yb X N scope fp (upd H s.heap.objs.size (.lst [])) s3).env := by
   rw [← hs3h]; rfl
  rw [eEnv]
  refine Qbh (fun n s' => ∃ i τ ys H', Inv (Yb X N scope fp (upd H s.heap.objs.size (.lst [])) s3) [] τ H' s' ∧ tn i s'.heap ∧ (∀ b ∈ fp, H' b = none) ∧ W i n τ ys H') ?_ m0 ⟨0, Vm cp σ, [], _, J0, st1, fun b hb => (hf3 b hb).1, w0⟩
  rintro n s4 ⟨i, τ, ys, H4, I4, st4, fr4, w4⟩
  obtain ⟨hD4, hh⟩ := turn i n τ ys H4 w4
  rcases hh with ⟨stop, qn⟩ | ⟨go, hlen, N1, N2, hN1, hN2, step⟩
  ·refine thn (T.done (Yb X N scope fp (upd H s.heap.objs.size (.lst [])) s3) rfl rfl rfl hc i [] s4 τ H4 _ I4 (stat fr4) st4 stop) fun r s5 hqP => ?_
   obtain ⟨hr, I5⟩ := hqP
   subst hr
   obtain ⟨m, hm, _⟩ := I5.loc
   have e5 : H2.objs.size = (Yb X N scope fp (upd H s.heap.objs.size (.lst [])) s3).env.locals := by rw [← eEnv]; rfl
   refine hRR _ _ s5 H4 m (Qco I3 hf3 I5) ?_ (by rw [e5]; exact hm) qn
   exact I3.fpOk (by rw [hs3h]; exact jZ _) (by rw [e5]; exact I5.free)
  ·refine thn (T.item (Yb X N scope fp (upd H s.heap.objs.size (.lst [])) s3) rfl rfl rfl hc i [] s4 τ H4 _ I4 (stat fr4) st4 go) fun r s5 hqP => ?_
   obtain ⟨u, hr, h5⟩ := hqP
   subst hr
   refine thn h5 fun _ s6 hqP => ?_
   obtain ⟨x, H6, I6, r6, y6, st6, fr6⟩ := hqP
   have I6' := I6.pinned (stat fr6) (T.obj _ _ st6)
   refine thn (hg fp _ _ _ s6 τ H6 x u _ I6' r6 (step x H6 y6)) fun _ s7 hqP => ?_
   obtain ⟨σ7, H7, I7, q7⟩ := hqP
   refine thn (ht fp _ _ _ s7 σ7 H7 _ I7 q7) fun ok s8 hqP => ?_
   obtain ⟨H8, I8, q8⟩ := hqP
   have back : ∀ {σ' : St} {H' : Hp} {s' : Shared}, Inv (Yb X N scope fp (upd H s.heap.objs.size (.lst [])) s3) ([] ++ Qax fp s6.heap) σ' H' s' → Inv (Yb X N scope fp (upd H s.heap.objs.size (.lst [])) s3) [] σ' H' s' ∧ tn (i + 1) s'.heap ∧ ∀ b ∈ fp, H' b = none := fun {σ' H' s'} I' => by
    refine ⟨I'.unpinned, T.keep _ _ _ st6 fun b hb o e => (I'.pin (b, o) (zV _ (zV _ (Jh hb e)))).1, fun b hb => ?_⟩
    obtain ⟨o, e, d⟩ := T.obj _ _ st6 b hb
    exact (I'.pin (b, o) (zV _ (zV _ (Jh hb e)))).2.1
   cases ok with
   | false =>
    rw [if_neg kJ] at q8 ⊢
    obtain ⟨m', hm, w8⟩ := hN2 _ _ q8
    obtain ⟨b1, b2, b3⟩ := back I8
    exact ⟨m', hm, i + 1, σ7, ys, H8, b1, b2, b3, w8⟩
   | true =>
    rw [if_pos rfl] at q8 ⊢
    refine thn (he fp _ _ _ s8 σ7 H8 _ I8 q8) fun y s9 hqP => ?_
    obtain ⟨v, H9, I9, r9, hD9, n9⟩ := hqP
    obtain ⟨m', hm, w9⟩ := hN1 _ _ _ n9
    refine thn (Qw _ s9 σ7 H9 (.ref s.heap.objs.size) [v] (.ref s.heap.objs.size) [y] (fun _ H' => H' = upd H9 s.heap.objs.size (.lst (ys ++ [v]))) I9 rfl (.cons r9 .nil) ⟨_, ys, v, rfl, rfl, hD9, hlen, rfl⟩) fun _ s10 hqP => ?_
    obtain ⟨_, H10, I10, _, e10⟩ := hqP
    subst e10
    obtain ⟨b1, b2, b3⟩ := back I10
    exact ⟨m', hm, i + 1, σ7, _, _, b1, b2, b3, w9⟩
 have e3 : ({ s with heap := h1, toks := s.toks + ([] : List (Str × Value)).length } : Shared) = { s3 with heap := h1, toks := s.toks + ([] : List (Str × Value)).length } := by rw [← hs3]
 rw [e3]
 exact codeAny_compStart_list loop (T.self _ 0 _ _ _ st1 loop)
theorem Zf {elt iter target : Expr} {ifs : List Expr} {scope : Scope} {pos : Pos} (N : List Str) (cp : List (Option Nat)) {wi : TI} {g : TG} {tt : TT} {te : TE} (hc : X.calm = true) (hi : PI X target iter wi)
  (hg : ∀ fp H s, PG (Yb X N scope fp H s) target g) (ht : ∀ fp H s, PF (Yb X N scope fp H s) ifs tt) (he : ∀ fp H s, PE (Yb X N scope fp H s) elt te)
  (hk : autoParam (scope.kind = .function) L2.aRfl._auto_1) (hcell : autoParam ((scope.names.all fun p => p.2 != .cell) = true) L2.aRfl._auto_1) (hfree : autoParam (freeOk X.env.scope scope.names = true) L2.aRfl._auto_1) (hcap : autoParam (Jt X scope N cp = true) L2.aRfl._auto_1)
  (hnames : autoParam ((scope.names.all fun p => p.2 != .local || scope.names.lookup p.1 == some .local) = true) L2.aRfl._auto_1) (hs : autoParam (∀ x, foldedSetIterable iter X.env x = pure x) L2.aIrf._auto_1) :
  PE X (.ListComp elt [⟨target, iter, ifs, 0⟩] scope pos) (fun σ H Q => tLC cp wi g tt te σ H fun D H' => Q (.ref D) H') := by
 intro pins s σ H Q I h
 rw [eval_ListComp]
 have has : ∀ n, (n, NameKind.free) ∈ scope.names → ∃ c, X.env.cells.lookup n = some c := fun n hn => I.ok.has n (Zk hfree n hn)
 refine wpAny_comprehension_free (use := none) rfl hs (Zx has) hk (fun x hx hl => ?_) (thn (hi pins s σ H _ I h) fun xv s1 h1 => thn h1 fun itv s2 h2 => ?_)
 ·have := jJc.mp hnames x hx
  simp only [Bool.or_eq_true, bne_iff_ne, beq_iff_eq] at this
  exact this.resolve_left fun z => z hl
 ·obtain ⟨it, fp, tn, J, H2, e, I2, T, st2, f2, hW⟩ := h2
  subst e
  refine Qdm (N := N) (cp := cp) hc hk hcell hfree hcap hg ht he I2 T st2 f2 hW fun D C s' H' m I' fC hm q => ⟨m, hm, fun h' hsb => ?_⟩
  exact ⟨.ref D, H', I'.turned (t' := s'.toks) (fun b o hb e => hsb.extBut b o hb e) fC.1 fC.2.1 fC.2.2.2.1 fC.2.2.2.2.1 fC.2.2.2.2.2, rfl, q⟩
theorem Jz {i : Nat} {x : Str} {px : Pos} {elt iter target : Expr} {ifs : List Expr} {scope : Scope} {pos spos : Pos} (N : List Str) (cp : List (Option Nat)) {wi : TI} {g : TG} {tt : TT} {te : TE} (hc : X.calm = true) (hN : X.N.Nodup) (hi' : X.N[i]? = some x) (hx : Loc X.env.scope x) (hi : PI X target iter wi)
  (hg : ∀ fp H s, PG (Yb X N scope fp H s) target g) (ht : ∀ fp H s, PF (Yb X N scope fp H s) ifs tt) (he : ∀ fp H s, PE (Yb X N scope fp H s) elt te)
  (hsw : autoParam (swapsWith (.ListComp elt [⟨target, iter, ifs, 0⟩] scope pos) (some (.Name x px)) spos.line X.env = pure true) L2.aRfl._auto_1)
  (hk : autoParam (scope.kind = .function) L2.aRfl._auto_1) (hcell : autoParam ((scope.names.all fun p => p.2 != .cell) = true) L2.aRfl._auto_1) (hfree : autoParam (freeOk X.env.scope scope.names = true) L2.aRfl._auto_1) (hcap : autoParam (Jt X scope N cp = true) L2.aRfl._auto_1)
  (hnames : autoParam ((scope.names.all fun p => p.2 != .local || scope.names.lookup p.1 == some .local) = true) L2.aRfl._auto_1) (hs : autoParam (∀ x, foldedSetIterable iter X.env x = pure x) L2.aIrf._auto_1)
  (hf : autoParam (X.fn x = true ∨ X.env.scope.names.lookup x = some .local) L2.aFst._auto_1) :
  PS X (.Assign [.Name x px] (.ListComp elt [⟨target, iter, ifs, 0⟩] scope pos) spos) (fun D σ H => tLC cp wi g tt te σ H fun a H' => D.nx (σ.set i (some (.ref a))) H') := by
 intro pins s σ H D I h
 have has : ∀ n, (n, NameKind.free) ∈ scope.names → ∃ c, X.env.cells.lookup n = some c := fun n hn => I.ok.has n (Zk hfree n hn)
 rw [exec_Assign_Name_used _ _ _ _ hsw]
 refine jQ (wpAny_standAt (jQ ?_))
 show wpAny _ _ (do let _ ← comprehension (.ListComp elt [⟨target, iter, ifs, 0⟩] scope pos) scope X.env _ (newList []) false (eval iter X.env) (some (assign (.Name x px) X.env))) _ _ s
 refine jQ (wpAny_mono (wpAny_comprehension_free (use := some (assign (.Name x px) X.env)) (Q := fun _ s' => SP X pins D .next s') rfl hs (Zx has) hk (fun x hx hl => ?_)
  (thn (hi pins s σ H _ I h) fun xv s1 h1 => thn h1 fun itv s2 h2 => ?_)) (fun _ s' hq => jK (jK hq)) fun _ _ e => e)
 ·have := jJc.mp hnames x hx
  simp only [Bool.or_eq_true, bne_iff_ne, beq_iff_eq] at this
  exact this.resolve_left fun z => z hl
 ·obtain ⟨it, fp, tn, J, H2, e, I2, T, st2, f2, hW⟩ := h2
  subst e
  refine Qdm (N := N) (cp := cp) hc hk hcell hfree hcap hg ht he I2 T st2 f2 hW fun D' C s' H' m I' fC hm q => ?_
  show wpAny _ _ (assign (.Name x px) X.env (.ref D')) _ _ _
  refine wpAny_assign_Name (Qat I' hN hi' hx (v := .ref D') rfl (fun s'' I'' hsb => ?_) hf)
  obtain ⟨a, hsb, ha⟩ := hsb
  have hCa : C ≠ a := by
   rcases ha with e | e
   ·rw [e]; exact fC.2.1
   ·exact fun z => fC.2.2.2.2.1 x a e z.symm
  refine ⟨m, hm.sameBut hsb hCa, fun h' hsb' => ?_⟩
  exact ⟨_, H', I''.turned (t' := s''.toks) (fun b o hb e => hsb'.extBut b o hb e) fC.1 fC.2.1 fC.2.2.2.1 fC.2.2.2.2.1 fC.2.2.2.2.2, q⟩
end
structure Drw (P : Program) (w : World) (it l : Addr) (st : Nat → Heap → Prop) (src : List Value → Heap → Prop) : Prop where
 obj : ∀ i h, st i h → ∃ o, h.get? it = some o ∧ ∀ v, o.data ≠ .cell v
 keep : ∀ i h h', st i h → (∀ o, h.get? it = some o → h'.get? it = some o) → st i h'
 srck : ∀ xs h h', src xs h → (∀ o, h.get? l = some o → h'.get? l = some o) → src xs h'
 item : ∀ (A : Around) (E : Value → Shared → Prop) (s : Shared) (i : Nat) (xs : List Value) (x : Value) (Q : Value → Shared → Prop), st i s.heap → src xs s.heap → xs[i]? = some x →
  (∀ h', st (i + 1) h' → Heap.SameBut it s.heap h' → Q x { s with heap := h' }) → wpAny (model P w) A (Builtin.SmallTypes.nextOf (.ref it)) Q E s
 done : ∀ (A : Around) (E : Value → Shared → Prop) (s : Shared) (i : Nat) (xs : List Value) (Q : Value → Shared → Prop), A.handled = none → st i s.heap → src xs s.heap → xs[i]? = none →
  (∀ h' e, Heap.ExtBut it s.heap h' → (∃ o, h'.get? e = some o ∧ o.cls = .type "StopIteration") → E (.ref e) { s with heap := h' }) → wpAny (model P w) A (Builtin.SmallTypes.nextOf (.ref it)) Q E s
theorem Qij {P : Program} {w : World} (it l : Addr) : Drw P w it l (fun i h => h.IsListIter it l i) (fun xs h => h.IsList l xs.toArray) where
 obj := fun i h st => by
  obtain ⟨o, e, c, d⟩ := st
  exact ⟨o, e, fun v z => by rw [d] at z; cases z⟩
 keep := fun i h h' st k => st.at k
 srck := fun xs h h' sr k => sr.at k
 item := fun A E s i xs x Q st sr hx hQ => wpAny_nextOf_list_item st sr (by simpa using hx) hQ
 done := fun A E s i xs Q hh st sr hx hE => wpAny_nextOf_list_end hh st sr (by simpa using hx) hE
section
variable {P : Program} {w : World} {A : Around} {E : Value → Shared → Prop} {s : Shared}
theorem Vn {it t : Addr} {i : Nat} {xs : Array Value} {x : Value} {Q : Value → Shared → Prop} (hI : s.heap.IsTupleIter it t i) (hT : s.heap.IsTuple t xs) (hx : xs[i]? = some x)
  (hQ : ∀ h', h'.IsTupleIter it t (i + 1) → Heap.SameBut it s.heap h' → Q x { s with heap := h' }) : wpAny (model P w) A (Builtin.SmallTypes.nextOf (.ref it)) Q E s := by
 obtain ⟨oI, gI, cI, dI⟩ := id hI
 obtain ⟨oT, gT, _, nT, dT⟩ := hT
 unfold Builtin.SmallTypes.nextOf
 refine jQ (wpAny_callSpecial?_slot (name := Str.ofString "__next__") hI.typeIs F.slot_tuple_iterator_next (wpAny_call_entry F.slot_tuple_iterator_next hI.typeIs F.entry_tuple_iterator_next ?_ (F.args_tuple_iterator_next_1 _)))
 show wpAny _ _ (field (.ref it) 0 >>= _) _ _ s
 refine jQ (wpAny_field gI dI (x := .ref t) rfl ?_)
 show wpAny _ _ (if (Value.ref t == Value.none) = true then _ else _) _ _ s
 rw [if_neg (show ¬ ((Value.ref t == Value.none) = true) from kJ)]
 show wpAny _ _ (field (.ref it) 1 >>= _) _ _ s
 refine jQ (wpAny_field gI dI (x := .int i 0) rfl ?_)
 show wpAny _ _ (seqItems? (.ref t) >>= _) _ _ s
 refine jQ (wpAny_seqItems gT dT ?_)
 simp only [jYb, hx]
 refine jQ (wpAny_setField gI dI (by simp) (jK ⟨x, rfl, jK (hQ _ ?_ (Heap.SameBut.update ..))⟩))
 refine ⟨_, Heap.get?_update_self _ gI (Obj.isFreed_of_fields (Obj.data_mapFields dI _)), (Obj.cls_mapFields ..).trans cI, ?_⟩
 rw [Obj.data_mapFields dI]; simp [rawInt]
theorem Wc {it t : Addr} {i : Nat} {xs : Array Value} {Q : Value → Shared → Prop} (hh : A.handled = none) (hI : s.heap.IsTupleIter it t i) (hT : s.heap.IsTuple t xs) (hx : xs[i]? = none)
  (hE : ∀ h' e, Heap.ExtBut it s.heap h' → (∃ o, h'.get? e = some o ∧ o.cls = .type "StopIteration") → E (.ref e) { s with heap := h' }) : wpAny (model P w) A (Builtin.SmallTypes.nextOf (.ref it)) Q E s := by
 obtain ⟨oI, gI, cI, dI⟩ := id hI
 obtain ⟨oT, gT, _, nT, dT⟩ := hT
 unfold Builtin.SmallTypes.nextOf
 refine jQ (wpAny_callSpecial?_slot (name := Str.ofString "__next__") hI.typeIs F.slot_tuple_iterator_next (wpAny_call_entry F.slot_tuple_iterator_next hI.typeIs F.entry_tuple_iterator_next ?_ (F.args_tuple_iterator_next_1 _)))
 show wpAny _ _ (field (.ref it) 0 >>= _) _ _ s
 refine jQ (wpAny_field gI dI (x := .ref t) rfl ?_)
 show wpAny _ _ (if (Value.ref t == Value.none) = true then _ else _) _ _ s
 rw [if_neg (show ¬ ((Value.ref t == Value.none) = true) from kJ)]
 show wpAny _ _ (field (.ref it) 1 >>= _) _ _ s
 refine jQ (wpAny_field gI dI (x := .int i 0) rfl ?_)
 show wpAny _ _ (seqItems? (.ref t) >>= _) _ _ s
 refine jQ (wpAny_seqItems gT dT ?_)
 simp only [jYb, hx]
 refine jQ (wpAny_rule (jQ (wpAny_setField gI dI (by simp) ?_)))
 show wpAny _ _ (newExc (.type "StopIteration") [] >>= _) _ _ _
 refine jQ ?_
 simp only [newExc, newTuple]
 refine jQ (wpAny_newObj_type ?_ (by size_fits))
 refine jQ (m := firstArgMember _ _) (wpAny_of_eq (a := Value.none) (by first | rfl | (simp only [firstArgMember]; rfl)) ?_)
 refine wpAny_newObj_type ?_ (by size_fits)
 simp only [raiseNew]
 refine jQ (wpAny_handled ?_)
 first | rw [show A.in1.handled = none from hh] | rw [hh]
 exact jQ (jK (wpAny_throw (hE _ _ (((Heap.SameBut.update ..).extBut.push _).push _) ⟨_, yK _ rfl, rfl⟩)))
end
theorem Qll {P : Program} {w : World} (it l : Addr) : Drw P w it l (fun i h => h.IsTupleIter it l i) (fun xs h => h.IsTuple l xs.toArray) where
 obj := fun i h st => by
  obtain ⟨o, e, c, d⟩ := st
  exact ⟨o, e, fun v z => by rw [d] at z; cases z⟩
 keep := fun i h h' st k => st.at k
 srck := fun xs h h' sr k => sr.at k
 item := fun A E s i xs x Q st sr hx hQ => Vn st sr (by simpa using hx) hQ
 done := fun A E s i xs Q hh st sr hx hE => Wc hh st sr (by simpa using hx) hE
section
variable {P : Program} {w : World} {A : Around} {E : Value → Shared → Prop} {s : Shared} {z u o i1 i2 l1 l2 : Addr} {st1 st2 : Nat → Heap → Prop} {src1 src2 : List Value → Heap → Prop} {k1 k2 : Nat} {xs ys : List Value} {a b : Value}
end
def Vo (n : String) (l : Addr) : Obj := { cls := .type n, data := .fields #[.ref l, .int 0 0] }
structure Itr0 (n : String) (l : Addr) (pr : Heap → Prop) : Prop where
 go : ∀ (P : Program) (w : World) (A : Around) (E : Value → Shared → Prop) (s : Shared) (Q : Value → Shared → Prop), pr s.heap → Q (.ref s.heap.objs.size) { s with heap := s.heap.push (Vo n l) } → wpAny (model P w) A (pyIter (.ref l)) Q E s
 push : ∀ h o, pr h → pr (h.push o)
theorem Qga (l : Addr) (xs : Array Value) : Itr0 "list_iterator" l (fun h => h.IsList l xs) := ⟨fun _ _ _ _ _ _ hl h => wpAny_pyIter_list hl h, fun _ _ hl => hl.push _⟩
theorem Qik (l : Addr) (xs : Array Value) : Itr0 "tuple_iterator" l (fun h => h.IsTuple l xs) := ⟨fun _ _ _ _ _ _ hl h => wpAny_pyIter_tuple hl h, fun _ _ hl => hl.push _⟩
def Sq (K : Fg) (m : Bool) (H : Hp) (a : Addr) (xs : List V) : Prop := if m = true then SqL K H a xs else SqT K H a xs
def itN (m : Bool) : String := if m = true then "list_iterator" else "tuple_iterator"
def itSt (m : Bool) (it l : Addr) (i : Nat) (h : Heap) : Prop := if m = true then h.IsListIter it l i else h.IsTupleIter it l i
def Qil (m : Bool) (l : Addr) (xs : List Value) (h : Heap) : Prop := if m = true then h.IsList l xs.toArray else h.IsTuple l xs.toArray
theorem Vp {P : Program} {w : World} (m : Bool) (it l : Addr) : Drw P w it l (itSt m it l) (Qil m l) := by
 cases m
 ·exact Qll it l
 ·exact Qij it l
theorem Qlm (m : Bool) (l : Addr) (xs : List Value) : Itr0 (itN m) l (Qil m l xs) := by
 cases m
 ·exact Qik l xs.toArray
 ·exact Qga l xs.toArray
theorem Qim (m : Bool) {h : Heap} {it l : Addr} (e : h.get? it = some (Vo (itN m) l)) : itSt m it l 0 h := by
 cases m
 ·exact ⟨_, e, rfl, rfl⟩
 ·exact ⟨_, e, rfl, rfl⟩
section
variable {X : Cx} {pins : List (Addr × Obj)} {σ : St} {H : Hp} {s : Shared}
theorem Inv.sq {m : Bool} {a : Addr} {xs : List V} (I : Inv X pins σ H s) (h : Sq X.K m H a xs) : ∃ its : List Value, Vals xs its ∧ Qil m a its s.heap ∧ xs.length ≤ sizeLine := by
 cases m
 ·obtain ⟨its, rv, p, hz⟩ := I.tuple h
  exact ⟨its, rv, p, by first | exact hz | omega⟩
 ·obtain ⟨its, rv, p, hz⟩ := I.list h
  exact ⟨its, rv, p.isList, by first | exact hz | omega⟩
theorem Inv.sq_inj {m : Bool} {a : Addr} {xs ys : List V} (I : Inv X pins σ H s) (h : Sq X.K m H a xs) (h' : Sq X.K m H a ys) : xs = ys := by
 cases m
 ·exact I.tuple_inj h h'
 ·exact I.list_inj h h'
theorem Inv.tupNew {xs : List V} {its : List Value} {h' : Heap} {ch : List Addr} {T : Addr} (I : Inv X pins σ H s) (hT : s.heap.objs.size ≤ T) (r : Vals xs its) (hz : xs.length ≤ sizeLine) (e : h'.get? T = some { cls := .type "tuple", data := .seq its.toArray })
  (hf : ∀ b ∈ ch, FpOk X pins H b) (k : ∀ b o, b ∉ ch → s.heap.get? b = some o → h'.get? b = some o) (th : ∀ b ∈ ch, ∃ o, h'.get? b = some o) : Inv X pins σ (upd H T (.tup xs)) { s with heap := h' } := by
 have hn : H T = none := I.hok.fresh hT
 have tr : ∀ b o, H b = some o → b ∉ ch := fun b o e z => by rw [(hf b z).1] at e; cases e
 refine I.step (g' := s.gens) (t' := s.toks) (d' := s.drawn) (ch := ch) (fun b hb => ⟨(hf b hb).2.2.2.1, (hf b hb).2.1, (hf b hb).2.2.2.2.1, (hf b hb).2.2.2.2.2⟩) (fun b o _ _ hc q _ => k b o hc q) (fun b o _ _ hc q _ => ⟨o.slots, k b o hc q⟩) (fun b o _ q n => ?_) (fun b o hc q => ⟨o, k b o hc q⟩)
  (fun b xs q => ?_) (fun b o u q => ?_) (fun b ps q => ⟨#[], ?_⟩) (fun m hm => ?_) (fun b ob q => ?_) I.bare
 ·rw [Qk (xQ (zZ (yJ q) hT))]; exact n
 ·rw [Qk (Qp q hn)]; exact q
 ·rw [Qk (Qp q hn)]; exact q
 ·rw [Qk (Qp q hn), Array.append_empty]; exact q
 ·obtain ⟨o, es, ep, q, d, r⟩ := hm
  exact ⟨o, es, ep, k _ o (fun z => (hf _ z).2.1 rfl) q, d, r⟩
 ·by_cases hb : b = T
  ·subst hb
   rw [Qd] at q; cases q
   exact ⟨hz, its, r, _, e, rfl, _, rfl⟩
  ·rw [Qk hb] at q
   refine (I.hok b ob q).stay (fun c v hc r => k c v ?_ r) (fun c r => by rw [Qk (Qp r hn)]; exact r) fun c xs r => by rw [Qk (Qp r hn)]; exact r
   rcases hc with rfl | hc
   ·exact tr _ _ q
   ·exact tr _ _ hc
end
section
variable {X : Cx}
theorem Qin {m : Bool} {a : Addr} {xs : List Value} {h : Heap} (e : Qil m a xs h) : a < h.objs.size := by
 cases m
 ·obtain ⟨o, e, _⟩ := e; exact yJ e
 ·obtain ⟨o, e, _⟩ := e; exact yJ e
end
section
variable {X : Cx}
def isiV (K : Fg) (H : Hp) : V → String → Bool → Prop
 | .int _, T, b => (T = "int" ∧ b = true) ∨ (T = "bool" ∧ b = false) ∨ (T = "tuple" ∧ b = false)
 | .bl _, T, b => (T = "int" ∧ b = true) ∨ (T = "bool" ∧ b = true) ∨ (T = "tuple" ∧ b = false)
 | .ref a, T, b => (∃ xs, SqT K H a xs) ∧ ((T = "tuple" ∧ b = true) ∨ (T = "int" ∧ b = false) ∨ (T = "bool" ∧ b = false))
 | _, _, _ => False
theorem Qdn : Jk X (.builtin "isinstance") (fun xs H Q => ∃ x T b, xs = [x, .ty T] ∧ isiV X.K H x T b ∧ Q (.bl b) H) := by
 intro pins s σ H xs us Q I rv h
 obtain ⟨x, T, b, rfl, hi, q⟩ := h
 obtain ⟨u, v, rfl, ru, rT⟩ := rv.two
 cases rT
 have fin : ∀ (tk : Nat), EP X pins σ Q (.bool b) { s with toks := tk } := fun tk => ⟨.bl b, H, I.tok tk, rfl, q⟩
 cases x with
 | int n =>
  obtain ⟨t, rfl⟩ := ru
  rcases hi with ⟨rfl, rfl⟩ | ⟨rfl, rfl⟩ | ⟨rfl, rfl⟩
  ·exact IsiPair.int_int (fin s.toks)
  ·exact IsiPair.int_bool (fin _)
  ·exact IsiPair.int_tuple (fin _)
 | bl n =>
  cases ru
  rcases hi with ⟨rfl, rfl⟩ | ⟨rfl, rfl⟩ | ⟨rfl, rfl⟩
  ·exact IsiPair.bool_int (fin s.toks)
  ·exact IsiPair.bool_bool (fin s.toks)
  ·exact IsiPair.bool_tuple (fin _)
 | ref a =>
  cases ru
  obtain ⟨⟨xs, hq⟩, hi⟩ := hi
  obtain ⟨its, r, ⟨o, e, c, _⟩, _⟩ := I.tuple hq
  rcases hi with ⟨rfl, rfl⟩ | ⟨rfl, rfl⟩ | ⟨rfl, rfl⟩
  ·exact IsiPair.tuple_tuple e c (fin s.toks)
  ·exact IsiPair.tuple_int e c (fin _)
  ·exact IsiPair.tuple_bool e c (fin _)
 | non => exact hi.elim
 | str _ => exact hi.elim
 | byt _ => exact hi.elim
 | flt _ => exact hi.elim
 | ty _ => exact hi.elim
theorem Qgb (hc : X.calm = true) : Jk X (.builtin "sum") (fun xs H Q => ∃ (a : Addr) (ns : List Int), xs = [.ref a] ∧ SqL X.K H a (ns.map V.int) ∧ Q (.int ns.sum) H) := by
 intro pins s σ H xs us Q I rv h
 obtain ⟨a, ns, rfl, hq, q⟩ := h
 obtain ⟨u, rfl, ru⟩ := rv.one
 cases ru
 obtain ⟨its, r, p, hz⟩ := I.list hq
 have hi : IntsAre its.toArray.toList ns := intsAre_of r
 have hall : AllInts its.toArray := hi.allInts
 obtain ⟨xs, hx⟩ := hall.items
 have hl' : s.heap.IsList a (intItems xs) := hx ▸ p.isList
 refine sum_intListG (I.ok.hd hc) hl' fun h' tk t' hk => ?_
 have e1 : ns = xs.toList.map (·.1) := by
  rw [← nums_intItems, ← hx]
  exact (show numsOf its.toArray.toList = ns from hi.numsOf).symm
 have e2 : preSum (numAt xs) xs.size = ns.sum := by
  rw [preSum_eq, wY (by simp), e1]
 rw [e2]
 exact ⟨.int ns.sum, H, I.kept hk, ⟨_, rfl⟩, q⟩
theorem Qln {bs : List Bool} {its : List Value} (r : Vals (bs.map V.bl) its) {i : Nat} {v : Value} (h : its[i]? = some v) : ∃ b, bs[i]? = some b ∧ v = .bool b := by
 have hl := r.length
 obtain ⟨hi, _⟩ := kQ.mp h
 rw [jX] at hl
 have hb : bs[i]? = some bs[i] := gE (by omega)
 obtain ⟨u, h1, h2⟩ := r.get (i := i) (x := .bl bs[i]) (by rw [zK, hb]; rfl)
 rw [h] at h1; cases h1
 exact ⟨_, hb, h2⟩
theorem Qio (bs : List Bool) : ((List.range bs.length).any fun i => (bs[i]?).getD false) = bs.any id := by
 rw [jYe]
 simp only [jZc, List.mem_range, id]
 constructor
 ·rintro ⟨i, hi, h⟩
  rw [gE hi] at h
  exact ⟨_, List.getElem_mem hi, h⟩
 ·rintro ⟨b, hb, h⟩
  obtain ⟨i, hi, e⟩ := List.getElem_of_mem hb
  exact ⟨i, hi, by rw [gE hi]; simpa [e] using h⟩
theorem Qlo {h h' : Heap} {o : Obj} (hk : ∀ b x, b ∉ [h.objs.size] → (h.push o).get? b = some x → h'.get? b = some x) : ∀ b x, h.get? b = some x → h'.get? b = some x := fun b x e =>
 hk b x (fun hm => by rw [jJ.mp hm] at e; exact jYc _ (yJ e)) (jW _ e)
theorem Qgc (hc : X.calm = true) : Jk X (.builtin "any") (fun xs H Q => ∃ (a : Addr) (bs : List Bool), xs = [.ref a] ∧ SqL X.K H a (bs.map V.bl) ∧ Q (.bl (bs.any id)) H) := by
 intro pins s σ H xs us Q I rv h
 obtain ⟨a, bs, rfl, hq, q⟩ := h
 obtain ⟨u, rfl, ru⟩ := rv.one
 cases ru
 obtain ⟨its, r, p, hz⟩ := I.list hq
 have hlt : a < s.heap.objs.size := by obtain ⟨_, e, _⟩ := p.isList; exact yJ e
 have hl := r.length
 rw [jX] at hl
 refine call_any_walk (wpAny_pyIter_list p.isList ?_)
 refine ⟨s.heap.objs.size, [s.heap.objs.size, a], [s.heap.objs.size], its.toArray.size, _, _, fun i => (bs[i]?).getD false, rfl, Walks.list (A := X.A.in1) (I.ok.hd hc) _ a (xQ hlt) its.toArray, ⟨⟨_, yK _ rfl, rfl, rfl⟩, p.isList.push _⟩, fun i v s' Q' E' hP hQ => ?_, fun h' tk hk => ?_⟩
 ·obtain ⟨b, e, rfl⟩ := Qln r (by simpa using hP)
  simp only [e, Option.getD_some] at hQ
  exact wpAny_truthy_bool hQ
 ·rw [jV, ← hl, Qio]
  exact ⟨.bl (bs.any id), H, I.kept (Qlo hk), rfl, q⟩
end
section
variable {X : Cx} {pins : List (Addr × Obj)} {σ : St} {H : Hp} {s : Shared}
theorem Qcp {α : Type} {xs ys : List α} (hl : xs.length = ys.length) (h : ∀ (i : Nat) x y, xs[i]? = some x → ys[i]? = some y → x = y) : xs = ys := by
 refine List.ext_getElem? fun i => ?_
 by_cases hi : i < xs.length
 ·rw [gE hi, gE (by omega : i < ys.length)]
  exact congrArg some (h i _ _ (gE hi) (gE (by omega)))
 ·rw [List.getElem?_eq_none (by omega), List.getElem?_eq_none (by omega)]
theorem Kt {n : Nat} {e : Nat → Bool} : (List.range n).all e = true ↔ ∀ i, i < n → e i = true := by simp [jJc]
open PySem.SeqAt Classical in
end
def Fn (K : Fg) (mg : Str → Option Value) (x : Str) (st : Stmt) : Prop := ∃ f fd, Fun K x x st f fd ∧ mg x = some (.ref f)
theorem Yv {K : Fg} {h : Heap} {mg : Str → Option Value} {x : Str} {st : Stmt} {f : Addr} {oc : Value} {od an : Option Addr} {osl : Array (Option Value)} {kV doc pm cdv ct : Value} (X : K.In h) (G : h.Ns mainGlobals mg)
  (a : PySem.W.nsIn K mainGlobals x = some (some (.ref f))) (l : K.lookup f = some ⟨oc, od, .func (PySem.W.fnOf x x (Xd st) (Xa st) (Qi st) .none kV doc pm an cdv ct), osl⟩) (c : PySem.W.codeIn K cdv x = true) (k : PySem.W.keepIn K (.ref f) = true) : Fn K mg x st :=
 ⟨f, _, Jm l c k, PySem.W.mg_of X G a⟩
structure Cal (P : Program) (w : World) (K : Fg) (mg : Str → Option Value) (base : Heap) (k : Nat) (x : Str) (ps : List Str) (sp : Sp) : Prop where
 ex : ∃ f fd, FnOk P w K mg base CX0 k f fd ps sp ∧ mg x = some (.ref f) ∧ PySem.W.keepIn K (.ref f) = true ∧ Binds K fd ps []
theorem Ye {P : Program} {w : World} {K : Fg} {mg : Str → Option Value} {base : Heap} {k : Nat} {x : Str} {st : Stmt} {N ps : List Str} {sp : Sp} (F : Fn K mg x st) (S : FnScope N ps (Qi st))
  (hb : ∀ (kV doc pm : Value) (an : Option Addr) (cdv ct : Value) (us : List Value), us.length = ps.length → bindArgs (PySem.W.fnOf x x (Xd st) (Xa st) (Qi st) .none kV doc pm an cdv ct) ⟨us, []⟩ = pure (ps.zip us)) (len : ∀ vs H Q E, sp vs H Q E → vs.length = ps.length)
  (hbody : ∀ (f : Addr) (cdv : Value) (A : Around) (outer : List Env) (s : Shared) (H : Hp) (vs : List V) (Q : VK) (E : XK), Room k (A.deeper (envOfC x (Qi st) s.heap.objs.size f cdv)) → sp vs H Q E →
   ∃ t, PSs (cxOf CX0 P w K mg base N x (Qi st) f cdv A outer s H E).nox (Xa st) t ∧ t { nx := fun _ H' => Q .non H', rt := Q } (start N vs) H) : Cal P w K mg base (k + 1) x ps sp := by
 obtain ⟨f, fd, F, m⟩ := F
 exact ⟨f, fd, F.ok S len (hbody f), m, F.kp, F.binds hb⟩
section
variable {X : Cx}
theorem Xx {k : Nat} {x : Str} {ps : List Str} {sp : Sp} {e : Expr} {es : List Expr} {t : TA} {p pos : Pos} (C : Cal X.prog X.w X.K X.mg X.base k x ps sp) (hr : Room k X.A) (ha : PA X (e :: es) t) (hg : autoParam (Gl X x) L2.aRfl._auto_1)
  (hdb : autoParam ((x == ("__debug__" : Str)) = false) L2.aDec._auto_1) (he : autoParam (starEach (e :: es) X.env = (false, eval e X.env) :: starEach es X.env) L2.aRfl._auto_1) (hpl : autoParam ((backTo pos (starEach es X.env)).any (·.1) = false) L2.aRfl._auto_1) :
  PE X (.Call (.Name x p) (e :: es) [] pos) (tCall sp [] E0 t) := by
 obtain ⟨f, fd, F, m, kp, b⟩ := C.ex
 exact Qlg F hr hg m kp b .nil Jb ha hdb he hpl
theorem Qlp {x : Str} {T : String} {pos : Pos} (hm : X.mg x = none) (hv : bootBuiltins x = some (.type T)) (hg : autoParam (Gl X x) L2.aRfl._auto_1) (hn : autoParam (x ≠ "__name__") L2.aDec._auto_1) (hd : autoParam ((x == ("__debug__" : Str)) = false) L2.aDec._auto_1) : PE X (.Name x pos) (tC (.ty T)) :=
 Qld hg hm hv (v := .ty T) rfl hn hd
end
def gPair (K : Fg) (i j : Nat) : TG := gTup K 2 (Qef (Kq i) (Qef (Kq j) gNil))
theorem Zt {X : Cx} {K : Fg} {i j : Nat} {x y : Str} {px py pos : Pos} {k : Nat} (hK : X.K = K) (hc : X.calm = true) (hN : X.N.Nodup) (hi : X.N[i]? = some x) (hj : X.N[j]? = some y) (hx : X.env.scope.names.lookup x = some .local) (hy : X.env.scope.names.lookup y = some .local) :
  PG X (.Tuple [.Name x px, .Name y py] k pos) (gPair K i j) := by
 subst hK
 exact Qaw hc (Yn (Qn hN hi (.inl hx) (.inr hx)) (Yn (Qn hN hj (.inl hy) (.inr hy)) Vf))
theorem Ko : bootBuiltins "len" = some (.builtin "len") := by decide +kernel
theorem bt_sum : bootBuiltins "sum" = some (.builtin "sum") := by decide +kernel
theorem bt_any : bootBuiltins "any" = some (.builtin "any") := by decide +kernel
theorem Zu : bootBuiltins "isinstance" = some (.builtin "isinstance") := by decide +kernel
theorem Qbk : bootBuiltins "min" = some (.builtin "min") := by decide +kernel
theorem Qkm : bootBuiltins "max" = some (.builtin "max") := by decide +kernel
theorem Qbl : bootBuiltins "int" = some (.type "int") := by decide +kernel
theorem Qlq : bootBuiltins "bool" = some (.type "bool") := by decide +kernel
theorem Xy : bootBuiltins "tuple" = some (.type "tuple") := by decide +kernel
theorem Qgd : bootBuiltins "list" = some (.type "list") := by decide +kernel
theorem Qlr : bootBuiltins "dict" = some (.type "dict") := by decide +kernel
theorem Qbm : bootBuiltins "enumerate" = some (.type "enumerate") := by decide +kernel
theorem Qc {H : Hp} {p : Addr} (h : H p = none) (o : HO) : Same H (upd H p o) := fun b u q => by rw [Qk (Qp q h)]; exact q
theorem Same.tup {K : Fg} {H H' : Hp} {a : Addr} {xs : List V} (e : Same H H') (h : SqT K H a xs) : SqT K H' a xs := by
 rcases h with (h | ⟨o, h⟩) | h
 ·exact .inl (.inl (e _ _ h))
 ·exact .inl (.inr ⟨o, e _ _ h⟩)
 ·exact .inr h
theorem Qs {K : Fg} {H : Hp} {a : Addr} {xs : List V} (h : H a = some (.tup xs)) : SqT K H a xs := .inl (.inl h)
theorem Qb {K : Fg} {H : Hp} {a : Addr} {xs : List V} (h : H a = some (.lst xs)) : SqL K H a xs := .inl (.inl h)
theorem Yo {J : It} {n : Nat} {τ0 : St} {g : TG} {tt : TT} {te : TE} {H : Hp} {Q : Addr → Hp → Prop} {D : Addr} (Pv : Nat → St → List V → Hp → Prop)
  (h0 : Pv 0 τ0 [] (upd H D (.lst []))) (hD : ∀ i τ ys H, i ≤ n → Pv i τ ys H → H D = some (.lst ys) ∧ ys.length < sizeLine) (go : ∀ i τ ys H, i < n → Pv i τ ys H → J.go i H) (stop : ∀ τ ys H, Pv n τ ys H → J.stop n H)
  (hs : ∀ i τ ys H x H', i < n → Pv i τ ys H → J.yld i H x H' → g x τ H' fun σ2 H2 => tt σ2 H2 fun ok H3 => if ok = true then te σ2 H3 fun v H4 => H4 D = some (.lst ys) ∧ Pv (i + 1) σ2 (ys ++ [v]) (upd H4 D (.lst (ys ++ [v]))) else Pv (i + 1) σ2 ys H3)
  (hd : ∀ τ ys H, Pv n τ ys H → Q D H) :
  LcW J D τ0 H g tt te Q := by
 refine ⟨fun i m τ ys H => m = n - i ∧ i ≤ n ∧ Pv i τ ys H, ⟨n, by simp, jQd _, h0⟩, ?_⟩
 rintro i m τ ys H ⟨rfl, hi, p⟩
 obtain ⟨z1, z2⟩ := hD i τ ys H hi p
 refine ⟨z1, ?_⟩
 by_cases hlt : i < n
 ·refine .inr ⟨go i τ ys H hlt p, z2, fun τ v H => Pv (i + 1) τ (ys ++ [v]) (upd H D (.lst (ys ++ [v]))), fun τ H => Pv (i + 1) τ ys H, fun τ v H q => ⟨n - (i + 1), by omega, rfl, hlt, q⟩, fun τ H q => ⟨n - (i + 1), by omega, rfl, hlt, q⟩, fun x H' y => hs i τ ys H x H' hlt p y⟩
 ·have e : i = n := by omega
  subst e
  exact .inl ⟨stop τ ys H p, hd τ ys H p⟩
section
variable {X : Cx}
theorem Xq {K : Fg} (hK : X.K = K) : IxR X (rIxL K) := by subst hK; exact Qm
theorem Jq {K : Fg} (hK : X.K = K) : IxR X (rIxT K) := by subst hK; exact Xn
theorem Wt {K : Fg} (hK : X.K = K) : Jk X (.builtin "len") (fun xs H Q => ∃ p ys, xs = [.ref p] ∧ (SqL K H p ys ∨ SqT K H p ys) ∧ Q (.int ys.length) H) := by subst hK; exact Yf
theorem Wu {K : Fg} (hK : X.K = K) : Jk X (.type "list") (fun xs H Q => ∃ p ys, xs = [.ref p] ∧ (SqL K H p ys ∨ SqT K H p ys) ∧ ∀ l, H l = none → Q (.ref l) (upd H l (.lst ys))) := by subst hK; exact Qbf
theorem Zc {K : Fg} (hK : X.K = K) : Jk X (.type "tuple") (fun xs H Q => ∃ p ys, xs = [.ref p] ∧ ((SqL K H p ys ∧ ∀ l, H l = none → Q (.ref l) (upd H l (.tup ys))) ∨ (SqT K H p ys ∧ Q (.ref p) H))) := by subst hK; exact Xb
end
end L2
namespace Nb
open PySem L2
structure Mg (mg : Str → Option Value) : Prop where
 len : mg "len" = none
 min : mg "min" = none
 max : mg "max" = none
 sum : mg "sum" = none
 all : mg "all" = none
 any : mg "any" = none
 abs : mg "abs" = none
 isinstance : mg "isinstance" = none
 sorted : mg "sorted" = none
 range_ : mg "range" = none
 zip_ : mg "zip" = none
 tuple_ : mg "tuple" = none
 list_ : mg "list" = none
 int_ : mg "int" = none
 bool_ : mg "bool" = none
 dict_ : mg "dict" = none
 enumerate_ : mg "enumerate" = none
 reversed_ : mg "reversed" = none
 ValueError_ : mg "ValueError" = none
 set_ : mg "set" = none
 str_ : mg "str" = none
theorem atNs {ns : List Int} {k : Int} (h0 : 0 ≤ k) (h : k < (((ns.map V.int).length : Nat) : Int)) : ∃ v : Int, atI (ns.map V.int) k = some (.int v) := by
 have hk : k.toNat < ns.length := by rw [jX] at h; omega
 have ek : k = ((k.toNat : Nat) : Int) := by omega
 have q : atI (ns.map V.int) ((k.toNat : Nat) : Int) = some (.int ns[k.toNat]) := Qcn (by rw [zK, gE hk] <;> rfl)
 rw [← ek] at q
 exact ⟨_, q⟩
def Qge : Sp := fun vs H Q _ => ∃ z : Int, vs = [.int z] ∧ Q (.bl true) H
theorem mulC (c y : Int) (h1 : -(2 ^ 64) < c) (h2 : c < 2 ^ 64) : CMul c y := .inl ⟨h1, h2⟩
theorem Xi {K : Fg} {H : Hp} {D a : Addr} {ys zs xs : List V} (hD : H D = some (.lst ys)) (h : SqT K H a xs) : SqT K (upd H D (.lst zs)) a xs := by
 rcases h with (h | ⟨o, h⟩) | h
 ·exact .inl (.inl (by rw [Qk (Yx h hD (by intro z; cases z))]; exact h))
 ·exact .inl (.inr ⟨o, by rw [Qk (Yx h hD (by intro z; cases z))]; exact h⟩)
 ·exact .inr h
def RowAt (K : Fg) (H : Hp) (t : Addr) (r : List Int × Int) : Prop := ∃ p, SqT K H t [.ref p, .int r.2] ∧ SqT K H p (r.1.map V.int)
theorem RowAt.same {K : Fg} {H H' : Hp} {t : Addr} {r : List Int × Int} (e : Same H H') (h : RowAt K H t r) : RowAt K H' t r := by obtain ⟨p, h1, h2⟩ := h; exact ⟨p, e.tup h1, e.tup h2⟩
def Zv (K : Fg) (H : Hp) : List V → List (List Int × Int) → Prop := Paired fun v r => ∃ t, v = .ref t ∧ RowAt K H t r
theorem at0 {x y : V} : atI [x, y] 0 = some x := by rfl
theorem at1 {x y : V} : atI [x, y] 1 = some y := by rfl
theorem Zz {α : Type} {l : List α} {i : Nat} {x : α} (h : l[i]? = some x) : l.take (i + 1) = l.take i ++ [x] := by rw [List.take_succ, h]; rfl
theorem Wv {ns : List Int} {i : Nat} {v : V} (h : (ns.map V.int)[i]? = some v) : ∃ n, ns[i]? = some n ∧ v = .int n := by
 rw [zK] at h
 cases e : ns[i]? with
 | none => rw [e] at h; cases h
 | some n => rw [e] at h; exact ⟨n, rfl, (Option.some.inj h).symm⟩
theorem Qgf {α : Type} {xs : List α} {k : Nat} {x : α} (h : xs[k]? = some x) : atI xs (k : Int) = some x := Qcn h
def Qip (K : Fg) : Sp := fun vs H Q _ => ∃ (a : Addr) (ns : List Int), vs = [.ref a] ∧ SqL K H a (ns.map V.int) ∧ ns.length ≤ 63 ∧ ∀ H', Q (.bl true) H'
end Nb
namespace L2
open PySem PySem.Spec PyProof.Rows
section
variable (P : Program) (w : World)
end
section
variable {P : Program} {w : World} {H H' : Hp} {h h' : Heap} {a : Addr} {o : HO}
end
section
variable {P : Program} {w : World} {H : Hp} {h h' : Heap} {x e : Addr} {o' : HO}
end
section
variable {fs fs' ex ex' : List Addr} {H H1 H2 : Hp} {h h1 h2 h' : Heap} {a x e : Addr} {o : HO}
end
section
variable {X : Cx} {pins : List (Addr × Obj)} {σ : List (Option V)} {H H' : Hp} {s : Shared} {h' : Heap}
end
section
variable {X : Cx}
variable {a b : Expr} {ta tb : TE} {pos : Pos}
variable {tA tB' : TT} {rest : List Expr}
end
section
variable {X : Cx} {pins : List (Addr × Obj)} {σ : St} {H : Hp} {s : Shared} {a : Addr} {xs ys : List V}
end
section
variable {X : Cx} {pins : List (Addr × Obj)} {σ : St} {H : Hp} {s : Shared} {E : Value → Shared → Prop}
end
section
variable {X : Cx} {st : Stmt} {rest : List Stmt} {t u : TS} {e : Expr} {te : TE} {pos : Pos}
end
section
variable {X : Cx} {pos : Pos}
end
section
variable {X : Cx} {pos : Pos}
end
section
variable {X : Cx} {tg : Expr}
end
section
variable {X : Cx} {a b c : Expr} {ta tb tc : TE} {pos : Pos}
end
section
variable {X : Cx} {a b c : Expr} {ta tb tc : TE} {pos : Pos}
end
section
variable {prog : Program} {w : World} {A : Around} {E : Value → Shared → Prop} {s : Shared} {K : Fg} {x dx C f : Addr} {mA : Str → Option Value} {name : Str} {v : Value}
end
section
variable {P : Program} {w : World} {H H' : Hp} {h h' : Heap} {a C dx : Addr} {fs fs' : List (Str × V)}
end
section
variable {X : Cx} {pins : List (Addr × Obj)} {σ : St} {H : Hp} {s : Shared} {a C dx : Addr} {fs : List (Str × V)} {f : Str} {v : V} {A : Around} {E : Value → Shared → Prop}
end
section
variable {X : Cx} {o e value : Expr} {f : Str} {pos pos' tpos : Pos} {ta tv : TE}
end
section
variable {X : Cx} {pins : List (Addr × Obj)} {σ : St} {H : Hp} {s : Shared} {A : Around} {E : Value → Shared → Prop} {Q : Value → Shared → Prop} {c : Value} {b : Bool}
end
section
variable {X : Cx} {e : Expr} {es : List Expr} {te : TE} {t : TA} {pos : Pos}
end
section
variable {X : Cx} {pins : List (Addr × Obj)} {σ : St} {H : Hp} {s s' : Shared}
end
section
variable {X : Cx} {CX : CXT} {k : Nat} {f C : Addr} {fd : FuncData} {ps : List Str} {sp : Sp} {dvs : List V} {ds : List Value} {E : XK} {x m : Str} {p pos apos : Pos} {e o : Expr} {es : List Expr} {ta : TE} {t : TA}
end
section
variable {X : Cx} {CX : CXT} {k : Nat} {f C : Addr} {fd : FuncData} {ps ks : List Str} {sp : Sp} {E : XK} {x m : Str} {p pos apos kpos : Pos} {e o : Expr} {es : List Expr} {kws : List Keyword} {te ta : TE} {t tk : TA} {nm : Option Str}
variable {g : List Value → List Value → List Value} {gV : List V → List V → List V}
end
section
variable {X : Cx} {x : Str} {p pos : Pos} {e : Expr} {es : List Expr} {t : TA} {id T : String} {r : List V → Hp → VK → Prop}
end
section
variable {κ : Type} [DecidableEq κ]
def valV (kvs : List (κ × V)) (k : κ) : Option V := (kvs.find? fun kv => decide (kv.1 = k)).map (·.2)
def putK (kvs : List (κ × V)) (k : κ) (v : V) : List (κ × V) :=
 if (kvs.any fun kv => decide (kv.1 = k)) = true then kvs.map (fun kv => if kv.1 = k then (kv.1, v) else kv) else kvs ++ [(k, v)]
theorem Yi {p : κ × V} {r : List (κ × V)} {k : κ} (e : p.1 = k) : valV (p :: r) k = some p.2 := by simp [valV, jXf, e]
theorem Yr {p : κ × V} {r : List (κ × V)} {k : κ} (e : ¬ p.1 = k) : valV (p :: r) k = valV r k := by simp [valV, jXf, e]
theorem Ku (k : κ) : ∀ kvs : List (κ × V), (kvs.any fun kv => decide (kv.1 = k)) = (valV kvs k).isSome
 | [] => rfl
 | p :: r => by
  rw [List.any_cons]
  by_cases e : p.1 = k
  ·simp only [Yi e, yQ e, Bool.true_or, Option.isSome_some]
  ·rw [Yr e, zJ e, Bool.false_or]; exact Ku k r
theorem Qdo (k j : κ) (y : V) : ∀ kvs : List (κ × V), valV (kvs.map fun kv => if kv.1 = k then (kv.1, y) else kv) j = (valV kvs j).map fun x => if j = k then y else x
 | [] => rfl
 | p :: r => by
  have ih := Qdo k j y r
  rw [xY]
  by_cases h : p.1 = k
  ·rw [if_pos h]
   by_cases e : p.1 = j
   ·rw [Yi (p := (p.1, y)) e, Yi e, jKa, if_pos (e.symm.trans h)]
   ·rw [Yr (p := (p.1, y)) e, Yr e, ih]
  ·rw [if_neg h]
   by_cases e : p.1 = j
   ·rw [Yi (p := p) e, Yi e, jKa, if_neg (fun z => h (e.trans z))]
   ·rw [Yr (p := p) e, Yr e, ih]
theorem Qbn (k j : κ) (y : V) : ∀ kvs : List (κ × V), valV kvs k = none → valV (kvs ++ [(k, y)]) j = if j = k then some y else valV kvs j
 | [], _ => by
  by_cases e : k = j
  ·rw [if_pos e.symm]; exact Yi (p := (k, y)) e
  ·rw [if_neg (fun z => e z.symm)]; exact Yr (p := (k, y)) e
 | p :: r, hn => by
  rw [List.cons_append]
  have hk : ¬ p.1 = k := fun z => by rw [Yi z] at hn; cases hn
  rw [Yr hk] at hn
  have ih := Qbn k j y r hn
  by_cases e : p.1 = j
  ·rw [Yi e, Yi e, if_neg (fun z => hk (e.trans z))]
  ·rw [Yr e, Yr e, ih]
theorem Qdp (kvs : List (κ × V)) (k j : κ) (y : V) : valV (putK kvs k y) j = if j = k then some y else valV kvs j := by
 unfold putK
 by_cases a : (kvs.any fun kv => decide (kv.1 = k)) = true
 ·rw [if_pos a, Qdo]
  rw [Ku] at a
  by_cases e : j = k
  ·obtain ⟨x, hx⟩ := jYd.mp a
   rw [if_pos e, e, hx, jKa, if_pos rfl]
  ·rw [if_neg e]
   cases valV kvs j with
   | none => rfl
   | some x => rw [jKa, if_neg e]
 ·rw [if_neg a]
  refine Qbn k j y kvs ?_
  rw [Ku] at a
  cases q : valV kvs k with
  | none => rfl
  | some x => rw [q] at a; exact (a rfl).elim
theorem Jr (kvs : List (κ × V)) (k : κ) (v : V) : (putK kvs k v).length ≤ kvs.length + 1 := by
 unfold putK
 split
 ·rw [jX]; omega
 ·rw [jY, xK, List.length_nil]; omega
theorem RelO.isSome_eq {o : Option V} {u : Option Value} (r : RelO o u) : o.isSome = u.isSome := by
 cases o with
 | none => cases u with
  | none => rfl
  | some _ => exact (show False from r).elim
 | some _ => cases u with
  | none => exact (show False from r).elim
  | some _ => rfl
theorem RelO.getD {o : Option V} {u : Option Value} {d : V} {d' : Value} (r : RelO o u) (rd : RelV d d') : RelV (o.getD d) (u.getD d') := by
 cases o with
 | none => cases u with
  | none => exact rd
  | some _ => exact (show False from r).elim
 | some _ => cases u with
  | none => exact (show False from r).elim
  | some _ => exact r
theorem KV.val {kvs : List (κ × V)} {vs : List (κ × Value)} (r : KV kvs vs) (k : κ) : RelO (valV kvs k) (valueAt vs k) := by
 unfold KV at r
 induction r with
 | nil => exact True.intro
 | @cons p q ps qs h t ih =>
  obtain ⟨h1, h2⟩ := h
  by_cases e : p.1 = k
  ·have e' : q.1 = k := h1.symm.trans e
   have b : valueAt (q :: qs) k = some q.2 := by simp [valueAt, jXf, e']
   rw [Yi e, b]; exact h2
  ·have e' : ¬ q.1 = k := fun z => e (h1.trans z)
   have b : valueAt (q :: qs) k = valueAt qs k := by simp [valueAt, jXf, e']
   rw [Yr e, b]; exact ih
theorem KV.any {kvs : List (κ × V)} {vs : List (κ × Value)} (r : KV kvs vs) (k : κ) : (kvs.any fun kv => decide (kv.1 = k)) = vs.any fun kv => decide (kv.1 = k) := by
 unfold KV at r
 induction r with
 | nil => rfl
 | cons h t ih => rw [List.any_cons, List.any_cons, ih, h.1]
theorem KV.repl {kvs : List (κ × V)} {vs : List (κ × Value)} (r : KV kvs vs) (k : κ) {y : V} {u : Value} (ry : RelV y u) :
  KV (kvs.map fun kv => if kv.1 = k then (kv.1, y) else kv) (vs.map fun kv => if kv.1 = k then (kv.1, u) else kv) := by
 unfold KV at r ⊢
 induction r with
 | nil => exact .nil
 | @cons p q ps qs h t ih =>
  rw [xY, xY]
  refine .cons ?_ ih
  obtain ⟨h1, h2⟩ := h
  by_cases e : p.1 = k
  ·rw [if_pos e, if_pos (h1.symm.trans e)]; exact ⟨h1, ry⟩
  ·rw [if_neg e, if_neg (fun z => e (h1.trans z))]; exact ⟨h1, h2⟩
theorem KV.put {kvs : List (κ × V)} {vs : List (κ × Value)} (r : KV kvs vs) (k : κ) {y : V} {u : Value} (ry : RelV y u) : KV (putK kvs k y) (stored vs k u) := by
 unfold putK stored
 rw [r.any k]
 by_cases e : (vs.any fun kv => decide (kv.1 = k)) = true
 ·rw [if_pos e, if_pos e]; exact r.repl k ry
 ·rw [if_neg e, if_neg e]; exact Paired.snoc r ⟨rfl, ry⟩
theorem KV.length {kvs : List (κ × V)} {vs : List (κ × Value)} (r : KV kvs vs) : kvs.length = vs.length := Paired.length r
end
theorem Qgg {P : Program} {w : World} {k : Key} {u : Value} (r : RelV (kV k) u) : (Xt P w).is k u = true := by
 cases k with
 | inl i => obtain ⟨t, e⟩ := (show ∃ t, u = Value.int i t from r); subst e; exact Qci P w i t
 | inr x => obtain ⟨t, e⟩ := (show ∃ t, u = Value.str x t from r); subst e; exact Qcj P w x t
theorem Qbo {P : Program} {w : World} : ∀ {ks : List Key} {us : List Value}, Vals (ks.map kV) us → ItemsAre (Xt P w) ks us
 | [], _, r => by rw [jZa] at r; cases r; exact .nil
 | k :: ks, _, r => by
  rw [xY] at r
  cases r with
  | cons h t => exact .cons (Qgg h) (Qbo t)
abbrev KT (H : Hp) : List (List Key × V) → List (List Key × Addr × Value) → Prop := Paired fun p q => p.1 = q.1 ∧ H q.2.1 = some (.tup (p.1.map kV)) ∧ RelV p.2 q.2.2
theorem KT.val {H : Hp} {kvs : List (List Key × V)} {xs : List (List Key × Addr × Value)} (r : KT H kvs xs) (k : List Key) : RelO (valV kvs k) ((atKey xs k).map (·.2)) := by
 induction r with
 | nil => exact True.intro
 | @cons p q ps qs h t ih =>
  obtain ⟨h1, _, h2⟩ := h
  by_cases e : p.1 = k
  ·have e' : q.1 = k := h1.symm.trans e
   have b : atKey (q :: qs) k = some q.2 := by simp [atKey, jXf, e']
   rw [Yi e, b]; exact h2
  ·have e' : ¬ q.1 = k := fun z => e (h1.trans z)
   have b : atKey (q :: qs) k = atKey qs k := by simp [atKey, jXf, e']
   rw [Yr e, b]; exact ih
theorem KT.repl {H : Hp} {kvs : List (List Key × V)} {xs : List (List Key × Addr × Value)} (r : KT H kvs xs) (k : List Key) {y : V} {u : Value} (ry : RelV y u) :
  KT H (kvs.map fun kv => if kv.1 = k then (kv.1, y) else kv) (xs.map (putAt k u)) := by
 induction r with
 | nil => exact .nil
 | @cons p q ps qs h t ih =>
  rw [xY, xY]
  refine .cons ?_ ih
  obtain ⟨h1, h2, h3⟩ := h
  unfold putAt
  by_cases e : p.1 = k
  ·rw [if_pos e, if_pos (h1.symm.trans e)]; exact ⟨h1, h2, ry⟩
  ·rw [if_neg e, if_neg (fun z => e (h1.trans z))]; exact ⟨h1, h2, h3⟩
theorem KT.put {H : Hp} {kvs : List (List Key × V)} {xs : List (List Key × Addr × Value)} (r : KT H kvs xs) (k : List Key) {b : Addr} {y : V} {u : Value} (hb : H b = some (.tup (k.map kV))) (ry : RelV y u) :
  KT H (putK kvs k y) (storedH xs k b u) := by
 have e : (kvs.any fun kv => decide (kv.1 = k)) = (atKey xs k).isSome := by
  rw [Ku, (r.val k).isSome_eq, Option.isSome_map]
 unfold putK storedH
 rw [e]
 by_cases q : (atKey xs k).isSome = true
 ·rw [if_pos q, if_pos q]; exact r.repl k ry
 ·rw [if_neg q, if_neg q]; exact Paired.snoc r ⟨rfl, hb, ry⟩
theorem KT.keeps {H H' : Hp} {kvs : List (List Key × V)} {xs : List (List Key × Addr × Value)} (r : KT H kvs xs) (ht : ∀ b ys, H b = some (.tup ys) → H' b = some (.tup ys)) : KT H' kvs xs :=
 Paired.mapP r fun _ _ z => ⟨z.1, ht _ _ z.2.1, z.2.2⟩
section
variable {P : Program} {w : World} {H : Hp} {h : Heap} {a : Addr}
theorem rd_of {u : HO} (ok : HOk P w H h) (e : Rd H a u) : ObjOk P w H h a u := e.ok ok
theorem Qeq {kvs : List (Key × V)} (ok : HOk P w H h) (e : Rd H a (.dK kvs)) : kvs.length ≤ sizeLine ∧ (a == sysModules) = false ∧ ∃ vs, KV kvs vs ∧ h.DictOf (Xt P w) a vs :=
 show ObjOk P w H h a (.dK kvs) from rd_of ok e
theorem Qls {kvs : List (Key × V)} (ok : HOk P w H h) (e : H a = some (.dK kvs)) : kvs.length ≤ sizeLine ∧ (a == sysModules) = false ∧ ∃ vs, KV kvs vs ∧ h.DictOf (Xt P w) a vs := Qeq ok (.inl e)
theorem Qbp {ks : List Key} (ok : HOk P w H h) (e : H a = some (.tup (ks.map kV))) : (tupleKind (Xt P w)).is h ks a := by
 obtain ⟨_, its, r, o, h1, h2, n, h3⟩ := (show ObjOk P w H h a (.tup (ks.map kV)) from ok a _ e)
 exact ⟨o, its.toArray, n, h1, h2, h3, by simpa using Qbo r⟩
theorem Qer {kvs : List (List Key × V)} (ok : HOk P w H h) (e : Rd H a (.dT kvs)) : kvs.length ≤ sizeLine ∧ (a == sysModules) = false ∧
  ∃ xs, KT H kvs xs ∧ h.DictOfH (tupleKind (Xt P w)) a xs := by
 obtain ⟨z, y, xs, r, o, es, ep, h1, h2, h3, h4, h5⟩ := (show ObjOk P w H h a (.dT kvs) from rd_of ok e)
 refine ⟨z, y, xs, r, o, es, ep, h1, h2, h3, h4, fun x hx => ?_, h5⟩
 have all : ∀ {l : List (List Key × V)} {m : List (List Key × Addr × Value)}, KT H l m → ∀ x ∈ m, (tupleKind (Xt P w)).is h x.1 x.2.1 := by
  intro l m q
  induction q with
  | nil => intro x hx; exact nomatch hx
  | @cons p q ps qs hq t ih =>
   intro x hx
   rcases zY.mp hx with e | hx
   ·subst e
    exact Qbp ok (by rw [← hq.1]; exact hq.2.1)
   ·exact ih x hx
 exact all r x hx
theorem dt_of {kvs : List (List Key × V)} (ok : HOk P w H h) (e : H a = some (.dT kvs)) : kvs.length ≤ sizeLine ∧ (a == sysModules) = false ∧
  ∃ xs, KT H kvs xs ∧ h.DictOfH (tupleKind (Xt P w)) a xs := Qer ok (.inl e)
end
def DGet (H : Hp) (a : Addr) (y : V) (r : Option V) : Prop :=
 (∃ kvs k, Rd H a (.dK kvs) ∧ y = kV k ∧ r = valV kvs k) ∨ ∃ kvs k b, Rd H a (.dT kvs) ∧ y = .ref b ∧ H b = some (.tup (k.map kV)) ∧ r = valV kvs k
theorem DGet.t {H : Hp} {a b : Addr} {kvs : List (List Key × V)} {k : List Key} (e : H a = some (.dT kvs)) (eb : H b = some (.tup (k.map kV))) : DGet H a (.ref b) (valV kvs k) := .inr ⟨kvs, k, b, .inl e, rfl, eb, rfl⟩
section
variable {X : Cx} {pins : List (Addr × Obj)} {σ : St} {H : Hp} {s : Shared} {a : Addr} {y v : V} {u r : Value} {o : Option V} {A : Around} {E : Value → Shared → Prop}
theorem Inv.big (I : Inv X pins σ H s) : sysModules < s.heap.objs.size := by
 have h : mainGlobals < s.heap.objs.size := (I.mod.glob.keeps I.bk).lt
 exact Nat.lt_trans (by decide) h
theorem Qgh {Q : Value → Shared → Prop} (hu : A.units + 1 < cLine) (I : Inv X pins σ H s) (g : DGet H a y (some v)) (ry : RelV y u) (h : ∀ w' s', Inv X pins σ H s' → RelV v w' → Q w' s') :
  wpAny (model X.prog X.w) A (getItem (.ref a) u) Q E s := by
 rcases g with ⟨kvs, k, e, ey, l⟩ | ⟨kvs, k, b, e, ey, eb, l⟩
 ·subst ey
  obtain ⟨z, hd, vs, rel, dd⟩ := Qeq I.hok e
  obtain ⟨w', hw, rw'⟩ := RelO.some_of (v := v) (o := valueAt vs k) (by rw [l]; exact rel.val k)
  exact wpAny_getItem_of (Qgg ry) dd.mapOf hw (h w' _ (I.tok _) rw')
 ·subst ey
  cases (show u = Value.ref b from ry)
  obtain ⟨z, hd, xs, rel, dd⟩ := Qer I.hok e
  obtain ⟨w', hw, rw'⟩ := RelO.some_of (v := v) (o := (atKey xs k).map (·.2)) (by rw [l]; exact rel.val k)
  obtain ⟨p, hp, hp2⟩ := jZb.mp hw
  refine wpAny_getItem_heap (tupleKind_room_in1 hu) (Qbp I.hok eb) dd hp ?_
  rw [hp2]
  exact h w' _ (I.tok _) rw'
theorem d_in {Q : Value → Shared → Prop} (hu : A.units + 1 < cLine) (I : Inv X pins σ H s) (g : DGet H a y o) (ry : RelV y u) (h : ∀ s', Inv X pins σ H s' → Q (.bool o.isSome) s') :
  wpAny (model X.prog X.w) A (compareOp .In u (.ref a)) Q E s := by
 rcases g with ⟨kvs, k, e, ey, l⟩ | ⟨kvs, k, b, e, ey, eb, l⟩
 ·subst ey
  obtain ⟨z, hd, vs, rel, dd⟩ := Qeq I.hok e
  refine wpAny_in_of (Qgg ry) hd dd.mapOf ?_
  rw [← (rel.val k).isSome_eq, ← l]
  exact h _ (I.tok _)
 ·subst ey
  cases (show u = Value.ref b from ry)
  obtain ⟨z, hd, xs, rel, dd⟩ := Qer I.hok e
  refine wpAny_in_heap (tupleKind_room_in1 hu) (Qbp I.hok eb) hd dd ?_
  have q := (rel.val k).isSome_eq
  rw [Option.isSome_map] at q
  rw [← q, ← l]
  exact h _ (I.tok _)
theorem Ww {h' : Heap} {t' : Nat} {ob : HO} (I : Inv X pins σ H s) (mu : Mut (H a)) (hs : Heap.SameBut a s.heap h') (he : ∃ q, h'.get? a = some q) (new : ObjOk X.prog X.w (upd H a ob) h' a ob) :
  Inv X pins σ (upd H a ob) { s with heap := h', toks := t' } :=
 I.write (x := a) (e := a) mu (.inl rfl) (fun b q hb z => (hs.2 b hb).trans z) he new
theorem dk_new {P : Program} {w : World} {H' : Hp} {h' : Heap} {kvs : List (Key × V)} {vs : List (Key × Value)} (z : kvs.length ≤ sizeLine) (hd : (a == sysModules) = false) (rel : KV kvs vs) (dd : h'.DictOf (Xt P w) a vs) :
  ObjOk P w H' h' a (.dK kvs) := ⟨z, hd, vs, rel, dd⟩
end
section
variable {X : Cx} {pins : List (Addr × Obj)} {σ : St} {H : Hp} {s : Shared} {a : Addr} {kvs : List (Key × V)} {k : Key} {u : Value} {A : Around} {E : Value → Shared → Prop}
end
def NoSl (i : Expr) : Prop := ∀ ov iv, subscripted i false ov iv = operate [ov, iv] (getItem ov iv)
theorem Qlt {prog : Program} {w : World} {A : Around} {E : Value → Shared → Prop} {s : Shared} {env : Env} {value slice : Expr} {pos : Pos} {T id : String} {Q : Value → Shared → Prop}
  (hl : typeLookup (.type T) "__getitem__" = pure (some (.builtin id))) (hs : NoSl slice)
  (h : wpAny (model prog w) A (eval value env) (fun o s₁ => wpAny (model prog w) A (eval slice env) (fun i s₂ => s₂.TypeIs o T ∧ wpAny (model prog w) A (getItem o i) Q E s₂) E s₁) E s) :
  wpAny (model prog w) A (eval (.Subscript value slice pos) env) Q E s := by
 refine Subscript_ (wpAny_mono h (fun o s₁ h₁ => wpAny_mono h₁ (fun i s₂ h₂ => ?_) fun _ _ x => x) fun _ _ x => x)
 obtain ⟨hT, h₂⟩ := h₂
 unfold subscriptTail
 refine jQ ?_
 rw [getitemInPython_of_ne hT.not_modules]
 refine jQ (wpAny_specialOf hT hl ?_)
 have fin : wpAny (model prog w) A (subscripted slice false o i) (fun r s₃ => wpAny (model prog w) A (letTemporaryGo value o r >>= fun _ => pure r) Q E s₃) E s₂ := by
  rw [hs o i]
  exact wpAny_operating (wpAny_mono h₂ (fun r s₃ h₃ => jQ (wpAny_letTemporaryGo (jK h₃))) fun _ _ x => x)
 first
  | exact jK (jQ fin)
  | exact jQ (jK (jQ fin))
  | exact jQ fin
theorem Qcq {X : Cx} {pins : List (Addr × Obj)} {σ : St} {H : Hp} {s : Shared} {a : Addr} {y : V} {o : Option V} (I : Inv X pins σ H s) (g : DGet H a y o) : s.TypeIs (.ref a) "dict" := by
 rcases g with ⟨kvs, k, e, _, _⟩ | ⟨kvs, k, b, e, _, _, _⟩
 ·obtain ⟨_, _, vs, _, dd⟩ := Qeq I.hok e
  exact dd.typeIs
 ·obtain ⟨_, _, xs, _, dd⟩ := Qer I.hok e
  exact dd.typeIs
def tDGet (td ty : TE) : TE := fun σ H Q => td σ H fun x H1 => ty σ H1 fun y H2 => ∃ a v, x = .ref a ∧ DGet H2 a y (some v) ∧ Q v H2
def tDIn (ty td : TE) : TE := fun σ H Q => ty σ H fun y H1 => td σ H1 fun x H2 => ∃ a o, x = .ref a ∧ DGet H2 a y o ∧ Q (.bl o.isSome) H2
section
variable {X : Cx} {o i e value : Expr} {pos pos' tpos : Pos} {td ty tv : TE}
theorem Ka (hu : X.A.units + 1 < cLine) (ho : PE X o td) (hi : PE X i ty) (hs : NoSl i) : PE X (.Subscript o i pos) (tDGet td ty) := by
 intro pins s σ H Q I h
 refine Qlt PySem.F.slot_dict_getitem.lookup hs (thn (ho pins s σ H _ I h) fun u s1 ⟨x, H1, I1, rx, q1⟩ => thn (hi pins s1 σ H1 _ I1 q1) fun iv s2 hqP => ?_)
 obtain ⟨y, H2, I2, ry, a, v, ex, g, q2⟩ := hqP
 subst ex
 obtain rfl : u = Value.ref a := rx
 exact ⟨Qcq I2 g, Qgh hu I2 g ry fun w' s3 I3 rw' => ⟨v, H2, I3, rw', q2⟩⟩
theorem pc_din (hu : X.A.units + 1 < cLine) (hi : PE X i ty) (ho : PE X o td) : PC X .In i o (tDIn ty td) := by
 intro pins s σ H Q I h
 refine thn (hi pins s σ H _ I h) fun iv s1 ⟨y, H1, I1, ry, q1⟩ => thn (ho pins s1 σ H1 _ I1 q1) fun u s2 hqP => ?_
 obtain ⟨x, H2, I2, rx, a, ov, ex, g, q2⟩ := hqP
 subst ex
 obtain rfl : u = Value.ref a := rx
 exact d_in hu I2 g ry fun s3 I3 => ⟨.bl ov.isSome, H2, I3, rfl, q2⟩
end
theorem Qiq {P : Program} {w : World} {H : Hp} (h : Heap) (hb : sysModules < h.objs.size) : ObjOk P w H (h.push { cls := .type "dict", data := .dict #[] }) h.objs.size (.dK []) :=
 ⟨jQd _, beq_eq_false_iff_ne.mpr (Ne.symm (xQ hb)), [], .nil, Heap.DictOf.new h⟩
theorem Qir {P : Program} {w : World} {H : Hp} (h : Heap) (hb : sysModules < h.objs.size) : ObjOk P w H (h.push { cls := .type "dict", data := .dict #[] }) h.objs.size (.dT []) :=
 ⟨jQd _, beq_eq_false_iff_ne.mpr (Ne.symm (xQ hb)), [], .nil, _, #[], 0, yK _ rfl, ⟨rfl, rfl, rfl⟩, rfl, rfl, List.nodup_nil⟩
section
variable {X : Cx} {pos : Pos}
end
def Qgi : List (TE × TE) → St → Hp → (List (V × V) → Hp → Prop) → Prop
 | [], _, H, Q => Q [] H
 | (tk, tv) :: r, σ, H, Q => tk σ H fun x H1 => tv σ H1 fun y H2 => Qgi r σ H2 fun ps H3 => Q ((x, y) :: ps) H3
abbrev VV : List (V × V) → List (Value × Value) → Prop := Paired fun p q => RelV p.1 q.1 ∧ RelV p.2 q.2
def PPs (X : Cx) (pos : Pos) (keys : List (Option Expr)) (values : List Expr) (trs : List (TE × TE)) : Prop :=
 ∀ (pins : List (Addr × Obj)) (s : Shared) (σ : St) (H : Hp) (Q : List (V × V) → Hp → Prop), Inv X pins σ H s → Qgi trs σ H Q →
  wpAny (model X.prog X.w) X.A (evalPairs (pairTrees keys values X.env pos)) (fun vs s' => ∃ ps H', Inv X pins σ H' s' ∧ VV ps vs ∧ Q ps H') X.xe s
theorem Wx {X : Cx} {pos : Pos} : PPs X pos [] [] [] := fun pins s σ H Q I h => pairTrees_nil_walk ⟨[], H, I, .nil, h⟩
theorem Kv {X : Cx} {pos : Pos} {k v : Expr} {ks : List (Option Expr)} {vs : List Expr} {tk tv : TE} {trs : List (TE × TE)} (hk : PE X k tk) (hv : PE X v tv) (hr : PPs X pos ks vs trs) :
  PPs X pos (some k :: ks) (v :: vs) ((tk, tv) :: trs) := fun pins s σ H Q I h =>
 pairTrees_cons_walk (thn (hk pins s σ H _ I h) fun u s1 ⟨x, H1, I1, rx, q1⟩ => thn (hv pins s1 σ H1 _ I1 q1) fun w2 s2 ⟨y, H2, I2, ry, q2⟩ =>
  thn (hr pins s2 σ H2 _ I2 q2) fun ws s3 ⟨ps, H3, I3, rel, q3⟩ => ⟨(x, y) :: ps, H3, I3, .cons ⟨rx, ry⟩ rel, q3⟩)
def Jd (kvs more : List (Key × V)) : List (Key × V) := more.foldl (fun acc kv => putK acc kv.1 kv.2) kvs
theorem KV.merge : ∀ {more : List (Key × V)} {rs : List (Key × Value)} {kvs : List (Key × V)} {vs : List (Key × Value)}, KV more rs → KV kvs vs → KV (Jd kvs more) (merged vs rs) := by
 intro more rs kvs vs r
 unfold KV at r
 induction r generalizing kvs vs with
 | nil => intro q; exact q
 | @cons p q ps qs h t ih =>
  intro r0
  have e : KV (putK kvs p.1 p.2) (stored vs q.1 q.2) := by
   have := r0.put p.1 h.2
   rw [← h.1]; exact this
  exact ih e
theorem Ju : ∀ (more kvs : List (Key × V)), (Jd kvs more).length ≤ kvs.length + more.length
 | [], kvs => by show kvs.length ≤ kvs.length + 0; omega
 | p :: r, kvs => by
  have h1 := Ju r (putK kvs p.1 p.2)
  have h2 := Jr kvs p.1 p.2
  show (Jd (putK kvs p.1 p.2) r).length ≤ _
  rw [xK]; omega
theorem Wl {P : Program} {w : World} : ∀ {kvs : List (Key × V)} {ws : List (Value × Value)}, VV (kvs.map fun kv => (kV kv.1, kv.2)) ws → ∃ rs, Carries (Xt P w) ws rs ∧ KV kvs rs
 | [], _, r => by rw [jZa] at r; cases r; exact ⟨[], True.intro, .nil⟩
 | p :: kvs, _, r => by
  rw [xY] at r
  cases r with
  | @cons a b as bs h t =>
   obtain ⟨rs, c, q⟩ := Wl (P := P) (w := w) t
   obtain ⟨b1, b2⟩ := b
   exact ⟨(p.1, b2) :: rs, ⟨Qgg h.1, rfl, c⟩, .cons ⟨rfl, h.2⟩ q⟩
def tDisp (trs : List (TE × TE)) : TE := fun σ H Q => ∀ p, H p = none → Qgi trs σ (upd H p (.dK [])) fun ps H2 => H2 p = some (.dK []) ∧ ∃ kvs : List (Key × V), ps = kvs.map (fun kv => (kV kv.1, kv.2)) ∧ kvs.length ≤ 15 ∧ Q (.ref p) (upd H2 p (.dK (Jd [] kvs)))
theorem Wy {X : Cx} {pos : Pos} {keys : List (Option Expr)} {values : List Expr} {trs : List (TE × TE)} (h : PPs X pos keys values trs) (hall : keys.all (·.isSome) = true) (hl : keys.length = values.length) (h0 : keys ≠ [])
  (h15 : keys.length ≤ 15) : PE X (.Dict keys values pos) (tDisp trs) := by
 intro pins s σ H Q I q
 have hn := I.hok.fresh (jZ s.heap.objs.size)
 have I1 := I.laid (a := s.heap.objs.size) (o := .dK []) (h' := s.heap.push { cls := .type "dict", data := .dict #[] }) (t' := s.toks) (fun _ _ q => jW _ q) (jZ _) (Qiq s.heap I.big)
 refine wpAny_Dict_walk (knd := Xt X.prog X.w) hall hl h0 h15 (thn (h pins _ σ _ _ I1 (q _ hn)) fun ws s2 hqP => ?_)
 obtain ⟨ps, H2, I2, rel, e, kvs, ep, lk, q2⟩ := hqP
 subst ep
 obtain ⟨rs, c, rk⟩ := Wl (P := X.prog) (w := X.w) rel
 obtain ⟨z, hd, vs0, r0, dd⟩ := Qls I2.hok e
 cases r0
 refine ⟨rs, c, dd, fun h' dd' hs => ⟨.ref s.heap.objs.size, _, ?_, rfl, q2⟩⟩
 have hz : (Jd [] kvs).length ≤ sizeLine := by
  have h1 := Ju kvs []
  rw [List.length_nil] at h1
  rw [sizeLine_eq]; omega
 have he : ∃ q, h'.get? s.heap.objs.size = some q := let ⟨q, _, _, hq, _⟩ := dd'; ⟨q, hq⟩
 exact Ww I2 (by rw [e]; exact True.intro) hs he (dk_new hz hd (rk.merge .nil) dd')
structure M2 (X : Cx) (o : Expr) (m : Str) (apos : Pos) (e f : Expr) (cpos : Pos) : Prop where
 base : attributeBase o m X.env (eval o X.env) = eval o X.env
 few : ((backTo cpos (starEach [e, f] X.env)).all (fun x => !x.1) && (backToKw cpos (keywordEach [] X.env)).all (fun x => x.1.isSome)
  && decide (([e, f] : List Expr).length + ([] : List Keyword).length + (if ([] : List Keyword).isEmpty then 0 else 1) < 30)) = true
 line : (apos.endLine == cpos.line) = true
 trees : backTo cpos (starEach [e, f] X.env) = [(false, eval e X.env), (false, eval f X.env)]
def IsD (H : Hp) (a : Addr) : Prop := (∃ kvs, Rd H a (.dK kvs)) ∨ ∃ kvs, Rd H a (.dT kvs)
theorem isD_at {X : Cx} {pins : List (Addr × Obj)} {σ : St} {H : Hp} {s : Shared} {a : Addr} (I : Inv X pins σ H s) (d : IsD H a) :
  s.TypeIs (.ref a) "dict" ∧ (∀ b, Value.ref a = .ref b → ∃ ob, s.heap.get? b = some ob ∧ ob.dict = none) ∧ (a == sysModules) = false := by
 rcases d with ⟨kvs, e⟩ | ⟨kvs, e⟩
 ·obtain ⟨_, hd, vs, _, dd⟩ := Qeq I.hok e
  refine ⟨dd.typeIs, fun b q => ?_, hd⟩
  cases q
  obtain ⟨ob, _, _, h1, h2, _⟩ := dd
  exact ⟨ob, h1, h2.2.1⟩
 ·obtain ⟨_, hd, xs, _, dd⟩ := Qer I.hok e
  refine ⟨dd.typeIs, fun b q => ?_, hd⟩
  cases q
  obtain ⟨ob, _, _, h1, h2, _⟩ := dd
  exact ⟨ob, h1, h2.2.1⟩
section
variable {X : Cx} {pins : List (Addr × Obj)} {σ : St} {H : Hp} {s : Shared} {a : Addr} {y d : V} {u r : Value} {o : Option V} {A : Around} {E : Value → Shared → Prop}
theorem d_get2 {Q : Value → Shared → Prop} (hu : A.units + 1 < cLine) (I : Inv X pins σ H s) (g : DGet H a y o) (ry : RelV y u) (rd : RelV d r) (h : ∀ w' s', Inv X pins σ H s' → RelV (o.getD d) w' → Q w' s') :
  wpAny (model X.prog X.w) A (call (.builtin "dict.get") [.ref a, u, r]) Q E s := by
 rcases g with ⟨kvs, k, e, ey, l⟩ | ⟨kvs, k, b, e, ey, eb, l⟩
 ·subst ey
  obtain ⟨z, hd, vs, rel, dd⟩ := Qeq I.hok e
  refine call_meetsIn PySem.F.slot_dict_get dd.typeIs PySem.F.entry_dict_get (PySem.F.args_dict_get_3 _ _ _) (meets_dict_get_default (Xt X.prog X.w) a (Qgg ry) hd r) ⟨_, dd.mapOf, h _ _ (I.tok _) ?_⟩
  rw [l]
  exact (rel.val k).getD rd
 ·subst ey
  cases (show u = Value.ref b from ry)
  obtain ⟨z, hd, xs, rel, dd⟩ := Qer I.hok e
  refine call_meetsIn PySem.F.slot_dict_get dd.typeIs PySem.F.entry_dict_get (PySem.F.args_dict_get_3 _ _ _) (meetsH_dict_get_default (tupleKind (Xt X.prog X.w)) a b hd r) ⟨tupleKind_room_in1 hu, k, xs, Qbp I.hok eb, dd, h _ _ (I.tok _) ?_⟩
  rw [l]
  exact (rel.val k).getD rd
end
def tDGet2 (td ty tx : TE) : TE := fun σ H Q => td σ H fun x H1 => ∃ a, x = .ref a ∧ IsD H1 a ∧ ty σ H1 fun y H2 => tx σ H2 fun z H3 => ∃ o, DGet H3 a y o ∧ Q (o.getD z) H3
section
variable {X : Cx} {o e f : Expr} {apos cpos : Pos} {td ty tx : TE}
theorem Qdq (hu : X.A.units + 1 < cLine) (ho : PE X o td) (he : PE X e ty) (hf : PE X f tx) (m : M2 X o "get" apos e f cpos) : PE X (.Call (.Attribute o "get" apos) [e, f] [] cpos) (tDGet2 td ty tx) := by
 intro pins s σ H Q I h
 refine wpAny_Call_method m.base m.few m.line PySem.F.plainAttrs_dict PySem.F.slot_dict_get PySem.F.type_dict_get (thn (ho pins s σ H _ I h) fun u s1 hqP => ?_)
 obtain ⟨x, H1, I1, rx, a, ex, d, q1⟩ := hqP
 subst ex
 obtain rfl : u = Value.ref a := rx
 obtain ⟨t1, t2, _⟩ := isD_at I1 d
 refine ⟨t1, t2, ?_⟩
 rw [m.trees]
 refine Calls.callWith_builtin rfl (Calls.evalArgs_plain (Calls.spliced_cons (thn (he pins s1 σ H1 _ I1 q1) fun iv s2 ⟨y, H2, I2, ry, q2⟩ =>
  Calls.spliced_cons (thn (hf pins s2 σ H2 _ I2 q2) fun fv s3 ⟨z, H3, I3, rz, ov, g, q3⟩ => Calls.spliced_nil ?_))))
 exact d_get2 hu I3 g ry rz fun w' s4 I4 rw' => ⟨_, H3, I4, rw', q3⟩
end
section
variable {X : Cx} {pins : List (Addr × Obj)} {σ : St} {H : Hp} {s : Shared} {a : Addr} {kvs : List (Key × V)} {A : Around} {E : Value → Shared → Prop}
end
section
variable {X : Cx} {pins : List (Addr × Obj)} {σ : St} {H : Hp} {s : Shared} {a : Addr} {y : V} {u : Value} {A : Around} {E : Value → Shared → Prop}
end
end L2
namespace Att
open PySem PySem.W PySem.Calls PyProof.Rows
section
variable {prog : Program} {w : World} {A : Around} {E : Value → Shared → Prop} {s : Shared} {K : Frag}
end
end Att
namespace L2
open PySem PySem.Spec PyProof.Rows
section
variable {P : Program} {w : World} {K : Fg} {mg : Str → Option Value} {base : Heap}
end
section
variable {X : Cx}
end
section
variable {κ : Type} [DecidableEq κ]
end
theorem Qbq : typeLookup (.type "list") "keys" = pure none := by rw [typeLookup_type, builtinLookup_eq_fast]; kernel_rfl
section
variable {prog : Program} {w : World} {A : Around} {E : Value → Shared → Prop}
theorem Wz {s : Shared} {a : Addr} {xs : Array Value} {k : Nat} {sl : Array (Option Value)} {Q : Option Value → Shared → Prop} (hx : s.heap.get? a = some { cls := .type "list", dict := none, data := .seq xs k, slots := sl }) (hA : A.handled = none)
  (h : ∀ h' tk, (∀ b o, s.heap.get? b = some o → h'.get? b = some o) → Q none { s with heap := h', toks := tk }) : wpAny (model prog w) A (getAttr? (.ref a) "keys") Q E s := by
 obtain ⟨hp, g, d, tk, os⟩ := s
 have hT : ∀ tk', (⟨hp, g, d, tk', os⟩ : Shared).TypeIs (.ref a) "list" := fun _ => ⟨_, hx, rfl⟩
 have f1 := sub_AttributeError
 have f3 := F.slot_list_getattribute.lookup
 have f4 := F.slot_list_getattribute.bind (.ref a)
 have f5 := am_list_getattr_none
 have hname : (["__module__", "__name__", "__qualname__", "__doc__", "__annotations__"] : List Str).contains "keys" = false := by decide +kernel
 unfold getAttr? getAttrBy? getAttrBy
 repeat (any_goals (first | assumption | exact hT _ | ((with_reducible show wpAny _ _ (call (Value.builtin "list.__getattribute__") _ _) _ _ _); refine call_meets F.slot_list_getattribute (hT _) am_entry_list_getattribute (F.args_list_getattribute_2 _ _) (meets_getattribute_miss_list a xs k sl "keys" _ Qbq hname (by decide +kernel)) ⟨hx, hA, fun h' tk' e hx' => ?_⟩) | wp_step))
 have hxo := hx'.of
 obtain ⟨⟨cl, dc, da, sl2⟩, vs, he, hc, _, _⟩ := hxo.there
 simp only at hc
 subst hc
 have hE : ∀ tk2, (⟨h', g, d, tk2, os⟩ : Shared).TypeIs (.ref e) "AttributeError" := fun _ => ⟨_, he, rfl⟩
 show wpAny _ _ (getattributeRaised _ _ _ _ _ _ _) _ _ _
 unfold getattributeRaised
 repeat (any_goals (first | assumption | exact hE _ | wp_step))
 all_goals exact h _ _ hxo.keeps
end
def Qbr : entryFor table "dict.update.loop" = some Builtin.«dict.update.loop» := entryFor_of_tree (by kernel_rfl)
theorem Jv : plainId "dict.update.loop" = true := by decide +kernel
section
variable {X : Cx}
end
section
variable {P : Program} {w : World} {A : Around} {E : Value → Shared → Prop} {s : Shared} {e it l : Addr} {st : Nat → Heap → Prop} {src : List Value → Heap → Prop} {i : Nat} {xs : List Value} {old : Value}
theorem Qaa {x : Value} {Q : Option Value → Shared → Prop} (dr : Drw P w it l st src) (hE : IsEnum s.heap e it i old) (hI : st i s.heap) (hl : src xs s.heap) (hx : xs[i]? = some x) (hne : e ≠ it)
  (hQ : ∀ h', IsEnumOut h' e it ((i : Int) + 1) x s.heap.objs.size → st (i + 1) h' → h'.get? s.heap.objs.size = some { cls := .type "tuple", data := .seq #[.int i s.toks, x] } →
   (∀ b o, b ≠ e → b ≠ it → s.heap.get? b = some o → h'.get? b = some o) → Q (some (.ref s.heap.objs.size)) { s with heap := h', toks := s.toks + 1 }) : wpAny (model P w) A (pyNext (.ref e)) Q E s := by
 have hTy : s.TypeIs (.ref e) "enumerate" := ⟨_, hE, rfl⟩
 unfold pyNext
 refine jQ (wpAny_attempt (wpAny_callSpecial?_slot (name := Str.ofString "__next__") hTy F.slot_enumerate_next (wpAny_call_entry F.slot_enumerate_next hTy F.entry_enumerate_next ?_ (F.args_enumerate_next_1 _))))
 obtain ⟨hp, g, d, tk, os⟩ := s
 show wpAny _ _ (field (.ref e) 2 >>= _) _ _ _
 refine jQ (wpAny_field hE rfl (x := .ref it) rfl ?_)
 refine jQ (dr.item _ _ ⟨hp, g, d, tk, os⟩ i xs x _ hI hl hx fun g1 hI1 e1 => ?_)
 replace e1 : Heap.SameBut it hp g1 := e1
 have hE1 : IsEnum g1 e it i old := (e1.2 e hne).trans hE
 show wpAny _ _ (field (.ref e) 3 >>= _) _ _ ⟨g1, g, d, tk, os⟩
 refine jQ (wpAny_field hE1 rfl (x := rawInt i) rfl ?_)
 show wpAny _ _ (field (.ref e) 4 >>= _) _ _ ⟨g1, g, d, tk, os⟩
 refine jQ (wpAny_field hE1 rfl (x := .none) rfl ?_)
 show wpAny _ _ (mkInt i >>= _) _ _ ⟨g1, g, d, tk, os⟩
 refine jQ (wpAny_mkInt ?_)
 show wpAny _ _ (setField (.ref e) 3 (rawInt ((i : Int) + 1)) >>= _) _ _ ⟨g1, g, d, tk + 1, os⟩
 refine jQ (wpAny_setField_rec hE1 (by simp) fun g2 hE2 e2 => ?_)
 replace e2 : Heap.SameBut e g1 g2 := e2
 replace hE2 : IsEnum g2 e it ((i : Int) + 1) old := hE2
 show wpAny _ _ (setField (.ref e) 4 .none >>= _) _ _ ⟨g2, g, d, tk + 1, os⟩
 refine jQ (wpAny_setField_rec hE2 (by simp) fun g3 hE3 e3 => ?_)
 replace e3 : Heap.SameBut e g2 g3 := e3
 replace hE3 : IsEnum g3 e it ((i : Int) + 1) old := hE3
 show wpAny _ _ (newTuple [.int i tk, x] >>= _) _ _ ⟨g3, g, d, tk + 1, os⟩
 refine jQ (wpAny_newTuple ?_)
 have hE4 : IsEnum (g3.push { cls := .type "tuple", data := .seq #[.int i tk, x] }) e it ((i : Int) + 1) old := jW _ hE3
 generalize hg4 : g3.push { cls := .type "tuple", data := .seq #[.int i tk, x] } = g4 at hE4
 have hsz : g3.objs.size = hp.objs.size := by rw [e3.1, e2.1, e1.1]
 have hel : e < hp.objs.size := yJ hE
 have hT4 : g4.get? hp.objs.size = some { cls := .type "tuple", data := .seq #[.int i tk, x] } := by rw [← hg4, ← hsz]; exact yK _ rfl
 have hk4 : ∀ b o, b ≠ e → b ≠ it → hp.get? b = some o → g4.get? b = some o := fun b o hbe hbi hb => by
  rw [← hg4]; exact jW _ (e3.extBut b o hbe (e2.extBut b o hbe (e1.extBut b o hbi hb)))
 have hI4 : st (i + 1) g4 := dr.keep _ _ _ hI1 fun q z => by rw [← hg4]; exact jW _ (e3.extBut _ _ hne.symm (e2.extBut _ _ hne.symm z))
 show wpAny _ _ (Builtin.SmallTypes.ownedTupleIsFree (.ref e) >>= _) _ _ ⟨g4, g, d, tk + 1, os⟩
 rw [hsz]
 clear hg4 hE3 e3 hE2 e2 hE1 e1 hI1 hsz
 refine jQ ?_
 unfold Builtin.SmallTypes.ownedTupleIsFree
 refine jQ (wpAny_field hE4 rfl (x := .none) rfl (jK ?_))
 simp only [if_true]
 refine jQ (wpAny_rule (jQ (wpAny_field hE4 rfl (x := old) rfl (jQ (wpAny_setField_rec hE4 (by simp) fun g5 hE5 e5 => ?_)))))
 replace e5 : Heap.SameBut e g4 g5 := e5
 replace hE5 : IsEnum g5 e it ((i : Int) + 1) x := hE5
 show wpAny _ _ (Builtin.SmallTypes.ownedTupleHandOut (.ref e) (.ref hp.objs.size) >>= _) _ _ ⟨g5, g, d, tk + 1, os⟩
 refine jQ ?_
 unfold Builtin.SmallTypes.ownedTupleHandOut
 refine jQ (wpAny_setField_rec hE5 (by simp) fun g6 hE6 e6 => ?_)
 replace e6 : Heap.SameBut e g5 g6 := e6
 replace hE6 : IsEnumOut g6 e it ((i : Int) + 1) x hp.objs.size := hE6
 refine wpAny_setField_rec hE6 (by simp) fun g7 hE7 e7 => ?_
 replace e7 : Heap.SameBut e g6 g7 := e7
 replace hE7 : IsEnumOut g7 e it ((i : Int) + 1) x hp.objs.size := hE7
 have up : ∀ b o, b ≠ e → g4.get? b = some o → g7.get? b = some o := fun b o hb z => e7.extBut b o hb (e6.extBut b o hb (e5.extBut b o hb z))
 refine jQ (wpAny_letGo (jK ⟨_, rfl, jK (hQ g7 hE7 ?_ ?_ ?_)⟩))
 ·exact dr.keep _ _ _ hI4 fun q z => up _ _ hne.symm z
 ·exact up _ _ (Nat.ne_of_gt hel) hT4
 ·exact fun b o hbe hbi hb => up b o hbe (hk4 b o hbe hbi hb)
theorem Qbs {Q : Option Value → Shared → Prop} (hh : A.handled = none) (dr : Drw P w it l st src) (hE : IsEnum s.heap e it i old) (hI : st i s.heap) (hl : src xs s.heap) (hx : xs[i]? = none)
  (hQ : ∀ h', Heap.ExtBut it s.heap h' → Q none { s with heap := h' }) : wpAny (model P w) A (pyNext (.ref e)) Q E s := by
 have hTy : s.TypeIs (.ref e) "enumerate" := ⟨_, hE, rfl⟩
 unfold pyNext
 refine jQ (wpAny_attempt (wpAny_callSpecial?_slot (name := Str.ofString "__next__") hTy F.slot_enumerate_next (wpAny_call_entry F.slot_enumerate_next hTy F.entry_enumerate_next ?_ (F.args_enumerate_next_1 _))))
 show wpAny _ _ (field (.ref e) 2 >>= _) _ _ _
 refine jQ (wpAny_field hE rfl (x := .ref it) rfl ?_)
 refine jQ (dr.done _ _ s i xs _ hh hI hl hx fun h' x eb hx' => ?_)
 obtain ⟨o, ho, hc⟩ := hx'
 refine jQ (wpAny_isInstance (T := "StopIteration") (b := true) ⟨o, ho, hc⟩ isSubtype_stop (jK (hQ _ eb)))
end
theorem Qes {n : String} {l : Addr} {p : Heap → Prop} (I : Itr0 n l p) :
  Meets (Builtin.«enumerate.__new__» ⟨[.type "enumerate", .ref l], []⟩) (fun _ R s => p s.heap ∧ R (.ok (.ret (.ref (s.heap.push (Vo n l)).objs.size))) { s with heap := (s.heap.push (Vo n l)).push { cls := .type "enumerate", data := .fields #[.none, .bool false, .ref s.heap.objs.size, rawInt 0, .none, .none] } }) :=
 .of_wp fun prog w A R s h => by
  obtain ⟨hp, g, d, tk, os⟩ := s
  obtain ⟨q, h⟩ := h
  have hsub := sub_enumerate
  have f1 := fun (A : Around) (E : Value → Shared → Prop) (Q : Value → Shared → Prop) => I.go prog w A E ⟨hp, g, d, tk, os⟩ Q q
  wp_walk
  refine wpAny_stack_any fun stk => jK ?_
  split
  ·rename_i c _ _ _ _ _
   cases (c == Value.type "enumerate")
   ·wp_walk using f1 _ _ _
    exact ⟨_, rfl, h⟩
   ·wp_walk using f1 _ _ _
    exact ⟨_, rfl, h⟩
  ·wp_walk using f1 _ _ _
   exact ⟨_, rfl, h⟩
def Ite (K : Fg) (m : Bool) (a : Addr) : It :=
  ⟨fun i H => ∃ xs x, Sq K m H a xs ∧ xs[i]? = some x,
   fun i H v H' => ∃ T x, v = .ref T ∧ H T = none ∧ H' = upd H T (.tup [.int (i : Nat), x]) ∧ (∀ xs, Sq K m H a xs → xs[i]? = some x),
   fun i H => ∃ xs, Sq K m H a xs ∧ xs.length ≤ i⟩
def eTn (m : Bool) (e it a : Addr) (i : Nat) (h : Heap) : Prop := (∃ old, IsEnum h e it i old) ∧ itSt m it a i h
theorem Qgj {P : Program} {w : World} {K : Fg} {es : List Expr} {kk : Nat} {tp : Pos} {m : Bool} {e it a : Addr} (hne : e ≠ it) (hea : a ≠ e) (hia : a ≠ it) :
  Turn P w K (.Tuple es kk tp) (Ite K m a) [e, it] e (eTn m e it a) where
 mem := by simp
 obj := fun i h st c hc => by
  obtain ⟨⟨old, h1⟩, h2⟩ := st
  simp only [zY, jXc, or_false] at hc
  rcases hc with rfl | rfl
  ·exact ⟨_, h1, fun v z => by cases z⟩
  ·exact (Vp (P := P) (w := w) m c a).obj i h h2
 keep := fun i h h' st k => by
  obtain ⟨⟨old, h1⟩, h2⟩ := st
  exact ⟨⟨old, k e (by simp) _ h1⟩, (Vp (P := P) (w := w) m it a).keep i h h' h2 (k it (by simp))⟩
 item := by
  intro X hP hw hK hc i pins s σ H E I hf st hg
  subst hP hw hK
  obtain ⟨xs, x, q1, hx⟩ := hg
  obtain ⟨is1, r1, p1, z1⟩ := I.sq q1
  obtain ⟨v1, e1, rv1⟩ := r1.get hx
  obtain ⟨⟨old, hE⟩, s1⟩ := st
  refine Qaa (Vp m it a) hE s1 p1 e1 hne fun h' a1 a2 a3 a4 => ⟨_, rfl, ?_⟩
  have kk : ∀ c q, c ∉ [e, it] → s.heap.get? c = some q → h'.get? c = some q := fun c q hc e => by
   simp only [zY, jXc, or_false, not_or] at hc
   exact a4 c q hc.1 hc.2 e
  have I1 : Inv X pins σ (upd H s.heap.objs.size (.tup [.int (i : Nat), x])) { s with heap := h' } := I.tupNew (ch := [e, it]) (its := [.int i s.toks, v1]) (jZ _) (.cons ⟨_, rfl⟩ (.cons rv1 .nil)) (by show 2 ≤ sizeLine; decide) a3 hf kk (fun c hc => by
   simp only [zY, jXc, or_false] at hc
   rcases hc with rfl | rfl
   ·exact ⟨_, a1⟩
   ·obtain ⟨q, z, _⟩ := (Vp (P := X.prog) (w := X.w) m c a).obj _ _ a2; exact ⟨q, z⟩)
  refine wpAny_letOwnedTupleGo_enum (s := { s with heap := h', toks := s.toks + 1 }) a1 fun h2 g1 g2 => ?_
  obtain ⟨f0, f1, f2, f3, f4, f5⟩ := hf e (by simp)
  have lte : e < s.heap.objs.size := yJ hE
  have I2 : Inv X pins σ (upd H s.heap.objs.size (.tup [.int (i : Nat), x])) { s with heap := h2, toks := s.toks + 1 } := I1.turned (h' := h2) (t' := s.toks + 1) (fun c q hc z => g2.extBut c q hc z) (by rw [Qk (xQ lte)]; exact f0) f1 f3 f4 f5
  refine ⟨.ref s.heap.objs.size, _, I2, rfl, ⟨_, x, rfl, I.hok.fresh (jZ _), rfl, fun xs' hq => by rw [I.sq_inj hq q1]; exact hx⟩, ⟨⟨_, by exact_mod_cast g1⟩, (Vp (P := X.prog) (w := X.w) m it a).keep _ _ _ a2 fun q z => g2.extBut _ _ hne.symm z⟩, fun c hc => ?_⟩
  have hlt : c ≠ s.heap.objs.size := by
   simp only [zY, jXc, or_false] at hc
   rcases hc with rfl | rfl
   ·exact xQ lte
   ·obtain ⟨q, z, _⟩ := (Vp (P := X.prog) (w := X.w) m c a).obj _ _ s1; exact xQ (yJ z)
  rw [Qk hlt]
  exact (hf c hc).1
 done := by
  intro X hP hw hK hc i pins s σ H E I hf st hg
  subst hP hw hK
  obtain ⟨xs, q1, hx⟩ := hg
  obtain ⟨is1, r1, p1, z1⟩ := I.sq q1
  obtain ⟨⟨old, hE⟩, s1⟩ := st
  have l1 := r1.length
  obtain ⟨f0, f1, f2, f3, f4, f5⟩ := hf it (by simp)
  exact Qbs (I.ok.hd hc) (Vp m it a) hE s1 p1 (List.getElem?_eq_none_iff.mpr (by omega)) fun h' eb => ⟨rfl, I.turned (t' := s.toks) (fun b o hb z => eb b o hb z) f0 f1 f3 f4 f5⟩
 self := fun _ _ _ _ _ st h => by
  obtain ⟨⟨old, h1⟩, _⟩ := st
  exact wpAny_pyIter_enum h1 h
section
variable {X : Cx}
def iEnum (K : Fg) (m : Bool) (ta : TA) : TI := fun σ H R => ta σ H fun vs H1 => ∃ a, vs = [.ref a] ∧ (∃ xs, Sq K m H1 a xs) ∧ R (Ite K m a) H1
theorem Vq {a : Expr} {ta : TA} {p pos tp : Pos} {es : List Expr} {kk : Nat} (m : Bool) (hg : Gl X "enumerate") (hm : X.mg "enumerate" = none) (ha : PA X [a] ta) (hs : autoParam (starEach [a] X.env = [(false, eval a X.env)]) L2.aRfl._auto_1) :
  PI X (.Tuple es kk tp) (.Call (.Name "enumerate" p) [a] [] pos) (iEnum X.K m ta) := by
 intro pins s σ H R I h
 refine Call_ (Wh I hg hm Qbm (PyProof.Rows.callWith_type1 (thn (ha pos pins s σ H _ I h) fun us s1 hqP => ?_) hs rfl))
 obtain ⟨vs, H1, I1, r1, q1⟩ := hqP
 obtain ⟨l1, e, ⟨xs, q1⟩, q⟩ := q1
 subst e
 obtain ⟨u1, rfl, e1⟩ := r1.one
 cases e1
 obtain ⟨is1, r1, p1, z1⟩ := I1.sq q1
 refine callType_new F.called_enumerate (by decide) (F.typeCall_enumerate_1 _) (F.newCall_enumerate_1 _) (fun obj => F.args_object_init_2 obj _) F.entry_enumerate_new (Qes (Qlm m l1 is1)) ⟨p1, ?_⟩
 have z2 : (s1.heap.push (Vo (itN m) l1)).objs.size = s1.heap.objs.size + 1 := jKc ..
 have g2 : ((s1.heap.push (Vo (itN m) l1)).push { cls := .type "enumerate", data := .fields #[.none, .bool false, .ref s1.heap.objs.size, rawInt 0, .none, .none] }).get? (s1.heap.push (Vo (itN m) l1)).objs.size = some { cls := .type "enumerate", data := .fields #[.none, .bool false, .ref s1.heap.objs.size, rawInt 0, .none, .none] } := yK _ rfl
 have g1 : ((s1.heap.push (Vo (itN m) l1)).push { cls := .type "enumerate", data := .fields #[.none, .bool false, .ref s1.heap.objs.size, rawInt 0, .none, .none] }).get? s1.heap.objs.size = some (Vo (itN m) l1) := jW _ (yK _ rfl)
 rw [z2] at g2
 show _ ∧ _
 rw [z2]
 have kp : ∀ b o, s1.heap.get? b = some o → ((s1.heap.push (Vo (itN m) l1)).push { cls := .type "enumerate", data := .fields #[.none, .bool false, .ref s1.heap.objs.size, rawInt 0, .none, .none] }).get? b = some o := fun b o z => jW _ (jW _ z)
 generalize (s1.heap.push (Vo (itN m) l1)).push { cls := .type "enumerate", data := .fields #[.none, .bool false, .ref s1.heap.objs.size, rawInt 0, .none, .none] } = h' at g1 g2 kp
 have I2 : Inv X pins σ H1 { s1 with heap := h' } := I1.kept (t' := s1.toks) kp
 have ltl : l1 < s1.heap.objs.size := Qin p1
 refine ⟨⟨_, g2, rfl⟩, wpAny_pyIter_enum (s := { s1 with heap := h' }) g2 ⟨_, [s1.heap.objs.size + 1, s1.heap.objs.size], _, _, H1, rfl, I2, Qgj (m := m) (a := l1) (Nat.succ_ne_self _) (xQ (Nat.lt_succ_of_lt ltl)) (xQ ltl), ⟨⟨_, g2⟩, Qim m g1⟩, fun c hc => ?_, q⟩⟩
 have hle : s1.heap.objs.size ≤ c := by
  simp only [zY, jXc, or_false] at hc
  rcases hc with rfl | rfl
  ·exact Nat.le_add_right _ _
  ·exact jZ _
 exact I1.fpOk hle (I1.hok.fresh hle)
end
theorem Jw {K : Fg} {m : Bool} {a : Addr} {xs : List V} {g : TG} {tb : TS} {D : Ends} {σ : St} {H : Hp} (Pv : Nat → St → Hp → Prop) (h0 : Pv 0 σ H) (hl : ∀ i σ H, i ≤ xs.length → Pv i σ H → Sq K m H a xs)
  (hs : ∀ i x σ H T, xs[i]? = some x → Pv i σ H → H T = none → g (.ref T) σ (upd H T (.tup [.int (i : Nat), x])) fun σ2 H2 => tb { D with nx := Pv (i + 1), ct := Pv (i + 1), bk := D.nx } σ2 H2) (hd : ∀ σ H, Pv xs.length σ H → D.nx σ H) :
  ∃ W : Nat → Nat → St → Hp → Prop, (∃ m, W 0 m σ H) ∧ ∀ i n σ H, W i n σ H →
   ((Ite K m a).stop i H ∧ D.nx σ H) ∨ ((Ite K m a).go i H ∧ ∃ N : St → Hp → Prop, (∀ σ' H', N σ' H' → ∃ m', m' < n ∧ W (i + 1) m' σ' H') ∧ ∀ x H', (Ite K m a).yld i H x H' → g x σ H' fun σ2 H2 => tb { D with nx := N, ct := N, bk := D.nx } σ2 H2) := by
 refine ⟨fun i n σ H => n = xs.length - i ∧ i ≤ xs.length ∧ Pv i σ H, ⟨_, rfl, jQd _, h0⟩, ?_⟩
 rintro i n σ H ⟨rfl, hi, p⟩
 have q1 := hl i σ H hi p
 by_cases hlt : i < xs.length
 ·refine .inr ⟨⟨xs, xs[i], q1, by simp [hlt]⟩, Pv (i + 1), fun σ' H' p' => ⟨xs.length - (i + 1), by omega, rfl, hlt, p'⟩, fun x H' y => ?_⟩
  obtain ⟨T, u, rfl, hT, rfl, y1⟩ := y
  exact hs i u σ H T (y1 xs q1) p hT
 ·have e : i = xs.length := by omega
  subst e
  exact .inl ⟨⟨xs, q1, jZ _⟩, hd σ H p⟩
section
variable {prog : Program} {w : World} {A : Around} {E : Value → Shared → Prop} {s : Shared}
end
section
variable {X : Cx}
end
section
variable {P : Program} {w : World} {A : Around} {E : Value → Shared → Prop} {s : Shared}
end
section
variable {P : Program} {w : World} {A : Around} {E : Value → Shared → Prop} {s : Shared} {z u o i1 i2 l1 l2 : Addr} {st1 st2 : Nat → Heap → Prop} {src1 src2 : List Value → Heap → Prop} {k1 k2 : Nat} {xs ys : List Value}
end
section
variable {X : Cx} {pins : List (Addr × Obj)} {σ : St} {H : Hp} {s : Shared} {m1 m2 : Bool} {z u o i1 i2 a b : Addr} {i : Nat} {xs ys : List V} {E : Value → Shared → Prop} {A : Around}
end
section
variable {X : Cx}
end
section
variable {X : Cx} {tg : Expr}
end
section
variable {X : Cx} {tg : Expr}
end
def gTrip (K : Fg) (i j l : Nat) : TG := gTup K 3 (Qef (Kq i) (Qef (Kq j) (Qef (Kq l) gNil)))
theorem Qcr {X : Cx} {K : Fg} {i j l : Nat} {x y z : Str} {px py pz pos : Pos} {k : Nat} (hK : X.K = K) (hc : X.calm = true) (hN : X.N.Nodup) (hi : X.N[i]? = some x) (hj : X.N[j]? = some y) (hl : X.N[l]? = some z) (hx : X.env.scope.names.lookup x = some .local) (hy : X.env.scope.names.lookup y = some .local) (hz : X.env.scope.names.lookup z = some .local) :
  PG X (.Tuple [.Name x px, .Name y py, .Name z pz] k pos) (gTrip K i j l) := by
 subst hK
 exact Qaw hc (Yn (Qn hN hi (.inl hx) (.inr hx)) (Yn (Qn hN hj (.inl hy) (.inr hy)) (Yn (Qn hN hl (.inl hz) (.inr hz)) Vf)))
end L2
namespace L2
open PySem PySem.Spec PyProof.Rows PySem.SeqAt
section
variable {X : Cx}
end
end L2
namespace L2
open PySem PySem.Spec PyProof.Rows PySem.SeqAt
theorem Qy {α β : Type} {R : α → β → Prop} {xs : List α} {ys : List β} (h : Paired R xs ys) : ∀ {i : Nat} {x : α}, xs[i]? = some x → ∃ y, ys[i]? = some y ∧ R x y := by
 induction h with
 | nil => intro i x e; exact nomatch e
 | cons z _ ih =>
  intro i x e
  match i with
  | 0 => cases e; exact ⟨_, rfl, z⟩
  | i + 1 => exact ih (show _ = some x from e)
theorem Qab (k : Key) : Ws (kV k) = true := by cases k <;> rfl
theorem Qgk (a b : Key) : eqV (kV a) (kV b) = true ↔ a = b := by
 cases a with
 | inl i =>
  cases b with
  | inl j => show (i == j) = true ↔ _; rw [beq_iff_eq]; exact ⟨fun z => (by rw [z]), fun z => (by cases z; rfl)⟩
  | inr y => exact ⟨fun z => (nomatch z), fun z => (nomatch z)⟩
 | inr x =>
  cases b with
  | inl j => exact ⟨fun z => (nomatch z), fun z => (nomatch z)⟩
  | inr y => show (x == y) = true ↔ _; rw [beq_iff_eq]; exact ⟨fun z => (by rw [z]), fun z => (by cases z; rfl)⟩
def RowsL (H : Hp) : List V → List (List Key) → Prop := Paired fun v r => ∃ l, v = .ref l ∧ H l = some (.lst (r.map kV))
section
variable {X : Cx} {pins : List (Addr × Obj)} {σ : St} {H : Hp} {s : Shared}
theorem Qgl {A : Around} {ks ls : List Key} {its its' : List Value} (r : Vals (ks.map kV) its) (r' : Vals (ls.map kV) its') :
  ∀ j (h1 : j < its.toArray.size) (h2 : j < its'.toArray.size), EqAt A s its.toArray[j] its'.toArray[j] (decide (ks[j]? = ls[j]?)) := fun j h1 h2 => by
 have l1 := r.length
 have l2 := r'.length
 rw [jX] at l1 l2
 rw [jV] at h1 h2
 have j1 : j < ks.length := by omega
 have j2 : j < ls.length := by omega
 obtain ⟨u1, e1, ru1⟩ := r.get (i := j) (x := kV ks[j]) (by rw [zK, gE j1]; rfl)
 obtain ⟨u2, e2, ru2⟩ := r'.get (i := j) (x := kV ls[j]) (by rw [zK, gE j2]; rfl)
 have z1 : its.toArray[j] = u1 := by rw [gE (by omega)] at e1; simpa using e1
 have z2 : its'.toArray[j] = u2 := by rw [gE (by omega)] at e2; simpa using e2
 rw [z1, z2]
 have e : decide (ks[j]? = ls[j]?) = eqV (kV ks[j]) (kV ls[j]) := by
  rw [jYe, decide_eq_true_iff, Qgk, gE j1, gE j2]
  exact ⟨fun z => Option.some.inj z, fun z => congrArg some z⟩
 rw [e]
 exact Qkj ru1 ru2 (Qab _) (Qab _)
theorem Qgm {A : Around} {a b : Addr} {ks ls : List Key} (hu : A.units < cLine) (I : Inv X pins σ H s) (h1 : SqL X.K H a (ks.map kV)) (h2 : SqL X.K H b (ls.map kV)) :
  ∃ c : Bool, (c = true ↔ ks = ls) ∧ EqAt A s (.ref a) (.ref b) c ∧ RcAt A s (.ref a) (.ref b) c ∧ RcNeAt A s (.ref a) (.ref b) (!c) := by
 obtain ⟨its, r, pt, _⟩ := I.list h1
 obtain ⟨its', r', pt', _⟩ := I.list h2
 have l1 := r.length
 have l2 := r'.length
 rw [jX] at l1 l2
 have key := Qgl (A := A.in1) (s := s) r r'
 have inj : a = b → ks = ls := fun z => by
  subst z
  have := I.list_inj h1 h2
  refine Qcp (by rw [← jX (f := kV), this, jX]) fun i x y ex ey => ?_
  have e5 : (ks.map kV)[i]? = (ls.map kV)[i]? := by rw [this]
  rw [zK, zK, ex, ey] at e5
  have e6 : kV x = kV y := Option.some.inj e5
  exact (Qgk x y).mp (by
   rw [e6]
   exact (Qgk y y).mpr rfl)
 by_cases hsz : its.toArray.size = its'.toArray.size
 ·have hb : ((List.range its.toArray.size).all (fun j => decide (ks[j]? = ls[j]?))) = true ↔ ks = ls := by
   rw [jV, jV] at hsz
   rw [Kt, jV]
   constructor
   ·intro z1
    refine Qcp (by omega) fun i x y ex ey => ?_
    have hi := (kQ.mp ex).1
    have := kX (z1 i (by omega))
    rw [ex, ey] at this
    exact Option.some.inj this
   ·intro z
    subst z
    exact fun i _ => yQ rfl
  refine ⟨_, hb, ?_, RcAt.lists pt.isList pt'.isList hsz hu key, RcNeAt.lists pt.isList pt'.isList hsz hu key⟩
  by_cases hpq : a = b
  ·rw [hb.mpr (inj hpq)]
   subst hpq
   exact EqAt.same _
  ·exact EqAt.of_refs hpq (RcAt.lists pt.isList pt'.isList hsz hu key)
 ·have hne : (its.toArray.size != its'.toArray.size) = true := by simpa using hsz
  rw [jV, jV] at hsz
  have hb : false = true ↔ ks = ls := ⟨fun z => (nomatch z), fun z => (by subst z; omega)⟩
  refine ⟨false, hb, ?_, RcAt.lists_lengths pt.isList pt'.isList hne hu, RcNeAt.lists_lengths pt.isList pt'.isList hne hu⟩
  by_cases hpq : a = b
  ·exact absurd (hb.mpr (inj hpq)) (by decide)
  ·exact EqAt.of_refs hpq (RcAt.lists_lengths pt.isList pt'.isList hne hu)
theorem op_eqK {K : Fg} {n : Nat} (hK : X.K = K) (hu : X.A.units + n < cLine) : OpR X (compareOp .Eq) (fun x y H Q => ∃ (a b : Addr) (ks ls : List Key), x = .ref a ∧ y = .ref b ∧ SqL K H a (ks.map kV) ∧ SqL K H b (ls.map kV) ∧ ∀ c : Bool, (c = true ↔ ks = ls) → Q (.bl c) H) := by
 subst hK
 intro pins s σ H x y v u Q I rx ry h
 obtain ⟨a, b, ks, ls, rfl, rfl, h1, h2, q⟩ := h
 cases rx
 cases ry
 obtain ⟨c, hc, _, hr, _⟩ := Qgm (A := X.A) (by omega) I h1 h2
 exact hr _ _ _ _ ⟨.bl c, H, I, rfl, q c hc⟩
open PySem.MeetsSeq PySem.MeetsSeq2 PySem.MeetsSeq3 in
open AutoSeq1 (wpAny_loadPart') in
open PySem.MeetsSeq PySem.MeetsSeq2 PySem.MeetsSeq3 in
open AutoSeq1 (wpAny_loadPart') in
end
def Qgn (K : Fg) (H : Hp) : List V → List (List Key × V) → Prop := Paired fun v p => ∃ t b, v = .ref t ∧ SqT K H t [.ref b, p.2] ∧ H b = some (.tup (p.1.map kV))
def Xg (ps : List (List Key × V)) : List (List Key × V) := ps.foldl (fun d p => putK d p.1 p.2) []
theorem Zm {ps : List (List Key × V)} {i : Nat} {p : List Key × V} (h : ps[i]? = some p) : Xg (ps.take (i + 1)) = putK (Xg (ps.take i)) p.1 p.2 := by
 unfold Xg
 rw [List.take_add_one, h, List.foldl_append]
 rfl
theorem Vr (ps : List (List Key × V)) : (Xg ps).length ≤ ps.length := by
 have key : ∀ (l : List (List Key × V)) (acc : List (List Key × V)), (l.foldl (fun d p => putK d p.1 p.2) acc).length ≤ acc.length + l.length := by
  intro l
  induction l with
  | nil => intro acc; exact jZ _
  | cons p t ih =>
   intro acc
   have h1 := ih (putK acc p.1 p.2)
   have h2 := Jr acc p.1 p.2
   rw [List.foldl_cons, xK]
   omega
 have := key ps []
 rwa [List.length_nil, Nat.zero_add] at this
section
variable {X : Cx}
theorem Qgo {pins : List (Addr × Obj)} {σ : St} {H : Hp} {d it l : Addr} {vs : List V} {ps : List (List Key × V)} {A : Around} {R : Result → Shared → Prop} (hh : A.handled = none) (hu : A.units + 1 < cLine) (hd : H d = none) (hl : SqL X.K H l vs) (hp : Qgn X.K H vs ps) (hz : ps.length < sizeLine)
  (hR : ∀ s', Inv X pins σ (upd H d (.dT (Xg ps))) s' → R (.ok (.ret .none)) s') :
  ∀ (k i : Nat) (s : Shared), ps.length - i = k → i ≤ ps.length → Inv X pins σ (upd H d (.dT (Xg (ps.take i)))) s → s.heap.IsListIter it l i → FpOk X pins (upd H d (.dT (Xg (ps.take i)))) it →
   codeAny (model X.prog X.w) A (.builtin "dict.update.loop" ⟨[.ref d, .ref it, rawInt i, .none], []⟩) R s := by
 intro k
 induction k with
 | zero =>
  intro i s hk hi I st f
  have ei : i = ps.length := by omega
  subst ei
  rw [kY] at I f
  have sm : Same H (upd H d (.dT (Xg ps))) := Qc hd _
  obtain ⟨its, r, p, _⟩ := I.list (sm.seq hl)
  have lv := Paired.length hp
  have lr := r.length
  refine codeAny_builtin Qbr ?_
  rw [Around.under_plainId Jv _]
  show wpAny _ A.in1 (pyNext (.ref it) >>= _) _ _ s
  refine jQ (wpAny_pyNext_list_end (A := A.in1) hh st p.isList (by simp; omega) fun h' eb => ?_)
  refine jQ (jK (jK ?_))
  exact hR _ (I.turned (t' := s.toks) (fun b o hb e => eb b o hb e) f.1 f.2.1 f.2.2.2.1 f.2.2.2.2.1 f.2.2.2.2.2)
 | succ k ih =>
  intro i s hk hi I st f
  have sm : Same H (upd H d (.dT (Xg (ps.take i)))) := Qc hd _
  obtain ⟨its, r, p, _⟩ := I.list (sm.seq hl)
  have lv := Paired.length hp
  have hlt : i < vs.length := by omega
  obtain ⟨pr, ep, t, b, ev, hT, hb⟩ := Qy hp (gE hlt)
  obtain ⟨u, hu', ru⟩ := r.get (gE hlt)
  rw [ev] at ru
  cases ru
  refine codeAny_builtin Qbr ?_
  rw [Around.under_plainId Jv _]
  show wpAny _ A.in1 (pyNext (.ref it) >>= _) _ _ s
  refine jQ (wpAny_pyNext_list_item st p.isList (x := .ref t) (by simpa using hu') fun h' st' sb => ?_)
  have I1 : Inv X pins σ (upd H d (.dT (Xg (ps.take i)))) { s with heap := h' } := I.turned (t' := s.toks) (fun b o hb e => (sb.2 b hb).trans e) f.1 f.2.1 f.2.2.2.1 f.2.2.2.2.1 f.2.2.2.2.2
  obtain ⟨its2, r2, ⟨ot, gt, ct, nt, dt⟩, _⟩ := I1.tuple (sm.tup hT)
  obtain ⟨u1, u2, rfl, ru1, ru2⟩ := r2.two
  cases ru1
  refine jQ (wpAny_holding ?_)
  refine jQ (wpAny_tryCatch ?_)
  unfold Builtin.Dict.pairItems
  refine jQ (wpAny_typeOf (T := "tuple") ⟨ot, gt, ct⟩ ?_)
  rw [if_pos (by simp)]
  refine jQ (wpAny_seqItems gt dt (jK ?_))
  show wpAny _ _ (holding [Value.ref b, u2] (dictSet d (Value.ref b) u2)) _ _ _
  obtain ⟨z, hdS, xs, rel, dd⟩ := dt_of I1.hok (Qd (H := H) (a := d) (o := .dT (Xg (ps.take i))))
  have l1 := Vr (ps.take i)
  rw [zQ] at l1
  have hz2 : xs.length ≤ sizeLine := by rw [← Paired.length rel]; exact z
  have eb := sm _ _ hb
  refine wpAny_holding (wpAny_dictSet_heap (hsz := hz2) (knd := tupleKind (Xt X.prog X.w)) (k := pr.1) (by first | exact hu | exact Nat.lt_of_succ_lt hu | (show A.units + 1 < cLine; exact hu)) (Qbp I1.hok eb) dd fun h2 dd' hs2 => ?_)
  obtain ⟨q, es, ep5, hq, q2, q3, q4, _, q5⟩ := dd'
  have l2 := Jr (Xg (ps.take i)) pr.1 pr.2
  have I2 : Inv X pins σ (upd (upd H d (.dT (Xg (ps.take i)))) d (.dT (putK (Xg (ps.take i)) pr.1 pr.2))) { s with heap := h2, toks := s.toks + (tupleKind (Xt X.prog X.w)).draws pr.1 } :=
   Ww (s := { s with heap := h' }) I1 (by rw [Qd]; exact True.intro) hs2 ⟨q, hq⟩ ⟨by omega, hdS, _, (rel.put pr.1 eb ru2).keeps fun c ys ec => (by
    rw [Qk (Yx ec (Qd (H := H) (a := d) (o := .dT (Xg (ps.take i)))) (fun z => nomatch z))]
    exact ec), q, es, ep5, hq, q2, q3, q4, q5⟩
  rw [Qkz, ← Zm ep] at I2
  have nit : it ≠ d := fun e => by have := f.1; rw [e, Qd] at this; cases this
  refine jK ⟨plainId_quiet Jv _, ?_⟩
  have ei : rawInt ((i : Int) + 1) = rawInt ((i + 1 : Nat) : Int) := by push_cast; rfl
  rw [ei]
  refine ih (i + 1) _ (by omega) (by omega) I2 (st'.at fun o e => hs2.extBut _ _ nit e) ⟨?_, f.2⟩
  have := f.1
  rw [Qk nit] at this ⊢
  exact this
theorem Qac {n : Nat} (hn : 2 ≤ n) (hu : X.A.units + n < cLine) (hc : X.calm = true) : Jk X (.type "dict") (fun xs H Q => ∃ (l : Addr) (vs : List V) (ps : List (List Key × V)), xs = [.ref l] ∧ SqL X.K H l vs ∧ Qgn X.K H vs ps ∧ ps.length < sizeLine ∧ ∀ d, H d = none → Q (.ref d) (upd H d (.dT (Xg ps)))) := by
 intro pins s σ H xs us Q I rv h
 obtain ⟨l, vs, ps, rfl, hl, hp, hz, q⟩ := h
 obtain ⟨u, rfl, ru⟩ := rv.one
 cases ru
 refine callType_codes (Q₁ := fun obj s1 => obj = .ref s.heap.objs.size ∧ s1 = { s with heap := s.heap.push { cls := .type "dict", data := .dict #[] } }) F.kt_called_dict (F.kt_typeCall_dict_1 _) F.entry_dict_init (kt_code_dict_new _ ⟨rfl, rfl⟩) ?_
 rintro obj s1 ⟨rfl, rfl⟩
 have hd : H s.heap.objs.size = none := I.hok.fresh (jZ _)
 have I1 : Inv X pins σ (upd H s.heap.objs.size (.dT [])) { s with heap := s.heap.push { cls := .type "dict", data := .dict #[] } } := I.laid (t' := s.toks) (fun _ _ q => jW _ q) (jZ _) (Qir s.heap I.big)
 have sm : Same H (upd H s.heap.objs.size (.dT [])) := Qc hd _
 obtain ⟨z, hdS, kv, rel, dd⟩ := dt_of I1.hok (Qd (H := H) (a := s.heap.objs.size) (o := .dT []))
 refine ⟨dd.typeIs, F.args_dict_init_2 _ _, ?_⟩
 unfold Builtin.«dict.__init__»
 refine jQ ?_
 unfold Builtin.Dict.selfAndRest
 refine jQ (wpAny_notOrdered_dict dd.typeIs ?_)
 show wpAny _ _ (pure (s.heap.objs.size, [Value.ref l])) _ _ _
 refine jK ?_
 show wpAny _ _ (Builtin.Dict.updateFrom "dict.__init__" s.heap.objs.size (.ref l) [] .none) _ _ _
 unfold Builtin.Dict.updateFrom
 obtain ⟨its, r, ⟨o, n5, e, c, dn, sl⟩, _⟩ := I1.list (sm.seq hl)
 obtain ⟨cls, dct, dat, sls⟩ := o
 simp only at c dn sl
 subst c dn sl
 refine jQ (wpAny_typeOf (T := "list") ⟨_, e, rfl⟩ ?_)
 rw [if_pos (by decide)]
 refine jQ (Wz (s := { s with heap := s.heap.push { cls := .type "dict", data := .dict #[] } }) e (by exact I.ok.hd hc) fun h2 tk2 hk2 => ?_)
 have I2 : Inv X pins σ (upd H s.heap.objs.size (.dT [])) { s with heap := h2, toks := tk2 } := I1.kept hk2
 rw [if_pos (by rfl)]
 refine jQ (wpAny_rule (jQ ?_))
 obtain ⟨its2, r2, p2, _⟩ := I2.list (sm.seq hl)
 refine wpAny_pyIter_list (s := { s with heap := h2, toks := tk2 }) p2.isList ?_
 refine jK ⟨plainId_quiet Jv _, ?_⟩
 have I3 : Inv X pins σ (upd H s.heap.objs.size (.dT [])) { s with heap := h2.push { cls := .type "list_iterator", data := .fields #[.ref l, .int 0 0] }, toks := tk2 } := I2.kept (t' := tk2) fun b o e => jW _ e
 have hfr := I2.hok.fresh (a := h2.objs.size) (jZ _)
 refine Qgo (X := X) (pins := pins) (σ := σ) (H := H) (vs := vs) (ps := ps) (A := X.A.in1) (by exact I.ok.hd hc) (by show X.A.units + 1 + 1 < cLine; omega) hd hl hp hz (fun s' I' => ⟨rfl, .ref s.heap.objs.size, _, I', rfl, q _ hd⟩) ps.length 0 _ (by omega) (jQd _) I3 ⟨_, yK _ rfl, rfl, rfl⟩ (I2.fpOk (jZ _) hfr)
end
end L2
namespace L2
open PySem PySem.Spec PyProof.Rows PySem.W
inductive IsT : String → Prop
 | int : IsT "int"
 | bool : IsT "bool"
 | tuple : IsT "tuple"
 | list : IsT "list"
 | str : IsT "str"
def isiW (K : Fg) (H : Hp) : V → String → Bool → Prop
 | .non, _, b => b = false
 | .int _, T, b => b = decide (T = "int")
 | .bl _, T, b => b = decide (T = "int" ∨ T = "bool")
 | .str _, T, b => b = decide (T = "str")
 | .ref a, T, b => ((∃ xs, SqT K H a xs) ∧ b = decide (T = "tuple")) ∨ ((∃ xs, SqL K H a xs) ∧ b = decide (T = "list"))
 | _, _, _ => False
theorem Qgp {X : Cx} : Jk X (.builtin "isinstance") (fun xs H Q => ∃ x T b, xs = [x, .ty T] ∧ IsT T ∧ isiW X.K H x T b ∧ Q (.bl b) H) := by
 intro pins s σ H xs us Q I rv h
 obtain ⟨x, T, b, rfl, hT, hi, q⟩ := h
 obtain ⟨u, v, rfl, ru, rT⟩ := rv.two
 cases rT
 have fin : ∀ (tk : Nat), EP X pins σ Q (.bool b) { s with toks := tk } := fun tk => ⟨.bl b, H, I.tok tk, rfl, q⟩
 cases x with
 | int n =>
  obtain ⟨t, rfl⟩ := ru
  cases hT <;> (subst hi)
  ·exact IsiPair.int_int (fin s.toks)
  ·exact IsiPair.int_bool (fin _)
  ·exact IsiPair.int_tuple (fin _)
  ·exact IsiPair.int_list (fin _)
  ·exact IsiPair.int_str (fin _)
 | bl n =>
  cases ru
  cases hT <;> (subst hi)
  ·exact IsiPair.bool_int (fin s.toks)
  ·exact IsiPair.bool_bool (fin s.toks)
  ·exact IsiPair.bool_tuple (fin _)
  ·exact IsiPair.bool_list (fin _)
  ·exact IsiPair.bool_str (fin _)
 | str n =>
  obtain ⟨t, rfl⟩ := ru
  cases hT <;> (subst hi)
  ·exact IsiPair.str_int (fin _)
  ·exact IsiPair.str_bool (fin _)
  ·exact IsiPair.str_tuple (fin _)
  ·exact IsiPair.str_list (fin _)
  ·exact IsiPair.str_str (fin s.toks)
 | non =>
  cases ru
  cases hT <;> (subst hi)
  ·exact IsiPair.NoneType_int (fin _)
  ·exact IsiPair.NoneType_bool (fin _)
  ·exact IsiPair.NoneType_tuple (fin _)
  ·exact IsiPair.NoneType_list (fin _)
  ·exact IsiPair.NoneType_str (fin _)
 | ref a =>
  cases ru
  rcases hi with ⟨⟨xs, hq⟩, hi⟩ | ⟨⟨xs, hq⟩, hi⟩
  ·obtain ⟨its, r, ⟨o, e, c, _⟩, _⟩ := I.tuple hq
   cases hT <;> (subst hi)
   ·exact IsiPair.tuple_int e c (fin _)
   ·exact IsiPair.tuple_bool e c (fin _)
   ·exact IsiPair.tuple_tuple e c (fin s.toks)
   ·exact IsiPair.tuple_list e c (fin _)
   ·exact IsiPair.tuple_str e c (fin _)
  ·obtain ⟨its, r, pl, _⟩ := I.list hq
   obtain ⟨o, e, c, _⟩ := pl.isList
   cases hT <;> (subst hi)
   ·exact IsiPair.list_int e c (fin _)
   ·exact IsiPair.list_bool e c (fin _)
   ·exact IsiPair.list_tuple e c (fin _)
   ·exact IsiPair.list_list e c (fin s.toks)
   ·exact IsiPair.list_str e c (fin _)
 | byt _ => exact hi.elim
 | flt _ => exact hi.elim
 | ty _ => exact hi.elim
open Att in
section
variable {prog : Program} {w : World} {A : Around} {R : Result → Shared → Prop} {I : Addr} {fp wr : List Addr} {n : Nat} {P : Nat → Value → Prop} {St : Nat → Heap → Prop}
end
section
variable {prog : Program} {w : World} {A : Around} {E : Value → Shared → Prop} {s : Shared} {l : Addr} {xs : Array (Int × Tok)}
end
section
variable {X : Cx}
end
end L2
namespace L2
open PySem PySem.Spec PySem.Calls PyProof.Rows PySem.W
section
variable {P : Program} {w : World} {K : Fg} {mg : Str → Option Value} {base : Heap} {N : List Str} {qual : Str} {scope : Scope} {f : Addr} {cd : Value} {A : Around} {outer : List Env} {s₀ : Shared} {H₀ : Hp} {E : XK} {C : Addr}
 {pins : List (Addr × Obj)} {σ : St} {H : Hp} {s : Shared}
end
end L2
namespace L2
open PySem PySem.Spec PySem.Calls PyProof.Rows PySem.W
section
variable {X : Cx} {pins : List (Addr × Obj)} {σ : St} {H H' : Hp} {s : Shared} {e : Addr}
end
section
variable {X : Cx} {k : Nat} {f C D : Addr} {fd : FuncData} {ps : List Str} {sp : Sp} {g x n c : Str} {p np pc pn cpos epos hpos apos pos : Pos} {a : Expr} {es : List Expr} {t : TA} {i j : Nat}
end
end L2
namespace L2
open PySem PySem.Spec PySem.Calls PyProof.Rows PySem.W
section
variable {prog : Program} {w : World} {A : Around} {E : Value → Shared → Prop} {h : Heap} {g : Array GenState} {d : Drawn} {t : Nat} {os : OsState} {a C : Addr} {o : Obj} {K : Frag}
open Builtin Builtin.ObjectAttr Builtin.Getset_descriptor in
end
end L2
namespace L2
open PySem PySem.Spec PySem.Calls PyProof.Rows PySem.W
section
variable {X : Cx}
end
def Big (i : Int) : Prop := i.natAbs < 2 ^ 4000
section
variable {X : Cx}
theorem Qis : OpR X (binaryOp .FloorDiv) (rI (fun _ j => j ≠ 0 ∧ Big j) fun i j => .int (i.fdiv j)) := opI fun i j _ _ _ _ _ hc q => floordiv_int hc.1 q (.inl (PyProof.noPylong_of_log2 (zZ ((Nat.log2_lt (by have := hc.1; omega)).mpr hc.2) (by decide))))
end
section
variable {P : Program} {w : World} {K : Fg} {mg : Str → Option Value} {base : Heap} {N : List Str} {qual : Str} {scope : Scope} {f : Addr} {cd : Value} {A : Around} {outer : List Env} {s₀ : Shared} {H₀ : Hp} {E : XK} {C : Addr}
end
end L2
namespace L2
open PySem PySem.Spec PySem.Calls PyProof.Rows PySem.W
section
variable {X : Cx}
end
end L2
namespace L2
open PySem PySem.W PyProof.Rows
section
variable {r : Nat → Int} {n : Nat}
end
end L2
namespace L2
open PySem PySem.Spec PySem.W PyProof.Rows
open PySem.SeqAt
section
variable {prog : Program} {w : World} {A : Around} {E : Value → Shared → Prop} {s : Shared}
end
section
variable {prog : Program} {w : World} {A : Around} {E : Value → Shared → Prop} {s : Shared}
end
end L2
namespace L2
open PySem PySem.Spec PySem.W PyProof.Rows
open PySem.SeqAt
section
variable {prog : Program} {w : World} {A : Around} {E : Value → Shared → Prop} {s : Shared}
end
section
variable {X : Cx}
end
end L2
namespace L2
open PySem PySem.Spec PyProof.Rows PySem.W
structure Tab (w : World) (K : Frag) (mg : Str → Option Value) (x : Str) (a : Addr) (f : Str → Option Value) : Prop where
 bound : mg x = some (.ref a)
 map : ∀ (P : Program) (h : Heap), K.In h → h.MapOf (strKind P w) a f
 low : (a == sysModules) = false
theorem tab_mk {w : World} {K : Frag} {mg : Str → Option Value} {x : Str} {a : Addr} {es : Array DictEntry} {n : Nat} (hb : mg x = some (.ref a)) (hl : K.lookup a = some ⟨.type "dict", none, .dict es n, #[]⟩) (hk : KeysLit w.params es.toList) (lo : (a == sysModules) = false) :
  Tab w K mg x a (fun k => findBy Value.isStrOf es k) := ⟨hb, fun P h X => mapOf_K (prog := P) X hl hk, lo⟩
def rTab (a : Addr) (f : Str → Option Value) : R2 := fun x y H Q => ∃ s v z, x = .ref a ∧ y = .str s ∧ f s = some v ∧ RelV z v ∧ Q z H
section
variable {X : Cx}
theorem ix_tab {x : Str} {a : Addr} {f : Str → Option Value} (T : Tab X.w X.K X.mg x a f) : IxR X (rTab a f) := by
 intro value slice pins s σ H x y v u Q I rx ry h hs
 obtain ⟨z, w', r, rfl, rfl, hf, rv, q⟩ := h
 cases rx
 obtain ⟨t, rfl⟩ := ry
 have hm := T.map X.prog _ I.kIn
 exact tail_any hm.typeIs slot_dict_getitem.lookup (wpAny_getItem_of (strKind_is X.prog X.w z t) hm hf ⟨r, H, I.tok _, rv, q⟩) hs
end
end L2
namespace L2
open PySem PySem.Spec PySem.W PyProof.Rows
open PySem.SeqAt
section
variable {A : Around} {s : Shared}
end
section
variable {X : Cx}
open Classical in
open Classical in
end
end L2
namespace L2
open PySem PySem.Spec PySem.W PyProof.Rows
open PySem.SeqAt
section
variable {X : Cx}
open Classical in
end
end L2
namespace HT
open PySem PySem.Spec PyProof.Rows
section
variable {prog : Program} {w : World} {A : Around} {E : Value → Shared → Prop} {s : Shared}
theorem getItem_tuple_whole {t sl : Addr} {items : Array Value} {vl vu : Value} {lo hi : Option Int} {Q : Value → Shared → Prop} (ht : IsTup s.heap t items) (hs : s.heap.IsSliceOf sl vl vu .none) (pl : IsPart vl lo) (pu : IsPart vu hi)
  (hw : sIx items.size 0 lo = 0 ∧ sIx items.size items.size hi = items.size) (h : Q (.ref t) s) : wpAny (model prog w) A (getItem (.ref t) (.ref sl)) Q E s := by
 obtain ⟨os, hos, hcs, hds⟩ := id hs
 have hTs : s.TypeIs (.ref sl) "slice" := ⟨os, hos, hcs⟩
 unfold getItem
 try with_reducible refine wpAny_holding ?_
 first | refine jQ (jK ?_) | skip
 refine jQ (wpAny_sequenceKey ht.typeIs (by decide) ?_)
 refine jQ (wpAny_callSpecial?_slot (name := Str.ofString "__getitem__") ht.typeIs PyProof.Rows.slot_tuple_getitem
  (wpAny_call_entry PyProof.Rows.slot_tuple_getitem ht.typeIs entry_tuple_getitem ?_ (args_tuple_getitem _ _)))
 show wpAny _ _ (Builtin.Tuple.tupleItemsOf (.ref t) >>= _) _ _ s
 refine jQ (tupleItemsOf_ ht ?_)
 refine jQ (wpAny_typeOf hTs ?_)
 rw [if_pos (by decide)]
 refine jQ (Zw hs pl pu ?_)
 have hyes : ((((sIx items.size 0 lo : Nat) : Int) == 0 && (1 : Int) == 1 && (sIx items.size items.size hi - sIx items.size 0 lo) == items.size) = true) := by
  rw [hw.1, hw.2]
  simp
 show wpAny _ _ (if (((sIx items.size 0 lo : Nat) : Int) == 0 && (1 : Int) == 1 && (sIx items.size items.size hi - sIx items.size 0 lo) == items.size) = true then _ else _) _ _ s
 rw [if_pos hyes]
 unfold Builtin.Tuple.tupleIsExact
 refine jQ (jQ (wpAny_typeOf ht.typeIs (jK ?_)))
 rw [if_pos (by decide)]
 refine jQ (wpAny_rule ?_)
 first
  | exact jK ⟨_, rfl, jK h⟩
  | exact jQ (jK ⟨_, rfl, jK h⟩)
  | exact jQ (jK (jK ⟨_, rfl, jK h⟩))
end
end HT
namespace L2
open PySem PySem.Spec PySem.W PyProof.Rows
open PySem.SeqAt
section
variable {X : Cx}
def rSlG (K : Fg) : V → Option Int → Option Int → Hp → VK → Prop := fun x lo hi H Q => ∃ a xs, x = .ref a ∧ SqT K H a xs ∧ ∀ p H', Same H H' → SqT K H' p (cutV xs lo hi) → Q (.ref p) H'
theorem Qlu : SlR X (rSlG X.K) := by
 intro pins s σ H x v vl vu lo hi sl Q I rx hs pl pu h
 obtain ⟨a, xs, rfl, hx, q⟩ := h
 by_cases hw : HT.sIx xs.length 0 lo = 0 ∧ HT.sIx xs.length xs.length hi = xs.length
 ·have e : cutV xs lo hi = xs := by unfold cutV; rw [hw.1, hw.2]; simp
  rw [e] at q
  cases rx
  obtain ⟨its, r, ht, hz⟩ := I.tuple hx
  have hlen : its.toArray.size = xs.length := by rw [jV]; exact r.length.symm
  refine ⟨"tuple", _, PyProof.Rows.slot_tuple_getitem.lookup, ht.typeIs, ?_⟩
  exact HT.getItem_tuple_whole ht hs pl pu (by rw [hlen]; exact hw) ⟨.ref a, H, I, rfl, q a H (Same.refl H) hx⟩
 ·exact Kn pins s σ H (.ref a) v vl vu lo hi sl Q I rx hs pl pu ⟨a, xs, rfl, hx, hw, fun p hp => q p _ (Qc hp _) (Qs Qd)⟩
theorem Qit {K : Fg} (hK : X.K = K) : SlR X (rSlG K) := by subst hK; exact Qlu
end
end L2
namespace L2
open PySem
section
variable {X : Cx}
end
section
variable {X : Cx}
theorem lenS {α : Type} {l : List α} {n : Nat} (h : l.length = n + 1) : ∃ a t, l = a :: t ∧ t.length = n := by
 cases l with
 | nil => exact absurd h (Nat.succ_ne_zero n).symm
 | cons a t => exact ⟨a, t, rfl, Nat.succ.inj h⟩
theorem len1 {α : Type} {l : List α} (h : l.length = 1) : ∃ a, l = [a] := by
 obtain ⟨a, t, rfl, h'⟩ := lenS h
 exact ⟨a, congrArg _ (jJd.mp h')⟩
theorem len2 {α : Type} {l : List α} (h : l.length = 2) : ∃ a b, l = [a, b] := by
 obtain ⟨a, t, rfl, h'⟩ := lenS h
 obtain ⟨b, rfl⟩ := len1 h'
 exact ⟨a, b, rfl⟩
theorem len3 {α : Type} {l : List α} (h : l.length = 3) : ∃ a b c, l = [a, b, c] := by
 obtain ⟨a, t, rfl, h'⟩ := lenS h
 obtain ⟨b, c, rfl⟩ := len2 h'
 exact ⟨a, b, c, rfl⟩
theorem len4 {α : Type} {l : List α} (h : l.length = 4) : ∃ a b c d, l = [a, b, c, d] := by
 obtain ⟨a, t, rfl, h'⟩ := lenS h
 obtain ⟨b, c, d, rfl⟩ := len3 h'
 exact ⟨a, b, c, d, rfl⟩
theorem len5 {α : Type} {l : List α} (h : l.length = 5) : ∃ a b c d e, l = [a, b, c, d, e] := by
 obtain ⟨a, t, rfl, h'⟩ := lenS h
 obtain ⟨b, c, d, e, rfl⟩ := len4 h'
 exact ⟨a, b, c, d, e, rfl⟩
theorem bind1 {F : List Value → Prop} (h : ∀ a, F [a]) : ∀ us : List Value, us.length = 1 → F us := fun us hl => by
 obtain ⟨a, rfl⟩ := len1 hl
 exact h a
theorem We {F : List Value → Prop} (h : ∀ a b, F [a, b]) : ∀ us : List Value, us.length = 2 → F us := fun us hl => by
 obtain ⟨a, b, rfl⟩ := len2 hl
 exact h a b
theorem Qiu {F : List Value → Prop} (h : ∀ a b c, F [a, b, c]) : ∀ us : List Value, us.length = 3 → F us := fun us hl => by
 obtain ⟨a, b, c, rfl⟩ := len3 hl
 exact h a b c
theorem Qgq {F : List Value → Prop} (h : ∀ a b c d, F [a, b, c, d]) : ∀ us : List Value, us.length = 4 → F us := fun us hl => by
 obtain ⟨a, b, c, d, rfl⟩ := len4 hl
 exact h a b c d
theorem bind5 {F : List Value → Prop} (h : ∀ a b c d e, F [a, b, c, d, e]) : ∀ us : List Value, us.length = 5 → F us := fun us hl => by
 obtain ⟨a, b, c, d, e, rfl⟩ := len5 hl
 exact h a b c d e
theorem Qiv {s1 s2 s3 s4 : TS} {D : Ends} {σ : St} {H : Hp} (h : let r4 : TS := s4; let r3 : TS := tSeq s3 r4; let r2 : TS := tSeq s2 r3; tSeq s1 r2 D σ H) : (tSeq s1 (tSeq s2 (tSeq s3 (s4)))) D σ H := h
theorem Qad {s1 s2 s3 s4 s5 : TS} {D : Ends} {σ : St} {H : Hp} (h : let r5 : TS := s5; let r4 : TS := tSeq s4 r5; let r3 : TS := tSeq s3 r4; let r2 : TS := tSeq s2 r3; tSeq s1 r2 D σ H) : (tSeq s1 (tSeq s2 (tSeq s3 (tSeq s4 (s5))))) D σ H := h
end
end L2
namespace L2
open PySem PySem.Spec PyProof.Rows PySem.W
section
variable {prog : Program} {w : World} {A : Around} {R : Result → Shared → Prop} {I : Addr} {fp wr : List Addr} {n : Nat} {P : Nat → Value → Prop} {St : Nat → Heap → Prop}
end
section
variable {prog : Program} {w : World} {A : Around} {E : Value → Shared → Prop} {s : Shared} {l : Addr} {xs : Array (Int × Tok)}
end
section
variable {X : Cx}
end
section
variable {X : Cx}
end
end L2
namespace Nb
open PySem L2
def top (i : Nat) : Stmt := PySem.Challenge.pw_nonebetter_k66_rows_of_books.main.body.getD i (.Pass ⟨0, 0, 0, 0⟩)
abbrev Qdr : Stmt := top 16
abbrev Qds : Stmt := top 17
abbrev Kw : Stmt := top 18
inductive BR where
 | days (n : Int)
 | bench (b : Str) (r : Int)
 | shut (b : Str) (f t : Int)
 | store (s : Str) (m f : Int)
 | work (w : Str)
 | way (w v : Str) (l c : Int)
 | use (k : Fin 3) (w v t : Str) (m : Int)
 | after (w x : Str) (g : Int)
 | late (w : Str) (d c : Int)
def useW : Fin 3 → Str
 | 0 => "uses"
 | 1 => "takes"
 | 2 => "gives"
def BR.word : BR → Str
 | .days _ => "days"
 | .bench _ _ => "bench"
 | .shut _ _ _ => "shut"
 | .store _ _ _ => "store"
 | .work _ => "work"
 | .way _ _ _ _ => "way"
 | .use k _ _ _ _ => useW k
 | .after _ _ _ => "after"
 | .late _ _ _ => "late"
def BR.names : BR → List Str
 | .days _ => []
 | .bench b _ => [b]
 | .shut b _ _ => [b]
 | .store s _ _ => [s]
 | .work w => [w]
 | .way w v _ _ => [w, v]
 | .use _ w v t _ => [w, v, t]
 | .after w x _ => [w, x]
 | .late w _ _ => [w]
def BR.nums : BR → List Int
 | .days n => [n]
 | .bench _ r => [r]
 | .shut _ f t => [f, t]
 | .store _ m f => [m, f]
 | .work _ => []
 | .way _ _ l c => [l, c]
 | .use _ _ _ _ m => [m]
 | .after _ _ g => [g]
 | .late _ d c => [d, c]
def BR.key (r : BR) : List Key := Sum.inr r.word :: r.names.map Sum.inr
def BR.cells (r : BR) : List Key := r.key ++ r.nums.map Sum.inl
def BR.own : BR → List Str
 | .work w => [w]
 | .way w _ _ _ => [w]
 | .use _ w _ _ _ => [w]
 | .after w x _ => [w, x]
 | .late w _ _ => [w]
 | _ => []
def BR.ok (n : Int) : BR → Prop
 | .days m => m = n
 | .bench _ r => 0 ≤ r ∧ r ≤ 99
 | .shut _ f t => 0 ≤ f ∧ f < t ∧ t ≤ n
 | .store _ m f => 0 ≤ f ∧ f ≤ m ∧ m ≤ 999
 | .work _ => True
 | .way _ _ l c => 1 ≤ l ∧ l ≤ n ∧ 0 ≤ c ∧ c ≤ 999999
 | .use _ _ _ _ m => 1 ≤ m ∧ m ≤ 99
 | .after w x g => w ≠ x ∧ 0 ≤ g ∧ g ≤ n
 | .late _ d c => 0 ≤ d ∧ d ≤ n ∧ 1 ≤ c ∧ c ≤ 999
def Apart (r q : BR) : Prop := r.word = "shut" ∨ q.word = "shut" ∨ r.key ≠ q.key
theorem Apart.symm {r q : BR} (h : Apart r q) : Apart q r := by
 rcases h with h | h | h
 ·exact .inr (.inl h)
 ·exact .inl h
 ·exact .inr (.inr h.symm)
theorem Qet {r q : BR} (h : r.word ≠ q.word) : Apart r q := .inr (.inr fun z => h (by injection z with z1; injection z1))
structure WB (n : Int) (B : List BR) : Prop where
 ok : ∀ r ∈ B, r.ok n
 nd : B.Pairwise Apart
 ref : ∀ r ∈ B, ∀ w ∈ r.own, BR.work w ∈ B
 len : B.length ≤ 400
 few : ∃ nm : List Str, nm.length ≤ 5 ∧ ∀ r ∈ B, ∀ w ∈ r.own, w ∈ nm
def BR.kind : BR → Nat
 | .days _ => 0
 | .bench _ _ => 1
 | .shut _ _ _ => 2
 | .store _ _ _ => 3
 | .work _ => 4
 | .way _ _ _ _ => 5
 | .use k _ _ _ _ => 6 + k.val
 | .after _ _ _ => 9
 | .late _ _ _ => 10
def wordOf : Nat → Str
 | 0 => "days"
 | 1 => "bench"
 | 2 => "shut"
 | 3 => "store"
 | 4 => "work"
 | 5 => "way"
 | 6 => "uses"
 | 7 => "takes"
 | 8 => "gives"
 | 9 => "after"
 | _ => "late"
theorem Kb (r : BR) : r.word = wordOf r.kind := by
 cases r with
 | use k _ _ _ _ => match k with | 0 => rfl | 1 => rfl | 2 => rfl
 | _ => rfl
theorem Vs (r : BR) : r.kind < 11 := by
 cases r with
 | use k _ _ _ _ => show 6 + k.val < 11; omega
 | days n => show (0 : Nat) < 11; decide
 | bench b r => show (1 : Nat) < 11; decide
 | shut b f t => show (2 : Nat) < 11; decide
 | store b m f => show (3 : Nat) < 11; decide
 | work w => show (4 : Nat) < 11; decide
 | way w v l c => show (5 : Nat) < 11; decide
 | after w x g => show (9 : Nat) < 11; decide
 | late w d c => show (10 : Nat) < 11; decide
theorem Kc : ∀ i, i < 11 → ∀ j, j < 11 → wordOf i = wordOf j → i = j := by decide +kernel
theorem Zn (r : BR) {k : Nat} (hk : k < 11) : r.word = wordOf k ↔ r.kind = k := ⟨fun h => Kc _ (Vs r) _ hk (by rw [← Kb]; exact h), fun h => by rw [Kb, h]⟩
theorem Zr {r q : BR} (h : r.kind ≠ q.kind) : Apart r q := Qet fun z => h (Kc _ (Vs r) _ (Vs q) (by rw [← Kb, ← Kb]; exact z))
theorem Qiw {r : BR} (h : r.kind = 5) : ∃ w v l c, r = .way w v l c := by
 cases r with
 | way w v l c => exact ⟨w, v, l, c, rfl⟩
 | use k _ _ _ _ => exact absurd (show 6 + k.val = 5 from h) (by omega)
 | _ => exact nomatch h
theorem Qgr {r : BR} (h : r.kind = 4) : ∃ w, r = .work w := by
 cases r with
 | work w => exact ⟨w, rfl⟩
 | use k _ _ _ _ => exact absurd (show 6 + k.val = 4 from h) (by omega)
 | _ => exact nomatch h
theorem Qgs {r : BR} (h : r.kind = 10) : ∃ w d c, r = .late w d c := by
 cases r with
 | late w d c => exact ⟨w, d, c, rfl⟩
 | use k _ _ _ _ => exact absurd (show 6 + k.val = 10 from h) (by omega)
 | _ => exact nomatch h
theorem Qeu {r : BR} (h : r.kind = 9) : ∃ w x g, r = .after w x g := by
 cases r with
 | after w x g => exact ⟨w, x, g, rfl⟩
 | use k _ _ _ _ => exact absurd (show 6 + k.val = 9 from h) (by omega)
 | _ => exact nomatch h
theorem Qdt {r : BR} (h : r.word = "way") : ∃ w v l c, r = .way w v l c := Qiw ((Zn r (k := 5) (by decide)).mp h)
theorem Vt {r : BR} (h : r.word = "work") : ∃ w, r = .work w := Qgr ((Zn r (k := 4) (by decide)).mp h)
theorem Qbt {r : BR} (h : r.word = "late") : ∃ w d c, r = .late w d c := Qgs ((Zn r (k := 10) (by decide)).mp h)
theorem Kd {r : BR} (h : r.word = "after") : ∃ w x g, r = .after w x g := Qeu ((Zn r (k := 9) (by decide)).mp h)
def fl (x : Str) : Nat := x.cps.getD 0 0
def RowsB (H : Hp) (vs : List V) (B : List BR) : Prop := RowsL H vs (B.map BR.cells)
theorem Yt (r : BR) : atI (r.cells.map kV) 0 = some (.str r.word) := by cases r <;> rfl
theorem RowsB.get {H : Hp} {vs : List V} {B : List BR} (h : RowsB H vs B) {i : Nat} {v : V} (e : vs[i]? = some v) : ∃ r l, B[i]? = some r ∧ v = .ref l ∧ H l = some (.lst (r.cells.map kV)) := by
 obtain ⟨ks, e1, l, e2, h1⟩ := Qy h e
 rw [zK] at e1
 obtain ⟨r, e3, e4⟩ := jZb.mp e1
 exact ⟨r, l, e3, e2, by rw [e4]; exact h1⟩
theorem RowsB.imp {H H' : Hp} {vs : List V} {B : List BR} (h : RowsB H vs B) (f : ∀ l (r : BR), V.ref l ∈ vs → H l = some (.lst (r.cells.map kV)) → H' l = some (.lst (r.cells.map kV))) : RowsB H' vs B := by
 unfold RowsB at h ⊢
 induction B generalizing vs with
 | nil => cases h; exact .nil
 | cons r B ih =>
  cases h with
  | cons z t =>
   obtain ⟨l, e, h1⟩ := z
   exact .cons ⟨l, e, f l r (by rw [e]; exact zX) h1⟩ (ih t fun l r hm => f l r (xX _ hm))
theorem RowsB.same {H H' : Hp} {vs : List V} {B : List BR} (h : RowsB H vs B) (s : Same H H') : RowsB H' vs B := h.imp fun _ _ _ z => s _ _ z
theorem RowsB.length {H : Hp} {vs : List V} {B : List BR} (h : RowsB H vs B) : vs.length = B.length := by
 have := Paired.length h
 rwa [jX] at this
theorem RowsB.snoc {H : Hp} {vs : List V} {B : List BR} {r : BR} {l : Addr} (h : RowsB H vs B) (z : H l = some (.lst (r.cells.map kV))) : RowsB H (vs ++ [.ref l]) (B ++ [r]) := by
 unfold RowsB at h ⊢
 rw [kK]
 exact Paired.snoc h ⟨l, rfl, z⟩
theorem Ke {α β : Type} {R : α → β → Prop} {xs xs' : List α} {ys ys' : List β} (h1 : Paired R xs ys) (h2 : Paired R xs' ys') : Paired R (xs ++ xs') (ys ++ ys') := by
 induction h1 with
 | nil => exact h2
 | cons z _ ih => exact .cons z ih
theorem RowsB.app {H : Hp} {vs vs' : List V} {B B' : List BR} (h : RowsB H vs B) (h' : RowsB H vs' B') : RowsB H (vs ++ vs') (B ++ B') := by
 unfold RowsB at h h' ⊢
 rw [kK]
 exact Ke h h'
def Qev (ys : List V) : Prop := ∀ s r, ys ≠ V.str s :: r
theorem RowsB.noRow {H : Hp} {vs : List V} {B : List BR} (h : RowsB H vs B) : Qev vs := fun s r e => by
 subst e
 obtain ⟨_, _, _, e, _⟩ := h.get (i := 0) (v := .str s) rfl
 cases e
theorem Qix {ys : List V} (h : Qev ys) (r : BR) : r.cells.map kV ≠ ys := fun e => h r.word (r.cells.map kV).tail (by rw [← e]; cases r <;> rfl)
theorem RowsB.updL {H : Hp} {vs : List V} {B : List BR} {g : Addr} {ys zs : List V} (h : RowsB H vs B) (hg : H g = some (.lst ys)) (n : Qev ys) : RowsB (upd H g (.lst zs)) vs B := h.imp fun l r _ z => by
 rw [Qk (Yx z hg fun e => Qix n r (HO.lst.inj e))]
 exact z
structure Dr (K : Fg) (H : Hp) (l : Addr) (ds : List Int) : Prop where
 lst : SqL K H l (ds.map V.int)
 pos : ∀ d ∈ ds, 0 ≤ d ∧ d < 2147483648
theorem Dr.same {K : Fg} {H H' : Hp} {l : Addr} {ds : List Int} (h : Dr K H l ds) (e : Same H H') : Dr K H' l ds := ⟨e.seq h.lst, h.pos⟩
theorem Dr.get {K : Fg} {H : Hp} {l : Addr} {ds : List Int} (h : Dr K H l ds) (k : Int) (h0 : 0 ≤ k) (h1 : k < (ds.length : Int)) : ∃ z : Int, atI (ds.map V.int) k = some (.int z) ∧ 0 ≤ z ∧ z < 2147483648 := by
 have hk : k.toNat < ds.length := by omega
 have ek : k = ((k.toNat : Nat) : Int) := by omega
 have q : atI (ds.map V.int) ((k.toNat : Nat) : Int) = some (.int ds[k.toNat]) := Qgf (by rw [zK, gE hk]; rfl)
 rw [← ek] at q
 exact ⟨_, q, h.pos _ (List.getElem_mem hk)⟩
def Qgt (K : Fg) : Sp := fun vs H Q _ => ∃ (a : Addr) (ns : List Int) (k : Int), vs = [.ref a, .int k] ∧ SqL K H a (ns.map V.int) ∧ 0 ≤ k ∧ k ≤ 1000 ∧ ∀ z : Int, 0 ≤ z → z < 2147483648 → Q (.int z) H
def Qbu (K : Fg) : Sp := fun vs H Q _ => ∃ (a : Addr) (ns : List Int) (m : Nat), vs = [.ref a, .int (m : Int)] ∧ SqL K H a (ns.map V.int) ∧ m ≤ 1000 ∧ ∀ (l : Addr) (ds : List Int) (H' : Hp), ds.length = m → Same H H' → Dr K H' l ds → Q (.ref l) H'
theorem Qcs {t1 t2 : TS} {D : Ends} {σ : St} {H : Hp} (Pv : St → Hp → Prop) (h2 : ∀ σ' H', Pv σ' H' → t2 D σ' H') (h1 : (∀ σ' H', Pv σ' H' → t2 D σ' H') → t1 { D with nx := t2 D } σ H) : tSeq t1 t2 D σ H := h1 h2
theorem Qiy {t1 t2 : TS} {D : Ends} {i : Nat} {x : V} {σ : St} {H : Hp} (Pv : St → Hp → Prop) (h2 : ∀ σ' H', Pv σ' H' → t2 D σ' H') (h1 : (∀ σ' H', Pv σ' H' → t2 D σ' H') → t1 { D with nx := t2 D } (σ.set i (some x)) H) : Kq i x σ H ({ D with nx := tSeq t1 t2 D } : Ends).nx := h1 h2
section
variable {P : Program} {w : World} {K : Fg} {mg : Str → Option Value} {base : Heap}
theorem Qlv : FnScope ["_law_found"] ["_law_found"] (Qi Qdr) := ⟨rfl, rfl, rfl, by decide +kernel, rfl, by decide +kernel, by decide +kernel⟩
theorem Qlw (F : Fn K mg "_law_whole" Qdr) (M : Mg mg) : Cal P w K mg base 1 "_law_whole" ["_law_found"] (Qge) := by
 refine Ye F Qlv (fun _ _ _ _ _ _ => bind1 (fun _ => rfl)) (fun vs H Q E h => ?_) (fun f cdv A outer s H vs Q E hr h => ?_)
 ·obtain ⟨z, rfl, _⟩ := h
  rfl
 obtain ⟨z, rfl, q⟩ := h
 refine ⟨_, (Qj (Xe (Qav (Xm Qdn rfl M.isinstance Zu (Qa (pv 0) (Qa (Qlp M.int_ Qbl) Qg))) (Qau (pe_not (Xm Qdn rfl M.isinstance Zu (Qa (pv 0) (Qa (Qlp M.bool_ Qlq) Qg)))))))), ?_⟩
 refine ⟨_, rfl, _, "int", true, rfl, .inl ⟨rfl, rfl⟩, true, rfl, ?_⟩
 refine iteT ⟨_, rfl, _, "bool", false, rfl, .inr (.inl ⟨rfl, rfl⟩), false, rfl, q⟩
theorem scMix10 : FnScope ["_law_script", "_law_k", "_law_cell", "_law_number"] ["_law_script", "_law_k"] (Qi Qds) := ⟨rfl, rfl, rfl, by decide +kernel, rfl, by decide +kernel, by decide +kernel⟩
theorem Qlx (F : Fn K mg "_law_mix" Qds) (M : Mg mg) : Cal P w K mg base 1 "_law_mix" ["_law_script", "_law_k"] (Qgt K) := by
 refine Ye F scMix10 (fun _ _ _ _ _ _ => We (fun _ _ => rfl)) (fun vs H Q E h => ?_) (fun f cdv A outer s H vs Q E hr h => ?_)
 ·obtain ⟨a, ns, k, rfl, _⟩ := h
  rfl
 obtain ⟨a, ns, k, rfl, hS, h0, h1, q⟩ := h
 refine ⟨_, (Qh (Qq (i := 2) scMix10.nd rfl (Or.inl rfl) Qe)
  (Qh (Yu (Qr op_gt (Xm Yf rfl M.len Ko (Qa (pv 0) Qg)) Qe (Qv _)) (Qj (Qq (i := 2) scMix10.nd rfl (Or.inl rfl) (Qo Qm (pv 0) (Ql Xl (pv 1) (Xm (Ja rfl) rfl M.min Qbk (Qa Qe (Qa (Xm Yf rfl M.len Ko (Qa (pv 0) Qg)) Qg)))) (fun _ _ => rfl)))) Xj)
  (Qh (Qq (i := 3) scMix10.nd rfl (Or.inl rfl) (Ql Xl (Ql Qt (pv 2) (Ql Zl Qe (Ql Qt (pv 1) Qe))) Qe))
  (Qh (Qq (i := 3) scMix10.nd rfl (Or.inl rfl) (Ql Xl (Ql Qt (Ql Zl (pv 3) (pv 3)) (pv 1)) Qe))
  (Qj (Xe (Ql Xl (Ql Zl (pv 3) (pv 3)) Qe))))))), ?_⟩
 refine Qad ?_
 intro rT5 rT4 rT3 rT2
 have fin : ∀ x : Int, Q (.int (x % 2147483587)) H := fun x => q _ (yV _ (by decide)) (Int.lt_trans (yZ _ (by decide)) (by decide))
 have b1 : ∀ x : Int, -(2 ^ 64) < x % 2147483629 ∧ x % 2147483629 < 2 ^ 64 := fun x => ⟨by omega, by omega⟩
 refine ⟨_, rfl, a, _, rfl, .inl hS, _, _, rfl, rfl, _, rfl, ite2 (fun c => ?_) (fun c => ?_)⟩
 ·have c' : (0 : Int) < (((ns.map V.int).length : Nat) : Int) := kX c
  have pm : (0 : Int) < (if (((ns.map V.int).length : Nat) : Int) < 63 then (((ns.map V.int).length : Nat) : Int) else 63) := by split <;> omega
  have pl : (if (((ns.map V.int).length : Nat) : Int) < 63 then (((ns.map V.int).length : Nat) : Int) else 63) ≤ (((ns.map V.int).length : Nat) : Int) := by split <;> omega
  obtain ⟨v3, hv3⟩ := atNs (ns := ns) (k := k % (if (((ns.map V.int).length : Nat) : Int) < 63 then (((ns.map V.int).length : Nat) : Int) else 63)) (yV _ (Int.ne_of_gt pm)) (Int.lt_of_lt_of_le (yZ _ pm) pl)
  refine ⟨_, rfl, _, rfl, _, rfl, _, _, rfl, .inl hS, _, _, rfl, _, _, rfl, rfl, pm, _, _, _, _, rfl, rfl, hS, hv3, ?_⟩
  exact ⟨_, rfl, _, rfl, _, _, rfl, rfl, _, _, rfl, rfl, .inl ⟨by decide, by decide⟩, _, _, rfl, rfl, _, _, rfl, rfl, (by show (0 : Int) < _; decide +kernel), _, rfl, _, rfl, _, _, rfl, rfl, .inl (b1 _), _, rfl, _, _, rfl, rfl, _, _, rfl, rfl, (by show (0 : Int) < _; decide +kernel), _, rfl, _, rfl, _, _, rfl, rfl, .inl (b1 _), _, _, rfl, rfl, (by show (0 : Int) < _; decide +kernel), fin _⟩
 ·exact ⟨_, rfl, _, rfl, _, _, rfl, rfl, _, _, rfl, rfl, .inl ⟨by decide, by decide⟩, _, _, rfl, rfl, _, _, rfl, rfl, (by show (0 : Int) < _; decide +kernel), _, rfl, _, rfl, _, _, rfl, rfl, .inl (b1 _), _, rfl, _, _, rfl, rfl, _, _, rfl, rfl, (by show (0 : Int) < _; decide +kernel), _, rfl, _, rfl, _, _, rfl, rfl, .inl (b1 _), _, _, rfl, rfl, (by show (0 : Int) < _; decide +kernel), fin _⟩
theorem Qly {ds : List Int} {z : Int} (h : ∀ d ∈ ds, 0 ≤ d ∧ d < 2147483648) (hz : 0 ≤ z ∧ z < 2147483648) : ∀ d ∈ ds ++ [z], 0 ≤ d ∧ d < 2147483648 := fun d hd => by
 rcases yX.mp hd with y | y
 ·exact h d y
 ·rw [jJ.mp y]; exact hz
theorem scDraws10 : FnScope ["_law_script", "_law_many_here", "_law_found", "_law_k", "_law_cell"] ["_law_script", "_law_many_here"] (Qi Kw) := ⟨rfl, rfl, rfl, by decide +kernel, rfl, by decide +kernel, by decide +kernel⟩
theorem Qgu (F : Fn K mg "_law_draws" Kw) (M : Mg mg) (cl_mix : Cal P w K mg base 1 "_law_mix" ["_law_script", "_law_k"] (Qgt K)) : Cal P w K mg base 2 "_law_draws" ["_law_script", "_law_many_here"] (Qbu K) := by
 refine Ye F scDraws10 (fun _ _ _ _ _ _ => We (fun _ _ => rfl)) (fun vs H Q E h => ?_) (fun f cdv A outer s H vs Q E hr h => ?_)
 ·obtain ⟨a, ns, m, rfl, _⟩ := h
  rfl
 obtain ⟨a, ns, m, rfl, hS, h1, q⟩ := h
 refine ⟨_, (Qh (Qq (i := 2) scDraws10.nd rfl (Or.inl rfl) (Xr Qg))
  (Qh (Yu (PW.pt (Qff (Qr Yk (Xm Yf rfl M.len Ko (Qa (pv 0) Qg)) Qe (Qv _)) (Qdg (Qr Yk (Ql Xl (Qo Qm (pv 0) Qe (fun _ _ => rfl)) Qe) Qe (Qv _))))) (Qh (Xk PassesOwn.never rfl (Xu rfl M.range_ (Qa (pv 1) Qg)) (Qn (i := 3) scDraws10.nd rfl (Or.inl rfl) (Or.inl rfl)) (Qj (Xh (Yz PySem.F.plainAttrs_list PySem.F.slot_list_append PySem.F.type_list_append Qw (pv 2) (Qa (Xx cl_mix (hr.mono (by decide)) (Qa (pv 0) (Qa (pv 3) Qg))) Qg)))))
  (Qj (Xe (pv 2)))) Xj)
  (Qh (Qq (i := 4) scDraws10.nd rfl (Or.inl rfl) Qe)
  (Qh (Xk PassesOwn.never rfl (Xu rfl M.range_ (Qa (pv 1) Qg)) (Qn (i := 3) scDraws10.nd rfl (Or.inl rfl) (Or.inl rfl)) (Qh (Yu (Qr Yk (Ql Xl (pv 3) Qe) Qe (Qv _)) (Qh (Qq (i := 4) scDraws10.nd rfl (Or.inl rfl) Qe)
  (Qj (Yu (Qr Qfo (Ql Ya (pv 3) Qe) (Xm (Ja rfl) rfl M.min Qbk (Qa Qe (Qa (Xm Yf rfl M.len Ko (Qa (pv 0) Qg)) Qg))) (Qv _)) (Qj (Qq (i := 4) scDraws10.nd rfl (Or.inl rfl) (Ql Ya (Qo Qm (pv 0) (Ql Ya (pv 3) Qe) (fun _ _ => rfl)) Qe))) Xj))) Xj)
  (Qh (Xh (Yz PySem.F.plainAttrs_list PySem.F.slot_list_append PySem.F.type_list_append Qw (pv 2) (Qa (Ql Xl (pv 4) Qe) Qg)))
  (Qj (Qq (i := 4) scDraws10.nd rfl (Or.inl rfl) (Ql Ya (pv 4) Qe))))))
  (Qj (Xe (pv 2))))))), ?_⟩
 refine Qad ?_
 intro rT5 rT4 rT3 rT2
 have hz : (2000 : Nat) < sizeLine := by decide
 refine ⟨by show 0 ≤ sizeLine; decide, fun g hg0 => ?_⟩
 have s0 := Qc hg0 (.lst [])
 refine ⟨_, rfl, a, _, rfl, .inl (s0.seq hS), rfl, _, rfl, ite2 (fun c => iteT ?_) (fun c => ?_)⟩
 ·let Pv1 : Nat → St → Hp → Prop := fun i σ H1 => ∃ (ds : List Int) (u : Option V), σ = [some (.ref a), some (.int (m : Int)), some (.ref g), u, none] ∧ ds.length = i ∧ H1 g = some (.lst (ds.map V.int)) ∧ (∀ d ∈ ds, 0 ≤ d ∧ d < 2147483648) ∧ Same H H1
  refine ⟨_, rfl, (m : Int), rfl, by omega, by omega, Yd (lo := 0) (n := ((m : Nat) : Int).toNat) Pv1 ⟨[], none, rfl, rfl, Qd, (fun _ z => nomatch z), s0⟩ ?_ ?_⟩
  ·rintro i σ H1 hi ⟨ds, u, rfl, rfl, hg, hp, s1⟩
   refine ⟨_, rfl, .inl ⟨rfl, _, Qb hg⟩, _, rfl, _, rfl, a, ns, _, rfl, s1.seq hS, by omega, by omega, fun z z0 z1 => ⟨g, _, _, rfl, rfl, hg, by rw [jX]; omega, ?_⟩⟩
   exact ⟨ds ++ [z], _, rfl, by rw [jY]; rfl, by rw [Qd, kK]; rfl, Qly hp ⟨z0, z1⟩, fun b o e => by rw [Qk (Qp e hg0)]; exact s1 _ _ e⟩
  ·rintro σ H1 ⟨ds, u, rfl, hl, hg, hp, s1⟩
   exact ⟨_, rfl, q g ds H1 (by omega) s1 ⟨Qb hg, hp⟩⟩
 have hpos : 0 < ns.length := by
  rcases Nat.eq_zero_or_pos ns.length with z | z
  ·exact absurd (yQ (congrArg V.int (show (((ns.map V.int).length : Nat) : Int) = 0 by rw [jX, z]; rfl))) c
  ·exact z
 obtain ⟨v0, hv0⟩ := atNs (ns := ns) (k := 0) (Int.le_refl 0) (by rw [jX]; omega)
 refine ⟨_, rfl, a, _, _, _, rfl, rfl, s0.seq hS, hv0, _, _, rfl, rfl, (by show (0 : Int) < _; decide +kernel), rfl, _, rfl, ite2 (fun c2 => ?_) (fun c2 => ?_)⟩
 ·let Pv2 : Nat → St → Hp → Prop := fun i σ H1 => ∃ (ds : List Int) (u : Option V), σ = [some (.ref a), some (.int (m : Int)), some (.ref g), u, none] ∧ ds.length = i ∧ H1 g = some (.lst (ds.map V.int)) ∧ (∀ d ∈ ds, 0 ≤ d ∧ d < 2147483648) ∧ Same H H1
  refine ⟨_, rfl, (m : Int), rfl, by omega, by omega, Yd (lo := 0) (n := ((m : Nat) : Int).toNat) Pv2 ⟨[], none, rfl, rfl, Qd, (fun _ z => nomatch z), s0⟩ ?_ ?_⟩
  ·rintro i σ H1 hi ⟨ds, u, rfl, rfl, hg, hp, s1⟩
   refine ⟨_, rfl, .inl ⟨rfl, _, Qb hg⟩, _, rfl, _, rfl, a, ns, _, rfl, s1.seq hS, by omega, by omega, fun z z0 z1 => ⟨g, _, _, rfl, rfl, hg, by rw [jX]; omega, ?_⟩⟩
   exact ⟨ds ++ [z], _, rfl, by rw [jY]; rfl, by rw [Qd, kK]; rfl, Qly hp ⟨z0, z1⟩, fun b o e => by rw [Qk (Qp e hg0)]; exact s1 _ _ e⟩
  ·rintro σ H1 ⟨ds, u, rfl, hl, hg, hp, s1⟩
   exact ⟨_, rfl, q g ds H1 (by omega) s1 ⟨Qb hg, hp⟩⟩
 have mx : (if (((ns.map V.int).length : Nat) : Int) < 63 then (((ns.map V.int).length : Nat) : Int) else 63) ≤ (((ns.map V.int).length : Nat) : Int) := by split <;> omega
 let Pv3 : Nat → St → Hp → Prop := fun i σ H1 => ∃ (ds : List Int) (u : Option V) (c : Int), σ = [some (.ref a), some (.int (m : Int)), some (.ref g), u, some (.int c)] ∧ ds.length = i ∧ H1 g = some (.lst (ds.map V.int)) ∧ (∀ d ∈ ds, 0 ≤ d ∧ d < 2147483648) ∧ Same H H1
 refine ⟨_, rfl, (m : Int), rfl, by omega, by omega, Yd (lo := 0) (n := ((m : Nat) : Int).toNat) Pv3 ⟨[], none, 0, rfl, rfl, Qd, (fun _ z => nomatch z), s0⟩ ?_ ?_⟩
 ·rintro i σ H1 hi ⟨ds, u, c, rfl, rfl, hg, hp, s1⟩
  show tSeq _ _ _ _ _
  refine Qcs (fun σ' H' => ∃ c : Int, σ' = [some (.ref a), some (.int (m : Int)), some (.ref g), some (.int (0 + (ds.length : Int))), some (.int c)] ∧ H' = H1) ?_ fun REST => ?_
  ·rintro σ' H' ⟨c, rfl, rfl⟩
   refine ⟨_, rfl, .inl ⟨rfl, _, Qb hg⟩, _, rfl, _, _, rfl, rfl, (by show (0 : Int) < _; decide +kernel), g, _, _, rfl, rfl, hg, by rw [jX]; omega, ?_⟩
   exact ⟨_, rfl, _, _, rfl, rfl, ⟨by decide, by decide⟩, ds ++ [c % 5040], _, _, rfl, by rw [jY]; rfl, by rw [Qd, kK]; rfl, Qly hp ⟨yV _ (by decide), by have := yZ c (show (0 : Int) < 5040 by decide); omega⟩, fun b o e => by rw [Qk (Qp e hg0)]; exact s1 _ _ e⟩
  ·refine ⟨_, rfl, _, _, rfl, rfl, (by show (0 : Int) < _; decide +kernel), rfl, _, rfl, ite2 (fun c1 => ?_) (fun c1 => REST _ _ ⟨_, rfl, rfl⟩)⟩
   refine ⟨_, rfl, _, _, rfl, rfl, ⟨by decide, by decide⟩, _, rfl, a, _, rfl, .inl (s1.seq hS), _, _, rfl, _, _, rfl, rfl, _, rfl, ite2 (fun c2 => ?_) (fun c2 => REST _ _ ⟨_, rfl, rfl⟩)⟩
   have c3 := kX c2
   obtain ⟨v, hv⟩ := atNs (ns := ns) (k := (0 + (ds.length : Int)) / 30) (by omega) (Int.lt_of_lt_of_le c3 mx)
   exact ⟨_, rfl, _, rfl, _, _, rfl, rfl, ⟨by decide, by decide⟩, a, _, _, _, rfl, rfl, s1.seq hS, hv, _, _, rfl, rfl, ⟨by decide, by decide⟩, REST _ _ ⟨_, rfl, rfl⟩⟩
 ·rintro σ H1 ⟨ds, u, c, rfl, hl, hg, hp, s1⟩
  exact ⟨_, rfl, q g ds H1 (by omega) s1 ⟨Qb hg, hp⟩⟩
end
abbrev Qae : Stmt := top 19
theorem fl_app {x y : Str} (h : 1 ≤ x.length) : fl (x ++ y) = fl x := by
 show (x.cps ++ y.cps).getD 0 0 = x.cps.getD 0 0
 have h' : 0 < x.cps.size := h
 rw [Array.getD_eq_getD_getElem?, Array.getD_eq_getD_getElem?, Array.getElem?_append_left h']
theorem len_app (x y : Str) : (x ++ y).length = x.length + y.length := by
 show (x.cps ++ y.cps).size = _
 rw [Array.size_append]
 rfl
theorem atS {x : Str} {z : Int} (h0 : 0 ≤ z) (h1 : z < (x.length : Nat)) : ∃ c, atI x.cps.toList z = some c := by
 have e : z = ((z.toNat : Nat) : Int) := by omega
 have h2 : z.toNat < x.cps.toList.length := by
  have h3 : x.length = x.cps.toList.length := by show x.cps.size = _; exact jXb.symm
  omega
 exact ⟨_, by rw [e]; exact Qcn (gE h2)⟩
theorem Qlz : ("abcdefghijklmnopqrstuvwxyz" : Str).length = 26 := by decide +kernel
section
variable {P : Program} {w : World} {K : Fg} {mg : Str → Option Value} {base : Heap}
theorem Qiz {f : Int} (h0 : 0 ≤ f) (h1 : f < 26) : atI ("abcdefghijklmnopqrstuvwxyz" : Str).cps.toList f = some (97 + f.toNat) := by
 have : ∀ k : Fin 26, atI ("abcdefghijklmnopqrstuvwxyz" : Str).cps.toList ((k.val : Nat) : Int) = some (97 + k.val) := by decide +kernel
 have h := this ⟨f.toNat, by omega⟩
 rw [show (((⟨f.toNat, by omega⟩ : Fin 26).val : Nat) : Int) = f by show ((f.toNat : Nat) : Int) = f; omega] at h
 exact h
def Qaf : Sp := fun vs H Q _ => ∃ (k z : Int), vs = [.int k, .int z] ∧ ∀ x : Str, fl x = 97 + ((z + k) % 26).toNat → x.length ≤ 12 → Q (.str x) H
theorem scName66 : FnScope ["_law_k", "_law_number", "_law_letters", "_law_found", "_law_j"] ["_law_k", "_law_number"] (Qi Qae) := ⟨rfl, rfl, rfl, by decide +kernel, rfl, by decide +kernel, by decide +kernel⟩
theorem Qja (F : Fn K mg "_law_name" Qae) (M : Mg mg) : Cal P w K mg base 1 "_law_name" ["_law_k", "_law_number"] (Qaf) := by
 refine Ye F scName66 (fun _ _ _ _ _ _ => We (fun _ _ => rfl)) (fun vs H Q E h => ?_) (fun f cdv A outer s H vs Q E hr h => ?_)
 ·obtain ⟨k, z, rfl, _⟩ := h
  rfl
 obtain ⟨k, z, rfl, q⟩ := h
 refine ⟨_, (Qh (Qq (i := 2) scName66.nd rfl (Or.inl rfl) Qz)
  (Qh (Qq (i := 3) scName66.nd rfl (Or.inl rfl) (Qo Qki (pv 2) (Ql Xl (Ql Qt (pv 1) (pv 0)) Qe) (fun _ _ => rfl)))
  (Qh (Qq (i := 1) scName66.nd rfl (Or.inl rfl) (Ql Ya (pv 1) Qe))
  (Qh (Xk PassesOwn.never rfl (Xu rfl M.range_ (Qa (Ql Xl (pv 1) Qe) Qg)) (Qn (i := 4) scName66.nd rfl (Or.inl rfl) (Or.inl rfl)) (Qh (Qq (i := 1) scName66.nd rfl (Or.inl rfl) (Ql Ya (pv 1) Qe))
  (Qj (Qq (i := 3) scName66.nd rfl (Or.inl rfl) (Ql Qei (pv 3) (Qo Qki (pv 2) (Ql Xl (pv 1) Qe) (fun _ _ => rfl)))))))
  (Qj (Xe (pv 3))))))), ?_⟩
 refine Qad ?_
 intro rT5 rT4 rT3 rT2
 have hz : (20000 : Nat) < sizeLine := by decide
 refine ⟨_, rfl, _, rfl, _, rfl, _, _, rfl, rfl, _, _, rfl, rfl, (by show (0 : Int) < _; decide +kernel), _, _, _, rfl, rfl, by rw [Qlz]; decide, Qiz (yV _ (by decide)) (yZ _ (by decide)), ?_⟩
 refine ⟨_, rfl, _, _, rfl, rfl, ⟨by decide, by decide⟩, ?_⟩
 have m0 := yV (z / 26) (show (4 : Int) ≠ 0 by decide)
 have m1 := yZ (z / 26) (show (0 : Int) < 4 by decide)
 let Pv4 : Nat → St → Hp → Prop := fun i σ H1 => H1 = H ∧ ∃ (zz : Int) (x : Str) (v : Option V), σ = [some (.int k), some (.int zz), some (.str "abcdefghijklmnopqrstuvwxyz"), some (.str x), v] ∧ fl x = 97 + ((z + k) % 26).toNat ∧ x.length = 1 + i
 refine ⟨_, rfl, _, _, rfl, rfl, (by show (0 : Int) < _; decide +kernel), z / 26 % 4, rfl, by omega, by omega, Yd (lo := 0) (n := (z / 26 % 4).toNat) Pv4 ⟨rfl, _, _, none, rfl, rfl, rfl⟩ ?_ ?_⟩
 ·rintro i σ H1 hi ⟨rfl, zz, x, v, rfl, hf, hx⟩
  refine ⟨_, rfl, _, _, rfl, rfl, ⟨by decide, by decide⟩, ?_⟩
  obtain ⟨c, ec⟩ := atS (x := "abcdefghijklmnopqrstuvwxyz") (z := zz / 4 % 26) (by omega) (by rw [Qlz]; omega)
  refine ⟨_, rfl, _, rfl, _, rfl, _, _, rfl, rfl, (by show (0 : Int) < _; decide +kernel), _, _, _, rfl, rfl, by rw [Qlz]; decide, ec, _, _, rfl, rfl, ?_, rfl, _, _, _, rfl, ?_, ?_⟩
  ·show x.length + 1 ≤ sizeLine
   omega
  ·rw [fl_app (by omega)]; exact hf
  ·rw [len_app, hx]
   show 1 + i + 1 = 1 + (i + 1)
   omega
 ·rintro σ H1 ⟨rfl, zz, x, v, rfl, hf, hx⟩
  exact ⟨_, rfl, q x hf (by omega)⟩
end
abbrev Kx : Stmt := top 20
inductive Thing : BR → Prop
 | bench (b r) : Thing (.bench b r)
 | shut (b f t) : Thing (.shut b f t)
 | store (s m f) : Thing (.store s m f)
structure ThOk (n : Int) (T : List BR) : Prop where
 ok : ∀ r ∈ T, r.ok n
 th : ∀ r ∈ T, Thing r
 nd : T.Pairwise Apart
theorem ThOk.snoc {n : Int} {T : List BR} {r : BR} (h : ThOk n T) (h1 : r.ok n) (h2 : Thing r) (h3 : ∀ q ∈ T, Apart q r) : ThOk n (T ++ [r]) := by
 refine ⟨fun q hq => ?_, fun q hq => ?_, ?_⟩
 ·rcases yX.mp hq with z | z
  ·exact h.ok q z
  ·rw [jJ.mp z]; exact h1
 ·rcases yX.mp hq with z | z
  ·exact h.th q z
  ·rw [jJ.mp z]; exact h2
 ·refine jZd.mpr ⟨h.nd, jYf _ _, fun a ha b hb => ?_⟩
  rw [jJ.mp hb]
  exact h3 a ha
section
variable {P : Program} {w : World} {K : Fg} {mg : Str → Option Value} {base : Heap}
theorem Qag {q : BR} {b : Str} {r : Int} (hq : Thing q) (h : ∀ b' m', q = .bench b' m' → b' ≠ b) : Apart q (.bench b r) := by
 cases hq with
 | bench b' r' =>
  refine .inr (.inr fun z => h b' r' rfl ?_)
  have z' : [(Sum.inr ("bench" : Str) : Key), Sum.inr b'] = [Sum.inr ("bench" : Str), Sum.inr b] := z
  injection z' with _ z2
  injection z2 with z3
  injection z3
 | shut b' f t => exact .inl rfl
 | store s m f => exact Zr (by show (3 : Nat) ≠ 1; decide)
theorem Qah {q : BR} {s : Str} {m f : Int} (hq : Thing q) (h : ∀ s' m' f', q = .store s' m' f' → s' ≠ s) : Apart q (.store s m f) := by
 cases hq with
 | bench b' r' => exact Zr (by show (1 : Nat) ≠ 3; decide)
 | shut b' f t => exact .inl rfl
 | store s' m' f' =>
  refine .inr (.inr fun z => h s' m' f' rfl ?_)
  have z' : [(Sum.inr ("store" : Str) : Key), Sum.inr s'] = [Sum.inr ("store" : Str), Sum.inr s] := z
  injection z' with _ z2
  injection z2 with z3
  injection z3
theorem Zo {ns : List Str} {i : Nat} {v : V} (h : (ns.map V.str)[i]? = some v) : ∃ n, ns[i]? = some n ∧ v = .str n := by
 rw [zK] at h
 cases e : ns[i]? with
 | none => rw [e] at h; cases h
 | some n => rw [e] at h; exact ⟨n, rfl, (Option.some.inj h).symm⟩
theorem Zd {qs : List Str} (h : qs.Nodup) {i : Nat} {b x : Str} (e : qs[i]? = some b) (hx : x ∈ qs.take i) : x ≠ b := by
 rintro rfl
 obtain ⟨j, hj, ej⟩ := List.getElem_of_mem hx
 rw [zQ] at hj
 obtain ⟨hi, ei⟩ := kQ.mp e
 rw [List.getElem_take] at ej
 have := (List.getElem_inj h).mp (ej.trans ei.symm)
 omega
theorem Yl {qs : List Str} {i : Nat} {b : Str} (e : qs[i]? = some b) : b ∈ qs.take (i + 1) := by
 rw [Zz e]; exact zV _ (jJ.mpr rfl)
theorem Yg {qs : List Str} {i : Nat} {b x : Str} (e : qs[i]? = some b) (h : x ∈ qs.take i) : x ∈ qs.take (i + 1) := by
 rw [Zz e]; exact jQa _ h
def Qbv (K : Fg) : Sp := fun vs H Q _ => ∃ (l q t : Addr) (ds : List Int) (n : Int) (qs ts : List Str), vs = [.ref l, .int 0, .int n, .ref q, .ref t] ∧ Dr K H l ds ∧ 44 ≤ ds.length ∧ 1 ≤ n ∧ n ≤ 12 ∧ SqL K H q (qs.map V.str) ∧ SqL K H t (ts.map V.str) ∧ qs.length ≤ 2 ∧ ts.length ≤ 2 ∧ qs.Nodup ∧ ts.Nodup ∧
 ∀ (g : Addr) (vs : List V) (B : List BR) (H' : Hp), Same H H' → H g = none → H' g = some (.lst vs) → RowsB H' vs B → ThOk n B → B.length ≤ 8 → Q (.ref g) H'
theorem scRooms66 : FnScope ["_law_draws_here", "_law_at", "_law_days", "_law_quays", "_law_stocks", "_law_found", "_law_k", "_law_bench_here", "_law_number", "_law_begin", "_law_store_here", "_law_full"] ["_law_draws_here", "_law_at", "_law_days", "_law_quays", "_law_stocks"] (Qi Kx) := ⟨rfl, rfl, rfl, by decide +kernel, rfl, by decide +kernel, by decide +kernel⟩
theorem Qgv (F : Fn K mg "_law_rooms" Kx) (M : Mg mg) : Cal P w K mg base 1 "_law_rooms" ["_law_draws_here", "_law_at", "_law_days", "_law_quays", "_law_stocks"] (Qbv K) := by
 refine Ye F scRooms66 (fun _ _ _ _ _ _ => bind5 (fun _ _ _ _ _ => rfl)) (fun vs H Q E h => ?_) (fun f cdv A outer s H vs Q E hr h => ?_)
 ·obtain ⟨l, q, t, ds, n, qs, ts, rfl, _⟩ := h
  rfl
 obtain ⟨l, q, t, ds, n, qs, ts, rfl, hD0, h44, n1, n12, hq, ht, lq, lt, nq, nt, qq⟩ := h
 refine ⟨_, (Qh (Qq (i := 5) scRooms66.nd rfl (Or.inl rfl) (Xr Qg))
  (Qh (Xk PassesOwn.never rfl (Vq true rfl M.enumerate_ (Qa (pv 3) Qg)) (Zt (K := K) (i := 6) (j := 7) rfl rfl scRooms66.nd rfl rfl rfl rfl) (Qh (Xh (Yz PySem.F.plainAttrs_list PySem.F.slot_list_append PySem.F.type_list_append Qw (pv 5) (Qa (Xr (Qa Qz (Qa (pv 7) (Qa (Ql Xl (Qo Qm (pv 0) (Ql Qt (Ql Qt (pv 1) Qe) (pv 6)) (fun _ _ => rfl)) Qe) Qg)))) Qg)))
  (Qj (Xk PassesOwn.never rfl (Qu (Xr (Qa (Qo Qm (pv 0) (Ql Qt (Ql Qt (pv 1) Qe) (pv 6)) (fun _ _ => rfl)) (Qa (Qo Qm (pv 0) (Ql Qt (Ql Qt (pv 1) Qe) (pv 6)) (fun _ _ => rfl)) Qg)))) (Qn (i := 8) scRooms66.nd rfl (Or.inl rfl) (Or.inl rfl)) (Qh (Qq (i := 9) scRooms66.nd rfl (Or.inl rfl) (Ql Xl (pv 8) (pv 2)))
  (Qj (Yu (Qr Yk (Ql Xl (Ql Ya (pv 8) Qe) Qe) Qe (Qv _)) (Qj (Xh (Yz PySem.F.plainAttrs_list PySem.F.slot_list_append PySem.F.type_list_append Qw (pv 5) (Qa (Xr (Qa Qz (Qa (pv 7) (Qa (pv 9) (Qa (Ql Qt (Ql Qt (pv 9) Qe) (Ql Xl (Ql Ya (pv 8) Qe) (Ql Zj (pv 2) (pv 9)))) Qg))))) Qg)))) Xj)))))))
  (Qh (Xk PassesOwn.never rfl (Vq true rfl M.enumerate_ (Qa (pv 4) Qg)) (Zt (K := K) (i := 6) (j := 10) rfl rfl scRooms66.nd rfl rfl rfl rfl) (Qh (Qq (i := 11) scRooms66.nd rfl (Or.inl rfl) (Ql Xl (Qo Qm (pv 0) (Ql Qt (Ql Qt (pv 1) Qe) (Ql Zl Qe (pv 6))) (fun _ _ => rfl)) Qe))
  (Qj (Xh (Yz PySem.F.plainAttrs_list PySem.F.slot_list_append PySem.F.type_list_append Qw (pv 5) (Qa (Xr (Qa Qz (Qa (pv 10) (Qa (pv 11) (Qa (Ql Xl (Ql Ya (Qo Qm (pv 0) (Ql Qt (Ql Qt (pv 1) Qe) (Ql Zl Qe (pv 6))) (fun _ _ => rfl)) Qe) (Ql Qt (pv 11) Qe)) Qg))))) Qg))))))
  (Qj (Xe (pv 5)))))), ?_⟩
 refine Qiv ?_
 intro rT4 rT3 rT2
 have hz : (20000 : Nat) < sizeLine := by decide
 have lqm : (qs.map V.str).length = qs.length := jX ..
 have ltm : (ts.map V.str).length = ts.length := jX ..
 refine ⟨by show 0 ≤ sizeLine; decide, fun g hg => ?_⟩
 have s0 := Qc hg (.lst [])
 have hg0 : upd H g (.lst []) g = some (.lst []) := Qd
 generalize upd H g (.lst []) = H0 at s0 hg0 ⊢
 let Pv5 : Nat → St → Hp → Prop := fun i σ H1 => ∃ (v6 v7 v8 v9 : Option V) (vs : List V) (B : List BR), σ = [some (.ref l), some (.int 0), some (.int n), some (.ref q), some (.ref t), some (.ref g), v6, v7, v8, v9, none, none] ∧ H1 g = some (.lst vs) ∧ RowsB H1 vs B ∧ ThOk n B ∧ ((∀ r ∈ B, ∀ s m f, r ≠ .store s m f) ∧ (∀ r ∈ B, ∀ b m, r = .bench b m → b ∈ qs.take (i))) ∧ B.length ≤ 3 * i ∧ Same H H1
 refine ⟨_, rfl, q, rfl, ⟨_, s0.seq hq⟩, Jw (K := K) (m := true) (a := q) (xs := qs.map V.str) Pv5 ⟨none, none, none, none, [], [], rfl, hg0, .nil, ⟨fun _ h => (nomatch h), fun _ h => (nomatch h), .nil⟩, ⟨fun _ h => (nomatch h), fun _ h => (nomatch h)⟩, jQd _, s0⟩ (fun i σ H1 _ h => ?_) ?_ ?_⟩
 ·obtain ⟨v6, v7, v8, v9, vs, B, rfl, hg1, hB, hT, hc, hl, s1⟩ := h
  exact s1.seq hq
 ·rintro i x σ H1 T e1 ⟨v6, v7, v8, v9, vs, B, rfl, hg1, hB, hT, ⟨hc1, hc2⟩, hl, s1⟩ hTn
  obtain ⟨b, eb, rfl⟩ := Zo e1
  have hi : i < qs.length := (kQ.mp eb).1
  have lv := hB.length
  have sT := Qc hTn (.tup [.int (i : Nat), .str b])
  refine ⟨T, _, rfl, Qs Qd, rfl, _, _, rfl, _, _, rfl, rfl, ?_⟩
  have s1' := s1.trans sT
  have hg1' := sT _ _ hg1
  have hB1' := hB.same sT
  generalize upd H1 T (.tup [.int (i : Nat), .str b]) = H2 at s1' hg1' hB1' ⊢
  have hD2 := hD0.same s1'
  obtain ⟨z1, ez1, z10, z11⟩ := hD2.get (0 + 3 + (i : Int)) (by omega) (by omega)
  refine ⟨_, rfl, .inl ⟨rfl, _, Qb hg1'⟩, _, rfl, _, rfl, _, rfl, _, _, rfl, rfl, _, rfl, _, _, rfl, rfl, l, _, _, _, rfl, rfl, hD2.lst, ez1, _, _, rfl, rfl, (by show (0 : Int) < _; decide +kernel), by show 3 ≤ sizeLine; decide, fun p hp => ?_⟩
  have sp := Qc hp (.lst [.str "bench", .str b, .int (z1 % 4)])
  have hp4 : upd H2 p (.lst [.str "bench", .str b, .int (z1 % 4)]) p = some (.lst ((BR.bench b (z1 % 4)).cells.map kV)) := Qd
  have s4 := s1'.trans sp
  have hg4 := sp _ _ hg1'
  have hB4 := hB1'.same sp
  generalize upd H2 p (.lst [.str "bench", .str b, .int (z1 % 4)]) = H4 at hp4 s4 hg4 hB4 ⊢
  refine ⟨g, _, _, rfl, rfl, hg4, by omega, ?_⟩
  have hB5 : RowsB (upd H4 g (.lst (vs ++ [.ref p]))) (vs ++ [.ref p]) (B ++ [.bench b (z1 % 4)]) := (hB4.snoc hp4).updL hg4 hB.noRow
  have hg5 : upd H4 g (.lst (vs ++ [.ref p])) g = some (.lst (vs ++ [.ref p])) := Qd
  have s5 : Same H (upd H4 g (.lst (vs ++ [.ref p]))) := fun c o e => by rw [Qk (Qp e hg)]; exact s4 _ _ e
  generalize upd H4 g (.lst (vs ++ [.ref p])) = H5 at hB5 hg5 s5 ⊢
  have hT5 : ThOk n (B ++ [.bench b (z1 % 4)]) := hT.snoc ⟨by omega, by omega⟩ (.bench _ _) fun r hr => Qag (hT.th r hr) fun b' m' e => Zd nq eb (hc2 r hr b' m' e)
  have hD5 := hD0.same s5
  obtain ⟨z2, ez2, z20, z21⟩ := hD5.get (0 + 5 + (i : Int)) (by omega) (by omega)
  obtain ⟨z3, ez3, z30, z31⟩ := hD5.get (0 + 39 + (i : Int)) (by omega) (by omega)
  refine ⟨_, rfl, _, rfl, _, _, rfl, rfl, _, rfl, _, _, rfl, rfl, l, _, _, _, rfl, rfl, hD5.lst, ez2, _, rfl, _, rfl, _, _, rfl, rfl, _, rfl, _, _, rfl, rfl, l, _, _, _, rfl, rfl, hD5.lst, ez3, by show 2 ≤ sizeLine; decide, fun d2 hd2 => ?_⟩
  have sd := Qc hd2 (.lst [.int z2, .int z3])
  have hd6 : upd H5 d2 (.lst [.int z2, .int z3]) d2 = some (.lst [.int z2, .int z3]) := Qd
  have nd : g ≠ d2 := Qp hg5 hd2
  have s6 := s5.trans sd
  have hg6 := sd _ _ hg5
  have hB6 := hB5.same sd
  generalize upd H5 d2 (.lst [.int z2, .int z3]) = H6 at hd6 s6 hg6 hB6 ⊢
  let Pv6 : Nat → St → Hp → Prop := fun j σ H1 => (H1 d2 = some (.lst [.int z2, .int z3])) ∧ ∃ (v8 v9 : Option V) (vs : List V) (B : List BR), σ = [some (.ref l), some (.int 0), some (.int n), some (.ref q), some (.ref t), some (.ref g), some (.int (i : Nat)), some (.str b), v8, v9, none, none] ∧ H1 g = some (.lst vs) ∧ RowsB H1 vs B ∧ ThOk n B ∧ ((∀ r ∈ B, ∀ s m f, r ≠ .store s m f) ∧ (∀ r ∈ B, ∀ b m, r = .bench b m → b ∈ qs.take (i + 1))) ∧ B.length ≤ 3 * i + 1 + j ∧ Same H H1
  refine ⟨d2, rfl, ⟨_, Qb hd6⟩, Xp (K := K) (a := d2) (xs := [.int z2, .int z3]) Pv6 ⟨hd6, _, _, _, _, rfl, hg6, hB6, hT5, ⟨fun r hr => ?_, fun r hr => ?_⟩, by rw [jY]; show B.length + 1 ≤ _; omega, s6⟩ (fun j σ H1 _ h => Qb h.1) ?_ ?_⟩
  ·rcases yX.mp hr with h | h
   ·exact hc1 r h
   ·rw [jJ.mp h]; exact fun _ _ _ z => nomatch z
  ·intro b' m' e
   rcases yX.mp hr with h | h
   ·exact Yg eb (hc2 r h b' m' e)
   ·rw [jJ.mp h] at e; cases e; exact Yl eb
  ·rintro j x σ H7 e7 ⟨hd7, v8, v9, vs7, B7, rfl, hg7, hB7, hT7, ⟨hc71, hc72⟩, hl7, s7⟩
   have hj : j < 2 := (kQ.mp e7).1
   obtain ⟨z, rfl, z0⟩ : ∃ z : Int, x = .int z ∧ 0 ≤ z := by
    rcases zY.mp (kZ e7) with h | h
    ·exact ⟨z2, h, z20⟩
    ·exact ⟨z3, jJ.mp h, z30⟩
   have lv7 := hB7.length
   have e0 := yV z (show n ≠ 0 by omega)
   have e1' := yZ z (show 0 < n by omega)
   refine ⟨_, rfl, _, rfl, _, _, rfl, rfl, by omega, ?_⟩
   refine ⟨_, rfl, _, _, rfl, rfl, ⟨by decide, by decide⟩, _, _, rfl, rfl, (by show (0 : Int) < _; decide +kernel), rfl, _, rfl, ite2 (fun _ => ?_) (fun _ => ⟨hd7, _, _, vs7, B7, rfl, hg7, hB7, hT7, ⟨hc71, hc72⟩, by omega, s7⟩)⟩
   refine ⟨_, rfl, .inl ⟨rfl, _, Qb hg7⟩, _, rfl, _, rfl, _, rfl, _, _, rfl, rfl, _, rfl, _, _, rfl, rfl, ⟨by decide, by decide⟩, _, rfl, _, rfl, _, _, rfl, rfl, _, _, rfl, rfl, by omega, _, _, rfl, rfl, by show 4 ≤ sizeLine; decide, fun p7 hp7 => ?_⟩
   have f0 := yV (z / 48) (show n - z % n ≠ 0 by omega)
   have f1 := yZ (z / 48) (show 0 < n - z % n by omega)
   have sp7 := Qc hp7 (.lst [.str "shut", .str b, .int (z % n), .int (z % n + 1 + z / 48 % (n - z % n))])
   have hp8 : upd H7 p7 (.lst [.str "shut", .str b, .int (z % n), .int (z % n + 1 + z / 48 % (n - z % n))]) p7 = some (.lst ((BR.shut b (z % n) (z % n + 1 + z / 48 % (n - z % n))).cells.map kV)) := Qd
   have s8 := s7.trans sp7
   have hg8 := sp7 _ _ hg7
   have hd8 := sp7 _ _ hd7
   have hB8 := hB7.same sp7
   generalize upd H7 p7 (.lst [.str "shut", .str b, .int (z % n), .int (z % n + 1 + z / 48 % (n - z % n))]) = H8 at hp8 s8 hg8 hd8 hB8 ⊢
   have hT8 : ThOk n (B7 ++ [.shut b (z % n) (z % n + 1 + z / 48 % (n - z % n))]) := hT7.snoc ⟨e0, by omega, by omega⟩ (.shut _ _ _) (fun r hr => .inr (.inl rfl))
   refine ⟨g, _, _, rfl, rfl, hg8, by omega, by rw [Qk (Ne.symm nd)]; exact hd8, _, _, _, B7 ++ [.shut b (z % n) (z % n + 1 + z / 48 % (n - z % n))], rfl, Qd, (hB8.snoc hp8).updL hg8 hB7.noRow, hT8, ⟨fun r hr => ?_, fun r hr => ?_⟩, by rw [jY]; show B7.length + 1 ≤ _; omega, fun c o e => ?_⟩
   ·rcases yX.mp hr with h | h
    ·exact hc71 r h
    ·rw [jJ.mp h]; exact fun _ _ _ z => nomatch z
   ·intro b' m' e
    rcases yX.mp hr with h | h
    ·exact hc72 r h b' m' e
    ·rw [jJ.mp h] at e; cases e
   ·rw [Qk (Qp e hg)]; exact s8 _ _ e
  ·rintro σ H7 ⟨hd7, v8, v9, vs7, B7, rfl, hg7, hB7, hT7, hc7, hl7, s7⟩
   exact ⟨_, _, _, _, vs7, B7, rfl, hg7, hB7, hT7, hc7, by have h2 : B7.length ≤ 3 * i + 1 + 2 := hl7; omega, s7⟩
 rintro σ H1 ⟨v6, v7, v8, v9, vs, B, rfl, hg1, hB, hT, ⟨hc1, hc2⟩, hl, s1⟩
 rw [lqm] at hl
 let Pv7 : Nat → St → Hp → Prop := fun i σ H1 => ∃ (v6 v10 v11 : Option V) (vs : List V) (B : List BR), σ = [some (.ref l), some (.int 0), some (.int n), some (.ref q), some (.ref t), some (.ref g), v6, v7, v8, v9, v10, v11] ∧ H1 g = some (.lst vs) ∧ RowsB H1 vs B ∧ ThOk n B ∧ ((∀ r ∈ B, ∀ s m f, r = .store s m f → s ∈ ts.take i)) ∧ B.length ≤ 6 + i ∧ Same H H1
 refine ⟨_, rfl, t, rfl, ⟨_, s1.seq ht⟩, Jw (K := K) (m := true) (a := t) (xs := ts.map V.str) Pv7 ⟨v6, none, none, vs, B, rfl, hg1, hB, hT, fun r hr s m f e => absurd e (hc1 r hr s m f), by omega, s1⟩ (fun i σ H1 _ h => ?_) ?_ ?_⟩
 ·obtain ⟨v6, v10, v11, vs, B, rfl, hg1, hB, hT, hc, hl, s1⟩ := h
  exact s1.seq ht
 ·rintro i x σ H1 T e1 ⟨v6, v10, v11, vs, B, rfl, hg1, hB, hT, hc, hl, s1⟩ hTn
  obtain ⟨b, eb, rfl⟩ := Zo e1
  have hi : i < ts.length := (kQ.mp eb).1
  have lv := hB.length
  have sT := Qc hTn (.tup [.int (i : Nat), .str b])
  refine ⟨T, _, rfl, Qs Qd, rfl, _, _, rfl, _, _, rfl, rfl, ?_⟩
  have s1' := s1.trans sT
  have hg1' := sT _ _ hg1
  have hB1' := hB.same sT
  generalize upd H1 T (.tup [.int (i : Nat), .str b]) = H2 at s1' hg1' hB1' ⊢
  have hD2 := hD0.same s1'
  obtain ⟨z1, ez1, z10, z11⟩ := hD2.get (0 + 9 + 32 * (i : Int)) (by omega) (by omega)
  refine ⟨_, rfl, _, rfl, _, _, rfl, rfl, _, rfl, _, _, rfl, rfl, .inl ⟨by decide, by decide⟩, _, _, rfl, rfl, l, _, _, _, rfl, rfl, hD2.lst, ez1, _, _, rfl, rfl, (by show (0 : Int) < _; decide +kernel), ?_⟩
  have e0 := yV z1 (show (5 : Int) ≠ 0 by decide)
  have e1' := yZ z1 (show (0 : Int) < 5 by decide)
  refine ⟨_, rfl, .inl ⟨rfl, _, Qb hg1'⟩, _, rfl, _, rfl, _, rfl, _, rfl, _, _, rfl, rfl, _, rfl, _, _, rfl, rfl, .inl ⟨by decide, by decide⟩, _, _, rfl, rfl, l, _, _, _, rfl, rfl, hD2.lst, ez1, _, _, rfl, rfl, ⟨by decide, by decide⟩, _, rfl, _, _, rfl, rfl, _, _, rfl, rfl, by omega, by show 4 ≤ sizeLine; decide, fun p hp => ?_⟩
  have f0 := yV (z1 / 5) (show z1 % 5 + 1 ≠ 0 by omega)
  have f1 := yZ (z1 / 5) (show 0 < z1 % 5 + 1 by omega)
  have sp := Qc hp (.lst [.str "store", .str b, .int (z1 % 5), .int (z1 / 5 % (z1 % 5 + 1))])
  have hp4 : upd H2 p (.lst [.str "store", .str b, .int (z1 % 5), .int (z1 / 5 % (z1 % 5 + 1))]) p = some (.lst ((BR.store b (z1 % 5) (z1 / 5 % (z1 % 5 + 1))).cells.map kV)) := Qd
  have s4 := s1'.trans sp
  have hg4 := sp _ _ hg1'
  have hB4 := hB1'.same sp
  generalize upd H2 p (.lst [.str "store", .str b, .int (z1 % 5), .int (z1 / 5 % (z1 % 5 + 1))]) = H4 at hp4 s4 hg4 hB4 ⊢
  have hT4 : ThOk n (B ++ [.store b (z1 % 5) (z1 / 5 % (z1 % 5 + 1))]) := hT.snoc ⟨f0, by omega, by omega⟩ (.store _ _ _) (fun r hr => Qah (hT.th r hr) fun s' m' f' e => Zd nt eb (hc r hr s' m' f' e))
  refine ⟨g, _, _, rfl, rfl, hg4, by omega, _, _, _, _, B ++ [.store b (z1 % 5) (z1 / 5 % (z1 % 5 + 1))], rfl, Qd, (hB4.snoc hp4).updL hg4 hB.noRow, hT4, fun r hr => ?_, by rw [jY]; show B.length + 1 ≤ _; omega, fun c o e => ?_⟩
  ·intro s' m' f' e
   rcases yX.mp hr with h | h
   ·exact Yg eb (hc r h s' m' f' e)
   ·rw [jJ.mp h] at e; cases e; exact Yl eb
  ·rw [Qk (Qp e hg)]; exact s4 _ _ e
 ·rintro σ H1 ⟨v6, v10, v11, vs, B, rfl, hg1, hB, hT, hc, hl, s1⟩
  rw [ltm] at hl
  exact ⟨_, rfl, qq g vs B H1 s1 hg hg1 hB hT (by omega)⟩
end
abbrev Qdu : Stmt := top 22
section
variable {P : Program} {w : World} {K : Fg} {mg : Str → Option Value} {base : Heap}
theorem bind7 {F : List Value → Prop} (h : ∀ a b c d e f g, F [a, b, c, d, e, f, g]) : ∀ us : List Value, us.length = 7 → F us := fun us hl => by
 match us, hl with
 | [a, b, c, d, e, f, g], _ => exact h a b c d e f g
theorem Qjb {k k' : Fin 3} (h : useW k = useW k') : k = k' := by
 match k, k', h with
 | 0, 0, _ => rfl
 | 1, 1, _ => rfl
 | 2, 2, _ => rfl
 | 0, 1, z => exact absurd z (by decide +kernel)
 | 0, 2, z => exact absurd z (by decide +kernel)
 | 1, 0, z => exact absurd z (by decide +kernel)
 | 1, 2, z => exact absurd z (by decide +kernel)
 | 2, 0, z => exact absurd z (by decide +kernel)
 | 2, 1, z => exact absurd z (by decide +kernel)
theorem Qct {w v t t' : Str} {k k' : Fin 3} {m m' : Int} (h : k' = k → t' ≠ t) : Apart (.use k' w v t' m') (.use k w v t m) := by
 refine .inr (.inr fun z => ?_)
 have z' : [(Sum.inr (useW k') : Key), Sum.inr w, Sum.inr v, Sum.inr t'] = [Sum.inr (useW k), Sum.inr w, Sum.inr v, Sum.inr t] := z
 injection z' with z1 z2
 injection z2 with _ z3
 injection z3 with _ z4
 injection z4 with z5
 injection z5 with z6
 injection z1 with z7
 exact h (Qjb z7) z6
theorem Qcu {w v w' v' t : Str} {l c m : Int} {k : Fin 3} : Apart (.way w v l c) (.use k w' v' t m) := Zr (by show (5 : Nat) ≠ 6 + k.val; omega)
structure WayTo (n : Int) (w v : Str) (qs ts : List Str) (i j : Nat) (R : List BR) : Prop where
 hd : ∃ l c U, R = .way w v l c :: U ∧ 1 ≤ l ∧ l ≤ n ∧ 0 ≤ c ∧ c ≤ 999999 ∧ ∀ r ∈ U, ∃ k t m, r = .use k w v t m ∧ 1 ≤ m ∧ m ≤ 99 ∧ ((k = 0 ∧ t ∈ qs.take i) ∨ (k ≠ 0 ∧ t ∈ ts.take j))
 nd : R.Pairwise Apart
theorem WayTo.put {n : Int} {w v t : Str} {qs ts : List Str} {i j i' j' : Nat} {R : List BR} {k : Fin 3} {m : Int} (h : WayTo n w v qs ts i j R) (m1 : 1 ≤ m) (m2 : m ≤ 99) (hi : ∀ x ∈ qs.take i, x ∈ qs.take i') (hj : ∀ x ∈ ts.take j, x ∈ ts.take j') (hk : (k = 0 ∧ t ∈ qs.take i') ∨ (k ≠ 0 ∧ t ∈ ts.take j'))
  (na : ∀ k' t' m', BR.use k' w v t' m' ∈ R → k' = k → t' ≠ t) : WayTo n w v qs ts i' j' (R ++ [.use k w v t m]) := by
 obtain ⟨l, c, U, rfl, l1, l2, c1, c2, hU⟩ := h.hd
 refine ⟨⟨l, c, U ++ [.use k w v t m], rfl, l1, l2, c1, c2, fun r hr => ?_⟩, jZd.mpr ⟨h.nd, jYf _ _, fun r hr x hx => ?_⟩⟩
 ·rcases yX.mp hr with z | z
  ·obtain ⟨k', t', m', e, a, b, d⟩ := hU r z
   exact ⟨k', t', m', e, a, b, d.imp (fun y => ⟨y.1, hi _ y.2⟩) (fun y => ⟨y.1, hj _ y.2⟩)⟩
  ·exact ⟨k, t, m, jJ.mp z, m1, m2, hk⟩
 ·rw [jJ.mp hx]
  rcases zY.mp hr with z | z
  ·rw [z]; exact Qcu
  ·obtain ⟨k', t', m', rfl, _⟩ := hU r z
   exact Qct (na k' t' m' hr)
theorem WayTo.more {n : Int} {w v : Str} {qs ts : List Str} {i j i' j' : Nat} {R : List BR} (h : WayTo n w v qs ts i j R) (hi : ∀ x ∈ qs.take i, x ∈ qs.take i') (hj : ∀ x ∈ ts.take j, x ∈ ts.take j') : WayTo n w v qs ts i' j' R := by
 obtain ⟨l, c, U, rfl, l1, l2, c1, c2, hU⟩ := h.hd
 exact ⟨⟨l, c, U, rfl, l1, l2, c1, c2, fun r hr => let ⟨k', t', m', e, a, b, d⟩ := hU r hr; ⟨k', t', m', e, a, b, d.imp (fun y => ⟨y.1, hi _ y.2⟩) (fun y => ⟨y.1, hj _ y.2⟩)⟩⟩, h.nd⟩
theorem WayTo.of {n : Int} {w v : Str} {qs ts : List Str} {i j : Nat} {R : List BR} (h : WayTo n w v qs ts i j R) {k : Fin 3} {t : Str} {m : Int} (hm : BR.use k w v t m ∈ R) : (k = 0 ∧ t ∈ qs.take i) ∨ (k ≠ 0 ∧ t ∈ ts.take j) := by
 obtain ⟨l, c, U, rfl, l1, l2, c1, c2, hU⟩ := h.hd
 rcases zY.mp hm with z | z
 ·cases z
 ·obtain ⟨k', t', m', e, _, _, d⟩ := hU _ z
  cases e; exact d
def Qgw (K : Fg) : Sp := fun vs H Q _ => ∃ (l q t : Addr) (ds : List Int) (at_ j n : Int) (w : Str) (qs ts : List Str), vs = [.ref l, .int at_, .str w, .int j, .int n, .ref q, .ref t] ∧ Dr K H l ds ∧ 0 ≤ j ∧ j ≤ 100 ∧ 3 * j ≤ at_ ∧ at_ + 2 < (ds.length : Int) ∧ 1 ≤ n ∧ n ≤ 12 ∧ SqL K H q (qs.map V.str) ∧ SqL K H t (ts.map V.str) ∧ qs.length ≤ 2 ∧ ts.length ≤ 2 ∧ qs.Nodup ∧ ts.Nodup ∧
 ∀ (g : Addr) (vs : List V) (R : List BR) (v : Str) (H' : Hp), Same H H' → H g = none → H' g = some (.lst vs) → RowsB H' vs R → (∀ z, atI (ds.map V.int) (at_ - 3 * j) = some (.int z) → fl v = 97 + ((z + 3 * j) % 26).toNat) → v.length ≤ 12 → WayTo n w v qs ts qs.length ts.length R → R.length ≤ 7 → Q (.ref g) H'
theorem scWay66 : FnScope ["_law_draws_here", "_law_at", "_law_work", "_law_j", "_law_days", "_law_quays", "_law_stocks", "_law_way_here", "_law_number", "_law_found", "_law_k", "_law_bench_here", "_law_uses", "_law_store_here"] ["_law_draws_here", "_law_at", "_law_work", "_law_j", "_law_days", "_law_quays", "_law_stocks"] (Qi Qdu) := ⟨rfl, rfl, rfl, by decide +kernel, rfl, by decide +kernel, by decide +kernel⟩
theorem Qma (F : Fn K mg "_law_way" Qdu) (M : Mg mg) (cl_name : Cal P w K mg base 1 "_law_name" ["_law_k", "_law_number"] (Qaf)) : Cal P w K mg base 2 "_law_way" ["_law_draws_here", "_law_at", "_law_work", "_law_j", "_law_days", "_law_quays", "_law_stocks"] (Qgw K) := by
 refine Ye F scWay66 (fun _ _ _ _ _ _ => bind7 (fun _ _ _ _ _ _ _ => rfl)) (fun vs H Q E h => ?_) (fun f cdv A outer s H vs Q E hr h => ?_)
 ·obtain ⟨l, q, t, ds, at_, j, n, w0, qs, ts, rfl, _⟩ := h
  rfl
 obtain ⟨l, q, t, ds, at_, j, n, w0, qs, ts, rfl, hD0, j0, j1, aj, al, n1, n12, hq, ht, lq, lt, nq, nt, qq⟩ := h
 refine ⟨_, (Qh (Qq (i := 7) scWay66.nd rfl (Or.inl rfl) (Xx cl_name (hr.mono (by decide)) (Qa (Ql Zl Qe (pv 3)) (Qa (Qo Qm (pv 0) (Ql Zj (pv 1) (Ql Zl Qe (pv 3))) (fun _ _ => rfl)) Qg))))
  (Qh (Qq (i := 8) scWay66.nd rfl (Or.inl rfl) (Qo Qm (pv 0) (Ql Qt (pv 1) Qe) (fun _ _ => rfl)))
  (Qh (Qq (i := 9) scWay66.nd rfl (Or.inl rfl) (Xr (Qa (Xr (Qa Qz (Qa (pv 2) (Qa (pv 7) (Qa (Ql Qt Qe (Ql Xl (pv 8) (Xm (Ja rfl) rfl M.min Qbk (Qa (pv 4) (Qa Qe Qg))))) (Qa (Ql Xl (Ql Ya (pv 8) Qe) Qe) Qg)))))) Qg)))
  (Qh (Xk PassesOwn.never rfl (Vq true rfl M.enumerate_ (Qa (pv 5) Qg)) (Zt (K := K) (i := 10) (j := 11) rfl rfl scWay66.nd rfl rfl rfl rfl) (Qh (Qq (i := 12) scWay66.nd rfl (Or.inl rfl) (Qo Qm (Xr (Qa (Qo Qm (pv 0) (Ql Qt (pv 1) Qe) (fun _ _ => rfl)) (Qa (Ql Ya (Qo Qm (pv 0) (Ql Qt (pv 1) Qe) (fun _ _ => rfl)) Qe) Qg))) (pv 10) (fun _ _ => rfl)))
  (Qj (Yu (Qr Yk (Ql Xl (pv 12) Qe) Qe (Qv _)) (Qj (Xh (Yz PySem.F.plainAttrs_list PySem.F.slot_list_append PySem.F.type_list_append Qw (pv 9) (Qa (Xr (Qa Qz (Qa (pv 2) (Qa (pv 7) (Qa (pv 11) (Qa (Ql Qt Qe (Ql Xl (Ql Ya (pv 12) Qe) Qe)) Qg)))))) Qg)))) Xj))))
  (Qh (Qq (i := 8) scWay66.nd rfl (Or.inl rfl) (Ql Ya (Qo Qm (pv 0) (Ql Qt (pv 1) Qe) (fun _ _ => rfl)) Qe))
  (Qh (Xk PassesOwn.never rfl (Qu (pv 6)) (Qn (i := 13) scWay66.nd rfl (Or.inl rfl) (Or.inl rfl)) (Qh (Yu (Qr Yk (Ql Xl (pv 8) Qe) Qe (Qv _)) (Qj (Xh (Yz PySem.F.plainAttrs_list PySem.F.slot_list_append PySem.F.type_list_append Qw (pv 9) (Qa (Xr (Qa Qz (Qa (pv 2) (Qa (pv 7) (Qa (pv 13) (Qa (Ql Qt Qe (Ql Xl (Ql Ya (pv 8) Qe) Qe)) Qg)))))) Qg)))) Xj)
  (Qh (Yu (Qr Yk (Ql Xl (Ql Ya (pv 8) Qe) Qe) Qe (Qv _)) (Qj (Xh (Yz PySem.F.plainAttrs_list PySem.F.slot_list_append PySem.F.type_list_append Qw (pv 9) (Qa (Xr (Qa Qz (Qa (pv 2) (Qa (pv 7) (Qa (pv 13) (Qa (Ql Qt Qe (Ql Xl (Ql Ya (pv 8) Qe) Qe)) Qg)))))) Qg)))) Xj)
  (Qj (Qq (i := 8) scWay66.nd rfl (Or.inl rfl) (Ql Ya (pv 8) Qe))))))
  (Qj (Xe (pv 9))))))))), ?_⟩
 have hz : (20000 : Nat) < sizeLine := by decide
 have lqm : (qs.map V.str).length = qs.length := jX ..
 have ltm : (ts.map V.str).length = ts.length := jX ..
 obtain ⟨z0, ez0, z00, z01⟩ := hD0.get (at_ - 3 * j) (by omega) (by omega)
 obtain ⟨z1, ez1, z10, z11⟩ := hD0.get (at_ + 1) (by omega) (by omega)
 obtain ⟨z2, ez2, z20, z21⟩ := hD0.get (at_ + 2) (by omega) (by omega)
 refine ⟨_, rfl, _, _, rfl, rfl, .inl ⟨by decide, by decide⟩, _, rfl, _, rfl, _, rfl, _, _, rfl, rfl, .inl ⟨by decide, by decide⟩, _, _, rfl, rfl, l, _, _, _, rfl, rfl, hD0.lst, ez0, _, _, rfl, fun v hv hvl => ?_⟩
 refine ⟨_, rfl, _, rfl, _, _, rfl, rfl, l, _, _, _, rfl, rfl, hD0.lst, ez1, ?_⟩
 have pm : (0 : Int) < (if 3 < n then 3 else n) := by split <;> omega
 have pn : (if 3 < n then 3 else n) ≤ n := by split <;> omega
 have k0 := yV z1 (Int.ne_of_gt pm)
 have k1 := yZ z1 pm
 have k2 := yV (z1 / 3) (show (20 : Int) ≠ 0 by decide)
 have k3 := yZ (z1 / 3) (show (0 : Int) < 20 by decide)
 refine ⟨_, rfl, _, rfl, _, rfl, _, rfl, _, _, rfl, _, _, rfl, rfl, pm, _, _, rfl, rfl, _, rfl, _, _, rfl, rfl, ⟨by decide, by decide⟩, _, _, rfl, rfl, (by show (0 : Int) < _; decide +kernel), by show 5 ≤ sizeLine; decide, fun p hp => ⟨by show 1 ≤ sizeLine; decide, fun g hg => ?_⟩⟩
 generalize z1 % (if 3 < n then 3 else n) = ll at k0 k1 hp hg ⊢
 have sp := Qc hp (.lst [.str "way", .str w0, .str v, .int (1 + ll), .int (z1 / 3 % 20)])
 have nG : H g = none := by
  cases e : H g with
  | none => rfl
  | some o => rw [sp _ _ e] at hg; cases hg
 have sg := Qc hg (.lst [.ref p])
 have hp0 := sg _ _ (Qd (H := H) (a := p) (o := .lst ((BR.way w0 v (1 + ll) (z1 / 3 % 20)).cells.map kV)))
 have s0 := sp.trans sg
 have hg0 : upd (upd H p (.lst [.str "way", .str w0, .str v, .int (1 + ll), .int (z1 / 3 % 20)])) g (.lst [.ref p]) g = some (.lst [.ref p]) := Qd
 have hB0 : RowsB (upd (upd H p (.lst [.str "way", .str w0, .str v, .int (1 + ll), .int (z1 / 3 % 20)])) g (.lst [.ref p])) [.ref p] [.way w0 v (1 + ll) (z1 / 3 % 20)] := RowsB.snoc (vs := []) (B := []) .nil hp0
 generalize upd (upd H p (.lst [.str "way", .str w0, .str v, .int (1 + ll), .int (z1 / 3 % 20)])) g (.lst [.ref p]) = H0 at s0 hg0 hB0 ⊢
 have W0 : WayTo n w0 v qs ts 0 0 [.way w0 v (1 + ll) (z1 / 3 % 20)] := ⟨⟨_, _, [], rfl, by omega, by omega, by omega, by omega, fun _ h => (nomatch h)⟩, jYf _ _⟩
 let Pv8 : Nat → St → Hp → Prop := fun i σ H1 => ∃ (v10 v11 v12 : Option V) (vs : List V) (B : List BR), σ = [some (.ref l), some (.int at_), some (.str w0), some (.int j), some (.int n), some (.ref q), some (.ref t), some (.str v), some (.int z1), some (.ref g), v10, v11, v12, none] ∧ H1 g = some (.lst vs) ∧ RowsB H1 vs B ∧ WayTo n w0 v qs ts i 0 B ∧ B.length ≤ 1 + i ∧ Same H H1
 refine ⟨_, rfl, q, rfl, ⟨_, s0.seq hq⟩, Jw (K := K) (m := true) (a := q) (xs := qs.map V.str) Pv8 ⟨none, none, none, _, _, rfl, hg0, hB0, W0, jZ _, s0⟩ (fun i σ H1 _ h => ?_) ?_ ?_⟩
 ·obtain ⟨v10, v11, v12, vs, B, rfl, hg1, hB, hW, hl, s1⟩ := h
  exact s1.seq hq
 ·rintro i x σ H1 T e1 ⟨v10, v11, v12, vs, B, rfl, hg1, hB, hW, hl, s1⟩ hTn
  obtain ⟨b, eb, rfl⟩ := Zo e1
  have hi : i < qs.length := (kQ.mp eb).1
  have lv := hB.length
  have sT := Qc hTn (.tup [.int (i : Nat), .str b])
  refine ⟨T, _, rfl, Qs Qd, rfl, _, _, rfl, _, _, rfl, rfl, ?_⟩
  have s2 := s1.trans sT
  have hg2 := sT _ _ hg1
  have hB2 := hB.same sT
  generalize upd H1 T (.tup [.int (i : Nat), .str b]) = H2 at s2 hg2 hB2 ⊢
  have hD2 := hD0.same s2
  refine ⟨_, rfl, _, rfl, _, _, rfl, rfl, l, _, _, _, rfl, rfl, hD2.lst, ez2, _, rfl, _, rfl, _, _, rfl, rfl, l, _, _, _, rfl, rfl, hD2.lst, ez1, _, _, rfl, rfl, ⟨by decide, by decide⟩, by show 2 ≤ sizeLine; decide, fun d hd => ?_⟩
  obtain ⟨us, eu, u0⟩ : ∃ us : Int, atI [V.int z2, V.int (z1 / 60)] ((i : Nat) : Int) = some (.int us) ∧ 0 ≤ us := by
   rcases (show i = 0 ∨ i = 1 by omega) with e | e
   ·subst e; exact ⟨z2, rfl, z20⟩
   ·subst e; exact ⟨z1 / 60, rfl, by omega⟩
  have sd := Qc hd (.lst [.int z2, .int (z1 / 60)])
  have s3 := s2.trans sd
  have hg3 := sd _ _ hg2
  have hB3 := hB2.same sd
  refine ⟨_, rfl, d, _, _, _, rfl, rfl, Qb Qd, eu, ?_⟩
  generalize upd H2 d (.lst [.int z2, .int (z1 / 60)]) = H3 at s3 hg3 hB3 ⊢
  refine ⟨_, rfl, _, _, rfl, rfl, (by show (0 : Int) < _; decide +kernel), rfl, _, rfl, ite2 (fun _ => ?_) (fun _ => ⟨_, _, _, vs, B, rfl, hg3, hB3, hW.more (fun x hx => Yg eb hx) (fun x hx => hx), by omega, s3⟩)⟩
  refine ⟨_, rfl, .inl ⟨rfl, _, Qb hg3⟩, _, rfl, _, rfl, _, rfl, _, rfl, _, _, rfl, rfl, ⟨by decide, by decide⟩, _, _, rfl, rfl, (by show (0 : Int) < _; decide +kernel), _, _, rfl, rfl, by show 5 ≤ sizeLine; decide, fun p4 hp4 => ?_⟩
  have f0 := yV (us / 2) (show (3 : Int) ≠ 0 by decide)
  have f1 := yZ (us / 2) (show (0 : Int) < 3 by decide)
  have sp4 := Qc hp4 (.lst [.str "uses", .str w0, .str v, .str b, .int (1 + us / 2 % 3)])
  have hp4' : upd H3 p4 (.lst [.str "uses", .str w0, .str v, .str b, .int (1 + us / 2 % 3)]) p4 = some (.lst ((BR.use 0 w0 v b (1 + us / 2 % 3)).cells.map kV)) := Qd
  have s4' := (s3).trans sp4
  have hg4 := sp4 _ _ hg3
  have hB4 := (hB3).same sp4
  generalize upd H3 p4 (.lst [.str "uses", .str w0, .str v, .str b, .int (1 + us / 2 % 3)]) = H4 at hp4' s4' hg4 hB4 ⊢
  refine ⟨g, _, _, rfl, rfl, hg4, by omega, _, _, _, _, _, rfl, Qd, (hB4.snoc hp4').updL hg4 hB.noRow, hW.put (by omega) (by omega) (fun x hx => Yg eb hx) (fun x hx => hx) (.inl ⟨rfl, Yl eb⟩) (fun k' t' m' hm ek => ?_), by rw [jY]; show B.length + 1 ≤ _; omega, fun c o e => ?_⟩
  ·rcases hW.of hm with ⟨_, y⟩ | ⟨y, _⟩
   ·exact Zd nq eb y
   ·exact absurd ek y
  ·rw [Qk (Qp e nG)]; exact s4' _ _ e
 rintro σ H1 ⟨v10, v11, v12, vs, B, rfl, hg1, hB, hW, hl, s1⟩
 rw [lqm] at hW hl
 refine ⟨_, rfl, _, rfl, _, _, rfl, rfl, l, _, _, _, rfl, rfl, (hD0.same s1).lst, ez2, _, _, rfl, rfl, ⟨by decide, by decide⟩, ?_⟩
 let Pv9 : Nat → St → Hp → Prop := fun i σ H1 => ∃ (zz : Int) (v13 : Option V) (vs : List V) (B : List BR), σ = [some (.ref l), some (.int at_), some (.str w0), some (.int j), some (.int n), some (.ref q), some (.ref t), some (.str v), some (.int zz), some (.ref g), v10, v11, v12, v13] ∧ 0 ≤ zz ∧ H1 g = some (.lst vs) ∧ RowsB H1 vs B ∧ WayTo n w0 v qs ts qs.length i B ∧ B.length ≤ 3 + 2 * i ∧ Same H H1
 refine ⟨_, rfl, t, rfl, ⟨_, s1.seq ht⟩, Xp (K := K) (a := t) (xs := ts.map V.str) Pv9 ⟨z2 / 4, none, vs, B, rfl, by omega, hg1, hB, hW, by omega, s1⟩ (fun i σ H1 _ h => ?_) ?_ ?_⟩
 ·obtain ⟨zz, v13, vs, B, rfl, zz0, hg1, hB, hW, hl, s1⟩ := h
  exact s1.seq ht
 ·rintro i x σ H1 e1 ⟨zz, v13, vs, B, rfl, zz0, hg1, hB, hW, hl, s1⟩
  obtain ⟨b, eb, rfl⟩ := Zo e1
  have hi : i < ts.length := (kQ.mp eb).1
  have lv := hB.length
  show tSeq _ _ _ _ _
  refine Qcs (fun σ' H2 => ∃ (vs : List V) (B : List BR), σ' = [some (.ref l), some (.int at_), some (.str w0), some (.int j), some (.int n), some (.ref q), some (.ref t), some (.str v), some (.int zz), some (.ref g), v10, v11, v12, some (.str b)] ∧ H2 g = some (.lst vs) ∧ RowsB H2 vs B ∧ WayTo n w0 v qs ts qs.length (i + 1) B ∧ (∀ m, BR.use 2 w0 v b m ∉ B) ∧ B.length ≤ 4 + 2 * i ∧ Same H H2) ?_ fun REST => ?_
  ·rintro σ' H2 ⟨vs2, B2, rfl, hg2, hB2, hW2, hn2, hl2, s2⟩
   have lv2 := hB2.length
   refine Qcs (fun σ' H3 => ∃ (vs : List V) (B : List BR), σ' = [some (.ref l), some (.int at_), some (.str w0), some (.int j), some (.int n), some (.ref q), some (.ref t), some (.str v), some (.int zz), some (.ref g), v10, v11, v12, some (.str b)] ∧ H3 g = some (.lst vs) ∧ RowsB H3 vs B ∧ WayTo n w0 v qs ts qs.length (i + 1) B ∧ B.length ≤ 5 + 2 * i ∧ Same H H3) ?_ fun REST2 => ?_
   ·rintro σ' H3 ⟨vs3, B3, rfl, hg3, hB3, hW3, hl3, s3⟩
    exact ⟨_, rfl, _, _, rfl, rfl, ⟨by decide, by decide⟩, _, _, vs3, B3, rfl, by omega, hg3, hB3, hW3, by omega, s3⟩
   ·refine ⟨_, rfl, _, _, rfl, rfl, ⟨by decide, by decide⟩, _, _, rfl, rfl, (by show (0 : Int) < _; decide +kernel), rfl, _, rfl, ite2 (fun _ => ?_) (fun _ => REST2 _ _ ⟨vs2, B2, rfl, hg2, hB2, hW2, by omega, s2⟩)⟩
    refine ⟨_, rfl, .inl ⟨rfl, _, Qb hg2⟩, _, rfl, _, rfl, _, rfl, _, rfl, _, _, rfl, rfl, ⟨by decide, by decide⟩, _, _, rfl, rfl, (by show (0 : Int) < _; decide +kernel), _, _, rfl, rfl, by show 5 ≤ sizeLine; decide, fun p4 hp4 => ?_⟩
    have f0 := yV (zz / 12) (show (3 : Int) ≠ 0 by decide)
    have f1 := yZ (zz / 12) (show (0 : Int) < 3 by decide)
    have sp4 := Qc hp4 (.lst [.str "gives", .str w0, .str v, .str b, .int (1 + zz / 12 % 3)])
    have hp4' : upd H2 p4 (.lst [.str "gives", .str w0, .str v, .str b, .int (1 + zz / 12 % 3)]) p4 = some (.lst ((BR.use 2 w0 v b (1 + zz / 12 % 3)).cells.map kV)) := Qd
    have s4' := (s2).trans sp4
    have hg4 := sp4 _ _ hg2
    have hB4 := (hB2).same sp4
    generalize upd H2 p4 (.lst [.str "gives", .str w0, .str v, .str b, .int (1 + zz / 12 % 3)]) = H4 at hp4' s4' hg4 hB4 ⊢
    refine ⟨g, _, _, rfl, rfl, hg4, by omega, REST2 _ _ ⟨_, _, rfl, Qd, (hB4.snoc hp4').updL hg4 hB2.noRow, hW2.put (by omega) (by omega) (fun x hx => hx) (fun x hx => hx) (.inr ⟨by decide, Yl eb⟩) (fun k' t' m' hm ek => ?_), by rw [jY]; show B2.length + 1 ≤ _; omega, fun c o e => ?_⟩⟩
    ·subst ek
     rintro rfl
     exact hn2 _ hm
    ·rw [Qk (Qp e nG)]; exact s4' _ _ e
  ·have na : ∀ (k : Fin 3) m, k ≠ 0 → BR.use k w0 v b m ∉ B := fun k m hk hm => by
    rcases hW.of hm with ⟨y, _⟩ | ⟨_, y⟩
    ·exact hk y
    ·exact Zd nt eb y rfl
   refine ⟨_, rfl, _, _, rfl, rfl, (by show (0 : Int) < _; decide +kernel), rfl, _, rfl, ite2 (fun _ => ?_) (fun _ => REST _ _ ⟨vs, B, rfl, hg1, hB, hW.more (fun x hx => hx) (fun x hx => Yg eb hx), fun m => na 2 m (by decide), by omega, s1⟩)⟩
   refine ⟨_, rfl, .inl ⟨rfl, _, Qb hg1⟩, _, rfl, _, rfl, _, rfl, _, rfl, _, _, rfl, rfl, ⟨by decide, by decide⟩, _, _, rfl, rfl, (by show (0 : Int) < _; decide +kernel), _, _, rfl, rfl, by show 5 ≤ sizeLine; decide, fun p4 hp4 => ?_⟩
   have f0 := yV (zz / 2) (show (3 : Int) ≠ 0 by decide)
   have f1 := yZ (zz / 2) (show (0 : Int) < 3 by decide)
   have sp4 := Qc hp4 (.lst [.str "takes", .str w0, .str v, .str b, .int (1 + zz / 2 % 3)])
   have hp4' : upd H1 p4 (.lst [.str "takes", .str w0, .str v, .str b, .int (1 + zz / 2 % 3)]) p4 = some (.lst ((BR.use 1 w0 v b (1 + zz / 2 % 3)).cells.map kV)) := Qd
   have s4' := (s1).trans sp4
   have hg4 := sp4 _ _ hg1
   have hB4 := (hB).same sp4
   generalize upd H1 p4 (.lst [.str "takes", .str w0, .str v, .str b, .int (1 + zz / 2 % 3)]) = H4 at hp4' s4' hg4 hB4 ⊢
   refine ⟨g, _, _, rfl, rfl, hg4, by omega, REST _ _ ⟨_, _, rfl, Qd, (hB4.snoc hp4').updL hg4 hB.noRow, hW.put (by omega) (by omega) (fun x hx => hx) (fun x hx => Yg eb hx) (.inr ⟨by decide, Yl eb⟩) (fun k' t' m' hm ek => ?_), fun m hm => ?_, by rw [jY]; show B.length + 1 ≤ _; omega, fun c o e => ?_⟩⟩
   ·subst ek
    rintro rfl
    exact na 1 _ (by decide) hm
   ·rcases yX.mp hm with y | y
    ·exact na 2 m (by decide) y
    ·have := jJ.mp y
     injection this with y1
     exact absurd y1 (by decide)
   ·rw [Qk (Qp e nG)]; exact s4' _ _ e
 ·rintro σ H1 ⟨zz, v13, vs, B, rfl, zz0, hg1, hB, hW, hl, s1⟩
  rw [ltm] at hW hl
  exact ⟨_, rfl, qq g vs B v H1 s1 nG hg1 hB (fun z hz' => by rw [ez0] at hz'; cases hz'; exact hv) hvl hW (by omega)⟩
end
def ownN (k : Nat) (ns : List Str) : List Str := if k = 9 then ns else if k ≤ 3 then [] else ns.take 1
theorem Qkn (r : BR) : r.own = ownN r.kind r.names := by
 cases r with
 | use k w v t m =>
  have hk := k.isLt
  show [w] = ownN (6 + k.val) [w, v, t]
  unfold ownN
  rw [if_neg (by omega), if_neg (by omega)]
  rfl
 | _ => rfl
theorem Qmb {r q : BR} (h : r.key = q.key) {w : Str} (hw : w ∈ q.own) : w ∈ r.own := by
 have h' : ((Sum.inr r.word : Key) :: r.names.map Sum.inr) = Sum.inr q.word :: q.names.map Sum.inr := h
 injection h' with h1 h2
 have e1 : r.word = q.word := Sum.inr.inj h1
 have e2 : r.names = q.names := (List.map_inj_right fun x y e => Sum.inr.inj e).mp h2
 have e3 : r.kind = q.kind := Kc _ (Vs r) _ (Vs q) (by rw [← Kb, ← Kb]; exact e1)
 rw [Qkn, e2, e3, ← Qkn]
 exact hw
theorem Qgx {r : BR} (h : Thing r) : r.own = [] := by cases h <;> rfl
structure BookOk (n : Int) (B : List BR) : Prop where
 n1 : 1 ≤ n
 n12 : n ≤ 12
 wb : WB n B
 hd : B[0]? = some (.days n)
structure Gd (n : Int) (ws : List Str) (X : List BR) : Prop where
 ok : ∀ r ∈ X, r.ok n
 nd : X.Pairwise Apart
 own : ∀ r ∈ X, ∀ w ∈ r.own, w ∈ ws
 wk : ∀ w ∈ ws, BR.work w ∈ X
theorem Gd.perm {n : Int} {ws : List Str} {X Y : List BR} (h : Gd n ws X) (p : X.Perm Y) : Gd n ws Y :=
 ⟨fun r hr => h.ok r (p.mem_iff.mpr hr), (p.pairwise_iff Apart.symm).mp h.nd, fun r hr => h.own r (p.mem_iff.mpr hr), fun w hw => p.mem_iff.mp (h.wk w hw)⟩
theorem Gd.put {n : Int} {ws ws' : List Str} {X : List BR} {r : BR} {w : Str} (h : Gd n ws X) (ok : r.ok n) (hs : ∀ x ∈ ws, x ∈ ws') (own : ∀ x ∈ r.own, x ∈ ws') (wk : ∀ x ∈ ws', x ∉ ws → BR.work x = r) (hw : w ∈ r.own) (na : ∀ q ∈ X, q.kind = r.kind → w ∉ q.own) : Gd n ws' (X ++ [r]) := by
 refine ⟨fun q hq => ?_, jZd.mpr ⟨h.nd, jYf _ _, fun q hq x hx => ?_⟩, fun q hq x hx => ?_, fun x hx => ?_⟩
 ·rcases yX.mp hq with z | z
  ·exact h.ok q z
  ·rw [jJ.mp z]; exact ok
 ·rw [jJ.mp hx]
  by_cases e : q.kind = r.kind
  ·exact .inr (.inr fun z => na q hq e (Qmb z hw))
  ·exact Zr e
 ·rcases yX.mp hq with z | z
  ·exact hs x (h.own q z x hx)
  ·rw [jJ.mp z] at hx; exact own x hx
 ·by_cases e : x ∈ ws
  ·exact jQa _ (h.wk x e)
  ·exact zV _ (jJ.mpr (wk x hx e))
theorem Gd.app {n : Int} {ws : List Str} {X R : List BR} (h : Gd n ws X) (ok : ∀ r ∈ R, r.ok n) (nd : R.Pairwise Apart) (own : ∀ r ∈ R, ∀ w ∈ r.own, w ∈ ws) (ap : ∀ r ∈ X, ∀ q ∈ R, Apart r q) : Gd n ws (X ++ R) :=
 ⟨fun q hq => (yX.mp hq).elim (h.ok q) (ok q), jZd.mpr ⟨h.nd, nd, ap⟩, fun q hq => (yX.mp hq).elim (h.own q) (own q), fun w hw => jQa _ (h.wk w hw)⟩
theorem Gd.wb {n : Int} {ws : List Str} {X : List BR} (h : Gd n ws X) (hl : X.length ≤ 400) (h5 : ws.length ≤ 5) : WB n X := ⟨h.ok, h.nd, fun r hr w hw => h.wk w (h.own r hr w hw), hl, ws, h5, h.own⟩
def FV (z : Int) (w : Str) (j : Nat) (X : List BR) : Prop := ∀ r ∈ X, ∀ (a : Key) (v : Str) (ks : List Key), r.key = a :: Sum.inr w :: Sum.inr v :: ks → ∃ j' : Nat, j' < j ∧ fl v = 97 + ((z + 3 * (j' : Int)) % 26).toNat
theorem Qgy {r : BR} {w v : Str} {a : Key} {ks : List Key} (h : r.key = a :: Sum.inr w :: Sum.inr v :: ks) : w ∈ r.own := by
 unfold BR.key at h
 injection h with _ h
 cases r with
 | days n => cases h
 | bench b r => injection h with _ h; cases h
 | shut b f t => injection h with _ h; cases h
 | store s m f => injection h with _ h; cases h
 | work x => injection h with _ h; cases h
 | way x y l c => injection h with h1 _; injection h1 with h1; rw [h1]; exact jJ.mpr rfl
 | use k x y t m => injection h with h1 _; injection h1 with h1; rw [h1]; exact jJ.mpr rfl
 | after x y g => injection h with h1 _; injection h1 with h1; rw [h1]; exact zX
 | late x d c => injection h with _ h; cases h
theorem Qdv {n : Int} {w v : Str} {qs ts : List Str} {i j : Nat} {R : List BR} (h : WayTo n w v qs ts i j R) : ∀ q ∈ R, q.ok n ∧ q.own = [w] ∧ (q.kind = 5 ∨ 6 ≤ q.kind ∧ q.kind < 9) ∧ ∃ a ks, q.key = a :: Sum.inr w :: Sum.inr v :: ks := by
 obtain ⟨l, c, U, rfl, l1, l2, c1, c2, hU⟩ := h.hd
 intro q hq
 rcases zY.mp hq with z | z
 ·rw [z]; exact ⟨⟨l1, l2, c1, c2⟩, rfl, .inl rfl, _, _, rfl⟩
 ·obtain ⟨k, t, m, rfl, m1, m2, _⟩ := hU q z
  exact ⟨⟨m1, m2⟩, rfl, .inr ⟨by show 6 ≤ 6 + k.val; omega, by show 6 + k.val < 9; omega⟩, _, _, rfl⟩
theorem fv_ne {z : Int} {j' j : Nat} (h : j' < j) (hj : j ≤ 1) {x v : Str} (h1 : fl x = 97 + ((z + 3 * (j' : Int)) % 26).toNat) (h2 : fl v = 97 + ((z + 3 * (j : Int)) % 26).toNat) : x ≠ v := by
 rintro rfl
 have : j' = 0 := by omega
 have : j = 1 := by omega
 subst_vars
 rw [h1] at h2
 have a := yV (z + 3 * ((0 : Nat) : Int)) (show (26 : Int) ≠ 0 by decide)
 have b := yV (z + 3 * ((1 : Nat) : Int)) (show (26 : Int) ≠ 0 by decide)
 omega
theorem Gd.way {n z : Int} {ws : List Str} {X R : List BR} {w v : Str} {qs ts : List Str} {i i' j : Nat} (h : Gd n ws X) (hw : w ∈ ws) (hW : WayTo n w v qs ts i i' R) (hF : FV z w j X) (hj : j ≤ 1) (hv : fl v = 97 + ((z + 3 * (j : Int)) % 26).toNat) : Gd n ws (X ++ R) ∧ FV z w (j + 1) (X ++ R) := by
 have hR := Qdv hW
 refine ⟨h.app (fun q hq => (hR q hq).1) hW.nd (fun q hq x hx => ?_) fun r hr q hq => ?_, fun r hr a v' ks e => ?_⟩
 ·rw [(hR q hq).2.1] at hx; rw [jJ.mp hx]; exact hw
 ·obtain ⟨_, _, _, a, ks, ek⟩ := hR q hq
  refine .inr (.inr fun e => ?_)
  obtain ⟨j', h1, h2⟩ := hF r hr a v ks (e.trans ek)
  exact fv_ne h1 hj h2 hv rfl
 ·rcases yX.mp hr with y | y
  ·obtain ⟨j', h1, h2⟩ := hF r y a v' ks e
   exact ⟨j', by omega, h2⟩
  ·obtain ⟨_, _, _, a', ks', ek⟩ := hR r y
   rw [ek] at e
   injection e with _ e
   injection e with _ e
   injection e with e _
   injection e with e
   subst e
   exact ⟨j, by omega, hv⟩
def Lets (z c : Int) (qs : List Str) : Prop := ∀ (i : Nat) (x : Str), qs[i]? = some x → fl x = 97 + ((z + c * (i : Int)) % 26).toNat
theorem Lets.nodup {z c : Int} {qs : List Str} (h : Lets z c qs) (hl : qs.length ≤ 3) (hc : c = 1 ∨ c = 7) : qs.Nodup := by
 rw [List.nodup_iff_pairwise_ne, List.pairwise_iff_getElem]
 intro i j hi hj hij e
 have a := h i _ (gE hi)
 have b := h j _ (gE hj)
 rw [e, b] at a
 have p := yV (z + c * (i : Int)) (show (26 : Int) ≠ 0 by decide)
 have q := yV (z + c * (j : Int)) (show (26 : Int) ≠ 0 by decide)
 rcases hc with rfl | rfl <;> omega
theorem Lets.snoc {z c : Int} {qs : List Str} {x : Str} (h : Lets z c qs) (hx : fl x = 97 + ((z + c * (qs.length : Int)) % 26).toNat) : Lets z c (qs ++ [x]) := fun i y e => by
 by_cases hi : i < qs.length
 ·rw [xJ hi] at e; exact h i y e
 ·rw [List.getElem?_append_right (by omega)] at e
  have := (kQ.mp e).1
  rw [xV] at this
  have hi2 : i = qs.length := by omega
  subst hi2
  rw [Nat.sub_self] at e
  cases e
  exact hx
theorem Qjc {n : Int} {T : List BR} (h : ThOk n T) : Gd n [] (.days n :: T) ∧ ∀ r ∈ BR.days n :: T, r.kind < 4 := by
 have tk : ∀ r ∈ T, r.kind < 4 ∧ r.kind ≠ 0 := fun r hr => by
  cases h.th r hr with
  | bench b r => exact ⟨by show (1 : Nat) < 4; decide, by show (1 : Nat) ≠ 0; decide⟩
  | shut b f t => exact ⟨by show (2 : Nat) < 4; decide, by show (2 : Nat) ≠ 0; decide⟩
  | store s m f => exact ⟨by show (3 : Nat) < 4; decide, by show (3 : Nat) ≠ 0; decide⟩
 refine ⟨⟨fun r hr => ?_, jJa.mpr ⟨fun r hr => Zr (fun e => (tk r hr).2 e.symm), h.nd⟩, fun r hr w hw => ?_, fun w hw => nomatch hw⟩, fun r hr => ?_⟩
 ·rcases zY.mp hr with z | z
  ·rw [z]; exact rfl
  ·exact h.ok r z
 ·rcases zY.mp hr with z | z
  ·rw [z] at hw; exact nomatch hw
  ·rw [Qgx (h.th r z)] at hw; exact nomatch hw
 ·rcases zY.mp hr with z | z
  ·rw [z]; exact Nat.zero_lt_succ _
  ·exact (tk r z).1
theorem Ji {α : Type} (B L R : List α) : (B ++ L ++ R).Perm (B ++ R ++ L) := by
 rw [zW, zW]; exact List.Perm.append_left B List.perm_append_comm
theorem Vu {α : Type} (B L R : List α) : (B ++ L ++ R).Perm (B ++ (R ++ L)) := by
 rw [zW]; exact List.Perm.append_left B List.perm_append_comm
theorem FV.perm {z : Int} {w : Str} {j : Nat} {X Y : List BR} (h : FV z w j X) (p : X.Perm Y) : FV z w j Y := fun r hr => h r (p.mem_iff.mpr hr)
theorem bigB66 {b : Int} (h0 : 0 < b) (h1 : b ≤ 2000000000000000000) : b ≠ 0 ∧ Big b := ⟨by omega, wK (show b.natAbs ≤ 2000000000000000000 by omega) (by decide +kernel)⟩
structure BkI (H Hq : Hp) (E1 E2 E5 gb gl : Addr) (a b c bs ls : List V) (B L : List BR) : Prop where
 h1 : Hq E1 = some (.lst a)
 h2 : Hq E2 = some (.lst b)
 h5 : Hq E5 = some (.lst c)
 hb : Hq gb = some (.lst bs)
 hl : Hq gl = some (.lst ls)
 rb : RowsB Hq bs B
 rl : RowsB Hq ls L
 fb : H gb = none
 n1 : gb ≠ E1
 n2 : gb ≠ E2
 n5 : gb ≠ E5
 nl : gb ≠ gl
 sm : Same H Hq
theorem BkI.same {H Hq Hr : Hp} {E1 E2 E5 gb gl : Addr} {a b c bs ls : List V} {B L : List BR} (h : BkI H Hq E1 E2 E5 gb gl a b c bs ls B L) (s : Same Hq Hr) : BkI H Hr E1 E2 E5 gb gl a b c bs ls B L :=
 ⟨s _ _ h.h1, s _ _ h.h2, s _ _ h.h5, s _ _ h.hb, s _ _ h.hl, h.rb.same s, h.rl.same s, h.fb, h.n1, h.n2, h.n5, h.nl, h.sm.trans s⟩
theorem BkI.put {H Hq : Hp} {E1 E2 E5 gb gl p : Addr} {a b c bs ls : List V} {B L : List BR} {r : BR} (h : BkI H Hq E1 E2 E5 gb gl a b c bs ls B L) (hp : Hq p = some (.lst (r.cells.map kV))) : BkI H (upd Hq gb (.lst (bs ++ [.ref p]))) E1 E2 E5 gb gl a b c (bs ++ [.ref p]) ls (B ++ [r]) L :=
 ⟨by rw [Qk (Ne.symm h.n1)]; exact h.h1, by rw [Qk (Ne.symm h.n2)]; exact h.h2, by rw [Qk (Ne.symm h.n5)]; exact h.h5, Qd, by rw [Qk (Ne.symm h.nl)]; exact h.hl, (h.rb.snoc hp).updL h.hb h.rb.noRow, h.rl.updL h.hb h.rb.noRow, h.fb, h.n1, h.n2, h.n5, h.nl, fun b' o e => by rw [Qk (Qp e h.fb)]; exact h.sm _ _ e⟩
theorem BkI.cat {H Hq : Hp} {E1 E2 E5 gb gl g : Addr} {a b c bs ls rs : List V} {B L R : List BR} (h : BkI H Hq E1 E2 E5 gb gl a b c bs ls B L) (hg : Hq g = none) (hr : RowsB Hq rs R) : BkI H (upd Hq g (.lst (bs ++ rs))) E1 E2 E5 g gl a b c (bs ++ rs) ls (B ++ R) L := by
 have s := Qc hg (.lst (bs ++ rs))
 refine ⟨s _ _ h.h1, s _ _ h.h2, s _ _ h.h5, Qd, s _ _ h.hl, RowsB.same (h.rb.app hr) s, h.rl.same s, ?_, fun z => ?_, fun z => ?_, fun z => ?_, fun z => ?_, h.sm.trans s⟩
 ·cases e : H g with
  | none => rfl
  | some o => rw [h.sm _ _ e] at hg; cases hg
 ·rw [z, h.h1] at hg; cases hg
 ·rw [z, h.h2] at hg; cases hg
 ·rw [z, h.h5] at hg; cases hg
 ·rw [z, h.hl] at hg; cases hg
theorem BkI.late {H Hq : Hp} {E1 E2 E5 gb gl g : Addr} {a b c bs ls rs : List V} {B L R : List BR} (h : BkI H Hq E1 E2 E5 gb gl a b c bs ls B L) (hg : Hq g = none) (hr : RowsB Hq rs R) : BkI H (upd Hq g (.lst (rs ++ ls))) E1 E2 E5 gb g a b c bs (rs ++ ls) B (R ++ L) := by
 have s := Qc hg (.lst (rs ++ ls))
 refine ⟨s _ _ h.h1, s _ _ h.h2, s _ _ h.h5, s _ _ h.hb, Qd, h.rb.same s, RowsB.same (hr.app h.rl) s, h.fb, h.n1, h.n2, h.n5, fun z => ?_, h.sm.trans s⟩
 rw [← z, h.hb] at hg; cases hg
abbrev Qai : Stmt := top 21
section
variable {P : Program} {w : World} {K : Fg} {mg : Str → Option Value} {base : Heap}
theorem FV.zero_work {z n : Int} {w : Str} {ws : List Str} {B L : List BR} (g : Gd n ws (B ++ L)) (hw : w ∉ ws) : FV z w 0 (B ++ [.work w] ++ L) := fun r hr a v ks e => by
 rcases yX.mp ((Ji B L [.work w]).mem_iff.mpr hr) with y | y
 ·exact absurd (g.own r y w (Qgy e)) hw
 ·rw [jJ.mp y] at e
  unfold BR.key at e
  injection e with _ e
  injection e with _ e
  cases e
def Qdw (K : Fg) : Sp := fun vs H Q _ => ∃ (l : Addr) (ds : List Int) (most many : Int), vs = [.ref l, .int 0, .int most, .int many] ∧ Dr K H l ds ∧ 44 ≤ ds.length ∧ 1 ≤ most ∧ most ≤ 12 ∧ 0 ≤ many ∧ many ≤ 3 - 1 + 1 ∧ many < 3 + 1 ∧
 ∀ (g : Addr) (vs : List V) (n : Int) (B : List BR) (H' : Hp), Same H H' → H g = none → H' g = some (.lst vs) → RowsB H' vs B → BookOk n B → Q (.ref g) H'
theorem scBook66 : FnScope ["_law_draws_here", "_law_at", "_law_most", "_law_many_here", "_law_days", "_law_book_here", "_law_quays", "_law_stocks", "_law_works", "_law_later", "_law_k", "_law_work", "_law_j", "_law_more", "_law_number"] ["_law_draws_here", "_law_at", "_law_most", "_law_many_here"] (Qi Qai) := ⟨rfl, rfl, rfl, by decide +kernel, rfl, by decide +kernel, by decide +kernel⟩
theorem Qjd (F : Fn K mg "_law_book" Qai) (M : Mg mg) (cl_name : Cal P w K mg base 1 "_law_name" ["_law_k", "_law_number"] (Qaf)) (cl_rooms : Cal P w K mg base 1 "_law_rooms" ["_law_draws_here", "_law_at", "_law_days", "_law_quays", "_law_stocks"] (Qbv K)) (cl_way : Cal P w K mg base 2 "_law_way" ["_law_draws_here", "_law_at", "_law_work", "_law_j", "_law_days", "_law_quays", "_law_stocks"] (Qgw K)) : Cal P w K mg base 3 "_law_book" ["_law_draws_here", "_law_at", "_law_most", "_law_many_here"] (Qdw K) := by
 refine Ye F scBook66 (fun _ _ _ _ _ _ => Qgq (fun _ _ _ _ => rfl)) (fun vs H Q E h => ?_) (fun f cdv A outer s H vs Q E hr h => ?_)
 ·obtain ⟨l, ds, most, many, rfl, _⟩ := h
  rfl
 obtain ⟨l, ds, most, many, rfl, hD0, h44, mo1, mo12, my0, my1, my2, qq⟩ := h
 refine ⟨_, (Qh (Qq (i := 4) scBook66.nd rfl (Or.inl rfl) (Ql Qt Qe (Ql Xl (Qo Qm (pv 0) (pv 1) (fun _ _ => rfl)) (pv 2))))
  (Qh (Qq (i := 5) scBook66.nd rfl (Or.inl rfl) (Xr (Qa (Xr (Qa Qz (Qa (pv 4) Qg))) Qg)))
  (Qh (Jz (i := 6) ["_law_k", "_law_draws_here", "_law_at"] [none, some 0, some 1] rfl scBook66.nd rfl (Or.inl rfl) (Xu rfl M.range_ (Qa (Ql Xl (Qo Qm (pv 0) (Ql Qt (pv 1) Qe) (fun _ _ => rfl)) Qe) Qg)) (fun _ _ _ => (Qn (i := 0) (show (["_law_k", "_law_draws_here", "_law_at"] : List Str).Nodup by decide +kernel) rfl (Or.inl rfl) (Or.inr rfl))) (fun _ _ _ => Yq) (fun _ _ _ => (Xx cl_name (hr.mono (by decide)) (Qa (pv 0) (Qa (Qo (Xq (K := K) rfl) (pv 1) (Ql Qt (pv 2) Qe) (fun _ _ => rfl)) Qg)))))
  (Qh (Jz (i := 7) ["_law_k", "_law_draws_here", "_law_at"] [none, some 0, some 1] rfl scBook66.nd rfl (Or.inl rfl) (Xu rfl M.range_ (Qa (Ql Xl (Qo Qm (pv 0) (Ql Qt (pv 1) Qe) (fun _ _ => rfl)) Qe) Qg)) (fun _ _ _ => (Qn (i := 0) (show (["_law_k", "_law_draws_here", "_law_at"] : List Str).Nodup by decide +kernel) rfl (Or.inl rfl) (Or.inr rfl))) (fun _ _ _ => Yq) (fun _ _ _ => (Xx cl_name (hr.mono (by decide)) (Qa (Ql Zl Qe (pv 0)) (Qa (Qo (Xq (K := K) rfl) (pv 1) (Ql Qt (pv 2) Qe) (fun _ _ => rfl)) Qg)))))
  (Qh (Qq (i := 5) scBook66.nd rfl (Or.inl rfl) (Ql Jl (pv 5) (Xx cl_rooms (hr.mono (by decide)) (Qa (pv 0) (Qa (pv 1) (Qa (pv 4) (Qa (pv 6) (Qa (pv 7) Qg))))))))
  (Qh (Jz (i := 8) ["_law_k", "_law_draws_here", "_law_at"] [none, some 0, some 1] rfl scBook66.nd rfl (Or.inl rfl) (Xu rfl M.range_ (Qa (Ql Xl (Qo Qm (pv 0) (Ql Qt (pv 1) Qe) (fun _ _ => rfl)) (Ql Qt (pv 3) Qe)) Qg)) (fun _ _ _ => (Qn (i := 0) (show (["_law_k", "_law_draws_here", "_law_at"] : List Str).Nodup by decide +kernel) rfl (Or.inl rfl) (Or.inr rfl))) (fun _ _ _ => Yq) (fun _ _ _ => (Xx cl_name (hr.mono (by decide)) (Qa (pv 0) (Qa (Qo (Xq (K := K) rfl) (pv 1) (Ql Qt (pv 2) Qe) (fun _ _ => rfl)) Qg)))))
  (Qh (Qq (i := 9) scBook66.nd rfl (Or.inl rfl) (Xr Qg))
  (Qh (Xk PassesOwn.never rfl (Vq true rfl M.enumerate_ (Qa (pv 8) Qg)) (Zt (K := K) (i := 10) (j := 11) rfl rfl scBook66.nd rfl rfl rfl rfl) (Qh (Xh (Yz PySem.F.plainAttrs_list PySem.F.slot_list_append PySem.F.type_list_append Qw (pv 5) (Qa (Xr (Qa Qz (Qa (pv 11) Qg))) Qg)))
  (Qj (Xk PassesOwn.never rfl (Xu rfl M.range_ (Qa (Ql Xl (Qo Qm (pv 0) (Ql Qt (Ql Qt (pv 1) Qe) (pv 10)) (fun _ _ => rfl)) Qe) Qg)) (Qn (i := 12) scBook66.nd rfl (Or.inl rfl) (Or.inl rfl)) (Qh (Qq (i := 13) scBook66.nd rfl (Or.inl rfl) (Xx cl_way (hr.mono (by decide)) (Qa (pv 0) (Qa (Ql Qt (Ql Qt (Ql Qt (pv 1) Qe) (Ql Zl Qe (pv 10))) (Ql Zl Qe (pv 12))) (Qa (pv 11) (Qa (pv 12) (Qa (pv 4) (Qa (pv 6) (Qa (pv 7) Qg)))))))))
  (Qj (Yu (Qr Yk (Ql Xl (Ql Qis (Qo Qm (pv 0) (Ql Qt (pv 1) Qe) (fun _ _ => rfl)) (Ql Qt (Ql Qt Qe (pv 10)) (Ql Zl Qe (pv 12)))) Qe) Qe (Qv _)) (Qj (Qq (i := 9) scBook66.nd rfl (Or.inl rfl) (Ql Jl (pv 13) (pv 9)))) (Qj (Qq (i := 5) scBook66.nd rfl (Or.inl rfl) (Ql Jl (pv 5) (pv 13)))))))))))
  (Qh (Qq (i := 5) scBook66.nd rfl (Or.inl rfl) (Ql Jl (pv 5) (pv 9)))
  (Qh (Xk PassesOwn.never rfl (Qfj rfl M.range_ (Qa Qe (Qa (Xm Yf rfl M.len Ko (Qa (pv 8) Qg)) Qg))) (Qn (i := 10) scBook66.nd rfl (Or.inl rfl) (Or.inl rfl)) (Qh (Qq (i := 14) scBook66.nd rfl (Or.inl rfl) (Qo Qm (pv 0) (Ql Qt (Ql Qt (pv 1) Qe) (pv 10)) (fun _ _ => rfl)))
  (Qh (Yu (Qr Yk (Ql Xl (pv 14) Qe) Qe (Qv _)) (Qj (Xh (Yz PySem.F.plainAttrs_list PySem.F.slot_list_append PySem.F.type_list_append Qw (pv 5) (Qa (Xr (Qa Qz (Qa (Qo Qm (pv 8) (Ql Zj (pv 10) Qe) (fun _ _ => rfl)) (Qa (Qo Qm (pv 8) (pv 10) (fun _ _ => rfl)) (Qa (Ql Xl (Ql Ya (pv 14) Qe) (Xm (Ja rfl) rfl M.min Qbk (Qa Qe (Qa (Ql Qt (pv 4) Qe) Qg)))) Qg))))) Qg)))) Xj)
  (Qj (Yu (Qr Yk (Ql Xl (pv 14) Qe) Qe (Qv _)) (Qj (Xh (Yz PySem.F.plainAttrs_list PySem.F.slot_list_append PySem.F.type_list_append Qw (pv 5) (Qa (Xr (Qa Qz (Qa (Qo Qm (pv 8) (pv 10) (fun _ _ => rfl)) (Qa (Qo Qm (pv 8) Qe (fun _ _ => rfl)) (Qa (Ql Xl (Ql Ya (pv 14) Qe) (Xm (Ja rfl) rfl M.min Qbk (Qa Qe (Qa (Ql Qt (pv 4) Qe) Qg)))) Qg))))) Qg)))) Xj)))))
  (Qh (Xk PassesOwn.never rfl (Vq true rfl M.enumerate_ (Qa (pv 8) Qg)) (Zt (K := K) (i := 10) (j := 11) rfl rfl scBook66.nd rfl rfl rfl rfl) (Qh (Qq (i := 14) scBook66.nd rfl (Or.inl rfl) (Qo Qm (pv 0) (Ql Qt (Ql Qt (pv 1) Qe) (pv 10)) (fun _ _ => rfl)))
  (Qj (Yu (Qr Yk (Ql Xl (pv 14) Qe) Qe (Qv _)) (Qj (Xh (Yz PySem.F.plainAttrs_list PySem.F.slot_list_append PySem.F.type_list_append Qw (pv 5) (Qa (Xr (Qa Qz (Qa (pv 11) (Qa (Ql Xl (Ql Ya (pv 14) Qe) (Ql Qt (pv 4) Qe)) (Qa (Ql Qt Qe (Ql Xl (Ql Ya (pv 14) Qe) Qe)) Qg))))) Qg)))) Xj))))
  (Qj (Xe (pv 5)))))))))))))), ?_⟩
 have hz : (20000 : Nat) < sizeLine := by decide
 obtain ⟨d0, ed0, d00, d01⟩ := hD0.get 0 (by omega) (by omega)
 refine ⟨_, rfl, _, rfl, l, _, _, _, rfl, rfl, hD0.lst, ed0, _, rfl, _, _, rfl, rfl, by omega, _, _, rfl, rfl, ?_⟩
 have n0 := yV d0 (show most ≠ 0 by omega)
 have n1 := yZ d0 (show 0 < most by omega)
 obtain ⟨n, en⟩ : ∃ n, n = 1 + d0 % most := ⟨_, rfl⟩
 have hn1 : 1 ≤ n := by omega
 have hn12 : n ≤ 12 := by omega
 show Kq 4 (V.int (1 + d0 % most)) _ _ _
 rw [← en]
 refine ⟨_, rfl, by show 2 ≤ sizeLine; decide, fun p hp => ⟨by show 1 ≤ sizeLine; decide, fun g0 hg0 => ?_⟩⟩
 have sp := Qc hp (.lst [.str "days", .int n])
 have sg := Qc hg0 (.lst [.ref p])
 have hp0 := sg _ _ (Qd (H := H) (a := p) (o := .lst ((BR.days n).cells.map kV)))
 have s0 := sp.trans sg
 have hgg : upd (upd H p (.lst [.str "days", .int n])) g0 (.lst [.ref p]) g0 = some (.lst [.ref p]) := Qd
 have hB0 : RowsB (upd (upd H p (.lst [.str "days", .int n])) g0 (.lst [.ref p])) [.ref p] [.days n] := RowsB.snoc (vs := []) (B := []) .nil hp0
 generalize upd (upd H p (.lst [.str "days", .int n])) g0 (.lst [.ref p]) = H0 at s0 hgg hB0 ⊢
 have hD1 := hD0.same s0
 obtain ⟨d2, ed2, d20, d21⟩ := hD1.get (0 + 2) (by omega) (by omega)
 obtain ⟨d1, ed1, d10, d11⟩ := hD1.get (0 + 1) (by omega) (by omega)
 have q0 := yV d2 (show (3 : Int) ≠ 0 by decide)
 have q1 := yZ d2 (show (0 : Int) < 3 by decide)
 refine ⟨_, rfl, _, rfl, _, _, rfl, rfl, l, _, _, _, rfl, rfl, hD1.lst, ed2, _, _, rfl, rfl, (by show (0 : Int) < _; decide +kernel), d2 % 3, rfl, by omega, by omega, fun E1 hE1 => ?_⟩
 let Pv10 : Nat → St → List V → Hp → Prop := fun i τ ys Hq => ∃ (x : Option V) (xs : List Str), τ = [x, some (.ref l), some (.int 0)] ∧ ys = xs.map V.str ∧ xs.length = i ∧ Lets d1 1 xs ∧ Hq E1 = some (.lst ys) ∧ Same H0 Hq
 refine Yo (n := (d2 % 3).toNat) Pv10 ?_ (fun i τ ys Hq hi h => ?_) (fun i τ ys Hq hi h => hi) (fun τ ys Hq h => jZ _) ?_ ?_
 ·exact ⟨none, [], rfl, rfl, rfl, fun i x e => by simp at e, Qd, Qc hE1 _⟩
 ·obtain ⟨x, xs, rfl, rfl, lx, hL, hE, s'⟩ := h
  exact ⟨hE, by rw [jX]; omega⟩
 ·rintro i τ ys Ha x Hb hi ⟨x', xs, rfl, rfl, lx, hL, hE, s'⟩ ⟨rfl, rfl⟩
  refine ⟨_, rfl, _, rfl, _, rfl, _, _, rfl, rfl, l, _, _, _, rfl, rfl, (hD1.same s').lst, ed1, _, _, rfl, fun x hx hxl => ⟨hE, _, xs ++ [x], rfl, by rw [kK]; rfl, by rw [jY, lx]; rfl, hL.snoc ?_, Qd, fun b o e => ?_⟩⟩
  ·rw [hx, lx]
   rw [show (0 : Int) + (i : Int) = 1 * (i : Int) by omega]
  ·rw [Qk (Qp e hE1)]; exact s' _ _ e
 rintro τ ys H1 ⟨x1, nm1, rfl, rfl, ln1, hN1, hM1, s1'⟩
 have nd1 := hN1.nodup (by omega) (.inl rfl)
 have hD2 := hD1.same s1'
 obtain ⟨d8, ed8, d80, d81⟩ := hD2.get (0 + 8) (by omega) (by omega)
 obtain ⟨d7, ed7, d70, d71⟩ := hD2.get (0 + 7) (by omega) (by omega)
 have r0 := yV d8 (show (3 : Int) ≠ 0 by decide)
 have r1 := yZ d8 (show (0 : Int) < 3 by decide)
 refine ⟨_, rfl, _, rfl, _, _, rfl, rfl, l, _, _, _, rfl, rfl, hD2.lst, ed8, _, _, rfl, rfl, (by show (0 : Int) < _; decide +kernel), d8 % 3, rfl, by omega, by omega, fun E2 hE2 => ?_⟩
 let Pv11 : Nat → St → List V → Hp → Prop := fun i τ ys Hq => ∃ (x : Option V) (xs : List Str), τ = [x, some (.ref l), some (.int 0)] ∧ ys = xs.map V.str ∧ xs.length = i ∧ Lets d7 7 xs ∧ Hq E2 = some (.lst ys) ∧ Same H1 Hq
 refine Yo (n := (d8 % 3).toNat) Pv11 ?_ (fun i τ ys Hq hi h => ?_) (fun i τ ys Hq hi h => hi) (fun τ ys Hq h => jZ _) ?_ ?_
 ·exact ⟨none, [], rfl, rfl, rfl, fun i x e => by simp at e, Qd, Qc hE2 _⟩
 ·obtain ⟨x, xs, rfl, rfl, lx, hL, hE, s'⟩ := h
  exact ⟨hE, by rw [jX]; omega⟩
 ·rintro i τ ys Ha x Hb hi ⟨x', xs, rfl, rfl, lx, hL, hE, s'⟩ ⟨rfl, rfl⟩
  refine ⟨_, rfl, _, _, rfl, rfl, .inl ⟨by decide, by decide⟩, _, rfl, _, rfl, _, _, rfl, rfl, l, _, _, _, rfl, rfl, (hD2.same s').lst, ed7, _, _, rfl, fun x hx hxl => ⟨hE, _, xs ++ [x], rfl, by rw [kK]; rfl, by rw [jY, lx]; rfl, hL.snoc ?_, Qd, fun b o e => ?_⟩⟩
  ·rw [hx, lx]
   rw [show (0 : Int) + (i : Int) = (i : Int) by omega]
  ·rw [Qk (Qp e hE2)]; exact s' _ _ e
 rintro τ ys H2 ⟨x2, nm2, rfl, rfl, ln2, hN2, hM2, s2'⟩
 have nd2 := hN2.nodup (by omega) (.inr rfl)
 have hD3 := hD2.same s2'
 refine ⟨_, rfl, _, rfl, _, rfl, _, rfl, _, rfl, _, rfl, l, E1, E2, ds, n, nm1, nm2, rfl, hD3, h44, hn1, hn12, Qb (s2' _ _ hM1), Qb hM2, by omega, by omega, nd1, nd2, fun g3 v3 T3 H3 s3 g3n hg3 hB3 hT3 l3 => ?_⟩
 have s03 := (s1'.trans s2').trans s3
 have sH3 := s0.trans s03
 have lv3 := hB3.length
 refine ⟨g0, g3, _, v3, rfl, rfl, s03 _ _ hgg, hg3, by show 1 + v3.length ≤ sizeLine; omega, fun g4 hg4 => ?_⟩
 have sg4 := Qc hg4 (.lst ([.ref p] ++ v3))
 have hgb : upd H3 g4 (.lst ([.ref p] ++ v3)) g4 = some (.lst ([.ref p] ++ v3)) := Qd
 have sH4 := sH3.trans sg4
 have hBb : RowsB (upd H3 g4 (.lst ([.ref p] ++ v3))) ([.ref p] ++ v3) (.days n :: T3) := RowsB.same (RowsB.app (B := [.days n]) (hB0.same s03) hB3) sg4
 have e14 := sg4 _ _ (s3 _ _ (s2' _ _ hM1))
 have e24 := sg4 _ _ (s3 _ _ hM2)
 have n41 : g4 ≠ E1 := fun z => by rw [z, s3 _ _ (s2' _ _ hM1)] at hg4; cases hg4
 have n42 : g4 ≠ E2 := fun z => by rw [z, s3 _ _ hM2] at hg4; cases hg4
 have f4 : H g4 = none := by
  cases e : H g4 with
  | none => rfl
  | some o => rw [sH3 _ _ e] at hg4; cases hg4
 generalize upd H3 g4 (.lst ([.ref p] ++ v3)) = H4 at hgb sH4 hBb e14 e24 ⊢
 have hD4 := hD0.same sH4
 obtain ⟨d11', ed11, d110, d111⟩ := hD4.get (0 + 11) (by omega) (by omega)
 obtain ⟨d10', ed10, d100, d101⟩ := hD4.get (0 + 10) (by omega) (by omega)
 have w0 := yV d11' (show many + 1 ≠ 0 by omega)
 have w1 := yZ d11' (show 0 < many + 1 by omega)
 refine ⟨_, rfl, _, rfl, _, _, rfl, rfl, l, _, _, _, rfl, rfl, hD4.lst, ed11, _, rfl, _, _, rfl, rfl, _, _, rfl, rfl, by omega, d11' % (many + 1), rfl, by omega, by omega, fun E5 hE5 => ?_⟩
 let Pv12 : Nat → St → List V → Hp → Prop := fun i τ ys Hq => ∃ (x : Option V) (xs : List Str), τ = [x, some (.ref l), some (.int 0)] ∧ ys = xs.map V.str ∧ xs.length = i ∧ Lets d10' 1 xs ∧ Hq E5 = some (.lst ys) ∧ Same H4 Hq
 refine Yo (n := (d11' % (many + 1)).toNat) Pv12 ?_ (fun i τ ys Hq hi h => ?_) (fun i τ ys Hq hi h => hi) (fun τ ys Hq h => jZ _) ?_ ?_
 ·exact ⟨none, [], rfl, rfl, rfl, fun i x e => by simp at e, Qd, Qc hE5 _⟩
 ·obtain ⟨x, xs, rfl, rfl, lx, hL, hE, s'⟩ := h
  exact ⟨hE, by rw [jX]; omega⟩
 ·rintro i τ ys Ha x Hb hi ⟨x', xs, rfl, rfl, lx, hL, hE, s'⟩ ⟨rfl, rfl⟩
  refine ⟨_, rfl, _, rfl, _, rfl, _, _, rfl, rfl, l, _, _, _, rfl, rfl, (hD4.same s').lst, ed10, _, _, rfl, fun x hx hxl => ⟨hE, _, xs ++ [x], rfl, by rw [kK]; rfl, by rw [jY, lx]; rfl, hL.snoc ?_, Qd, fun b o e => ?_⟩⟩
  ·rw [hx, lx]
   rw [show (0 : Int) + (i : Int) = 1 * (i : Int) by omega]
  ·rw [Qk (Qp e hE5)]; exact s' _ _ e
 rintro τ ys H5 ⟨x5, nm5, rfl, rfl, ln5, hN5, hM5, s5'⟩
 have nd5 := hN5.nodup (by omega) (.inl rfl)
 have sH5 := sH4.trans s5'
 have hgb5 := s5' _ _ hgb
 have hBb5 := hBb.same s5'
 have n45 : g4 ≠ E5 := fun z => by rw [z] at hgb; rw [hgb] at hE5; cases hE5
 refine ⟨by show 0 ≤ sizeLine; decide, fun L0 hL0 => ?_⟩
 have sL := Qc hL0 (.lst [])
 obtain ⟨gd0, kd0⟩ := Qjc hT3
 have I0 : BkI H (upd H5 L0 (.lst [])) E1 E2 E5 g4 L0 (nm1.map V.str) (nm2.map V.str) (nm5.map V.str) ([.ref p] ++ v3) [] (.days n :: T3) [] :=
  ⟨sL _ _ (s5' _ _ e14), sL _ _ (s5' _ _ e24), sL _ _ hM5, sL _ _ hgb5, Qd, hBb5.same sL, .nil, f4, n41, n42, n45, (fun z => by rw [z] at hgb5; rw [hgb5] at hL0; cases hL0), sH5.trans sL⟩
 generalize upd H5 L0 (.lst []) = H6 at I0 ⊢
 have l5m : (nm5.map V.str).length = nm5.length := jX ..
 have l5 : nm5.length ≤ 3 := by omega
 let Pv13 : Nat → St → Hp → Prop := fun k σ Hq => ∃ (gb gl : Addr) (v10 v11 v12 v13 : Option V) (bs ls : List V) (B L : List BR), σ = [some (.ref l), some (.int 0), some (.int most), some (.int many), some (.int n), some (.ref gb), some (.ref E1), some (.ref E2), some (.ref E5), some (.ref gl), v10, v11, v12, v13, none] ∧ BkI H Hq E1 E2 E5 gb gl (nm1.map V.str) (nm2.map V.str) (nm5.map V.str) bs ls B L ∧ Gd n (nm5.take (k)) (B ++ L) ∧ (∀ r ∈ B ++ L, r.kind < 9) ∧ B[0]? = some (.days n) ∧ B.length + L.length ≤ 9 + 15 * k
 refine ⟨_, rfl, E5, rfl, ⟨_, Qb I0.h5⟩, Jw (K := K) (m := true) (a := E5) (xs := nm5.map V.str) Pv13 ⟨g4, L0, none, none, none, none, _, _, _, _, rfl, I0, by rw [yW]; exact gd0, by rw [yW]; exact fun r hr => Nat.lt_trans (kd0 r hr) (by decide), rfl, by rw [xK]; show T3.length + 1 + 0 ≤ _; omega⟩ (fun k σ Hq _ h => ?_) ?_ ?_⟩
 ·obtain ⟨gb, gl, v10, v11, v12, v13, bs, ls, B, L, rfl, I, gd, kd, hd, hl⟩ := h
  exact Qb I.h5
 ·rintro k x σ Ha T e1 ⟨gb, gl, v10, v11, v12, v13, bs, ls, B, L, rfl, I, gd, kd, hd, hl⟩ hTn
  obtain ⟨w', ew, rfl⟩ := Zo e1
  have hk : k < nm5.length := (kQ.mp ew).1
  refine ⟨T, _, rfl, Qs Qd, rfl, _, _, rfl, _, _, rfl, rfl, ?_⟩
  have I1 := I.same (Qc hTn (.tup [.int (k : Nat), .str w']))
  generalize upd Ha T (.tup [.int (k : Nat), .str w']) = Hb at I1 ⊢
  refine ⟨_, rfl, .inl ⟨rfl, _, Qb I1.hb⟩, _, rfl, by show 2 ≤ sizeLine; decide, fun p7 hp7 => ?_⟩
  have I2 := I1.same (Qc hp7 (.lst [.str "work", .str w']))
  have hp8 : upd Hb p7 (.lst [.str "work", .str w']) p7 = some (.lst ((BR.work w').cells.map kV)) := Qd
  generalize upd Hb p7 (.lst [.str "work", .str w']) = Hc at I2 hp8 ⊢
  have lb := I2.rb.length
  refine ⟨gb, _, _, rfl, rfl, I2.hb, by omega, ?_⟩
  have I3 := I2.put hp8
  generalize upd Hc gb (.lst (bs ++ [.ref p7])) = Hd at I3 ⊢
  have nw : w' ∉ nm5.take k := fun z => Zd nd5 ew z rfl
  have gd3 : Gd n (nm5.take (k + 1)) (B ++ [.work w'] ++ L) := (gd.put (w := w') (r := .work w') True.intro (fun x hx => Yg ew hx) (fun x hx => by rw [jJ.mp hx]; exact Yl ew) (fun x hx nx => by
   rw [Zz ew] at hx
   rcases yX.mp hx with y | y
   ·exact absurd y nx
   ·rw [jJ.mp y]) (jJ.mpr rfl) (fun q hq _ hw => nw (gd.own q hq w' hw))).perm (Ji B L [.work w'])
  have kd3 : ∀ r ∈ B ++ [.work w'] ++ L, r.kind < 9 := fun r hr => by
   rcases yX.mp ((Ji B L [.work w']).mem_iff.mpr hr) with y | y
   ·exact kd r y
   ·rw [jJ.mp y]; show (4 : Nat) < 9; decide
  have hd3 : (B ++ [BR.work w'])[0]? = some (.days n) := by rw [xJ (kQ.mp hd).1]; exact hd
  have hl3 : (B ++ [BR.work w']).length + L.length ≤ 9 + 15 * k + 1 := by rw [jY]; show B.length + 1 + L.length ≤ _; omega
  have hDd := hD0.same I3.sm
  obtain ⟨d12, ed12, d120, d121⟩ := hDd.get (0 + 12 + (k : Int)) (by omega) (by omega)
  obtain ⟨dz, edz, dz0, dz1⟩ := hD0.get (0 + 15 + 6 * (k : Int)) (by omega) (by omega)
  have fv0 : FV dz w' 0 (B ++ [.work w'] ++ L) := FV.zero_work gd nw
  have j0 := yV d12 (show (3 : Int) ≠ 0 by decide)
  have j1 := yZ d12 (show (0 : Int) < 3 by decide)
  let Pv14 : Nat → St → Hp → Prop := fun j σ Hq => ∃ (gb gl : Addr) (v12 v13 : Option V) (bs ls : List V) (B L : List BR), σ = [some (.ref l), some (.int 0), some (.int most), some (.int many), some (.int n), some (.ref gb), some (.ref E1), some (.ref E2), some (.ref E5), some (.ref gl), some (.int (k : Nat)), some (.str w'), v12, v13, none] ∧ BkI H Hq E1 E2 E5 gb gl (nm1.map V.str) (nm2.map V.str) (nm5.map V.str) bs ls B L ∧ Gd n (nm5.take (k + 1)) (B ++ L) ∧ (∀ r ∈ B ++ L, r.kind < 9) ∧ B[0]? = some (.days n) ∧ B.length + L.length ≤ 9 + 15 * k + 1 + 7 * j ∧ FV dz w' j (B ++ L)
  refine ⟨_, rfl, _, rfl, _, _, rfl, rfl, _, rfl, _, _, rfl, rfl, l, _, _, _, rfl, rfl, hDd.lst, ed12, _, _, rfl, rfl, (by show (0 : Int) < _; decide +kernel), d12 % 3, rfl, by omega, by omega, Yd (lo := 0) (n := (d12 % 3).toNat) Pv14 ⟨gb, gl, v12, v13, _, _, _, _, rfl, I3, gd3, kd3, hd3, by omega, fv0⟩ ?_ ?_⟩
  ·rintro j σ Ha hj ⟨gb, gl, v12, v13, bs, ls, B, L, rfl, I, gd, kd, hd, hl, fv⟩
   have hj2 : j ≤ 1 := by omega
   rw [show (0 : Int) + (j : Int) = ((j : Nat) : Int) by omega]
   have hDa := hD0.same I.sm
   refine ⟨_, rfl, _, rfl, _, _, rfl, rfl, _, rfl, _, _, rfl, rfl, .inl ⟨by decide, by decide⟩, _, _, rfl, rfl, _, rfl, _, _, rfl, rfl, .inl ⟨by decide, by decide⟩, _, _, rfl, rfl, _, rfl, _, rfl, _, rfl, _, rfl, _, rfl, l, E1, E2, ds, _, _, n, w', nm1, nm2, rfl, hDa, by omega, by omega, by omega, by omega, hn1, hn12, Qb I.h1, Qb I.h2, by omega, by omega, nd1, nd2, fun g6 vs6 R6 v H7 s7 f6 hg6 hB6 hv vl hW lR => ?_⟩
   have hv' := hv dz (by rw [show (0 : Int) + 15 + 6 * ((k : Nat) : Int) + 3 * ((j : Nat) : Int) - 3 * ((j : Nat) : Int) = 0 + 15 + 6 * (k : Int) by omega]; exact edz)
   obtain ⟨gdw, fvw⟩ := gd.way (Yl ew) hW fv hj2 hv'
   have kw : ∀ r ∈ B ++ L ++ R6, r.kind < 9 := fun r hr => by
    rcases yX.mp hr with y | y
    ·exact kd r y
    ·have := (Qdv hW r y).2.2.1; omega
   have I7 := I.same s7
   have hD7 := hD0.same I7.sm
   have lb := I7.rb.length
   have ll := I7.rl.length
   have l6 := hB6.length
   obtain ⟨d43, ed43, d430, d431⟩ := hD7.get (0 + 43) (by omega) (by omega)
   refine ⟨_, rfl, _, rfl, _, _, rfl, rfl, l, _, _, _, rfl, rfl, hD7.lst, ed43, _, rfl, _, _, rfl, rfl, _, rfl, _, _, rfl, rfl, .inl ⟨by decide, by decide⟩, _, _, rfl, rfl, _, _, rfl, rfl, bigB66 (by omega) (by omega), _, _, rfl, rfl, (by show (0 : Int) < _; decide +kernel), rfl, _, rfl, ite2 (fun _ => ?_) (fun _ => ?_)⟩
   ·refine ⟨_, rfl, _, rfl, g6, gl, vs6, ls, rfl, rfl, hg6, I7.hl, by omega, fun g7 hg7 => ?_⟩
    exact ⟨gb, g7, _, _, _, _, _, _, rfl, I7.late hg7 hB6, gdw.perm (Vu B L R6), fun r hr => kw r ((Vu B L R6).mem_iff.mpr hr), hd, by rw [jY]; omega, fvw.perm (Vu B L R6)⟩
   ·refine ⟨_, rfl, _, rfl, gb, g6, bs, vs6, rfl, rfl, I7.hb, hg6, by omega, fun g7 hg7 => ?_⟩
    exact ⟨g7, gl, _, _, _, _, _, _, rfl, I7.cat hg7 hB6, gdw.perm (Ji B L R6), fun r hr => kw r ((Ji B L R6).mem_iff.mpr hr), by rw [xJ (kQ.mp hd).1]; exact hd, by rw [jY]; omega, fvw.perm (Ji B L R6)⟩
  ·rintro σ Hq ⟨gb, gl, v12, v13, bs, ls, B, L, rfl, I, gd, kd, hd, hl, _⟩
   exact ⟨gb, gl, _, _, _, _, bs, ls, B, L, rfl, I, gd, kd, hd, by omega⟩
 rintro σ Ha ⟨gb, gl, v10, v11, v12, v13, bs, ls, B, L, rfl, I, gd, kd, hd, hl⟩
 rw [l5m] at gd hl
 rw [kY] at gd
 have lb := I.rb.length
 have ll := I.rl.length
 refine ⟨_, rfl, _, rfl, gb, gl, bs, ls, rfl, rfl, I.hb, I.hl, by omega, fun g8 hg8 => ?_⟩
 have I8 := I.cat hg8 I.rl
 have hd8 : (B ++ L)[0]? = some (.days n) := by rw [xJ (kQ.mp hd).1]; exact hd
 have hl8 : (B ++ L).length ≤ 54 := by rw [jY]; omega
 generalize upd Ha g8 (.lst (bs ++ ls)) = H8 at I8 ⊢
 generalize bs ++ ls = bs8 at I8
 generalize B ++ L = B8 at I8 gd kd hd8 hl8
 have at5 : ∀ (i : Nat) (x : Str), nm5[i]? = some x → atI (nm5.map V.str) ((i : Nat) : Int) = some (.str x) := fun i x e => Qgf (by rw [zK, e]; rfl)
 have pm : (0 : Int) < (if n + 1 < 3 then n + 1 else 3) := by split <;> omega
 have pn : (if n + 1 < 3 then n + 1 else 3) ≤ n + 1 := by split <;> omega
 refine ⟨_, rfl, E5, _, rfl, .inl (Qb I8.h5), _, _, rfl, ⟨by decide, by decide, by omega, by rw [l5m]; omega⟩, Yd (lo := 1) (n := ((((nm5.map V.str).length : Nat) : Int) - 1).toNat) (fun m σ Hq => ∃ (v10 v14 : Option V) (bs : List V) (B : List BR), σ = [some (.ref l), some (.int 0), some (.int most), some (.int many), some (.int n), some (.ref g8), some (.ref E1), some (.ref E2), some (.ref E5), some (.ref gl), v10, v11, v12, v13, v14] ∧ BkI H Hq E1 E2 E5 g8 gl (nm1.map V.str) (nm2.map V.str) (nm5.map V.str) bs ls B L ∧ Gd n nm5 B ∧ (∀ r ∈ B, r.kind < 10) ∧ (∀ r ∈ B, r.kind = 9 → ∀ w ∈ r.own, w ∈ nm5.take (m + 1)) ∧ B[0]? = some (.days n) ∧ B.length ≤ 54 + m) ⟨_, _, _, _, rfl, I8, gd, fun r hr => Nat.lt_trans (kd r hr) (by decide), fun r hr e => absurd (kd r hr) (by omega), hd8, hl8⟩ ?_ ?_⟩
 ·rintro m σ Ha hm ⟨v10, v14, bs, B, rfl, I, gd, kd, ka, hd, hl⟩
  have hm' : m + 1 < nm5.length := by rw [l5m] at hm; omega
  rw [show (1 : Int) + (m : Int) = ((m + 1 : Nat) : Int) by omega]
  obtain ⟨wk, ewk⟩ : ∃ x, nm5[m + 1]? = some x := ⟨_, gE hm'⟩
  obtain ⟨wp, ewp⟩ : ∃ x, nm5[m]? = some x := ⟨_, gE (by omega)⟩
  obtain ⟨wf, ewf⟩ : ∃ x, nm5[0]? = some x := ⟨_, gE (by omega)⟩
  have mp : wp ∈ nm5.take (m + 1) := Yl ewp
  have mf : wf ∈ nm5.take (m + 1) := kZ (i := 0) (by rw [List.getElem?_take, if_pos (by omega)]; exact ewf)
  have mk' : wk ∈ nm5 := kZ ewk
  have hDa := hD0.same I.sm
  obtain ⟨z, ez, z0, z1⟩ := hDa.get (0 + 33 + ((m + 1 : Nat) : Int)) (by omega) (by omega)
  refine ⟨_, rfl, _, rfl, _, _, rfl, rfl, _, rfl, _, _, rfl, rfl, l, _, _, _, rfl, rfl, hDa.lst, ez, ?_⟩
  refine Qiy (fun σ' Hq => ∃ (bs : List V) (B : List BR), σ' = [some (.ref l), some (.int 0), some (.int most), some (.int many), some (.int n), some (.ref g8), some (.ref E1), some (.ref E2), some (.ref E5), some (.ref gl), some (.int ((m + 1 : Nat) : Int)), v11, v12, v13, some (.int z)] ∧ BkI H Hq E1 E2 E5 g8 gl (nm1.map V.str) (nm2.map V.str) (nm5.map V.str) bs ls B L ∧ Gd n nm5 B ∧ (∀ r ∈ B, r.kind < 10) ∧ (∀ r ∈ B, r.kind = 9 → ∀ w ∈ r.own, w ∈ nm5.take (m + 2)) ∧ (z % 3 = 2 → (∀ r ∈ B, r.kind = 9 → ∀ w ∈ r.own, w ∈ nm5.take (m + 1)) ∧ B.length ≤ 54 + m) ∧ B[0]? = some (.days n) ∧ B.length ≤ 54 + m + 1) ?_ fun REST => ?_
  ·clear I gd kd ka hd hl hDa
   rintro σ' Ha ⟨bs, B, rfl, I, gd, kd, ka, kz, hd, hl⟩
   refine ⟨_, rfl, _, _, rfl, rfl, (by show (0 : Int) < _; decide +kernel), rfl, _, rfl, ite2 (fun c2 => ?_) (fun _ => ⟨_, _, bs, B, rfl, I, gd, kd, ka, hd, by omega⟩)⟩
   have c2' : z % 3 = 2 := by
    have := kX c2
    injection this
   obtain ⟨ka1, hl1⟩ := kz c2'
   refine ⟨_, rfl, .inl ⟨rfl, _, Qb I.hb⟩, _, rfl, _, rfl, E5, _, _, _, rfl, rfl, Qb I.h5, at5 _ _ ewk, _, rfl, E5, _, _, _, rfl, rfl, Qb I.h5, at5 0 _ ewf, _, rfl, _, _, rfl, rfl, ⟨by decide, by decide⟩, _, rfl, _, _, rfl, rfl, _, _, rfl, _, _, rfl, rfl, pm, by show 4 ≤ sizeLine; decide, fun p7 hp7 => ?_⟩
   have f0 := yV (z / 3) (Int.ne_of_gt pm)
   have f1 := yZ (z / 3) pm
   have I2 := I.same (Qc hp7 (.lst [.str "after", .str wk, .str wf, .int (z / 3 % (if n + 1 < 3 then n + 1 else 3))]))
   have hp8 : upd Ha p7 (.lst [.str "after", .str wk, .str wf, .int (z / 3 % (if n + 1 < 3 then n + 1 else 3))]) p7 = some (.lst ((BR.after wk wf (z / 3 % (if n + 1 < 3 then n + 1 else 3))).cells.map kV)) := Qd
   generalize upd Ha p7 (.lst [.str "after", .str wk, .str wf, .int (z / 3 % (if n + 1 < 3 then n + 1 else 3))]) = Hc at I2 hp8 ⊢
   have lb2 := I2.rb.length
   have ok : (BR.after wk wf (z / 3 % (if n + 1 < 3 then n + 1 else 3))).ok n := ⟨Ne.symm (Zd nd5 ewk mf), f0, by omega⟩
   refine ⟨g8, _, _, rfl, rfl, I2.hb, by omega, _, _, _, _, rfl, I2.put hp8, gd.put (w := wk) ok (fun x hx => hx) (fun x hx => ?_) (fun x hx nx => absurd hx nx) zX (fun q hq e hw => Zd nd5 ewk (ka1 q hq e wk hw) rfl), fun r hr => ?_, fun r hr e w hw => ?_, by rw [xJ (kQ.mp hd).1]; exact hd, by rw [jY]; show B.length + 1 ≤ _; omega⟩
   ·rcases zY.mp hx with y | y
    ·rw [y]; exact mk'
    ·rw [jJ.mp y]; exact jZe mf
   ·rcases yX.mp hr with y | y
    ·exact kd r y
    ·rw [jJ.mp y]; show (9 : Nat) < 10; decide
   ·rcases yX.mp hr with y | y
    ·exact ka r y e w hw
    ·rw [jJ.mp y] at hw
     rcases zY.mp hw with y | y
     ·rw [y]; exact Yl ewk
     ·rw [jJ.mp y]; exact Yg ewk mf
  ·have wide : ∀ r ∈ B, r.kind = 9 → ∀ w ∈ r.own, w ∈ nm5.take (m + 2) := fun r hr e w hw => Yg ewk (ka r hr e w hw)
   refine ⟨_, rfl, _, _, rfl, rfl, (by show (0 : Int) < _; decide +kernel), rfl, _, rfl, ite2 (fun c1 => ?_) (fun _ => REST _ _ ⟨bs, B, rfl, I, gd, kd, wide, fun _ => ⟨ka, by omega⟩, hd, by omega⟩)⟩
   have c1' : z % 3 = 1 := by
    have := kX c1
    injection this
   refine ⟨_, rfl, .inl ⟨rfl, _, Qb I.hb⟩, _, rfl, _, rfl, _, _, rfl, rfl, E5, _, _, _, rfl, rfl, Qb I.h5, by rw [show ((m + 1 : Nat) : Int) - 1 = ((m : Nat) : Int) by omega]; exact at5 _ _ ewp, _, rfl, _, rfl, E5, _, _, _, rfl, rfl, Qb I.h5, at5 _ _ ewk, _, rfl, _, _, rfl, rfl, ⟨by decide, by decide⟩, _, rfl, _, _, rfl, rfl, _, _, rfl, _, _, rfl, rfl, pm, by show 4 ≤ sizeLine; decide, fun p7 hp7 => ?_⟩
   have f0 := yV (z / 3) (Int.ne_of_gt pm)
   have f1 := yZ (z / 3) pm
   have I2 := I.same (Qc hp7 (.lst [.str "after", .str wp, .str wk, .int (z / 3 % (if n + 1 < 3 then n + 1 else 3))]))
   have hp8 : upd Ha p7 (.lst [.str "after", .str wp, .str wk, .int (z / 3 % (if n + 1 < 3 then n + 1 else 3))]) p7 = some (.lst ((BR.after wp wk (z / 3 % (if n + 1 < 3 then n + 1 else 3))).cells.map kV)) := Qd
   generalize upd Ha p7 (.lst [.str "after", .str wp, .str wk, .int (z / 3 % (if n + 1 < 3 then n + 1 else 3))]) = Hc at I2 hp8 ⊢
   have lb2 := I2.rb.length
   have ok : (BR.after wp wk (z / 3 % (if n + 1 < 3 then n + 1 else 3))).ok n := ⟨Zd nd5 ewk mp, f0, by omega⟩
   refine ⟨g8, _, _, rfl, rfl, I2.hb, by omega, REST _ _ ⟨_, _, rfl, I2.put hp8, gd.put (w := wk) ok (fun x hx => hx) (fun x hx => ?_) (fun x hx nx => absurd hx nx) (xX _ zX) (fun q hq e hw => Zd nd5 ewk (ka q hq e wk hw) rfl), fun r hr => ?_, fun r hr e w hw => ?_, fun c => absurd c (by omega), by rw [xJ (kQ.mp hd).1]; exact hd, by rw [jY]; show B.length + 1 ≤ _; omega⟩⟩
   ·rcases zY.mp hx with y | y
    ·rw [y]; exact jZe mp
    ·rw [jJ.mp y]; exact mk'
   ·rcases yX.mp hr with y | y
    ·exact kd r y
    ·rw [jJ.mp y]; show (9 : Nat) < 10; decide
   ·rcases yX.mp hr with y | y
    ·exact wide r y e w hw
    ·rw [jJ.mp y] at hw
     rcases zY.mp hw with y | y
     ·rw [y]; exact Yg ewk mp
     ·rw [jJ.mp y]; exact Yl ewk
 rintro σ H9 ⟨v10, v14, bs9, B9, rfl, I9, gd9, kd9, _, hd9, hl9⟩
 have hl9 : B9.length ≤ 54 + 2 := by rw [l5m] at hl9; omega
 let Pv15 : Nat → St → Hp → Prop := fun k σ Hq => ∃ (v10 v11 v14 : Option V) (bs : List V) (B : List BR), σ = [some (.ref l), some (.int 0), some (.int most), some (.int many), some (.int n), some (.ref g8), some (.ref E1), some (.ref E2), some (.ref E5), some (.ref gl), v10, v11, v12, v13, v14] ∧ BkI H Hq E1 E2 E5 g8 gl (nm1.map V.str) (nm2.map V.str) (nm5.map V.str) bs ls B L ∧ Gd n nm5 B ∧ (∀ r ∈ B, r.kind = 10 → ∀ w ∈ r.own, w ∈ nm5.take k) ∧ B[0]? = some (.days n) ∧ B.length ≤ 56 + k
 refine ⟨_, rfl, E5, rfl, ⟨_, Qb I9.h5⟩, Jw (K := K) (m := true) (a := E5) (xs := nm5.map V.str) Pv15 ⟨_, _, _, _, _, rfl, I9, gd9, fun r hr e => absurd (kd9 r hr) (by omega), hd9, by omega⟩ (fun k σ Hq _ h => ?_) ?_ ?_⟩
 ·obtain ⟨v10, v11, v14, bs, B, rfl, I, gd, kd, hd, hl⟩ := h
  exact Qb I.h5
 ·rintro k x σ Ha T e1 ⟨v10, v11, v14, bs, B, rfl, I, gd, kd, hd, hl⟩ hTn
  obtain ⟨w', ew, rfl⟩ := Zo e1
  have hk : k < nm5.length := (kQ.mp ew).1
  refine ⟨T, _, rfl, Qs Qd, rfl, _, _, rfl, _, _, rfl, rfl, ?_⟩
  have I1 := I.same (Qc hTn (.tup [.int (k : Nat), .str w']))
  generalize upd Ha T (.tup [.int (k : Nat), .str w']) = Hb at I1 ⊢
  have hDb := hD0.same I1.sm
  obtain ⟨z, ez, z0, z1⟩ := hDb.get (0 + 36 + (k : Int)) (by omega) (by omega)
  refine ⟨_, rfl, _, rfl, _, _, rfl, rfl, _, rfl, _, _, rfl, rfl, l, _, _, _, rfl, rfl, hDb.lst, ez, ?_⟩
  refine ⟨_, rfl, _, _, rfl, rfl, (by show (0 : Int) < _; decide +kernel), rfl, _, rfl, ite2 (fun _ => ?_) (fun _ => ⟨_, _, _, bs, B, rfl, I1, gd, fun r hr e w hw => Yg ew (kd r hr e w hw), hd, by omega⟩)⟩
  refine ⟨_, rfl, .inl ⟨rfl, _, Qb I1.hb⟩, _, rfl, _, rfl, _, _, rfl, rfl, ⟨by decide, by decide⟩, _, rfl, _, _, rfl, rfl, _, _, rfl, rfl, by omega, _, rfl, _, _, rfl, rfl, ⟨by decide, by decide⟩, _, _, rfl, rfl, (by show (0 : Int) < _; decide +kernel), _, _, rfl, rfl, by show 4 ≤ sizeLine; decide, fun p7 hp7 => ?_⟩
  have f0 := yV (z / 2) (show n + 1 ≠ 0 by omega)
  have f1 := yZ (z / 2) (show 0 < n + 1 by omega)
  have f2 := yV (z / 24) (show (9 : Int) ≠ 0 by decide)
  have f3 := yZ (z / 24) (show (0 : Int) < 9 by decide)
  have I2 := I1.same (Qc hp7 (.lst [.str "late", .str w', .int (z / 2 % (n + 1)), .int (1 + z / 24 % 9)]))
  have hp8 : upd Hb p7 (.lst [.str "late", .str w', .int (z / 2 % (n + 1)), .int (1 + z / 24 % 9)]) p7 = some (.lst ((BR.late w' (z / 2 % (n + 1)) (1 + z / 24 % 9)).cells.map kV)) := Qd
  generalize upd Hb p7 (.lst [.str "late", .str w', .int (z / 2 % (n + 1)), .int (1 + z / 24 % 9)]) = Hc at I2 hp8 ⊢
  have lb2 := I2.rb.length
  have ok : (BR.late w' (z / 2 % (n + 1)) (1 + z / 24 % 9)).ok n := ⟨f0, by omega, by omega, by omega⟩
  have mw : w' ∈ nm5 := kZ ew
  refine ⟨g8, _, _, rfl, rfl, I2.hb, by omega, _, _, _, _, _, rfl, I2.put hp8, gd.put (w := w') ok (fun x hx => hx) (fun x hx => by rw [jJ.mp hx]; exact mw) (fun x hx nx => absurd hx nx) (jJ.mpr rfl) (fun q hq e hw => Zd nd5 ew (kd q hq e w' hw) rfl), fun r hr e w hw => ?_, by rw [xJ (kQ.mp hd).1]; exact hd, by rw [jY]; show B.length + 1 ≤ _; omega⟩
  rcases yX.mp hr with y | y
  ·exact Yg ew (kd r y e w hw)
  ·rw [jJ.mp y] at hw; rw [jJ.mp hw]; exact Yl ew
 ·rintro σ Hq ⟨v10, v11, v14, bs, B, rfl, I, gd, kd, hd, hl⟩
  rw [l5m] at hl
  exact ⟨_, rfl, qq g8 bs n B Hq I.sm I.fb I.hb I.rb ⟨hn1, hn12, gd.wb (by omega) (by omega), hd⟩⟩
end
end Nb
namespace L2
open PySem PySem.Spec PyProof.Rows
section
variable {prog : Program} {w : World} {A : Around} {E : Value → Shared → Prop} {s : Shared}
end
section
variable {X : Cx} {tg : Expr}
end
theorem is_kV {P : Program} {w : World} {k : Key} {u : Value} (h : (Xt P w).is k u = true) : RelV (kV k) u := by
 rw [Qee] at h
 rcases Xz h with ⟨i, t, rfl, rfl⟩ | ⟨x, t, rfl, rfl⟩
 ·exact ⟨t, rfl⟩
 ·exact ⟨t, rfl⟩
section
variable {X : Cx} {pins : List (Addr × Obj)} {σ : St} {H : Hp} {s : Shared} {d : Addr} {kvs : List (Key × V)} {o : Obj}
def NF (X : Cx) (d : Addr) : Prop := ∀ o u, X.H₀ d ≠ some (.frz o u)
theorem Inv.nf (I : Inv X pins σ H s) (e : H d = some (.dK kvs)) : NF X d := fun o u z => by
 have := I.base.frzs d o u z
 rw [e] at this
 cases this
theorem Inv.freeze (I : Inv X pins σ H s) (e : H d = some (.dK kvs)) : ∃ o, s.heap.get? d = some o ∧ Inv X pins σ (upd H d (.frz o (.dK kvs))) s := by
 obtain ⟨z, hd, vs, rel, dd⟩ := Qls I.hok e
 obtain ⟨o, es, ep, h1, h2⟩ := id dd
 exact ⟨o, h1, Ww (t' := s.toks) I (by rw [e]; exact True.intro) (Heap.SameBut.refl _ _) ⟨o, h1⟩ ⟨h1, z, hd, vs, rel, dd⟩⟩
theorem Inv.thaw (I : Inv X pins σ H s) (nf : NF X d) (e : H d = some (.frz o (.dK kvs))) : Inv X pins σ (upd H d (.dK kvs)) s := by
 have ne : ∀ b, H b = none → b ≠ d := fun b n z => by rw [z, e] at n; cases n
 have ok : ObjOk X.prog X.w H s.heap d (.frz o (.dK kvs)) := I.hok d _ e
 obtain ⟨_, z, hd, vs, rel, dd⟩ := ok
 refine ⟨I.ok, I.os, I.bare, ⟨I.base.keep, I.base.slot, fun b q e1 n hx => ?_, I.base.there, fun b xs q => ?_, fun b o' u q => ?_, fun b ps q => ?_⟩, I.loc, I.cell, ?_, fun x c q => ?_, fun p hp => ?_, fun b u q => ?_, I.len⟩
 ·have n1 := I.base.free b q e1 n hx
  rw [Qk (ne b n1)]; exact n1
 ·have q1 := I.base.tups b xs q
  rw [Qk (Yx q1 e (by intro z; cases z))]; exact q1
 ·have q1 := I.base.frzs b o' u q
  rw [Qk (fun z => by subst z; exact nf _ _ q)]; exact q1
 ·obtain ⟨m, q1⟩ := I.base.tbls b ps q
  exact ⟨m, by rw [Qk (Yx q1 e (by intro z; cases z))]; exact q1⟩
 ·rw [Qk (ne _ I.free)]; exact I.free
 ·have n1 := I.freeC x c q
  rw [Qk (ne _ n1)]; exact n1
 ·obtain ⟨a1, a2, a3⟩ := I.pin p hp
  exact ⟨a1, by rw [Qk (ne _ a2)]; exact a2, a3⟩
 ·by_cases hb : b = d
  ·subst hb
   rw [Qd] at q
   cases q
   exact ⟨z, hd, vs, rel, dd⟩
  ·rw [Qk hb] at q
   exact (I.hok b u q).stay (fun _ _ _ r => r) (fun c r => by rw [Qk (Yx r e (by intro z; cases z))]; exact r) fun c xs r => by rw [Qk (Yx r e (by intro z; cases z))]; exact r
end
theorem Qgz {P : Program} {w : World} {H : Hp} {h : Heap} {d : Addr} {o : Obj} {kvs : List (Key × V)} {es : Array DictEntry} {ep : Nat} (ok : HOk P w H h) (e : H d = some (.frz o (.dK kvs))) (hd : o.data = .dict es ep) : ∃ vs, KV kvs vs ∧ h.DictAt (Xt P w) d vs ep := by
 obtain ⟨h0, z, hn, vs, rel, ob, es', ep', h1, h2, h3, h4⟩ := (show ObjOk P w H h d (.frz o (.dK kvs)) from ok d _ e)
 rw [h0] at h1
 cases h1
 rw [hd] at h3
 cases h3
 exact ⟨vs, rel, o, es, h0, h2, hd, h4⟩
section
variable {X : Cx}
def Thw (F : Addr → Prop) (D : Ends) : Ends where
 nx := fun σ H => ∃ d o kvs, F d ∧ H d = some (.frz o (.dK kvs)) ∧ D.nx σ (upd H d (.dK kvs))
 rt := fun v H => ∃ d o kvs, F d ∧ H d = some (.frz o (.dK kvs)) ∧ D.rt v (upd H d (.dK kvs))
 bk := fun σ H => ∃ d o kvs, F d ∧ H d = some (.frz o (.dK kvs)) ∧ D.bk σ (upd H d (.dK kvs))
 ct := fun σ H => ∃ d o kvs, F d ∧ H d = some (.frz o (.dK kvs)) ∧ D.ct σ (upd H d (.dK kvs))
def tThw (F : Addr → Prop) (t : TS) : TS := fun D σ H => t (Thw F D) σ H
theorem Qmc {st : Stmt} {t : TS} (h : PS X st t) : PS X st (tThw (NF X) t) := by
 intro pins s σ H D I q
 refine thn (h pins s σ H _ I q) fun f s' p => ?_
 cases f with
 | next => obtain ⟨σ', H', I', d, o, kvs, nf, e, r⟩ := p; exact ⟨σ', _, I'.thaw nf e, r⟩
 | brk => obtain ⟨σ', H', I', d, o, kvs, nf, e, r⟩ := p; exact ⟨σ', _, I'.thaw nf e, r⟩
 | cont => obtain ⟨σ', H', I', d, o, kvs, nf, e, r⟩ := p; exact ⟨σ', _, I'.thaw nf e, r⟩
 | ret u => obtain ⟨v, σ', H', I', rv, d, o, kvs, nf, e, r⟩ := p; exact ⟨v, σ', _, I'.thaw nf e, rv, r⟩
end
end L2
namespace L2
open PySem PySem.Spec PyProof.Rows PySem.SeqAt
section
variable {X : Cx}
end
end L2
namespace Nb
open PySem L2
theorem eqS {a b : Str} (h : decide (V.str a = V.str b) = true) : a = b := by
 have := kX h
 injection this
theorem yesS (a : Str) : decide (V.str a = V.str a) = true := yQ rfl
theorem Qew {α : Type} {R : α → α → Prop} : ∀ {l : List α} {i j : Nat} {x y : α}, l.Pairwise R → i < j → l[i]? = some x → l[j]? = some y → R x y
 | a :: l, 0, j + 1, x, y, h, _, e1, e2 => by
  cases e1
  exact (jJa.mp h).1 y (kZ (show l[j]? = some y from e2))
 | a :: l, i + 1, j + 1, x, y, h, hij, e1, e2 => Qew (jJa.mp h).2 (by omega) (show l[i]? = some x from e1) (show l[j]? = some y from e2)
 | [], _, _, _, _, _, _, e1, _ => nomatch e1
 | _ :: _, _, 0, _, _, _, h, _, _ => absurd h (Nat.not_lt_zero _)
theorem Qje (ks : List Key) (lo hi : Option Int) : ∃ ls : List Key, cutV (ks.map kV) lo hi = ls.map kV := by
 unfold cutV
 rw [jX]
 exact ⟨(ks.drop (HT.sIx ks.length 0 lo)).take (HT.sIx ks.length ks.length hi - HT.sIx ks.length 0 lo), by rw [List.map_take, List.map_drop]⟩
theorem Jx {X : Cx} {K : Fg} (hK : X.K = K) : SlR X (rSlL K) := by subst hK; exact Qfu
def isWay (w : Str) : BR → Bool
 | .way w' _ _ _ => decide (w' = w)
 | _ => false
theorem Zb {α : Type} {B : List α} {i : Nat} {r : α} (p : α → Bool) (h : B[i]? = some r) : (B.take (i + 1)).filter p = (B.take i).filter p ++ (if p r = true then [r] else []) := by
 rw [Zz h, List.filter_append]
 by_cases c : p r = true
 ·rw [if_pos c, List.filter_cons_of_pos c, List.filter_nil]
 ·rw [if_neg c, List.filter_cons_of_neg c, List.filter_nil]
def lenOf (w v : Str) : BR → Option Int
 | .way w' v' l _ => if w' = w ∧ v' = v then some l else none
 | _ => none
theorem lenOf_some {w v : Str} {r : BR} {x : Int} : lenOf w v r = some x ↔ ∃ c, r = .way w v x c := by
 constructor
 ·intro h
  cases r with
  | way w' v' l c =>
   have h' : (if w' = w ∧ v' = v then some l else none) = some x := h
   by_cases e : w' = w ∧ v' = v
   ·rw [if_pos e] at h'
    cases h'
    rw [e.1, e.2]
    exact ⟨c, rfl⟩
   ·rw [if_neg e] at h'; cases h'
  | _ => cases h
 ·rintro ⟨c, rfl⟩
  exact if_pos ⟨rfl, rfl⟩
theorem Xf {α β : Type} {B : List α} {i : Nat} {r : α} (p : α → Option β) (h : B[i]? = some r) : (B.take (i + 1)).filterMap p = (B.take i).filterMap p ++ (p r).toList := by
 rw [Zz h, List.filterMap_append]
 congr 1
theorem WB.uniq {n : Int} {B : List BR} (h : WB n B) {r q : BR} (hr : r ∈ B) (hq : q ∈ B) (hk : r.key = q.key) (hs : r.word ≠ "shut") : r = q := by
 obtain ⟨i, ei⟩ := jYa.mp hr
 obtain ⟨j, ej⟩ := jYa.mp hq
 have hs' : q.word ≠ "shut" := by
  have h1 : ((Sum.inr r.word : Key) :: r.names.map Sum.inr) = Sum.inr q.word :: q.names.map Sum.inr := hk
  injection h1 with h2
  rw [← Sum.inr.inj h2]; exact hs
 rcases Nat.lt_trichotomy i j with c | c | c
 ·rcases Qew h.nd c ei ej with z | z | z
  ·exact absurd z hs
  ·exact absurd z hs'
  ·exact absurd hk z
 ·subst c
  exact Option.some.inj (ei.symm.trans ej)
 ·rcases Qew h.nd c ej ei with z | z | z
  ·exact absurd z hs'
  ·exact absurd z hs
  ·exact absurd hk.symm z
theorem WB.way1 {n : Int} {B : List BR} (h : WB n B) {w v : Str} {l c l' c' : Int} (h1 : .way w v l c ∈ B) (h2 : .way w v l' c' ∈ B) : l = l' ∧ c = c' := by
 have := h.uniq h1 h2 rfl (by show ¬ (("way" : Str) = "shut"); decide +kernel)
 cases this
 exact ⟨rfl, rfl⟩
def Jn (k : Fin 3) (w v t : Str) : BR → Option Int
 | .use k' w' v' t' m => if k' = k ∧ w' = w ∧ v' = v ∧ t' = t then some m else none
 | _ => none
def Zi (B : List BR) (k : Fin 3) (w v t : Str) : Int := (B.filterMap (Jn k w v t)).sum
theorem Qdx {r : BR} {k : Fin 3} (h : r.word = useW k) : ∃ w v t m, r = .use k w v t m := by
 have hk : r.kind = 6 + k.val := by
  have e : useW k = wordOf (6 + k.val) := by match k with | 0 => rfl | 1 => rfl | 2 => rfl
  exact (Zn r (by have := k.isLt; omega)).mp (h.trans e)
 cases r with
 | use k' w v t m =>
  have e : 6 + k'.val = 6 + k.val := hk
  have e2 : k' = k := Fin.ext (by omega)
  subst e2
  exact ⟨w, v, t, m, rfl⟩
 | days n => exact absurd (show (0 : Nat) = 6 + k.val from hk) (by omega)
 | bench b r => exact absurd (show (1 : Nat) = 6 + k.val from hk) (by omega)
 | shut b f t => exact absurd (show (2 : Nat) = 6 + k.val from hk) (by omega)
 | store b m f => exact absurd (show (3 : Nat) = 6 + k.val from hk) (by omega)
 | work w => exact absurd (show (4 : Nat) = 6 + k.val from hk) (by omega)
 | way w v l c => exact absurd (show (5 : Nat) = 6 + k.val from hk) (by omega)
 | after w x g => exact absurd (show (9 : Nat) = 6 + k.val from hk) (by have := k.isLt; omega)
 | late w d c => exact absurd (show (10 : Nat) = 6 + k.val from hk) (by have := k.isLt; omega)
theorem manyOf_some {k : Fin 3} {w v t : Str} {r : BR} {x : Int} : Jn k w v t r = some x ↔ r = .use k w v t x := by
 constructor
 ·intro h
  cases r with
  | use k' w' v' t' m =>
   have h' : (if k' = k ∧ w' = w ∧ v' = v ∧ t' = t then some m else none) = some x := h
   by_cases e : k' = k ∧ w' = w ∧ v' = v ∧ t' = t
   ·rw [if_pos e] at h'
    cases h'
    obtain ⟨rfl, rfl, rfl, rfl⟩ := e
    rfl
   ·rw [if_neg e] at h'; cases h'
  | _ => cases h
 ·rintro rfl
  exact if_pos ⟨rfl, rfl, rfl, rfl⟩
def Yj : BR → Option Str
 | .work w => some w
 | _ => none
def wks (B : List BR) : List Str := B.filterMap Yj
theorem Vv {r : BR} (h : r.word ≠ "work") : Yj r = none := by
 cases r with
 | work w => exact absurd rfl h
 | _ => rfl
def lenB (B : List BR) (w v : Str) : Int := (B.filterMap (lenOf w v)).headD 0
def Yw (b : Str) (day : Int) : BR → Bool
 | .shut b' f t => decide (b' = b ∧ f ≤ day ∧ day < t)
 | _ => false
theorem Qha {b : Str} {day : Int} {r : BR} (h : r.word ≠ "shut") : Yw b day r = false := by
 cases r with
 | shut b' f t => exact absurd rfl h
 | _ => rfl
theorem Qbw {r : BR} (h : r.word = "shut") : ∃ b f t, r = .shut b f t := by
 have hk : r.kind = 2 := (Zn r (k := 2) (by decide)).mp h
 cases r with
 | shut b f t => exact ⟨b, f, t, rfl⟩
 | use k _ _ _ _ => exact absurd (show 6 + k.val = 2 from hk) (by omega)
 | _ => exact nomatch hk
def Wf (B : List BR) (b : Str) (r day : Int) : Int := if (B.filter (Yw b day)).length = 0 then r else 0
def useR (B : List BR) (b : Str) (day : Int) (p : Str × Str × Int) : Int := if p.2.2 ≤ day ∧ day < p.2.2 + lenB B p.1 p.2.1 then Zi B 0 p.1 p.2.1 b else 0
theorem Zp {n : Int} {B : List BR} (wb : WB n B) {w v : Str} {l c : Int} (h : BR.way w v l c ∈ B) : lenB B w v = l := by
 have hx : ∀ x ∈ B.filterMap (lenOf w v), x = l := fun x hx => by
  obtain ⟨r, hr, e⟩ := yY.mp hx
  obtain ⟨c', rfl⟩ := lenOf_some.mp e
  exact (wb.way1 hr h).1
 have hne : l ∈ B.filterMap (lenOf w v) := yY.mpr ⟨_, h, lenOf_some.mpr ⟨c, rfl⟩⟩
 unfold lenB
 cases e : B.filterMap (lenOf w v) with
 | nil => rw [e] at hne; exact nomatch hne
 | cons a b => exact hx a (by rw [e]; exact zX)
theorem Qcv {α β : Type} {R : α → β → Prop} {xs : List α} {ys : List β} (h : Paired R xs ys) : ∀ {i : Nat} {y : β}, ys[i]? = some y → ∃ x, xs[i]? = some x ∧ R x y := by
 induction h with
 | nil => intro i x e; exact nomatch e
 | cons z _ ih =>
  intro i x e
  match i with
  | 0 => cases e; exact ⟨_, rfl, z⟩
  | i + 1 => exact ih (show _ = some x from e)
theorem Wm {r : BR} (h : r.word = "bench") : ∃ b c, r = .bench b c := by
 have hk : r.kind = 1 := (Zn r (k := 1) (by decide)).mp h
 cases r with
 | bench b c => exact ⟨b, c, rfl⟩
 | use k _ _ _ _ => exact absurd (show 6 + k.val = 1 from hk) (by omega)
 | _ => exact nomatch hk
theorem Kf {r : BR} (h : r.word = "store") : ∃ b m f, r = .store b m f := by
 have hk : r.kind = 3 := (Zn r (k := 3) (by decide)).mp h
 cases r with
 | store b m f => exact ⟨b, m, f, rfl⟩
 | use k _ _ _ _ => exact absurd (show 6 + k.val = 3 from hk) (by omega)
 | _ => exact nomatch hk
abbrev Qjf : Stmt := top 3
abbrev Kg : Stmt := inClass (top 5) 0
abbrev Qbx : Stmt := inClass (top 5) 4
def Qaj (fN : Str → Option Value) : Prop := ∀ r : BR, ∃ t, fN r.word = some (.int ((r.names.length : Nat) : Int) t)
theorem Qmd (r : BR) : r.key.length = 1 + r.names.length := by
 unfold BR.key
 rw [xK, jX]
 omega
theorem Qme (r : BR) : cutV (r.cells.map kV) none (some (1 + ((r.names.length : Nat) : Int))) = r.key.map kV := by
 unfold cutV
 have h1 : (1 : Int) + ((r.names.length : Nat) : Int) = ((r.key.length : Nat) : Int) := by rw [Qmd]; omega
 have h2 : r.key.length ≤ r.cells.length := by unfold BR.cells; rw [jY]; omega
 rw [HT.sIx_none, List.drop_zero, Nat.sub_zero, h1, HT.sIx_nat, jX, jXe h2, ← List.map_take]
 unfold BR.cells
 rw [List.take_left']
 rfl
theorem Qjg (r : BR) : cutV (r.cells.map kV) (some (((r.key.map kV).length : Nat) : Int)) none = r.nums.map V.int := by
 unfold cutV
 have h2 : r.key.length ≤ r.cells.length := by unfold BR.cells; rw [jY]; omega
 rw [HT.sIx_none, HT.sIx_nat, jX, jX, jXe h2, ← List.map_drop]
 unfold BR.cells
 rw [List.drop_left', jY, Nat.add_sub_cancel_left, List.map_map, wY (by rw [jX, jX]; exact jZ _)]
 ·rfl
 ·rfl
def Qko : Sp := fun vs H Q _ => ∃ (l : Addr) (r : BR), vs = [.ref l] ∧ H l = some (.lst (r.cells.map kV)) ∧ ∀ (t : Addr) (H' : Hp), Same H H' → H t = none → H' t = some (.tup (r.key.map kV)) → Q (.ref t) H'
structure FcTxt (K : Fg) (mg : Str → Option Value) (C : Addr) : Prop where
 cl : Cls K C
 nD : NoAttr K C "days"
 nW : NoAttr K C "works"
 nB : NoAttr K C "benches"
 nH : NoAttr K C "shuts"
 nS : NoAttr K C "stores"
 nA : NoAttr K C "afters"
 nI : NoAttr K C "said"
 mgC : mg "Facts" = some (.ref C)
def FrP (p : Addr) (H H' : Hp) : Prop := ∀ b o, H b = some o → b ≠ p → H' b = some o
theorem RowsB.frP {p : Addr} {H H' : Hp} {vs : List V} {B : List BR} {C dx : Addr} {fs : List (Str × V)} (h : RowsB H vs B) (f : FrP p H H') (hp : H p = some (.ins C dx fs)) : RowsB H' vs B := h.imp fun l r _ z => f _ _ z (Yx z hp (by intro e; cases e))
theorem Ky {K : Fg} {H : Hp} {P t C dx C' dx' : Addr} {fs fs' : List (Str × V)} {xs : List V} (hP : H P = some (.ins C dx fs)) (h : SqT K H t xs) : SqT K (upd H P (.ins C' dx' fs')) t xs := by
 rcases h with (h | ⟨p, h⟩) | h
 ·exact .inl (.inl (by rw [Qk (Yx h hP (by intro z; cases z))]; exact h))
 ·exact .inl (.inr ⟨p, by rw [Qk (Yx h hP (by intro z; cases z))]; exact h⟩)
 ·exact .inr h
def SaidOk (K : Fg) (H : Hp) (kvs : List (List Key × V)) (B : List BR) : Prop :=
 (∀ r ∈ B, r.word ≠ "shut" → ∃ t, valV kvs r.key = some (.ref t) ∧ SqT K H t (r.nums.map V.int)) ∧ ∀ k : List Key, (∀ r ∈ B, r.key ≠ k) → valV kvs k = none
def Qhb (K : Fg) (H : Hp) : List (List Key × V) → List BR → Prop := Paired fun p r => p.1 = r.key ∧ ∃ t, p.2 = .ref t ∧ SqT K H t (r.nums.map V.int)
theorem Qby {ps : List (List Key × V)} {k : List Key} (h : ∀ p ∈ ps, p.1 ≠ k) : ∀ m, m ≤ ps.length → valV (Xg (ps.take m)) k = none := by
 intro m
 induction m with
 | zero => intro _; rfl
 | succ m ih =>
  intro hm
  have e : ps[m]? = some ps[m] := gE hm
  rw [Zm e, Qdp, if_neg (fun z => h _ (kZ e) z.symm)]
  exact ih (by omega)
theorem Qbz {ps : List (List Key × V)} {k : List Key} {v : V} {i : Nat} (hi : ps[i]? = some (k, v)) (hu : ∀ j p, ps[j]? = some p → p.1 = k → j = i) : ∀ m, i < m → m ≤ ps.length → valV (Xg (ps.take m)) k = some v := by
 intro m
 induction m with
 | zero => intro h; exact absurd h (Nat.not_lt_zero _)
 | succ m ih =>
  intro h1 hm
  have e : ps[m]? = some ps[m] := gE hm
  rw [Zm e, Qdp]
  by_cases c : m = i
  ·subst c
   have e2 : ps[m] = (k, v) := Option.some.inj (e.symm.trans hi)
   rw [e2, if_pos rfl]
  ·rw [if_neg (fun z => c (hu m _ e z.symm))]
   exact ih (by omega) (by omega)
theorem Qmf {K : Fg} {H : Hp} {ps : List (List Key × V)} {n : Int} {B : List BR} (h : Qhb K H ps B) (wb : WB n B) : SaidOk K H (Xg ps) B := by
 have hl := Paired.length h
 refine ⟨fun r hr hs => ?_, fun k hk => ?_⟩
 ·obtain ⟨i, ei⟩ := jYa.mp hr
  obtain ⟨⟨k, v⟩, ex, e1, t, e2, hT⟩ := Qcv h ei
  have e1' : k = r.key := e1
  have e2' : v = .ref t := e2
  subst e1' e2'
  have il := (kQ.mp ex).1
  have hv := Qbz ex (fun j p ep hp => ?_) ps.length il (jZ _)
  ·rw [kY] at hv
   exact ⟨t, hv, hT⟩
  ·obtain ⟨q, eq, e3, _⟩ := Qy h ep
   have hk : r.key = q.key := hp.symm.trans e3
   rcases Nat.lt_trichotomy i j with c | c | c
   ·rcases Qew wb.nd c ei eq with z | z | z
    ·exact absurd z hs
    ·have h1 : ((Sum.inr r.word : Key) :: r.names.map Sum.inr) = Sum.inr q.word :: q.names.map Sum.inr := hk
     injection h1 with h2
     exact absurd ((Sum.inr.inj h2).trans z) hs
    ·exact absurd hk z
   ·exact c.symm
   ·rcases Qew wb.nd c eq ei with z | z | z
    ·have h1 : ((Sum.inr r.word : Key) :: r.names.map Sum.inr) = Sum.inr q.word :: q.names.map Sum.inr := hk
     injection h1 with h2
     exact absurd ((Sum.inr.inj h2).trans z) hs
    ·exact absurd z hs
    ·exact absurd hk.symm z
 ·have hv := Qby (ps := ps) (k := k) (fun p hp => ?_) ps.length (jZ _)
  ·rw [kY] at hv
   exact hv
  ·obtain ⟨i, ei⟩ := jYa.mp hp
   obtain ⟨q, eq, e3, _⟩ := Qy h ei
   rw [e3]
   exact hk q (kZ eq)
def wayK (k : List Key) : Bool := decide (k.head? = some (Sum.inr ("way" : Str)))
open Classical in
theorem Qjh {kvs : List (List Key × V)} {k : List Key} {v : V} : (putK kvs k v).map (·.1) = if k ∈ kvs.map (·.1) then kvs.map (·.1) else kvs.map (·.1) ++ [k] := by
 unfold putK
 by_cases h : (kvs.any fun kv => decide (kv.1 = k)) = true
 ·rw [if_pos h, if_pos (by
   obtain ⟨x, hx, e⟩ := jZc.mp h
   exact wW.mpr ⟨x, hx, kX e⟩), List.map_map]
  refine List.map_congr_left fun x _ => ?_
  show (if x.1 = k then (x.1, v) else x).1 = x.1
  split <;> rfl
 ·rw [if_neg h, if_neg (fun z => h (by
   obtain ⟨x, hx, e⟩ := wW.mp z
   exact jZc.mpr ⟨x, hx, yQ e⟩)), kK]
  rfl
theorem Wg {ps : List (List Key × V)} {p : List Key → Bool} (hu : ∀ (i j : Nat) a b, i < j → ps[i]? = some a → ps[j]? = some b → a.1 = b.1 → p b.1 = false) : ∀ m, m ≤ ps.length → ((Xg (ps.take m)).map (·.1)).filter p = ((ps.take m).map (·.1)).filter p ∧ ∀ x ∈ (Xg (ps.take m)).map (·.1), x ∈ (ps.take m).map (·.1) := by
 intro m
 induction m with
 | zero => intro _; exact ⟨rfl, fun x hx => hx⟩
 | succ m ih =>
  intro hm
  have e : ps[m]? = some ps[m] := gE hm
  obtain ⟨i1, i2⟩ := ih (by omega)
  rw [Zm e, Qjh, Zz e, kK, List.filter_append]
  by_cases c : (ps[m]).1 ∈ (Xg (ps.take m)).map (·.1)
  ·rw [if_pos c]
   obtain ⟨a, ha, ea⟩ := wW.mp (i2 _ c)
   obtain ⟨i, ei⟩ := jYa.mp ha
   have il := (kQ.mp ei).1
   rw [zQ] at il
   rw [List.getElem?_take, if_pos (by omega)] at ei
   have hp := hu i m a _ (by omega) ei e ea
   refine ⟨?_, fun x hx => jQa _ (i2 x hx)⟩
   rw [i1, show ([ps[m]].map (·.1)).filter p = [] by
    show List.filter p [(ps[m]).1] = []
    rw [List.filter_cons, hp]; rfl, yW]
  ·rw [if_neg c, List.filter_append, i1]
   refine ⟨rfl, fun x hx => ?_⟩
   rcases yX.mp hx with z | z
   ·exact jQa _ (i2 x z)
   ·exact zV _ z
theorem Qex {K : Fg} {H : Hp} {ps : List (List Key × V)} {n : Int} {B : List BR} (h : Qhb K H ps B) (wb : WB n B) : ((Xg ps).map (·.1)).filter wayK = (B.map BR.key).filter wayK := by
 have hk : ps.map (·.1) = B.map BR.key := by
  clear wb
  induction h with
  | nil => rfl
  | cons z _ ih => rw [xY, xY, z.1, ih]
 have := (Wg (ps := ps) (p := wayK) (fun i j a b hij ea eb e => ?_) ps.length (jZ _)).1
 ·rw [kY, hk] at this
  exact this
 ·obtain ⟨r, er, e1, _⟩ := Qy h ea
  obtain ⟨q, eq, e2, _⟩ := Qy h eb
  have hsh : ∀ t : BR, t.word = "shut" → wayK t.key = false := fun t ht => by
   refine zJ fun z => ?_
   have z2 : some (Sum.inr t.word : Key) = some (Sum.inr ("way" : Str)) := z
   have := Sum.inr.inj (Option.some.inj z2)
   rw [ht] at this
   exact absurd this (by decide +kernel)
  rw [e2]
  rcases Qew wb.nd hij er eq with z | z | z
  ·rw [← e2, ← e, e1]; exact hsh r z
  ·exact hsh q z
  ·exact absurd (e1.symm.trans (e.trans e2)) z
def Kh : BR → Option Str
 | .bench b _ => some b
 | _ => none
def bns (B : List BR) : List Str := B.filterMap Kh
theorem Qey {r : BR} (h : r.word ≠ "bench") : Kh r = none := by
 cases r with
 | bench b c => exact absurd rfl h
 | _ => rfl
def selW (w : Str) (r : BR) : Bool := decide (r.word = w)
def TupsOf (K : Fg) (H : Hp) : List V → List BR → Prop := Paired fun v r => ∃ t, v = .ref t ∧ SqT K H t ((r.cells.drop 1).map kV)
theorem Qmg (r : BR) : cutV (r.cells.map kV) (some 1) none = (r.cells.drop 1).map kV := by
 unfold cutV
 have h2 : 1 ≤ r.cells.length := by unfold BR.cells BR.key; rw [jY, xK]; omega
 rw [HT.sIx_none, show (1 : Int) = ((1 : Nat) : Int) from rfl, HT.sIx_nat, jX, jXe h2, ← List.map_drop, wY (by rw [jX, List.length_drop]; exact jZ _)]
theorem FrP.trans {p : Addr} {H H1 H2 : Hp} (a : FrP p H H1) (b : FrP p H1 H2) : FrP p H H2 := fun c o e hc => b c o (a c o e hc) hc
theorem Qmh {K : Fg} {H H' : Hp} {p t C dx : Addr} {fs : List (Str × V)} {xs : List V} (h : SqT K H t xs) (f : FrP p H H') (hp : H p = some (.ins C dx fs)) : SqT K H' t xs := by
 rcases h with (h | ⟨q, h⟩) | h
 ·exact .inl (.inl (f _ _ h (Yx h hp (by intro z; cases z))))
 ·exact .inl (.inr ⟨q, f _ _ h (Yx h hp (by intro z; cases z))⟩)
 ·exact .inr h
theorem TupsOf.frP {K : Fg} {H H' : Hp} {p C dx : Addr} {fs : List (Str × V)} {ys : List V} {B : List BR} (h : TupsOf K H ys B) (f : FrP p H H') (hp : H p = some (.ins C dx fs)) : TupsOf K H' ys B := Paired.mapP h fun _ _ ⟨t, e, z⟩ => ⟨t, e, Qmh z f hp⟩
theorem TupsOf.same {K : Fg} {H H' : Hp} {ys : List V} {B : List BR} (h : TupsOf K H ys B) (s : Same H H') : TupsOf K H' ys B := Paired.mapP h fun _ _ ⟨t, e, z⟩ => ⟨t, e, s.tup z⟩
theorem SaidOk.same {K : Fg} {H H' : Hp} {kvs : List (List Key × V)} {B : List BR} (h : SaidOk K H kvs B) (s : Same H H') : SaidOk K H' kvs B := ⟨fun r hr hs => (let ⟨t, a, b⟩ := h.1 r hr hs; ⟨t, a, s.tup b⟩), h.2⟩
structure FcF (K : Fg) (C : Addr) (H : Hp) (p : Addr) (n : Int) (B : List BR) (dx lw lb lh ls la ds : Addr) (fs : List (Str × V)) (kvs : List (List Key × V)) (yh ys ya : List V) : Prop where
 hp : H p = some (.ins C dx fs)
 fD : fs.lookup ("days" : Str) = some (.int n)
 fW : fs.lookup ("works" : Str) = some (.ref lw)
 fB : fs.lookup ("benches" : Str) = some (.ref lb)
 fH : fs.lookup ("shuts" : Str) = some (.ref lh)
 fS : fs.lookup ("stores" : Str) = some (.ref ls)
 fA : fs.lookup ("afters" : Str) = some (.ref la)
 fI : fs.lookup ("said" : Str) = some (.ref ds)
 nE : fs.lookup ("end_of" : Str) = none
 nY : fs.lookup ("is_way" : Str) = none
 nL : fs.lookup ("last_begin" : Str) = none
 nM : fs.lookup ("many" : Str) = none
 nU : fs.lookup ("used_by" : Str) = none
 nG : fs.lookup ("gain_by" : Str) = none
 nR : fs.lookup ("room_of" : Str) = none
 nC : fs.lookup ("all_choices" : Str) = none
 nP : fs.lookup ("price_of" : Str) = none
 hW : H lw = some (.lst ((wks B).map V.str))
 hB : H lb = some (.lst ((bns B).map V.str))
 hH : H lh = some (.lst yh)
 hS : H ls = some (.lst ys)
 hA : H la = some (.lst ya)
 tH : TupsOf K H yh (B.filter (selW "shut"))
 tS : TupsOf K H ys (B.filter (selW "store"))
 tA : TupsOf K H ya (B.filter (selW "after"))
 hI : H ds = some (.dT kvs)
 sd : SaidOk K H kvs B
 wo : (kvs.map (·.1)).filter wayK = (B.map BR.key).filter wayK
 kl : kvs.length ≤ 400
def FcAt (K : Fg) (C : Addr) (H : Hp) (p : Addr) (n : Int) (B : List BR) : Prop := ∃ dx lw lb lh ls la ds fs kvs yh ys ya, FcF K C H p n B dx lw lb lh ls la ds fs kvs yh ys ya
theorem FcAt.same {K : Fg} {C : Addr} {H H' : Hp} {p : Addr} {n : Int} {B : List BR} (h : FcAt K C H p n B) (s : Same H H') : FcAt K C H' p n B := by
 obtain ⟨dx, lw, lb, lh, ls, la, ds, fs, kvs, yh, ys, ya, h⟩ := h
 exact ⟨dx, lw, lb, lh, ls, la, ds, fs, kvs, yh, ys, ya, { h with hp := s _ _ h.hp, hW := s _ _ h.hW, hB := s _ _ h.hB, hH := s _ _ h.hH, hS := s _ _ h.hS, hA := s _ _ h.hA, tH := h.tH.same s, tS := h.tS.same s, tA := h.tA.same s, hI := s _ _ h.hI, sd := h.sd.same s }⟩
def Qcw (K : Fg) (C : Addr) : Sp := fun vs H Q _ => ∃ (p d dx : Addr) (n : Int) (us : List V) (B : List BR), vs = [.ref p, .ref d] ∧ H p = some (.ins C dx []) ∧ H d = some (.lst us) ∧ RowsB H us B ∧ BookOk n B ∧
 ∀ H', FcAt K C H' p n B → FrP p H H' → Q .non H'
section
variable {P : Program} {w : World} {K : Fg} {mg : Str → Option Value} {base : Heap}
theorem scSaid : FnScope ["row"] ["row"] (Qi Qjf) := ⟨rfl, rfl, rfl, by decide +kernel, rfl, by decide +kernel, by decide +kernel⟩
theorem okSaid {aN : Addr} {fN : Str → Option Value} (F : Fn K mg "said_by" Qjf) (M : Mg mg) (TN : Tab w K mg "NAMES" aN fN) (hN : Qaj fN) : Cal P w K mg base 1 "said_by" ["row"] Qko := by
 refine Ye F scSaid (fun _ _ _ _ _ _ => bind1 (fun _ => rfl)) (fun vs H Q E h => ?_) (fun f cdv A outer s H vs Q E hr h => ?_)
 ·obtain ⟨l, r, rfl, _⟩ := h
  rfl
 obtain ⟨l, r, rfl, hl, q⟩ := h
 refine ⟨_, (Qj (Xe (Xc Xb rfl M.tuple_ Xy (Qa (Yh Qfu (pv 0) Yy (Ys (Ql Qt Qe (Qo (ix_tab TN) (Qlc (v := .ref aN) rfl TN.bound rfl) (Qo Qm (pv 0) Qe (fun _ _ => rfl)) (fun _ _ => rfl))))) Qg)))), ?_⟩
 obtain ⟨t, ht⟩ := hN r
 refine ⟨_, rfl, _, rfl, l, _, _, _, rfl, rfl, Qb hl, Yt r, _, _, .int ((r.names.length : Nat) : Int), rfl, rfl, ht, ⟨_, rfl⟩, _, _, rfl, rfl, _, rfl, l, _, rfl, Qb hl, fun p1 hp1 => ?_⟩
 rw [Qme]
 have s1 := Qc hp1 (.lst (r.key.map kV))
 refine ⟨p1, _, rfl, .inl ⟨Qb Qd, fun t1 ht1 => ?_⟩⟩
 refine q t1 _ (s1.trans (Qc ht1 _)) ?_ Qd
 cases e5 : H t1 with
 | none => rfl
 | some o => rw [s1 _ _ e5] at ht1; cases ht1
theorem scFcI : FnScope ["self", "book"] ["self", "book"] (Qi Kg) := ⟨rfl, rfl, rfl, by decide +kernel, rfl, by decide +kernel, by decide +kernel⟩
theorem okFcI {f C : Addr} {fd : FuncData} (F : Fun K "__init__" "Facts.__init__" Kg f fd) (M : Mg mg) (T : FcTxt K mg C) (c_said_by : Cal P w K mg base 1 "said_by" ["row"] Qko) : FnOk P w K mg base CX0 2 f fd ["self", "book"] (Qcw K C) := by
 refine F.ok scFcI (fun vs H Q E h => ?_) (fun cdv A outer s H vs Q E hr h => ?_)
 ·obtain ⟨p, d, dx, n, us, B, rfl, _⟩ := h
  rfl
 ·obtain ⟨p, d, dx, n, us, B, rfl, hp, hd, hB, bk, q⟩ := h
  have hz : (20000 : Nat) < sizeLine := by decide
  have lu := hB.length
  have bl := bk.wb.len
  have hu6 : (A.deeper (PyProof.Rows.envOfC "Facts.__init__" (Qi Kg) s.heap.objs.size f cdv)).units + 6 < cLine := wK (jQb (by decide) _) hr.un
  have nd : d ≠ p := Yx hd hp (by intro z; cases z)
  refine ⟨_, (Qh (Vh (pv 0) (Qo Qm (Qo Qm (pv 1) Qe (fun _ _ => rfl)) Qe (fun _ _ => rfl)) rfl)
  (Qh (Vh (pv 0) (Zf ["row"] [none] rfl (Qu (pv 1)) (fun _ _ _ => (Qn (i := 0) (show (["row"] : List Str).Nodup by decide +kernel) rfl (Or.inl rfl) (Or.inr rfl))) (fun _ _ _ => (Jc (Qr Yk (Qo (Xq (K := K) rfl) (pv 0) Qe (fun _ _ => rfl)) Qz (Qv _)))) (fun _ _ _ => (Qo (Xq (K := K) rfl) (pv 0) Qe (fun _ _ => rfl)))) rfl)
  (Qh (Vh (pv 0) (Zf ["row"] [none] rfl (Qu (pv 1)) (fun _ _ _ => (Qn (i := 0) (show (["row"] : List Str).Nodup by decide +kernel) rfl (Or.inl rfl) (Or.inr rfl))) (fun _ _ _ => (Jc (Qr Yk (Qo (Xq (K := K) rfl) (pv 0) Qe (fun _ _ => rfl)) Qz (Qv _)))) (fun _ _ _ => (Qo (Xq (K := K) rfl) (pv 0) Qe (fun _ _ => rfl)))) rfl)
  (Qh (Vh (pv 0) (Zf ["row"] [none] rfl (Qu (pv 1)) (fun _ _ _ => (Qn (i := 0) (show (["row"] : List Str).Nodup by decide +kernel) rfl (Or.inl rfl) (Or.inr rfl))) (fun _ _ _ => (Jc (Qr Yk (Qo (Xq (K := K) rfl) (pv 0) Qe (fun _ _ => rfl)) Qz (Qv _)))) (fun _ _ _ => (Xc (Zc (K := K) rfl) rfl M.tuple_ Xy (Qa (Yh (Jx (K := K) rfl) (pv 0) (Ys Qe) Yy) Qg)))) rfl)
  (Qh (Vh (pv 0) (Zf ["row"] [none] rfl (Qu (pv 1)) (fun _ _ _ => (Qn (i := 0) (show (["row"] : List Str).Nodup by decide +kernel) rfl (Or.inl rfl) (Or.inr rfl))) (fun _ _ _ => (Jc (Qr Yk (Qo (Xq (K := K) rfl) (pv 0) Qe (fun _ _ => rfl)) Qz (Qv _)))) (fun _ _ _ => (Xc (Zc (K := K) rfl) rfl M.tuple_ Xy (Qa (Yh (Jx (K := K) rfl) (pv 0) (Ys Qe) Yy) Qg)))) rfl)
  (Qh (Vh (pv 0) (Zf ["row"] [none] rfl (Qu (pv 1)) (fun _ _ _ => (Qn (i := 0) (show (["row"] : List Str).Nodup by decide +kernel) rfl (Or.inl rfl) (Or.inr rfl))) (fun _ _ _ => (Jc (Qr Yk (Qo (Xq (K := K) rfl) (pv 0) Qe (fun _ _ => rfl)) Qz (Qv _)))) (fun _ _ _ => (Xc (Zc (K := K) rfl) rfl M.tuple_ Xy (Qa (Yh (Jx (K := K) rfl) (pv 0) (Ys Qe) Yy) Qg)))) rfl)
  (Qj (Vh (pv 0) (Xc (Qac (n := 6) (by decide) hu6 rfl) rfl M.dict_ Qlr (Qa (Zf ["row"] [none] rfl (Qu (pv 1)) (fun _ _ _ => (Qn (i := 0) (show (["row"] : List Str).Nodup by decide +kernel) rfl (Or.inl rfl) (Or.inr rfl))) (fun _ _ _ => Yq) (fun _ _ _ => (Qx (Qa (Xx c_said_by (hr.mono (by decide)) (Qa (pv 0) Qg)) (Qa (Xc (Zc (K := K) rfl) rfl M.tuple_ Xy (Qa (Yh (Jx (K := K) rfl) (pv 0) (Ys (Xm (Wt (K := K) rfl) rfl M.len Ko (Qa (Xx c_said_by (hr.mono (by decide)) (Qa (pv 0) Qg)) Qg))) Yy) Qg)) Qg))))) Qg)) rfl)))))))), ?_⟩
  obtain ⟨u0, eu0⟩ : ∃ u0, us[0]? = some u0 := ⟨_, gE (by
   rw [lu]
   exact (kQ.mp bk.hd).1)⟩
  obtain ⟨r0, ld, er0, rfl, hr0⟩ := hB.get eu0
  rw [bk.hd] at er0
  cases er0
  have a0 : atI us 0 = some (.ref ld) := Qgf (k := 0) eu0
  refine ⟨_, rfl, d, _, _, _, rfl, rfl, Qb hd, a0, ld, _, _, _, rfl, rfl, Qb hr0, (show atI ((BR.days n).cells.map kV) 1 = some (.int n) from rfl), _, rfl, p, C, dx, [], rfl, hp, T.cl, T.nD, (by show 0 < 1000; decide), ?_⟩
  have fr1 : FrP p H (upd H p (.ins C dx (putF "days" (.int n) []))) := fun b o e hb => by rw [Qk hb]; exact e
  have hp1 : upd H p (.ins C dx (putF "days" (.int n) [])) p = some (.ins C dx (putF "days" (.int n) [])) := Qd
  obtain ⟨fs1, efs1⟩ : ∃ fs, fs = putF "days" (.int n) [] := ⟨_, rfl⟩
  have lf1 : fs1.length ≤ 1 := by rw [efs1]; exact Xo "days" (.int n) []
  rw [← efs1] at fr1 hp1 ⊢
  generalize upd H p (.ins C dx fs1) = H1' at fr1 hp1 ⊢
  have hd1 := fr1 _ _ hd nd
  have hB1 := hB.frP fr1 hp
  refine ⟨_, rfl, d, rfl, ⟨_, Qb hd1⟩, fun lw hlw => ?_⟩
  let Pv16 : Nat → St → List V → Hp → Prop := fun m τ ys H1 => ∃ v : Option V, τ = [v] ∧ ys = ((B.take m).filterMap Yj).map V.str ∧ ys.length ≤ m ∧ H1 lw = some (.lst ys) ∧ Same H1' H1
  refine Yo (n := B.length) Pv16 ?_ (fun m τ ys H1 hm h => ?_) (fun m τ ys H1 hm h => ?_) (fun τ ys H1 h => ?_) ?_ ?_
  ·exact ⟨none, rfl, rfl, jZ _, Qd, Qc hlw _⟩
  ·obtain ⟨v, rfl, ey, hl, hE, sv⟩ := h
   exact ⟨hE, by omega⟩
  ·obtain ⟨v, rfl, ey, hl, hE, sv⟩ := h
   exact ⟨us, us[m]'(by omega), sv.seq (Qb hd1), gE (by omega)⟩
  ·obtain ⟨v, rfl, ey, hl, hE, sv⟩ := h
   exact ⟨us, sv.seq (Qb hd1), by omega⟩
  ·rintro m τ ys H1 x H2 hm ⟨v, rfl, ey, hl, hE, sv⟩ ⟨rfl, e1⟩
   obtain ⟨r, lr, er, rfl, hr⟩ := (hB1.same sv).get (e1 _ (sv.seq (Qb hd1)))
   refine ⟨_, rfl, lr, _, _, _, rfl, rfl, Qb hr, Yt r, rfl, _, rfl, ite2 (fun y => ?_) (fun y => ?_)⟩
   ·obtain ⟨w, rfl⟩ := Vt (eqS y)
    refine ⟨_, rfl, lr, _, _, _, rfl, rfl, Qb hr, (show atI ((BR.work w).cells.map kV) 1 = some (.str w) from rfl), hE, _, rfl, ?_, by rw [jY]; exact wX hl, Qd, fun b o e => ?_⟩
    ·rw [Xf Yj er, show Yj (.work w) = some w from rfl, kK, ey]
     rfl
    ·rw [Qk (Qp e hlw)]; exact sv _ _ e
   ·refine ⟨_, rfl, ?_, by omega, hE, sv⟩
    rw [Xf Yj er, Vv (fun e => y (by rw [e]; exact yesS _)), ey]
    simp
  rintro τ ys H1 ⟨v, rfl, ey, hl, hE, sv⟩
  rw [kY] at ey
  have nlw : lw ≠ p := fun e => by rw [e, hp1] at hlw; cases hlw
  have lw1 : H1 lw = some (.lst ((wks B).map V.str)) := by rw [hE, ey]; rfl
  refine ⟨_, rfl, p, C, dx, _, rfl, sv _ _ hp1, T.cl, T.nW, by omega, ?_⟩
  have fr2 : FrP p H (upd H1 p (.ins C dx (putF "works" (.ref lw) fs1))) := fun b o e hb => by rw [Qk hb]; exact sv _ _ (fr1 b o e hb)
  have stp2 : FrP p H1' (upd H1 p (.ins C dx (putF "works" (.ref lw) fs1))) := fun b o e hb => by rw [Qk hb]; exact sv _ _ e
  have hp2 : upd H1 p (.ins C dx (putF "works" (.ref lw) fs1)) p = some (.ins C dx (putF "works" (.ref lw) fs1)) := Qd
  have lw2 : upd H1 p (.ins C dx (putF "works" (.ref lw) fs1)) lw = some (.lst ((wks B).map V.str)) := by rw [Qk nlw]; exact lw1
  obtain ⟨fs2, efs2⟩ : ∃ fs, fs = putF "works" (.ref lw) fs1 := ⟨_, rfl⟩
  have lf2 : fs2.length ≤ 2 := by rw [efs2]; have := Xo "works" (.ref lw) fs1; omega
  rw [← efs2] at fr2 stp2 hp2 lw2  ⊢
  clear sv
  generalize upd H1 p (.ins C dx fs2) = H2 at fr2 stp2 hp2 lw2  ⊢
  have hd2 := fr2 _ _ hd nd
  have hB2 := hB.frP fr2 hp
  refine ⟨_, rfl, d, rfl, ⟨_, Qb hd2⟩, fun D3 hD => ?_⟩
  let Pv17 : Nat → St → List V → Hp → Prop := fun m τ ys H1 => ∃ v : Option V, τ = [v] ∧ ys = ((B.take m).filterMap Kh).map V.str ∧ ys.length ≤ m ∧ H1 D3 = some (.lst ys) ∧ Same H2 H1
  refine Yo (n := B.length) Pv17 ?_ (fun m τ ys H1 hm h => ?_) (fun m τ ys H1 hm h => ?_) (fun τ ys H1 h => ?_) ?_ ?_
  ·exact ⟨none, rfl, rfl, jZ _, Qd, Qc hD _⟩
  ·obtain ⟨v, rfl, hi, hl, hE, sv⟩ := h
   exact ⟨hE, by omega⟩
  ·obtain ⟨v, rfl, hi, hl, hE, sv⟩ := h
   exact ⟨us, us[m]'(by omega), sv.seq (Qb hd2), gE (by omega)⟩
  ·obtain ⟨v, rfl, hi, hl, hE, sv⟩ := h
   exact ⟨us, sv.seq (Qb hd2), by omega⟩
  ·rintro m τ ys H1 x H2 hm ⟨v, rfl, hi, hl, hE, sv⟩ ⟨rfl, e1⟩
   obtain ⟨r, lr, er, rfl, hr⟩ := (hB2.same sv).get (e1 _ (sv.seq (Qb hd2)))
   refine ⟨_, rfl, lr, _, _, _, rfl, rfl, Qb hr, Yt r, rfl, _, rfl, ite2 (fun y => ?_) (fun y => ?_)⟩
   ·have ey := eqS y
    obtain ⟨bb, cc, rfl⟩ := Wm ey
    refine ⟨_, rfl, lr, _, _, _, rfl, rfl, Qb hr, (show atI ((BR.bench bb cc).cells.map kV) 1 = some (.str bb) from rfl), hE, _, rfl, ?_, by rw [jY]; exact wX hl, Qd, fun b o e => by rw [Qk (Qp e hD)]; exact sv _ _ e⟩
    rw [Xf Kh er, show Kh (.bench bb cc) = some bb from rfl, kK, hi]
    rfl
   ·exact ⟨_, rfl, by
     rw [Xf Kh er, Qey (fun e => y (by rw [e]; exact yesS _)), hi]
     simp, by omega, hE, sv⟩
  rintro τ ys3 H1 ⟨v, rfl, hi, hl, hE, sv⟩
  rw [kY] at hi
  have nD3 : D3 ≠ p := fun e => by rw [e, hp2] at hD; cases hD
  refine ⟨_, rfl, p, C, dx, _, rfl, sv _ _ hp2, T.cl, T.nB, by have := Xo "works" (.ref lw) fs1; omega, ?_⟩
  have con3 : upd H1 p (.ins C dx (putF "benches" (.ref D3) fs2)) D3 = some (.lst ((bns B).map V.str)) := by rw [Qk nD3, hE, hi]; rfl
  have fr3 : FrP p H (upd H1 p (.ins C dx (putF "benches" (.ref D3) fs2))) := fun b o e hb => by rw [Qk hb]; exact sv _ _ (fr2 b o e hb)
  have stp3 : FrP p H2 (upd H1 p (.ins C dx (putF "benches" (.ref D3) fs2))) := fun b o e hb => by rw [Qk hb]; exact sv _ _ e
  have hp3 : upd H1 p (.ins C dx (putF "benches" (.ref D3) fs2)) p = some (.ins C dx (putF "benches" (.ref D3) fs2)) := Qd
  have lw3 : upd H1 p (.ins C dx (putF "benches" (.ref D3) fs2)) lw = some (.lst ((wks B).map V.str)) := by rw [Qk nlw]; exact sv _ _ lw2
  obtain ⟨fs3, efs3⟩ : ∃ fs, fs = putF "benches" (.ref D3) fs2 := ⟨_, rfl⟩
  have lf3 : fs3.length ≤ 3 := by rw [efs3]; have := Xo "benches" (.ref D3) fs2; omega
  rw [← efs3] at fr3 stp3 hp3 lw3 con3 ⊢
  clear sv
  generalize upd H1 p (.ins C dx fs3) = H3 at fr3 stp3 hp3 lw3 con3 ⊢
  have hd3 := fr3 _ _ hd nd
  have hB3 := hB.frP fr3 hp
  refine ⟨_, rfl, d, rfl, ⟨_, Qb hd3⟩, fun D4 hD => ?_⟩
  let Pv18 : Nat → St → List V → Hp → Prop := fun m τ ys H1 => ∃ v : Option V, τ = [v] ∧ TupsOf K H1 ys ((B.take m).filter (selW "shut")) ∧ ys.length ≤ m ∧ H1 D4 = some (.lst ys) ∧ Same H3 H1
  refine Yo (n := B.length) Pv18 ?_ (fun m τ ys H1 hm h => ?_) (fun m τ ys H1 hm h => ?_) (fun τ ys H1 h => ?_) ?_ ?_
  ·exact ⟨none, rfl, .nil, jZ _, Qd, Qc hD _⟩
  ·obtain ⟨v, rfl, hi, hl, hE, sv⟩ := h
   exact ⟨hE, by omega⟩
  ·obtain ⟨v, rfl, hi, hl, hE, sv⟩ := h
   exact ⟨us, us[m]'(by omega), sv.seq (Qb hd3), gE (by omega)⟩
  ·obtain ⟨v, rfl, hi, hl, hE, sv⟩ := h
   exact ⟨us, sv.seq (Qb hd3), by omega⟩
  ·rintro m τ ys H1 x H2 hm ⟨v, rfl, hi, hl, hE, sv⟩ ⟨rfl, e1⟩
   obtain ⟨r, lr, er, rfl, hr⟩ := (hB3.same sv).get (e1 _ (sv.seq (Qb hd3)))
   refine ⟨_, rfl, lr, _, _, _, rfl, rfl, Qb hr, Yt r, rfl, _, rfl, ite2 (fun y => ?_) (fun y => ?_)⟩
   ·have ey := eqS y
    refine ⟨_, rfl, _, rfl, lr, _, rfl, Qb hr, fun p1 hp1 => ⟨p1, _, rfl, .inl ⟨Qb Qd, fun t1 ht1 => ?_⟩⟩⟩
    have sx := (Qc hp1 (.lst (cutV (r.cells.map kV) (some 1) none))).trans (Qc ht1 (.tup (cutV (r.cells.map kV) (some 1) none)))
    refine ⟨sx _ _ hE, _, rfl, ?_, by rw [jY]; exact wX hl, Qd, fun b o e => by rw [Qk (Qp e hD)]; exact sx _ _ (sv _ _ e)⟩
    rw [Zb (selW "shut") er, show selW "shut" r = true from yQ ey, if_pos rfl]
    exact Paired.snoc (Paired.mapP hi fun _ _ ⟨t, e, z⟩ => ⟨t, e, Xi (sx _ _ hE) (sx.tup z)⟩) ⟨t1, rfl, Xi (sx _ _ hE) (Qs (by rw [Qd, Qmg]))⟩
   ·exact ⟨_, rfl, by
     rw [Zb (selW "shut") er, show selW "shut" r = false from zJ (fun e => y (by rw [e]; exact yesS _)), if_neg (by decide), yW]
     exact hi, by omega, hE, sv⟩
  rintro τ ys4 H1 ⟨v, rfl, hi, hl, hE, sv⟩
  rw [kY] at hi
  have nD4 : D4 ≠ p := fun e => by rw [e, hp3] at hD; cases hD
  refine ⟨_, rfl, p, C, dx, _, rfl, sv _ _ hp3, T.cl, T.nH, by have := Xo "benches" (.ref lw) fs2; omega, ?_⟩
  have con4 : upd H1 p (.ins C dx (putF "shuts" (.ref D4) fs3)) D4 = some (.lst ys4) := by rw [Qk nD4]; exact hE
  have tps4 : TupsOf K (upd H1 p (.ins C dx (putF "shuts" (.ref D4) fs3))) ys4 (B.filter (selW "shut")) := Paired.mapP hi fun _ _ ⟨t, e, z⟩ => ⟨t, e, Ky (sv _ _ hp3) z⟩
  have fr4 : FrP p H (upd H1 p (.ins C dx (putF "shuts" (.ref D4) fs3))) := fun b o e hb => by rw [Qk hb]; exact sv _ _ (fr3 b o e hb)
  have stp4 : FrP p H3 (upd H1 p (.ins C dx (putF "shuts" (.ref D4) fs3))) := fun b o e hb => by rw [Qk hb]; exact sv _ _ e
  have hp4 : upd H1 p (.ins C dx (putF "shuts" (.ref D4) fs3)) p = some (.ins C dx (putF "shuts" (.ref D4) fs3)) := Qd
  have lw4 : upd H1 p (.ins C dx (putF "shuts" (.ref D4) fs3)) lw = some (.lst ((wks B).map V.str)) := by rw [Qk nlw]; exact sv _ _ lw3
  obtain ⟨fs4, efs4⟩ : ∃ fs, fs = putF "shuts" (.ref D4) fs3 := ⟨_, rfl⟩
  have lf4 : fs4.length ≤ 4 := by rw [efs4]; have := Xo "shuts" (.ref D4) fs3; omega
  rw [← efs4] at fr4 stp4 hp4 lw4 con4 tps4 ⊢
  clear sv
  generalize upd H1 p (.ins C dx fs4) = H4 at fr4 stp4 hp4 lw4 con4 tps4 ⊢
  have hd4 := fr4 _ _ hd nd
  have hB4 := hB.frP fr4 hp
  refine ⟨_, rfl, d, rfl, ⟨_, Qb hd4⟩, fun D5 hD => ?_⟩
  let Pv19 : Nat → St → List V → Hp → Prop := fun m τ ys H1 => ∃ v : Option V, τ = [v] ∧ TupsOf K H1 ys ((B.take m).filter (selW "store")) ∧ ys.length ≤ m ∧ H1 D5 = some (.lst ys) ∧ Same H4 H1
  refine Yo (n := B.length) Pv19 ?_ (fun m τ ys H1 hm h => ?_) (fun m τ ys H1 hm h => ?_) (fun τ ys H1 h => ?_) ?_ ?_
  ·exact ⟨none, rfl, .nil, jZ _, Qd, Qc hD _⟩
  ·obtain ⟨v, rfl, hi, hl, hE, sv⟩ := h
   exact ⟨hE, by omega⟩
  ·obtain ⟨v, rfl, hi, hl, hE, sv⟩ := h
   exact ⟨us, us[m]'(by omega), sv.seq (Qb hd4), gE (by omega)⟩
  ·obtain ⟨v, rfl, hi, hl, hE, sv⟩ := h
   exact ⟨us, sv.seq (Qb hd4), by omega⟩
  ·rintro m τ ys H1 x H2 hm ⟨v, rfl, hi, hl, hE, sv⟩ ⟨rfl, e1⟩
   obtain ⟨r, lr, er, rfl, hr⟩ := (hB4.same sv).get (e1 _ (sv.seq (Qb hd4)))
   refine ⟨_, rfl, lr, _, _, _, rfl, rfl, Qb hr, Yt r, rfl, _, rfl, ite2 (fun y => ?_) (fun y => ?_)⟩
   ·have ey := eqS y
    refine ⟨_, rfl, _, rfl, lr, _, rfl, Qb hr, fun p1 hp1 => ⟨p1, _, rfl, .inl ⟨Qb Qd, fun t1 ht1 => ?_⟩⟩⟩
    have sx := (Qc hp1 (.lst (cutV (r.cells.map kV) (some 1) none))).trans (Qc ht1 (.tup (cutV (r.cells.map kV) (some 1) none)))
    refine ⟨sx _ _ hE, _, rfl, ?_, by rw [jY]; exact wX hl, Qd, fun b o e => by rw [Qk (Qp e hD)]; exact sx _ _ (sv _ _ e)⟩
    rw [Zb (selW "store") er, show selW "store" r = true from yQ ey, if_pos rfl]
    exact Paired.snoc (Paired.mapP hi fun _ _ ⟨t, e, z⟩ => ⟨t, e, Xi (sx _ _ hE) (sx.tup z)⟩) ⟨t1, rfl, Xi (sx _ _ hE) (Qs (by rw [Qd, Qmg]))⟩
   ·exact ⟨_, rfl, by
     rw [Zb (selW "store") er, show selW "store" r = false from zJ (fun e => y (by rw [e]; exact yesS _)), if_neg (by decide), yW]
     exact hi, by omega, hE, sv⟩
  rintro τ ys5 H1 ⟨v, rfl, hi, hl, hE, sv⟩
  rw [kY] at hi
  have nD5 : D5 ≠ p := fun e => by rw [e, hp4] at hD; cases hD
  refine ⟨_, rfl, p, C, dx, _, rfl, sv _ _ hp4, T.cl, T.nS, by have := Xo "shuts" (.ref lw) fs3; omega, ?_⟩
  have con5 : upd H1 p (.ins C dx (putF "stores" (.ref D5) fs4)) D5 = some (.lst ys5) := by rw [Qk nD5]; exact hE
  have tps5 : TupsOf K (upd H1 p (.ins C dx (putF "stores" (.ref D5) fs4))) ys5 (B.filter (selW "store")) := Paired.mapP hi fun _ _ ⟨t, e, z⟩ => ⟨t, e, Ky (sv _ _ hp4) z⟩
  have fr5 : FrP p H (upd H1 p (.ins C dx (putF "stores" (.ref D5) fs4))) := fun b o e hb => by rw [Qk hb]; exact sv _ _ (fr4 b o e hb)
  have stp5 : FrP p H4 (upd H1 p (.ins C dx (putF "stores" (.ref D5) fs4))) := fun b o e hb => by rw [Qk hb]; exact sv _ _ e
  have hp5 : upd H1 p (.ins C dx (putF "stores" (.ref D5) fs4)) p = some (.ins C dx (putF "stores" (.ref D5) fs4)) := Qd
  have lw5 : upd H1 p (.ins C dx (putF "stores" (.ref D5) fs4)) lw = some (.lst ((wks B).map V.str)) := by rw [Qk nlw]; exact sv _ _ lw4
  obtain ⟨fs5, efs5⟩ : ∃ fs, fs = putF "stores" (.ref D5) fs4 := ⟨_, rfl⟩
  have lf5 : fs5.length ≤ 5 := by rw [efs5]; have := Xo "stores" (.ref D5) fs4; omega
  rw [← efs5] at fr5 stp5 hp5 lw5 con5 tps5 ⊢
  clear sv
  generalize upd H1 p (.ins C dx fs5) = H5 at fr5 stp5 hp5 lw5 con5 tps5 ⊢
  have hd5 := fr5 _ _ hd nd
  have hB5 := hB.frP fr5 hp
  refine ⟨_, rfl, d, rfl, ⟨_, Qb hd5⟩, fun D6 hD => ?_⟩
  let Pv20 : Nat → St → List V → Hp → Prop := fun m τ ys H1 => ∃ v : Option V, τ = [v] ∧ TupsOf K H1 ys ((B.take m).filter (selW "after")) ∧ ys.length ≤ m ∧ H1 D6 = some (.lst ys) ∧ Same H5 H1
  refine Yo (n := B.length) Pv20 ?_ (fun m τ ys H1 hm h => ?_) (fun m τ ys H1 hm h => ?_) (fun τ ys H1 h => ?_) ?_ ?_
  ·exact ⟨none, rfl, .nil, jZ _, Qd, Qc hD _⟩
  ·obtain ⟨v, rfl, hi, hl, hE, sv⟩ := h
   exact ⟨hE, by omega⟩
  ·obtain ⟨v, rfl, hi, hl, hE, sv⟩ := h
   exact ⟨us, us[m]'(by omega), sv.seq (Qb hd5), gE (by omega)⟩
  ·obtain ⟨v, rfl, hi, hl, hE, sv⟩ := h
   exact ⟨us, sv.seq (Qb hd5), by omega⟩
  ·rintro m τ ys H1 x H2 hm ⟨v, rfl, hi, hl, hE, sv⟩ ⟨rfl, e1⟩
   obtain ⟨r, lr, er, rfl, hr⟩ := (hB5.same sv).get (e1 _ (sv.seq (Qb hd5)))
   refine ⟨_, rfl, lr, _, _, _, rfl, rfl, Qb hr, Yt r, rfl, _, rfl, ite2 (fun y => ?_) (fun y => ?_)⟩
   ·have ey := eqS y
    refine ⟨_, rfl, _, rfl, lr, _, rfl, Qb hr, fun p1 hp1 => ⟨p1, _, rfl, .inl ⟨Qb Qd, fun t1 ht1 => ?_⟩⟩⟩
    have sx := (Qc hp1 (.lst (cutV (r.cells.map kV) (some 1) none))).trans (Qc ht1 (.tup (cutV (r.cells.map kV) (some 1) none)))
    refine ⟨sx _ _ hE, _, rfl, ?_, by rw [jY]; exact wX hl, Qd, fun b o e => by rw [Qk (Qp e hD)]; exact sx _ _ (sv _ _ e)⟩
    rw [Zb (selW "after") er, show selW "after" r = true from yQ ey, if_pos rfl]
    exact Paired.snoc (Paired.mapP hi fun _ _ ⟨t, e, z⟩ => ⟨t, e, Xi (sx _ _ hE) (sx.tup z)⟩) ⟨t1, rfl, Xi (sx _ _ hE) (Qs (by rw [Qd, Qmg]))⟩
   ·exact ⟨_, rfl, by
     rw [Zb (selW "after") er, show selW "after" r = false from zJ (fun e => y (by rw [e]; exact yesS _)), if_neg (by decide), yW]
     exact hi, by omega, hE, sv⟩
  rintro τ ys6 H1 ⟨v, rfl, hi, hl, hE, sv⟩
  rw [kY] at hi
  have nD6 : D6 ≠ p := fun e => by rw [e, hp5] at hD; cases hD
  refine ⟨_, rfl, p, C, dx, _, rfl, sv _ _ hp5, T.cl, T.nA, by have := Xo "stores" (.ref lw) fs4; omega, ?_⟩
  have con6 : upd H1 p (.ins C dx (putF "afters" (.ref D6) fs5)) D6 = some (.lst ys6) := by rw [Qk nD6]; exact hE
  have tps6 : TupsOf K (upd H1 p (.ins C dx (putF "afters" (.ref D6) fs5))) ys6 (B.filter (selW "after")) := Paired.mapP hi fun _ _ ⟨t, e, z⟩ => ⟨t, e, Ky (sv _ _ hp5) z⟩
  have fr6 : FrP p H (upd H1 p (.ins C dx (putF "afters" (.ref D6) fs5))) := fun b o e hb => by rw [Qk hb]; exact sv _ _ (fr5 b o e hb)
  have stp6 : FrP p H5 (upd H1 p (.ins C dx (putF "afters" (.ref D6) fs5))) := fun b o e hb => by rw [Qk hb]; exact sv _ _ e
  have hp6 : upd H1 p (.ins C dx (putF "afters" (.ref D6) fs5)) p = some (.ins C dx (putF "afters" (.ref D6) fs5)) := Qd
  have lw6 : upd H1 p (.ins C dx (putF "afters" (.ref D6) fs5)) lw = some (.lst ((wks B).map V.str)) := by rw [Qk nlw]; exact sv _ _ lw5
  obtain ⟨fs6, efs6⟩ : ∃ fs, fs = putF "afters" (.ref D6) fs5 := ⟨_, rfl⟩
  have lf6 : fs6.length ≤ 6 := by rw [efs6]; have := Xo "afters" (.ref D6) fs5; omega
  rw [← efs6] at fr6 stp6 hp6 lw6 con6 tps6 ⊢
  clear sv
  generalize upd H1 p (.ins C dx fs6) = H6 at fr6 stp6 hp6 lw6 con6 tps6 ⊢
  have hd6 := fr6 _ _ hd nd
  have hB6 := hB.frP fr6 hp
  refine ⟨_, rfl, d, rfl, ⟨_, Qb hd6⟩, fun D hD => ?_⟩
  let Pv21 : Nat → St → List V → Hp → Prop := fun m τ ys H1 => ∃ (v : Option V) (ps : List (List Key × V)), τ = [v] ∧ Qgn K H1 ys ps ∧ Qhb K H1 ps (B.take m) ∧ ys.length ≤ m ∧ H1 D = some (.lst ys) ∧ Same H6 H1
  refine Yo (n := B.length) Pv21 ?_ (fun m τ ys H1 hm h => ?_) (fun m τ ys H1 hm h => ?_) (fun τ ys H1 h => ?_) ?_ ?_
  ·exact ⟨none, [], rfl, .nil, .nil, jZ _, Qd, Qc hD _⟩
  ·obtain ⟨v, ps, rfl, hq, hs, hl, hE, sv⟩ := h
   exact ⟨hE, by omega⟩
  ·obtain ⟨v, ps, rfl, hq, hs, hl, hE, sv⟩ := h
   exact ⟨us, us[m]'(by omega), sv.seq (Qb hd6), gE (by omega)⟩
  ·obtain ⟨v, ps, rfl, hq, hs, hl, hE, sv⟩ := h
   exact ⟨us, sv.seq (Qb hd6), by omega⟩
  ·rintro m τ ys H1 x H2 hm ⟨v, ps, rfl, hq, hs, hl, hE, sv⟩ ⟨rfl, e1⟩
   obtain ⟨r, lr, er, rfl, hr⟩ := (hB6.same sv).get (e1 _ (sv.seq (Qb hd6)))
   refine ⟨_, rfl, lr, r, rfl, hr, fun b1 H3 s3 fb1 hb1 => ?_⟩
   refine ⟨_, rfl, _, rfl, lr, r, rfl, s3 _ _ hr, fun b2 H4 s4 fb2 hb2 => ?_⟩
   refine ⟨b2, _, rfl, .inr (Qs hb2), _, rfl, lr, _, rfl, Qb (s4 _ _ (s3 _ _ hr)), fun p5 hp5 => ?_⟩
   rw [Qjg]
   have s5 := Qc hp5 (.lst (r.nums.map V.int))
   refine ⟨p5, _, rfl, .inl ⟨Qb Qd, fun t6 ht6 => ?_⟩⟩
   have s6 := Qc ht6 (.tup (r.nums.map V.int))
   have s46 := (s4.trans s5).trans s6
   have ht66 : upd (upd H4 p5 (.lst (r.nums.map V.int))) t6 (.tup (r.nums.map V.int)) t6 = some (.tup (r.nums.map V.int)) := Qd
   generalize upd (upd H4 p5 (.lst (r.nums.map V.int))) t6 (.tup (r.nums.map V.int)) = Hx at s46 ht66 ⊢
   refine ⟨by show 2 ≤ sizeLine; decide, fun t7 ht7 => ?_⟩
   have s7 := Qc ht7 (.tup [.ref b1, .ref t6])
   have s37 := s3.trans (s46.trans s7)
   have hE7 := s37 _ _ hE
   have ht77 : upd Hx t7 (.tup [.ref b1, .ref t6]) t7 = some (.tup [.ref b1, .ref t6]) := Qd
   have hb17 := (s46.trans s7) _ _ hb1
   have ht67 := s7 _ _ ht66
   generalize upd Hx t7 (.tup [.ref b1, .ref t6]) = Hy at s37 hE7 ht77 hb17 ht67 ⊢
   have cT : ∀ {a : Addr} {xs : List V}, SqT K H2 a xs → SqT K (upd Hy D (.lst (ys ++ [.ref t7]))) a xs := fun z => Xi hE7 (s37.tup z)
   refine ⟨hE7, _, ps ++ [(r.key, .ref t6)], rfl, ?_, ?_, by rw [jY]; exact wX hl, Qd, fun b o e => ?_⟩
   ·refine Paired.snoc (Paired.mapP hq fun _ _ ⟨t, b, e, h1, h2⟩ => ⟨t, b, e, cT h1, ?_⟩) ⟨t7, b1, rfl, Xi hE7 (Qs ht77), ?_⟩
    ·rw [Qk (Yx (s37 _ _ h2) hE7 (by intro z; cases z))]; exact s37 _ _ h2
    ·rw [Qk (Yx hb17 hE7 (by intro z; cases z))]; exact hb17
   ·rw [Zz er]
    exact Paired.snoc (Paired.mapP hs fun _ _ ⟨e, t, e2, z⟩ => ⟨e, t, e2, cT z⟩) ⟨rfl, t6, rfl, Xi hE7 (Qs ht67)⟩
   ·rw [Qk (Qp e hD)]; exact s37 _ _ (sv _ _ e)
  rintro τ ys H1 ⟨v, ps, rfl, hq, hs, hl, hE, sv⟩
  rw [kY] at hs
  have lps := Paired.length hs
  refine ⟨D, ys, ps, rfl, Qb hE, hq, by omega, fun ds hds => ?_⟩
  have s8 := Qc hds (.dT (Xg ps))
  have sv8 := sv.trans s8
  have hds8 : upd H1 ds (.dT (Xg ps)) ds = some (.dT (Xg ps)) := Qd
  have hsd : SaidOk K (upd H1 ds (.dT (Xg ps))) (Xg ps) B := Qmf (Paired.mapP hs fun _ _ ⟨e, t, e2, z⟩ => ⟨e, t, e2, s8.tup z⟩) bk.wb
  generalize upd H1 ds (.dT (Xg ps)) = H8 at s8 sv8 hds8 hsd ⊢
  have hp8 := sv8 _ _ hp6
  have nds : ds ≠ p := Yx hds8 hp8 (by intro z; cases z)
  refine ⟨_, rfl, p, C, dx, _, rfl, hp8, T.cl, T.nI, by omega, ?_⟩
  have fin6 : ∀ fs7, FrP p H6 (upd H8 p (.ins C dx fs7)) := fun fs7 b o e hb => by rw [Qk hb]; exact sv8 _ _ e
  have f56 := fun fs7 => stp6.trans (fin6 fs7)
  have f46 := fun fs7 => stp5.trans (f56 fs7)
  have f36 := fun fs7 => stp4.trans (f46 fs7)
  refine q _ ⟨dx, lw, D3, D4, D5, D6, ds, putF "said" (.ref ds) fs6, Xg ps, ys4, ys5, ys6, ?_⟩ fun b o e hb => by rw [Qk hb]; exact sv8 _ _ (fr6 b o e hb)
  refine {
   hp := Qd
   fD := by
    rw [Qf, if_neg (by decide +kernel), efs6, Qf, if_neg (by decide +kernel), efs5, Qf, if_neg (by decide +kernel), efs4, Qf, if_neg (by decide +kernel), efs3, Qf, if_neg (by decide +kernel), efs2, Qf, if_neg (by decide +kernel), efs1, Qf, if_pos rfl]
   fW := by
    rw [Qf, if_neg (by decide +kernel), efs6, Qf, if_neg (by decide +kernel), efs5, Qf, if_neg (by decide +kernel), efs4, Qf, if_neg (by decide +kernel), efs3, Qf, if_neg (by decide +kernel), efs2, Qf, if_pos rfl]
   fB := by
    rw [Qf, if_neg (by decide +kernel), efs6, Qf, if_neg (by decide +kernel), efs5, Qf, if_neg (by decide +kernel), efs4, Qf, if_neg (by decide +kernel), efs3, Qf, if_pos rfl]
   fH := by
    rw [Qf, if_neg (by decide +kernel), efs6, Qf, if_neg (by decide +kernel), efs5, Qf, if_neg (by decide +kernel), efs4, Qf, if_pos rfl]
   fS := by
    rw [Qf, if_neg (by decide +kernel), efs6, Qf, if_neg (by decide +kernel), efs5, Qf, if_pos rfl]
   fA := by
    rw [Qf, if_neg (by decide +kernel), efs6, Qf, if_pos rfl]
   fI := by
    rw [Qf, if_pos rfl]
   nE := by
    rw [Qf, if_neg (by decide +kernel), efs6, Qf, if_neg (by decide +kernel), efs5, Qf, if_neg (by decide +kernel), efs4, Qf, if_neg (by decide +kernel), efs3, Qf, if_neg (by decide +kernel), efs2, Qf, if_neg (by decide +kernel), efs1, Qf, if_neg (by decide +kernel)]
    rfl
   nY := by
    rw [Qf, if_neg (by decide +kernel), efs6, Qf, if_neg (by decide +kernel), efs5, Qf, if_neg (by decide +kernel), efs4, Qf, if_neg (by decide +kernel), efs3, Qf, if_neg (by decide +kernel), efs2, Qf, if_neg (by decide +kernel), efs1, Qf, if_neg (by decide +kernel)]
    rfl
   nL := by
    rw [Qf, if_neg (by decide +kernel), efs6, Qf, if_neg (by decide +kernel), efs5, Qf, if_neg (by decide +kernel), efs4, Qf, if_neg (by decide +kernel), efs3, Qf, if_neg (by decide +kernel), efs2, Qf, if_neg (by decide +kernel), efs1, Qf, if_neg (by decide +kernel)]
    rfl
   nM := by
    rw [Qf, if_neg (by decide +kernel), efs6, Qf, if_neg (by decide +kernel), efs5, Qf, if_neg (by decide +kernel), efs4, Qf, if_neg (by decide +kernel), efs3, Qf, if_neg (by decide +kernel), efs2, Qf, if_neg (by decide +kernel), efs1, Qf, if_neg (by decide +kernel)]
    rfl
   nU := by
    rw [Qf, if_neg (by decide +kernel), efs6, Qf, if_neg (by decide +kernel), efs5, Qf, if_neg (by decide +kernel), efs4, Qf, if_neg (by decide +kernel), efs3, Qf, if_neg (by decide +kernel), efs2, Qf, if_neg (by decide +kernel), efs1, Qf, if_neg (by decide +kernel)]
    rfl
   nG := by
    rw [Qf, if_neg (by decide +kernel), efs6, Qf, if_neg (by decide +kernel), efs5, Qf, if_neg (by decide +kernel), efs4, Qf, if_neg (by decide +kernel), efs3, Qf, if_neg (by decide +kernel), efs2, Qf, if_neg (by decide +kernel), efs1, Qf, if_neg (by decide +kernel)]
    rfl
   nR := by
    rw [Qf, if_neg (by decide +kernel), efs6, Qf, if_neg (by decide +kernel), efs5, Qf, if_neg (by decide +kernel), efs4, Qf, if_neg (by decide +kernel), efs3, Qf, if_neg (by decide +kernel), efs2, Qf, if_neg (by decide +kernel), efs1, Qf, if_neg (by decide +kernel)]
    rfl
   nC := by
    rw [Qf, if_neg (by decide +kernel), efs6, Qf, if_neg (by decide +kernel), efs5, Qf, if_neg (by decide +kernel), efs4, Qf, if_neg (by decide +kernel), efs3, Qf, if_neg (by decide +kernel), efs2, Qf, if_neg (by decide +kernel), efs1, Qf, if_neg (by decide +kernel)]
    rfl
   nP := by
    rw [Qf, if_neg (by decide +kernel), efs6, Qf, if_neg (by decide +kernel), efs5, Qf, if_neg (by decide +kernel), efs4, Qf, if_neg (by decide +kernel), efs3, Qf, if_neg (by decide +kernel), efs2, Qf, if_neg (by decide +kernel), efs1, Qf, if_neg (by decide +kernel)]
    rfl
   hW := by rw [Qk nlw]; exact sv8 _ _ lw6
   hB := f36 _ _ _ con3 nD3
   hH := f46 _ _ _ con4 nD4
   hS := f56 _ _ _ con5 nD5
   hA := fin6 _ _ _ con6 nD6
   tH := tps4.frP (f46 _) hp4
   tS := tps5.frP (f56 _) hp5
   tA := tps6.frP (fin6 _) hp6
   hI := by rw [Qk nds]; exact hds8
   sd := ⟨fun r hr hsh => ?_, hsd.2⟩
   wo := Qex hs bk.wb
   kl := jQc (Vr ps) (by omega) }
  obtain ⟨t, e1, e2⟩ := hsd.1 r hr hsh
  exact ⟨t, e1, Ky hp8 e2⟩
end
abbrev Vw : Stmt := inClass (top 5) 2
abbrev Vx : Stmt := inClass (top 5) 6
theorem cut2 (a b c : V) : cutV [a, b, c] none (some 2) = [a, b] := by
 unfold cutV
 rw [HT.sIx_none, show (2 : Int) = ((2 : Nat) : Int) from rfl, HT.sIx_nat]
 rfl
theorem Qcx {K : Fg} {H : Hp} {kvs : List (List Key × V)} {B : List BR} (hs : SaidOk K H kvs B) {w v : Str} {l c : Int} (h : BR.way w v l c ∈ B) {ds t3 : Addr} (hd : H ds = some (.dT kvs)) (h3 : H t3 = some (.tup [.str "way", .str w, .str v])) : ∃ t, DGet H ds (.ref t3) (some (.ref t)) ∧ SqT K H t [.int l, .int c] := by
 obtain ⟨t, e, hT⟩ := hs.1 _ h (by show ¬ (("way" : Str) = "shut"); decide +kernel)
 have hg := DGet.t (k := (BR.way w v l c).key) hd h3
 rw [e] at hg
 exact ⟨t, hg, hT⟩
theorem Qmi {n : Int} {B : List BR} (wb : WB n B) (k : Fin 3) (w v t : Str) : (B.filterMap (Jn k w v t)).Pairwise fun _ _ => False := by
 rw [List.pairwise_filterMap]
 refine wb.nd.imp fun {r q} ha x hx y hy => ?_
 have e1 := manyOf_some.mp hx
 have e2 := manyOf_some.mp hy
 subst e1 e2
 have ns : ¬ useW k = "shut" := by
  match k with
  | 0 => decide +kernel
  | 1 => decide +kernel
  | 2 => decide +kernel
 rcases ha with z | z | z
 ·exact ns z
 ·exact ns z
 ·exact z rfl
theorem Qji {n : Int} {B : List BR} (wb : WB n B) {k : Fin 3} {w v t : Str} {m : Int} (h : BR.use k w v t m ∈ B) : Zi B k w v t = m := by
 have hm : m ∈ B.filterMap (Jn k w v t) := yY.mpr ⟨_, h, manyOf_some.mpr rfl⟩
 have hp := Qmi wb k w v t
 unfold Zi
 revert hm hp
 generalize B.filterMap (Jn k w v t) = L
 intro hm hp
 match L, hm, hp with
 | [x], hm, _ =>
  rw [jJ.mp hm]
  show x + 0 = x
  omega
 | x :: y :: L, _, hp => exact absurd ((jJa.mp hp).1 y zX) (fun z => z)
theorem Qjj {B : List BR} {k : Fin 3} {w v t : Str} (h : ∀ m, BR.use k w v t m ∉ B) : Zi B k w v t = 0 := by
 unfold Zi
 cases e : B.filterMap (Jn k w v t) with
 | nil => rfl
 | cons x L =>
  have hx : x ∈ B.filterMap (Jn k w v t) := by rw [e]; exact zX
  obtain ⟨r, hr, e2⟩ := yY.mp hx
  rw [manyOf_some.mp e2] at hr
  exact absurd hr (h _)
theorem Qjk {K : Fg} {H : Hp} {kvs : List (List Key × V)} {n : Int} {B : List BR} (wb : WB n B) (hs : SaidOk K H kvs B) {k : Fin 3} {w v t : Str} {t2 : Addr} (h2 : SqT K H t2 [.int 0]) : ∃ tl, (valV kvs [Sum.inr (useW k), Sum.inr w, Sum.inr v, Sum.inr t]).getD (.ref t2) = .ref tl ∧ SqT K H tl [.int (Zi B k w v t)] := by
 by_cases hl : ∃ m, BR.use k w v t m ∈ B
 ·obtain ⟨m, hl⟩ := hl
  have ns : ¬ useW k = "shut" := by
   match k with
   | 0 => decide +kernel
   | 1 => decide +kernel
   | 2 => decide +kernel
  obtain ⟨tt, e, hT⟩ := hs.1 _ hl ns
  have e' : valV kvs [Sum.inr (useW k), Sum.inr w, Sum.inr v, Sum.inr t] = some (.ref tt) := e
  rw [e', Qji wb hl]
  exact ⟨tt, rfl, hT⟩
 ·have hno : ∀ m, BR.use k w v t m ∉ B := fun m h => hl ⟨m, h⟩
  have e : valV kvs [Sum.inr (useW k), Sum.inr w, Sum.inr v, Sum.inr t] = none := hs.2 _ fun r hr z => by
   have z' : ((Sum.inr r.word : Key) :: r.names.map Sum.inr) = [Sum.inr (useW k), Sum.inr w, Sum.inr v, Sum.inr t] := z
   have hw : r.word = useW k := by
    injection z' with z1
    exact Sum.inr.inj z1
   obtain ⟨w', v', t', m, rfl⟩ := Qdx hw
   have z2 : [(Sum.inr (useW k) : Key), Sum.inr w', Sum.inr v', Sum.inr t'] = [Sum.inr (useW k), Sum.inr w, Sum.inr v, Sum.inr t] := z
   injection z2 with _ z3
   injection z3 with z4 z5
   injection z5 with z6 z7
   injection z7 with z8
   cases z4
   cases z6
   cases z8
   exact hno _ hr
  rw [e, Qjj hno]
  exact ⟨t2, rfl, h2⟩
def Qca (K : Fg) (C : Addr) : Sp := fun vs H Q _ => ∃ (p ch : Addr) (n : Int) (B : List BR) (w v : Str) (b l c : Int), vs = [.ref p, .ref ch] ∧ FcAt K C H p n B ∧ SqT K H ch [.str w, .str v, .int b] ∧ .way w v l c ∈ B ∧ ∀ H', Same H H' → Q (.int (b + l)) H'
def Qhc (K : Fg) (C : Addr) : Sp := fun vs H Q _ => ∃ (p : Addr) (n : Int) (B : List BR) (w v : Str) (l c : Int), vs = [.ref p, .str w, .str v] ∧ FcAt K C H p n B ∧ .way w v l c ∈ B ∧ ∀ H', Same H H' → Q (.int (n - l)) H'
def Qcy (K : Fg) (C : Addr) : Sp := fun vs H Q _ => ∃ (p ch : Addr) (n : Int) (B : List BR) (k : Fin 3) (w v t : Str) (b : Int), vs = [.ref p, .str (useW k), .ref ch, .str t] ∧ FcAt K C H p n B ∧ WB n B ∧ SqT K H ch [.str w, .str v, .int b] ∧ ∀ H', Same H H' → Q (.int (Zi B k w v t)) H'
section
variable {P : Program} {w : World} {K : Fg} {mg : Str → Option Value} {base : Heap}
theorem scFcE : FnScope ["self", "choice"] ["self", "choice"] (Qi Qbx) := ⟨rfl, rfl, rfl, by decide +kernel, rfl, by decide +kernel, by decide +kernel⟩
theorem Qjl {f C : Addr} {fd : FuncData} (F : Fun K "end_of" "Facts.end_of" Qbx f fd) (T : FcTxt K mg C) : FnOk P w K mg base CX0 1 f fd ["self", "choice"] (Qca K C) := by
 refine F.ok scFcE (fun vs H Q E h => ?_) (fun cdv A outer s H vs Q E hr h => ?_)
 ·obtain ⟨p, ch, n, B, w, v, b, l, c, rfl, _⟩ := h
  rfl
 ·obtain ⟨p, ch, n, B, w, v, b, l, c, rfl, ⟨dx, lw, lb, lh, ls, la, ds, fs, kvs, yh, ysS, ya, hF⟩, hch, hway, q⟩ := h
  have hu := Qfy hr
  refine ⟨_, (Qj (Xe (Ql Qt (Qo Xn (pv 1) Qe (fun _ _ => rfl)) (Qo Xn (Ka hu (Ze (pv 0) rfl) (Ql Wq (Qx (Qa Qz Qg)) (Yh Kn (pv 1) Yy (Ys Qe))) (fun _ _ => rfl)) Qe (fun _ _ => rfl))))), ?_⟩
  refine ⟨_, rfl, ch, _, _, _, rfl, rfl, hch, (show atI [V.str w, V.str v, V.int b] 2 = some (.int b) from rfl), ?_⟩
  refine ⟨_, rfl, p, C, dx, fs, _, rfl, hF.hp, T.cl, T.nI, hF.fI, by show 1 ≤ sizeLine; decide, fun t1 ht1 => ?_⟩
  have s1 := Qc ht1 (.tup [.str "way"])
  refine ⟨_, rfl, _, rfl, ch, _, rfl, s1.tup hch, (by show ¬ (HT.sIx 3 0 none = 0 ∧ HT.sIx 3 3 (some 2) = 3); decide), fun t2 ht2 => ?_⟩
  rw [cut2]
  have s2 := s1.trans (Qc ht2 (.tup [.str w, .str v]))
  refine ⟨t1, t2, _, _, rfl, rfl, (Qc ht2 _).tup (Qs Qd), Qs Qd, by simp, by show 3 ≤ sizeLine; decide, fun z => absurd z (by simp), fun _ t3 ht3 => ?_⟩
  have s3 := s2.trans (Qc ht3 (.tup ([.str "way"] ++ [.str w, .str v])))
  obtain ⟨t, dg, hT⟩ := Qcx (hF.sd.same s3) hway (s3 _ _ hF.hI) Qd
  exact ⟨ds, _, rfl, dg, t, _, _, _, rfl, rfl, hT, at0, _, _, rfl, rfl, q _ s3⟩
theorem scFcL : FnScope ["self", "work", "way"] ["self", "work", "way"] (Qi Vw) := ⟨rfl, rfl, rfl, by decide +kernel, rfl, by decide +kernel, by decide +kernel⟩
theorem okFcL {f C : Addr} {fd : FuncData} (F : Fun K "last_begin" "Facts.last_begin" Vw f fd) (T : FcTxt K mg C) : FnOk P w K mg base CX0 1 f fd ["self", "work", "way"] (Qhc K C) := by
 refine F.ok scFcL (fun vs H Q E h => ?_) (fun cdv A outer s H vs Q E hr h => ?_)
 ·obtain ⟨p, n, B, w, v, l, c, rfl, _⟩ := h
  rfl
 ·obtain ⟨p, n, B, w, v, l, c, rfl, ⟨dx, lw, lb, lh, ls, la, ds, fs, kvs, yh, ysS, ya, hF⟩, hway, q⟩ := h
  have hu := Qfy hr
  refine ⟨_, (Qj (Xe (Ql Zj (Ze (pv 0) rfl) (Qo Xn (Ka hu (Ze (pv 0) rfl) (Qx (Qa Qz (Qa (pv 1) (Qa (pv 2) Qg)))) (fun _ _ => rfl)) Qe (fun _ _ => rfl))))), ?_⟩
  refine ⟨_, rfl, p, C, dx, fs, _, rfl, hF.hp, T.cl, T.nD, hF.fD, _, rfl, p, C, dx, fs, _, rfl, hF.hp, T.cl, T.nI, hF.fI, _, rfl, _, rfl, by show 3 ≤ sizeLine; decide, fun t1 ht1 => ?_⟩
  have s1 := Qc ht1 (.tup [.str "way", .str w, .str v])
  obtain ⟨t, dg, hT⟩ := Qcx (hF.sd.same s1) hway (s1 _ _ hF.hI) Qd
  exact ⟨ds, _, rfl, dg, t, _, _, _, rfl, rfl, hT, at0, _, _, rfl, rfl, q _ s1⟩
theorem scFcM : FnScope ["self", "word", "choice", "name"] ["self", "word", "choice", "name"] (Qi Vx) := ⟨rfl, rfl, rfl, by decide +kernel, rfl, by decide +kernel, by decide +kernel⟩
theorem okFcM {f C : Addr} {fd : FuncData} (F : Fun K "many" "Facts.many" Vx f fd) (T : FcTxt K mg C) : FnOk P w K mg base CX0 1 f fd ["self", "word", "choice", "name"] (Qcy K C) := by
 refine F.ok scFcM (fun vs H Q E h => ?_) (fun cdv A outer s H vs Q E hr h => ?_)
 ·obtain ⟨p, ch, n, B, k, w, v, t, b, rfl, _⟩ := h
  rfl
 ·obtain ⟨p, ch, n, B, k, w, v, t, b, rfl, ⟨dx, lw, lb, lh, ls, la, ds, fs, kvs, yh, ysS, ya, hF⟩, wb, hch, q⟩ := h
  have hu := Qfy hr
  refine ⟨_, (Qj (Xe (Qo Xn (Qdq hu (Ze (pv 0) rfl) (Ql Wq (Ql Wq (Qx (Qa (pv 1) Qg)) (Yh Kn (pv 2) Yy (Ys Qe))) (Qx (Qa (pv 3) Qg))) (Qx (Qa Qe Qg)) ⟨rfl, rfl, rfl, rfl⟩) Qe (fun _ _ => rfl)))), ?_⟩
  refine ⟨_, rfl, p, C, dx, fs, _, rfl, hF.hp, T.cl, T.nI, hF.fI, ds, rfl, .inr ⟨kvs, .inl hF.hI⟩, _, rfl, by show 1 ≤ sizeLine; decide, fun t1 ht1 => ?_⟩
  have s1 := Qc ht1 (.tup [.str (useW k)])
  refine ⟨_, rfl, _, rfl, ch, _, rfl, s1.tup hch, (by show ¬ (HT.sIx 3 0 none = 0 ∧ HT.sIx 3 3 (some 2) = 3); decide), fun t2 ht2 => ?_⟩
  rw [cut2]
  have s12 := Qc ht2 (.tup [.str w, .str v])
  have s2 := s1.trans s12
  refine ⟨t1, t2, _, _, rfl, rfl, s12.tup (Qs Qd), Qs Qd, by simp, by show 3 ≤ sizeLine; decide, fun z => absurd z (by simp), fun _ t3 ht3 => ?_⟩
  have s23 := Qc ht3 (.tup ([.str (useW k)] ++ [.str w, .str v]))
  have s3 := s2.trans s23
  refine ⟨_, rfl, by show 1 ≤ sizeLine; decide, fun t4 ht4 => ?_⟩
  have s34 := Qc ht4 (.tup [.str t])
  have s4 := s3.trans s34
  refine ⟨t3, t4, _, _, rfl, rfl, s34.tup (Qs Qd), Qs Qd, by simp, by show 4 ≤ sizeLine; decide, fun z => absurd z (by simp), fun _ t5 ht5 => ?_⟩
  have s45 := Qc ht5 (.tup (([.str (useW k)] ++ [.str w, .str v]) ++ [.str t]))
  have s5 := s4.trans s45
  refine ⟨by show 1 ≤ sizeLine; decide, fun t6 ht6 => ?_⟩
  have s56 := Qc ht6 (.tup [.int 0])
  have s6 := s5.trans s56
  have ht56 := s56 _ _ (Qd (o := .tup (([.str (useW k)] ++ [.str w, .str v]) ++ [.str t])))
  obtain ⟨tl, etl, hTl⟩ := Qjk (k := k) (w := w) (v := v) (t := t) wb (hF.sd.same s6) (Qs Qd)
  refine ⟨_, DGet.t (k := [Sum.inr (useW k), Sum.inr w, Sum.inr v, Sum.inr t]) (s6 _ _ hF.hI) ht56, ?_⟩
  rw [etl]
  exact ⟨tl, _, _, _, rfl, rfl, hTl, (show atI [V.int (Zi B k w v t)] 0 = some _ from rfl), q _ s6⟩
end
abbrev Vy : Stmt := inClass (top 5) 7
abbrev Vz : Stmt := inClass (top 5) 8
def Zg (B : List BR) (st : Str) (day : Int) (p : Str × Str × Int) : Int := (if p.2.2 + lenB B p.1 p.2.1 ≤ day then Zi B 2 p.1 p.2.1 st else 0) - (if p.2.2 ≤ day then Zi B 1 p.1 p.2.1 st else 0)
def Qhd (K : Fg) (C : Addr) : Sp := fun vs H Q _ => ∃ (p ch : Addr) (n : Int) (B : List BR) (w v bn : Str) (b l c day : Int), vs = [.ref p, .ref ch, .str bn, .int day] ∧ FcAt K C H p n B ∧ WB n B ∧ SqT K H ch [.str w, .str v, .int b] ∧ .way w v l c ∈ B ∧ ∀ H', Same H H' → Q (.int (useR B bn day (w, v, b))) H'
def Qhe (K : Fg) (C : Addr) : Sp := fun vs H Q _ => ∃ (p ch : Addr) (n : Int) (B : List BR) (w v bn : Str) (b l c day : Int), vs = [.ref p, .ref ch, .str bn, .int day] ∧ FcAt K C H p n B ∧ WB n B ∧ SqT K H ch [.str w, .str v, .int b] ∧ .way w v l c ∈ B ∧ ∀ H', Same H H' → Q (.int (Zg B bn day (w, v, b))) H'
section
variable {P : Program} {w : World} {K : Fg} {mg : Str → Option Value} {base : Heap}
theorem scFcU : FnScope ["self", "choice", "bench", "day"] ["self", "choice", "bench", "day"] (Qi Vy) := ⟨rfl, rfl, rfl, by decide +kernel, rfl, by decide +kernel, by decide +kernel⟩
theorem okFcU {f fE fM C : Addr} {fd fdE fdM : FuncData} (F : Fun K "used_by" "Facts.used_by" Vy f fd) (T : FcTxt K mg C) (GE : FnOk P w K mg base CX0 1 fE fdE ["self", "choice"] (Qca K C)) (bE : Binds K fdE ["self", "choice"] []) (mE : Meth K C "end_of" fE) (GM : FnOk P w K mg base CX0 1 fM fdM ["self", "word", "choice", "name"] (Qcy K C)) (bM : Binds K fdM ["self", "word", "choice", "name"] []) (mM : Meth K C "many" fM) : FnOk P w K mg base CX0 2 f fd ["self", "choice", "bench", "day"] (Qhd K C) := by
 refine F.ok scFcU (fun vs H Q E h => ?_) (fun cdv A outer s H vs Q E hr h => ?_)
 ·obtain ⟨p, ch, n, B, w, v, bn, b, l, c, day, rfl, _⟩ := h
  rfl
 ·obtain ⟨p, ch, n, B, w, v, bn, b, l, c, day, rfl, hFc, wb, hch, hway, q⟩ := h
  obtain ⟨dx, lw, lb, lh, ls, la, ds, fs, kvs, yh, ysS, ya, hF⟩ := id hFc
  have hr1 : Room 1 _ := hr.mono (by decide)
  have eU : useR B bn day (w, v, b) = if b ≤ day ∧ day < b + l then Zi B 0 w v bn else 0 := by
   show (if b ≤ day ∧ day < b + lenB B w v then Zi B 0 w v bn else 0) = _
   rw [Zp wb hway]
  rw [eU] at q
  refine ⟨_, (Qh (Yu (Qic Kr Qfo (Qo Xn (pv 1) Qe (fun _ _ => rfl)) (pv 3) (Zh (pv 0) T.cl mE GE hr1 bE .nil Jb (Qa (pv 1) Qg))) (Qj (Xe (Zh (pv 0) T.cl mM GM hr1 bM .nil Jb (Qa Qz (Qa (pv 1) (Qa (pv 2) Qg)))))) Xj) (Qj (Xe Qe))), ?_⟩
  refine ⟨_, rfl, ch, _, _, _, rfl, rfl, hch, (show atI [V.str w, V.str v, V.int b] 2 = some (.int b) from rfl), _, rfl, _, _, rfl, rfl, _, rfl, ite2 (fun y => ?_) (fun y => ⟨_, rfl, iteF ?_⟩)⟩
  ·refine ⟨_, rfl, p, dx, fs, rfl, hF.hp, hF.nE, _, rfl, p, ch, n, B, w, v, b, l, c, rfl, hFc, hch, hway, fun H1 s1 => ⟨_, _, rfl, rfl, _, rfl, ite2 (fun y2 => ?_) (fun y2 => ?_)⟩⟩
   ·rw [if_pos ⟨kX y, kX y2⟩] at q
    exact ⟨_, rfl, p, dx, fs, rfl, s1 _ _ hF.hp, hF.nM, _, rfl, _, rfl, p, ch, n, B, 0, w, v, bn, b, rfl, hFc.same s1, wb, s1.tup hch, fun H2 s2 => q _ (s1.trans s2)⟩
   ·rw [if_neg (fun z => y2 (yQ z.2))] at q
    exact q _ s1
  ·rw [if_neg (fun z => y (yQ z.1))] at q
   exact q _ (Same.refl _)
theorem scFcG : FnScope ["self", "choice", "store", "day", "gain"] ["self", "choice", "store", "day"] (Qi Vz) := ⟨rfl, rfl, rfl, by decide +kernel, rfl, by decide +kernel, by decide +kernel⟩
theorem okFcG {f fE fM C : Addr} {fd fdE fdM : FuncData} (F : Fun K "gain_by" "Facts.gain_by" Vz f fd) (T : FcTxt K mg C) (GE : FnOk P w K mg base CX0 1 fE fdE ["self", "choice"] (Qca K C)) (bE : Binds K fdE ["self", "choice"] []) (mE : Meth K C "end_of" fE) (GM : FnOk P w K mg base CX0 1 fM fdM ["self", "word", "choice", "name"] (Qcy K C)) (bM : Binds K fdM ["self", "word", "choice", "name"] []) (mM : Meth K C "many" fM) : FnOk P w K mg base CX0 2 f fd ["self", "choice", "store", "day"] (Qhe K C) := by
 refine F.ok scFcG (fun vs H Q E h => ?_) (fun cdv A outer s H vs Q E hr h => ?_)
 ·obtain ⟨p, ch, n, B, w, v, bn, b, l, c, day, rfl, _⟩ := h
  rfl
 ·obtain ⟨p, ch, n, B, w, v, bn, b, l, c, day, rfl, hFc, wb, hch, hway, q⟩ := h
  obtain ⟨dx, lw, lb, lh, ls, la, ds, fs, kvs, yh, ysS, ya, hF⟩ := id hFc
  have hr1 : Room 1 _ := hr.mono (by decide)
  refine ⟨_, (Qh (Qq (i := 4) scFcG.nd rfl (Or.inl rfl) Qe) (Qh (Yu (Qr Kr (Qo Xn (pv 1) Qe (fun _ _ => rfl)) (pv 3) (Qv _)) (Qj (Qfg (i := 4) scFcG.nd rfl (Or.inl rfl) (Zh (pv 0) T.cl mM GM hr1 bM .nil Jb (Qa Qz (Qa (pv 1) (Qa (pv 2) Qg)))) ip_sub)) Xj) (Qh (Yu (Qr Kr (Zh (pv 0) T.cl mE GE hr1 bE .nil Jb (Qa (pv 1) Qg)) (pv 3) (Qv _)) (Qj (Qfg (i := 4) scFcG.nd rfl (Or.inl rfl) (Zh (pv 0) T.cl mM GM hr1 bM .nil Jb (Qa Qz (Qa (pv 1) (Qa (pv 2) Qg)))) ip_add)) Xj) (Qj (Xe (pv 4)))))), ?_⟩
  refine ⟨_, rfl, ch, _, _, _, rfl, rfl, hch, (show atI [V.str w, V.str v, V.int b] 2 = some (.int b) from rfl), _, rfl, _, _, rfl, rfl, _, rfl, ite2 (fun y => ?_) (fun y => ?_)⟩
  ·refine ⟨_, rfl, _, rfl, p, dx, fs, rfl, hF.hp, hF.nM, _, rfl, _, rfl, p, ch, n, B, 1, w, v, bn, b, rfl, hFc, wb, hch, fun H2 s2 => ⟨_, _, rfl, rfl, ?_⟩⟩
   refine ⟨_, rfl, p, dx, fs, rfl, s2 _ _ hF.hp, hF.nE, _, rfl, p, ch, n, B, w, v, b, l, c, rfl, hFc.same s2, s2.tup hch, hway, fun H3 s3 => ⟨_, rfl, _, _, rfl, rfl, _, rfl, ite2 (fun y2 => ?_) (fun y2 => ?_)⟩⟩
   ·have s4 := s2.trans s3
    refine ⟨_, rfl, _, rfl, p, dx, fs, rfl, s4 _ _ hF.hp, hF.nM, _, rfl, _, rfl, p, ch, n, B, 2, w, v, bn, b, rfl, hFc.same s4, wb, s4.tup hch, fun H5 s5 => ⟨_, _, rfl, rfl, ?_⟩⟩
    refine ⟨_, rfl, ?_⟩
    have e := q _ (s4.trans s5)
    unfold Zg at e
    rw [Zp wb hway, if_pos (kX y2), if_pos (kX y)] at e
    have e3 : 0 - Zi B 1 w v bn + Zi B 2 w v bn = Zi B 2 w v bn - Zi B 1 w v bn := by omega
    dsimp only
    rw [e3]
    exact e
   ·refine ⟨_, rfl, ?_⟩
    have e := q _ (s2.trans s3)
    unfold Zg at e
    rw [Zp wb hway, if_neg (fun z => y2 (yQ z)), if_pos (kX y)] at e
    have e3 : 0 - Zi B 1 w v bn = 0 - Zi B 1 w v bn := by omega
    first | exact e | (rw [e3]; exact e)
  ·have s2 := Same.refl H
   refine ⟨_, rfl, p, dx, fs, rfl, s2 _ _ hF.hp, hF.nE, _, rfl, p, ch, n, B, w, v, b, l, c, rfl, hFc.same s2, s2.tup hch, hway, fun H3 s3 => ⟨_, rfl, _, _, rfl, rfl, _, rfl, ite2 (fun y2 => ?_) (fun y2 => ?_)⟩⟩
   ·have s4 := s2.trans s3
    refine ⟨_, rfl, _, rfl, p, dx, fs, rfl, s4 _ _ hF.hp, hF.nM, _, rfl, _, rfl, p, ch, n, B, 2, w, v, bn, b, rfl, hFc.same s4, wb, s4.tup hch, fun H5 s5 => ⟨_, _, rfl, rfl, ?_⟩⟩
    refine ⟨_, rfl, ?_⟩
    have e := q _ (s4.trans s5)
    unfold Zg at e
    rw [Zp wb hway, if_pos (kX y2), if_neg (fun z => y (yQ z))] at e
    have e3 : 0 + Zi B 2 w v bn = Zi B 2 w v bn - 0 := by omega
    dsimp only
    rw [e3]
    exact e
   ·refine ⟨_, rfl, ?_⟩
    have e := q _ (s2.trans s3)
    unfold Zg at e
    rw [Zp wb hway, if_neg (fun z => y2 (yQ z)), if_neg (fun z => y (yQ z))] at e
    have e3 : 0 = 0 - 0 := by omega
    first | exact e | (rw [e3]; exact e)
end
abbrev Wa : Stmt := inClass (top 5) 9
theorem Qhf {K : Fg} {H : Hp} {kvs : List (List Key × V)} {B : List BR} (hs : SaidOk K H kvs B) {b : Str} {r : Int} (h : BR.bench b r ∈ B) {ds t3 : Addr} (hd : H ds = some (.dT kvs)) (h3 : H t3 = some (.tup [.str "bench", .str b])) : ∃ t, DGet H ds (.ref t3) (some (.ref t)) ∧ SqT K H t [.int r] := by
 obtain ⟨t, e, hT⟩ := hs.1 _ h (by show ¬ (("bench" : Str) = "shut"); decide +kernel)
 have hg := DGet.t (k := (BR.bench b r).key) hd h3
 rw [e] at hg
 exact ⟨t, hg, hT⟩
theorem Qjm {B : List BR} {b : Str} {day r : Int} : Wf B b r day = if ((B.filter (selW "shut")).map (Yw b day)).any id = true then 0 else r := by
 unfold Wf
 by_cases h : ((B.filter (selW "shut")).map (Yw b day)).any id = true
 ·rw [if_pos h, if_neg]
  intro z
  obtain ⟨x, hx, e⟩ := jZc.mp h
  obtain ⟨q, hq, e2⟩ := wW.mp hx
  have hm : q ∈ B.filter (Yw b day) := xW.mpr ⟨(xW.mp hq).1, by rw [e2]; exact e⟩
  rw [List.eq_nil_of_length_eq_zero z] at hm
  exact nomatch hm
 ·rw [if_neg h, if_pos]
  cases e : B.filter (Yw b day) with
  | nil => rfl
  | cons q L =>
   exfalso
   have hm : q ∈ B.filter (Yw b day) := by rw [e]; exact zX
   obtain ⟨h1, h2⟩ := xW.mp hm
   refine h (jZc.mpr ⟨true, wW.mpr ⟨q, xW.mpr ⟨h1, ?_⟩, h2⟩, rfl⟩)
   refine yQ ?_
   cases q with
   | shut b' f t => rfl
   | _ => cases h2
def Qhg (K : Fg) (C : Addr) : Sp := fun vs H Q _ => ∃ (p : Addr) (n : Int) (B : List BR) (bn : Str) (r day : Int), vs = [.ref p, .str bn, .int day] ∧ FcAt K C H p n B ∧ WB n B ∧ .bench bn r ∈ B ∧ ∀ H', Same H H' → Q (.int (Wf B bn r day)) H'
section
variable {P : Program} {w : World} {K : Fg} {mg : Str → Option Value} {base : Heap}
theorem scFcR : FnScope ["self", "bench", "day"] ["self", "bench", "day"] (Qi Wa) := ⟨rfl, rfl, rfl, by decide +kernel, rfl, by decide +kernel, by decide +kernel⟩
theorem okFcR {f C : Addr} {fd : FuncData} (F : Fun K "room_of" "Facts.room_of" Wa f fd) (M : Mg mg) (T : FcTxt K mg C) : FnOk P w K mg base CX0 1 f fd ["self", "bench", "day"] (Qhg K C) := by
 refine F.ok scFcR (fun vs H Q E h => ?_) (fun cdv A outer s H vs Q E hr h => ?_)
 ·obtain ⟨p, n, B, bn, r, day, rfl, _⟩ := h
  rfl
 ·obtain ⟨p, n, B, bn, r, day, rfl, hFc, wb, hben, q⟩ := h
  obtain ⟨dx, lw, lb, lh, ls, la, ds, fs, kvs, yh, ysS, ya, hF⟩ := id hFc
  have hz : (20000 : Nat) < sizeLine := by decide
  have hu := Qfy hr
  have bl := wb.len
  have lt := Paired.length hF.tH
  have lf : (B.filter (selW "shut")).length ≤ B.length := List.length_filter_le _ _
  refine ⟨_, (Qh (Yu (Qdf (Xm (Qgc rfl) rfl M.any bt_any (Qa (Zf ["name", "begin", "end", "bench", "day"] [none, none, none, some 1, some 2] rfl (Qu (Ze (pv 0) rfl)) (fun _ _ _ => (Qcr (K := K) (i := 0) (j := 1) (l := 2) rfl rfl (show (["name", "begin", "end", "bench", "day"] : List Str).Nodup by decide +kernel) rfl rfl rfl rfl rfl rfl)) (fun _ _ _ => Yq) (fun _ _ _ => (Qav (Zs Yk (pv 0) (pv 3) (Qv _)) (Qau (Qib Kr Qfo (pv 1) (pv 4) (pv 2)))))) Qg))) (Qj (Xe Qe)) Xj) (Qj (Xe (Qo Xn (Ka hu (Ze (pv 0) rfl) (Qx (Qa Qz (Qa (pv 1) Qg))) (fun _ _ => rfl)) Qe (fun _ _ => rfl))))), ?_⟩
  refine ⟨_, rfl, p, C, dx, fs, _, rfl, hF.hp, T.cl, T.nH, hF.fH, lh, rfl, ⟨_, Qb hF.hH⟩, fun D hD => ?_⟩
  let Pv22 : Nat → St → List V → Hp → Prop := fun m τ ys H1 => ∃ v1 v2 v3 : Option V, τ = [v1, v2, v3, some (.str bn), some (.int day)] ∧ ys = (((B.filter (selW "shut")).take m).map (Yw bn day)).map V.bl ∧ H1 D = some (.lst ys) ∧ Same H H1
  refine Yo (n := yh.length) Pv22 ?_ (fun m τ ys H1 hm h => ?_) (fun m τ ys H1 hm h => ?_) (fun τ ys H1 h => ?_) ?_ ?_
  ·exact ⟨none, none, none, rfl, rfl, Qd, Qc hD _⟩
  ·obtain ⟨v1, v2, v3, rfl, ey, hE, s1⟩ := h
   exact ⟨hE, by rw [ey, jX, jX, zQ]; omega⟩
  ·obtain ⟨v1, v2, v3, rfl, ey, hE, s1⟩ := h
   exact ⟨yh, yh[m]'hm, s1.seq (Qb hF.hH), gE hm⟩
  ·obtain ⟨v1, v2, v3, rfl, ey, hE, s1⟩ := h
   exact ⟨yh, s1.seq (Qb hF.hH), jZ _⟩
  ·rintro m τ ys H1 x H2 hm ⟨v1, v2, v3, rfl, ey, hE, s1⟩ ⟨rfl, e1⟩
   obtain ⟨r', er', t, rfl, hT⟩ := Qy hF.tH (e1 _ (s1.seq (Qb hF.hH)))
   obtain ⟨b', f', t', rfl⟩ := Qbw (kX (xW.mp (kZ er')).2)
   have hT' : SqT K H2 t [.str b', .int f', .int t'] := s1.tup hT
   have fin : ∀ bb : Bool, bb = Yw bn day (.shut b' f' t') → H2 D = some (.lst ys) ∧ ∃ v1 v2 v3 : Option V, ([some (.str b'), some (.int f'), some (.int t'), some (.str bn), some (.int day)] : St) = [v1, v2, v3, some (.str bn), some (.int day)] ∧ ys ++ [V.bl bb] = (((B.filter (selW "shut")).take (m + 1)).map (Yw bn day)).map V.bl ∧ upd H2 D (.lst (ys ++ [V.bl bb])) D = some (.lst (ys ++ [V.bl bb])) ∧ Same H (upd H2 D (.lst (ys ++ [V.bl bb]))) := fun bb hb => by
    refine ⟨hE, _, _, _, rfl, ?_, Qd, fun c o e => ?_⟩
    ·rw [Zz er', kK, kK, ey, hb]; rfl
    ·rw [Qk (Qp e hD)]; exact s1 _ _ e
   have eS : Yw bn day (.shut b' f' t') = decide (b' = bn ∧ f' ≤ day ∧ day < t') := rfl
   refine ⟨t, _, rfl, hT', rfl, _, _, rfl, _, _, rfl, _, _, rfl, rfl, ?_⟩
   refine ⟨_, rfl, _, rfl, rfl, _, rfl, ite2 (fun y => ?_) (fun y => ?_)⟩
   ·refine ⟨_, rfl, _, rfl, _, _, rfl, rfl, _, rfl, ite2 (fun y2 => ⟨_, rfl, _, _, rfl, rfl, ?_⟩) (fun y2 => ?_)⟩
    ·refine fin _ ?_
     rw [eS]
     by_cases e : day < t'
     ·rw [yQ e, yQ ⟨eqS y, kX y2, e⟩]
     ·rw [zJ e, zJ (fun z => e z.2.2)]
    ·exact fin _ (by rw [eS, zJ (fun z => y2 (yQ z.2.1))])
   ·exact fin _ (by rw [eS, zJ (fun z => y (by rw [z.1]; exact yesS _))])
  ·rintro τ ys H1 ⟨v1, v2, v3, rfl, ey, hE, s1⟩
   rw [show yh.length = (B.filter (selW "shut")).length from lt, kY] at ey
   subst ey
   rw [Qjm] at q
   refine ⟨D, _, rfl, Qb hE, _, rfl, ite2 (fun y => ?_) (fun y => ?_)⟩
   ·rw [if_pos y] at q
    exact q _ s1
   ·rw [if_neg y] at q
    refine ⟨_, rfl, p, C, dx, fs, _, rfl, s1 _ _ hF.hp, T.cl, T.nI, hF.fI, _, rfl, by show 2 ≤ sizeLine; decide, fun t1 ht1 => ?_⟩
    have s2 := s1.trans (Qc ht1 (.tup [.str "bench", .str bn]))
    obtain ⟨t, dg, hT⟩ := Qhf (hF.sd.same s2) hben (s2 _ _ hF.hI) Qd
    exact ⟨ds, _, rfl, dg, t, _, _, _, rfl, rfl, hT, (show atI [V.int r] 0 = some _ from rfl), q _ s2⟩
end
abbrev Jy : Stmt := inClass (top 5) 5
def Zq (w : Str) : BR → Option (Int × Int)
 | .late w' d k => if w' = w then some (d, k) else none
 | _ => none
def Je (B : List BR) (w : Str) : Int × Int := (B.filterMap (Zq w)).headD (0, 0)
theorem lateR_some {w : Str} {r : BR} {x : Int × Int} : Zq w r = some x ↔ r = .late w x.1 x.2 := by
 constructor
 ·intro h
  cases r with
  | late w' d k =>
   have h' : (if w' = w then some (d, k) else none) = some x := h
   by_cases e : w' = w
   ·rw [if_pos e] at h'
    cases h'
    rw [e]
   ·rw [if_neg e] at h'; cases h'
  | _ => cases h
 ·rintro rfl
  exact if_pos rfl
theorem Qak {n : Int} {B : List BR} (wb : WB n B) {w : Str} {d k : Int} (h : BR.late w d k ∈ B) : Je B w = (d, k) := by
 have hx : ∀ x ∈ B.filterMap (Zq w), x = (d, k) := fun x hx => by
  obtain ⟨r, hr, e⟩ := yY.mp hx
  have e2 := lateR_some.mp e
  subst e2
  have := wb.uniq hr h rfl (by show ¬ (("late" : Str) = "shut"); decide +kernel)
  cases this
  rfl
 have hne : (d, k) ∈ B.filterMap (Zq w) := yY.mpr ⟨_, h, lateR_some.mpr rfl⟩
 unfold Je
 cases e : B.filterMap (Zq w) with
 | nil => rw [e] at hne; exact nomatch hne
 | cons a b => exact hx a (by rw [e]; exact zX)
theorem Qal {B : List BR} {w : Str} (h : ∀ d k, BR.late w d k ∉ B) : Je B w = (0, 0) := by
 unfold Je
 cases e : B.filterMap (Zq w) with
 | nil => rfl
 | cons a b =>
  have ha : a ∈ B.filterMap (Zq w) := by rw [e]; exact zX
  obtain ⟨r, hr, e2⟩ := yY.mp ha
  rw [lateR_some.mp e2] at hr
  exact absurd hr (h _ _)
theorem Qjn {K : Fg} {H : Hp} {kvs : List (List Key × V)} {n : Int} {B : List BR} (wb : WB n B) (hs : SaidOk K H kvs B) {w : Str} {t2 : Addr} (h2 : SqT K H t2 [.int 0, .int 0]) : ∃ tl, (valV kvs [Sum.inr ("late" : Str), Sum.inr w]).getD (.ref t2) = .ref tl ∧ SqT K H tl [.int (Je B w).1, .int (Je B w).2] := by
 by_cases hl : ∃ d k, BR.late w d k ∈ B
 ·obtain ⟨d, k, hl⟩ := hl
  obtain ⟨t, e, hT⟩ := hs.1 _ hl (by show ¬ (("late" : Str) = "shut"); decide +kernel)
  have e' : valV kvs [Sum.inr ("late" : Str), Sum.inr w] = some (.ref t) := e
  rw [e', Qak wb hl]
  exact ⟨t, rfl, hT⟩
 ·have hno : ∀ d k, BR.late w d k ∉ B := fun d k h => hl ⟨d, k, h⟩
  have e : valV kvs [Sum.inr ("late" : Str), Sum.inr w] = none := hs.2 _ fun r hr z => by
   have hw : r.word = "late" := by
    have z' : ((Sum.inr r.word : Key) :: r.names.map Sum.inr) = [Sum.inr ("late" : Str), Sum.inr w] := z
    injection z' with z1
    exact Sum.inr.inj z1
   obtain ⟨w', d, k, rfl⟩ := Qbt hw
   have z' : [(Sum.inr ("late" : Str) : Key), Sum.inr w'] = [Sum.inr ("late" : Str), Sum.inr w] := z
   injection z' with _ z2
   injection z2 with z3
   cases z3
   exact hno _ _ hr
  rw [e, Qal hno]
  exact ⟨t2, rfl, h2⟩
def Qcb (B : List BR) (w : Str) (b l c : Int) : Int := c + (if b + l - (Je B w).1 > 0 then b + l - (Je B w).1 else 0) * (Je B w).2
def Qdy (K : Fg) (C : Addr) : Sp := fun vs H Q _ => ∃ (p ch : Addr) (n : Int) (B : List BR) (w v : Str) (b l c : Int), vs = [.ref p, .ref ch] ∧ FcAt K C H p n B ∧ WB n B ∧ SqT K H ch [.str w, .str v, .int b] ∧ .way w v l c ∈ B ∧ 0 ≤ b ∧ b + l ≤ 100 ∧ 0 ≤ (Je B w).1 ∧ (Je B w).1 ≤ 100 ∧ ∀ H', Same H H' → Q (.int (Qcb B w b l c)) H'
section
variable {P : Program} {w : World} {K : Fg} {mg : Str → Option Value} {base : Heap}
theorem scFcP : FnScope ["self", "choice", "late"] ["self", "choice"] (Qi Jy) := ⟨rfl, rfl, rfl, by decide +kernel, rfl, by decide +kernel, by decide +kernel⟩
theorem okFcP {f fE C : Addr} {fd fdE : FuncData} (F : Fun K "price_of" "Facts.price_of" Jy f fd) (M : Mg mg) (T : FcTxt K mg C) (GE : FnOk P w K mg base CX0 1 fE fdE ["self", "choice"] (Qca K C)) (bE : Binds K fdE ["self", "choice"] []) (mE : Meth K C "end_of" fE) : FnOk P w K mg base CX0 2 f fd ["self", "choice"] (Qdy K C) := by
 refine F.ok scFcP (fun vs H Q E h => ?_) (fun cdv A outer s H vs Q E hr h => ?_)
 ·obtain ⟨p, ch, n, B, w, v, b, l, c, rfl, _⟩ := h
  rfl
 ·obtain ⟨p, ch, n, B, w, v, b, l, c, rfl, hF, wb, hch, hway, b0, bl, d0, d1, q⟩ := h
  obtain ⟨dx, lw, lb, lh, ls, la, ds, fs, kvs, yh, ysS, ya, hQ⟩ := id hF
  have hp := hQ.hp
  have lkS := hQ.fI
  have lkE := hQ.nE
  have hds := hQ.hI
  have hsd := hQ.sd
  have hu := Qfy hr
  have hr1 : Room 1 _ := hr.mono (by decide)
  refine ⟨_, (Qh (Qq (i := 2) scFcP.nd rfl (Or.inl rfl) (Qdq hu (Ze (pv 0) rfl) (Qx (Qa Qz (Qa (Qo Xn (pv 1) Qe (fun _ _ => rfl)) Qg))) (Qx (Qa Qe (Qa Qe Qg))) ⟨rfl, rfl, rfl, rfl⟩))
   (Qj (Xe (Ql Qt (Qo Xn (Ka hu (Ze (pv 0) rfl) (Ql Wq (Qx (Qa Qz Qg)) (Yh Kn (pv 1) Yy (Ys Qe))) (fun _ _ => rfl)) Qe (fun _ _ => rfl)) (Ql Zl (Xm (Qaz rfl) rfl M.max Qkm (Qa Qe (Qa (Ql Zj (Zh (pv 0) T.cl mE GE hr1 bE .nil Jb (Qa (pv 1) Qg)) (Qo Xn (pv 2) Qe (fun _ _ => rfl))) Qg))) (Qo Xn (pv 2) Qe (fun _ _ => rfl))))))), ?_⟩
  refine ⟨_, rfl, p, C, dx, fs, _, rfl, hp, T.cl, T.nI, lkS, ds, rfl, .inr ⟨kvs, .inl hds⟩, _, rfl, ch, _, _, _, rfl, rfl, hch, (show atI [V.str w, V.str v, V.int b] 0 = some (.str w) from rfl), by show 2 ≤ sizeLine; decide, fun t1 ht1 => ?_⟩
  have s1 := Qc ht1 (.tup [.str "late", .str w])
  refine ⟨by show 2 ≤ sizeLine; decide, fun t2 ht2 => ?_⟩
  have s12 := Qc ht2 (.tup [.int 0, .int 0])
  have s2 := s1.trans s12
  have ht22 : upd (upd H t1 (.tup [.str "late", .str w])) t2 (.tup [.int 0, .int 0]) t2 = some (.tup [.int 0, .int 0]) := Qd
  have ht12 := s12 _ _ (Qd (H := H) (a := t1) (o := .tup [.str "late", .str w]))
  generalize upd (upd H t1 (.tup [.str "late", .str w])) t2 (.tup [.int 0, .int 0]) = H2 at s2 ht22 ht12 ⊢
  clear s12
  obtain ⟨tl, etl, hTl⟩ := Qjn (w := w) wb (hsd.same s2) (Qs ht22)
  refine ⟨_, DGet.t (k := [Sum.inr ("late" : Str), Sum.inr w]) (s2 _ _ hds) ht12, ?_⟩
  rw [etl]
  refine ⟨_, rfl, p, C, dx, fs, _, rfl, s2 _ _ hp, T.cl, T.nI, lkS, by show 1 ≤ sizeLine; decide, fun t3 ht3 => ?_⟩
  have s3 := Qc ht3 (.tup [.str "way"])
  refine ⟨_, rfl, _, rfl, ch, _, rfl, (s2.trans s3).tup hch, (by show ¬ (HT.sIx 3 0 none = 0 ∧ HT.sIx 3 3 (some 2) = 3); decide), fun t4 ht4 => ?_⟩
  rw [cut2]
  have s4 := s3.trans (Qc ht4 (.tup [.str w, .str v]))
  refine ⟨t3, t4, _, _, rfl, rfl, (Qc ht4 _).tup (Qs Qd), Qs Qd, by simp, by show 3 ≤ sizeLine; decide, fun z => absurd z (by simp), fun _ t5 ht5 => ?_⟩
  have s5 := s4.trans (Qc ht5 (.tup ([.str "way"] ++ [.str w, .str v])))
  have s25 := s2.trans s5
  obtain ⟨t, dg, hT⟩ := Qcx (hsd.same s25) hway (s25 _ _ hds) Qd
  refine ⟨ds, _, rfl, dg, t, _, _, _, rfl, rfl, hT, at1, ?_⟩
  refine ⟨_, rfl, p, dx, fs, rfl, s25 _ _ hp, lkE, _, rfl, p, ch, n, B, w, v, b, l, c, rfl, hF.same s25, s25.tup hch, hway, fun H6 s6 => ?_⟩
  have s56 := s5.trans s6
  refine ⟨_, rfl, tl, _, _, _, rfl, rfl, s56.tup hTl, at0, _, _, rfl, rfl, _, _, rfl, _, rfl, tl, _, _, _, rfl, rfl, s56.tup hTl, at1, _, _, rfl, rfl, ?_, _, _, rfl, rfl, q _ (s2.trans s56)⟩
  have hok := Int.le_refl 0
  refine mulC _ _ ?_ ?_
  ·show -(2 ^ 64) < (if b + l - (Je B w).1 > 0 then b + l - (Je B w).1 else 0)
   split <;> omega
  ·show (if b + l - (Je B w).1 > 0 then b + l - (Je B w).1 else 0) < 2 ^ 64
   split <;> omega
end
abbrev Qdz : Stmt := top 7
section
variable {P : Program} {w : World} {K : Fg} {mg : Str → Option Value} {base : Heap}
def Qmj (K : Fg) (tl : TE) : TI := fun σ H R => iList K tl σ H R ∨ iTup K tl σ H R
theorem Qhh {X : Cx} {tg l : Expr} {tl : TE} (hl : PE X l tl) : PI X tg l (Qmj X.K tl) := fun pins s σ H R I h => h.elim (Qu hl pins s σ H R I) (Qkf hl pins s σ H R I)
def Qam (K : Fg) : Sp := fun vs H Q _ => ∃ (a : Addr) (ns : List Int), vs = [.ref a] ∧ (SqL K H a (ns.map V.int) ∨ SqT K H a (ns.map V.int)) ∧ ns.length ≤ 2000000 ∧ ∀ (t : Addr) (H' : Hp), Same H H' → H t = none → SqT K H' t ((ns.map fun x => -x).map V.int) → Q (.ref t) H'
theorem Qmk : FnScope ["numbers"] ["numbers"] (Qi Qdz) := ⟨rfl, rfl, rfl, by decide +kernel, rfl, by decide +kernel, by decide +kernel⟩
theorem Qml (F : Fn K mg "negated" Qdz) (M : Mg mg) : Cal P w K mg base 1 "negated" ["numbers"] (Qam K) := by
 refine Ye F Qmk (fun _ _ _ _ _ _ => bind1 (fun _ => rfl)) (fun vs H Q E h => ?_) (fun f cdv A outer s H vs Q E hr h => ?_)
 ·obtain ⟨a, ns, rfl, _⟩ := h
  rfl
 obtain ⟨a, ns, rfl, hs, hn, q⟩ := h
 refine ⟨_, (Qj (Xe (Xc Xb rfl M.tuple_ Xy (Qa (Zf ["number"] [none] rfl (Qhh (pv 0)) (fun _ _ _ => (Qn (i := 0) (show (["number"] : List Str).Nodup by decide +kernel) rfl (Or.inl rfl) (Or.inr rfl))) (fun _ _ _ => Yq) (fun _ _ _ => (Qay Km (pv 0)))) Qg)))), ?_⟩
 have hz : (2000000 : Nat) < sizeLine := by decide
 rcases hs with hs | hs
 ·refine .inl ⟨_, rfl, a, rfl, ⟨_, hs⟩, fun D hD => ?_⟩
  let Pv23 : Nat → St → List V → Hp → Prop := fun i τ ys H1 => ∃ v : Option V, τ = [v] ∧ ys = ((ns.take i).map fun x => -x).map V.int ∧ H1 D = some (.lst ys) ∧ Same H H1
  refine Yo (n := ns.length) Pv23 ?_ (fun i τ ys H1 hi h => ?_) (fun i τ ys H1 hi h => ?_) (fun τ ys H1 h => ?_) ?_ ?_
  ·exact ⟨none, rfl, rfl, Qd, Qc hD _⟩
  ·obtain ⟨v, rfl, rfl, hD1, s1⟩ := h
   exact ⟨hD1, by rw [jX, jX, zQ]; omega⟩
  ·obtain ⟨v, rfl, rfl, hD1, s1⟩ := h
   exact ⟨_, _, s1.seq hs, gE (by rw [jX]; exact hi)⟩
  ·obtain ⟨v, rfl, rfl, hD1, s1⟩ := h
   exact ⟨_, s1.seq hs, by rw [jX]; exact jZ _⟩
  ·rintro i τ ys H1 x H2 hi ⟨v, rfl, rfl, hD1, s1⟩ ⟨rfl, e1⟩
   obtain ⟨x, ex, rfl⟩ := Wv (e1 _ (s1.seq hs))
   refine ⟨_, rfl, _, rfl, hD1, _, rfl, ?_, Qd, fun b o e => ?_⟩
   ·rw [Zz ex, kK, kK]; rfl
   ·rw [Qk (Qp e hD)]; exact s1 _ _ e
  rintro τ ys H1 ⟨v, rfl, rfl, hD1, s1⟩
  rw [kY] at hD1
  refine ⟨D, _, rfl, .inl ⟨Qb hD1, fun t ht => q t _ (s1.trans (Qc ht _)) ?_ (Qs Qd)⟩⟩
  cases e : H t with
  | none => rfl
  | some o => rw [s1 _ _ e] at ht; cases ht
 ·refine .inr ⟨_, rfl, a, rfl, ⟨_, hs⟩, fun D hD => ?_⟩
  let Pv24 : Nat → St → List V → Hp → Prop := fun i τ ys H1 => ∃ v : Option V, τ = [v] ∧ ys = ((ns.take i).map fun x => -x).map V.int ∧ H1 D = some (.lst ys) ∧ Same H H1
  refine Yo (n := ns.length) Pv24 ?_ (fun i τ ys H1 hi h => ?_) (fun i τ ys H1 hi h => ?_) (fun τ ys H1 h => ?_) ?_ ?_
  ·exact ⟨none, rfl, rfl, Qd, Qc hD _⟩
  ·obtain ⟨v, rfl, rfl, hD1, s1⟩ := h
   exact ⟨hD1, by rw [jX, jX, zQ]; omega⟩
  ·obtain ⟨v, rfl, rfl, hD1, s1⟩ := h
   exact ⟨_, _, s1.tup hs, gE (by rw [jX]; exact hi)⟩
  ·obtain ⟨v, rfl, rfl, hD1, s1⟩ := h
   exact ⟨_, s1.tup hs, by rw [jX]; exact jZ _⟩
  ·rintro i τ ys H1 x H2 hi ⟨v, rfl, rfl, hD1, s1⟩ ⟨rfl, e1⟩
   obtain ⟨x, ex, rfl⟩ := Wv (e1 _ (s1.tup hs))
   refine ⟨_, rfl, _, rfl, hD1, _, rfl, ?_, Qd, fun b o e => ?_⟩
   ·rw [Zz ex, kK, kK]; rfl
   ·rw [Qk (Qp e hD)]; exact s1 _ _ e
  rintro τ ys H1 ⟨v, rfl, rfl, hD1, s1⟩
  rw [kY] at hD1
  refine ⟨D, _, rfl, .inl ⟨Qb hD1, fun t ht => q t _ (s1.trans (Qc ht _)) ?_ (Qs Qd)⟩⟩
  cases e : H t with
  | none => rfl
  | some o => rw [s1 _ _ e] at ht; cases ht
end
abbrev sAfN : Stmt := top 11
def afN (w : Str) (b l : Int) (x y : Str) (g d : Int) : Int := if w = x then (if b + l + g ≤ d then 1 else 0) else if w = y ∧ b ≤ d then -1 else 0
def spAfN (K : Fg) (C : Addr) : Sp := fun vs H Q _ => ∃ (p ch af : Addr) (n : Int) (B : List BR) (w v : Str) (b l c : Int) (x y : Str) (g d : Int), vs = [.ref p, .ref ch, .ref af, .int d] ∧ FcAt K C H p n B ∧ SqT K H ch [.str w, .str v, .int b] ∧ .way w v l c ∈ B ∧ SqT K H af [.str x, .str y, .int g] ∧ ∀ H', Same H H' → Q (.int (afN w b l x y g d)) H'
theorem Jf {a b c : V} : atI [a, b, c] 0 = some a := rfl
theorem Qmm {a b c : V} : atI [a, b, c] 1 = some b := rfl
theorem Qcz {a b c : V} : atI [a, b, c] 2 = some c := rfl
section
variable {P : Program} {w : World} {K : Fg} {mg : Str → Option Value} {base : Heap}
theorem scAfN : FnScope ["facts", "choice", "after", "day"] ["facts", "choice", "after", "day"] (Qi sAfN) := ⟨rfl, rfl, rfl, by decide +kernel, rfl, by decide +kernel, by decide +kernel⟩
theorem okAfN {C fE : Addr} {fdE : FuncData} (F : Fn K mg "after_number" sAfN) (M : Mg mg) (T : FcTxt K mg C) (GE : FnOk P w K mg base CX0 1 fE fdE ["self", "choice"] (Qca K C)) (bE : Binds K fdE ["self", "choice"] []) (mE : Meth K C "end_of" fE) : Cal P w K mg base 2 "after_number" ["facts", "choice", "after", "day"] (spAfN K C) := by
 refine Ye F scAfN (fun _ _ _ _ _ _ => Qgq (fun _ _ _ _ => rfl)) (fun vs H Q E h => ?_) (fun f cdv A outer s H vs Q E hr h => ?_)
 ·obtain ⟨p, ch, af, n, B, w, v, b, l, c, x, y, g, d, rfl, _⟩ := h
  rfl
 obtain ⟨p, ch, af, n, B, w, v, b, l, c, x, y, g, d, rfl, hFc, hch, hway, haf, q⟩ := h
 obtain ⟨dx, lw, lb, lh, ls, la, ds, fs, kvs, yh, ysS, ya, hF⟩ := id hFc
 refine ⟨_, (Qh (Yu (Qr Yk (Qo Xn (pv 1) Qe (fun _ _ => rfl)) (Qo Xn (pv 2) Qe (fun _ _ => rfl)) (Qv _)) (Qj (Xe (Wp (Qr Kr (Ql Qt (Zh (pv 0) T.cl mE GE (hr.mono (by decide)) bE .nil Jb (Qa (pv 1) Qg)) (Qo Xn (pv 2) Qe (fun _ _ => rfl))) (pv 3) (Qv _)) Qe Qe))) Xj)
  (Qj (Xe (Wp (PW.pt (Ve (Qr Yk (Qo Xn (pv 1) Qe (fun _ _ => rfl)) (Qo Xn (pv 2) Qe (fun _ _ => rfl)) (Qv _)) (Vd (Qr Kr (Qo Xn (pv 1) Qe (fun _ _ => rfl)) (pv 3) (Qv _))))) (Qay Km Qe) Qe)))), ?_⟩
 refine ⟨_, rfl, ch, _, _, _, rfl, rfl, hch, Jf, _, rfl, af, _, _, _, rfl, rfl, haf, Jf, rfl, _, rfl, ite2 (fun e1 => ?_) (fun e1 => ?_)⟩
 ·have e1' : w = x := eqS e1
  refine ⟨_, rfl, p, dx, fs, rfl, hF.hp, hF.nE, _, rfl, p, ch, n, B, w, v, b, l, c, rfl, hFc, hch, hway, fun H3 s3 => ?_⟩
  refine ⟨_, rfl, af, _, _, _, rfl, rfl, s3.tup haf, Qcz, _, _, rfl, rfl, _, rfl, _, _, rfl, rfl, _, rfl, ite2 (fun e2 => ?_) (fun e2 => ?_)⟩
  ·have := q H3 s3
   unfold afN at this
   rw [if_pos e1', if_pos (kX e2)] at this
   exact this
  ·have := q H3 s3
   unfold afN at this
   rw [if_pos e1', if_neg (fun z => e2 (yQ z))] at this
   exact this
 ·have e1' : ¬ w = x := fun z => e1 (by rw [z]; exact yesS x)
  refine ⟨_, rfl, ch, _, _, _, rfl, rfl, hch, Jf, _, rfl, af, _, _, _, rfl, rfl, haf, Qmm, rfl, _, rfl, ite2 (fun e2 => ?_) (fun e2 => ?_)⟩
  ·have e2' : w = y := eqS e2
   refine ⟨_, rfl, ch, _, _, _, rfl, rfl, hch, Qcz, _, rfl, _, _, rfl, rfl, _, rfl, ite2 (fun e3 => ?_) (fun e3 => ?_)⟩
   ·have := q H (Same.refl _)
    unfold afN at this
    rw [if_neg e1', if_pos ⟨e2', kX e3⟩] at this
    exact ⟨_, rfl, this⟩
   ·have := q H (Same.refl _)
    unfold afN at this
    rw [if_neg e1', if_neg (fun z => e3 (yQ z.2))] at this
    exact this
  ·have := q H (Same.refl _)
   unfold afN at this
   rw [if_neg e1', if_neg (fun z => e2 (by rw [z.1]; exact yesS y))] at this
   exact this
end
end Nb
namespace L2
open PySem PySem.Spec PyProof.Rows
section
variable {X : Cx}
end
section
variable {X : Cx}
open PySem.W in
end
section
variable {prog : Program} {w : World} {A : Around} {E : Value → Shared → Prop} {s : Shared} {κ : KeyKind}
end
section
variable {a b out : Array Keyed} {ia ib k : Nat}
end
section
variable {prog : Program} {w : World} {A : Around} {E : Value → Shared → Prop} {s : Shared} {κ : KeyKind}
end
section
variable {a b out : Array Keyed} {na nb k : Nat}
end
section
variable {prog : Program} {w : World} {A : Around} {E : Value → Shared → Prop} {s : Shared} {κ : KeyKind}
end
section
variable {prog : Program} {w : World} {A : Around} {E : Value → Shared → Prop} {s : Shared} {κ : KeyKind} {a₀ : Array Keyed}
end
section
variable {prog : Program} {w : World} {A : Around} {E : Value → Shared → Prop} {s : Shared} {κ : KeyKind} {a₀ : Array Keyed}
end
section
variable {prog : Program} {w : World} {A : Around} {E : Value → Shared → Prop} {s : Shared} {κ : KeyKind} {a₀ : Array Keyed}
end
section
variable {prog : Program} {w : World} {A : Around} {E : Value → Shared → Prop} {s : Shared}
end
section
variable {X : Cx}
open PySem.W in
end
end L2
namespace L2
open PySem PySem.Spec PyProof.Rows PySem.SeqAt
section
variable {X : Cx} {pins : List (Addr × Obj)} {σ : St} {H : Hp} {s : Shared}
theorem Qjo {v : V} (h : Ws v = true) : eqV v v = true := by
 cases v with
 | non => rfl
 | bl b => exact beq_self_eq_true b
 | int i => exact beq_self_eq_true i
 | str x => exact beq_self_eq_true x
 | _ => exact nomatch h
open PySem.W in
end
def Itk (d : Addr) (o : Obj) (kvs : List (Key × V)) : It :=
  ⟨fun i H => H d = some (.frz o (.dK kvs)) ∧ i < kvs.length,
   fun i H v H' => ∃ k x, v = kV k ∧ H' = H ∧ kvs[i]? = some (k, x),
   fun i H => H d = some (.frz o (.dK kvs)) ∧ kvs.length ≤ i⟩
def kTn (it d : Addr) (o : Obj) (n i : Nat) (h : Heap) : Prop := ∃ es ep, o.data = .dict es ep ∧ h.IsKeyIter it d i n ep
theorem Qhi {P : Program} {w : World} {K : Fg} {tg : Expr} {it d : Addr} {o : Obj} {kvs : List (Key × V)} :
  Turn P w K tg (Itk d o kvs) [it] it (kTn it d o kvs.length) where
 mem := by simp
 obj := fun i h st c hc => by
  obtain ⟨_, _, _, q, e, c1, d1⟩ := st
  have e5 : c = it := by simpa using hc
  subst e5
  exact ⟨q, e, fun v z => by rw [d1] at z; cases z⟩
 keep := fun i h h' st k => by
  obtain ⟨e1, e2, e3, h1⟩ := st
  exact ⟨e1, e2, e3, h1.at fun o e => k it (by simp) o e⟩
 item := by
  intro X hP hw hK hc i pins s σ H E I hf st hg
  subst hP hw hK
  obtain ⟨q1, hi⟩ := hg
  obtain ⟨e1, ep, e3, h1⟩ := st
  obtain ⟨vs, rel, da⟩ := Qgz I.hok q1 e3
  have lr := rel.length
  obtain ⟨⟨k, x⟩, ek⟩ : ∃ kx, kvs[i]? = some kx := ⟨_, gE hi⟩
  obtain ⟨⟨k', v⟩, ev, e4, rv⟩ := Qy rel ek
  have e4' : k = k' := e4
  subst e4'
  rw [lr] at h1
  obtain ⟨f0, f1, f2, f3, f4, f5⟩ := hf it (by simp)
  refine wpAny_pyNext_dict_item h1 da ev fun key h' hk st' sb => ?_
  have I1 : Inv X pins σ H { s with heap := h' } := I.turned (t' := s.toks) (fun b o hb e => (sb.2 b hb).trans e) f0 f1 f3 f4 f5
  obtain ⟨q, e, c, d1⟩ := id st'
  exact ⟨key, rfl, Qfh (s := { s with heap := h' }) e c d1 (by decide) ⟨kV k, H, I1, is_kV hk, ⟨k, x, rfl, rfl, ek⟩, ⟨e1, ep, e3, by rw [lr]; exact st'⟩, fun b hb => (hf b hb).1⟩⟩
 done := by
  intro X hP hw hK hc i pins s σ H E I hf st hg
  subst hP hw hK
  obtain ⟨q1, hi⟩ := hg
  obtain ⟨e1, ep, e3, h1⟩ := st
  obtain ⟨vs, rel, da⟩ := Qgz I.hok q1 e3
  have lr := rel.length
  rw [lr] at h1
  obtain ⟨f0, f1, f2, f3, f4, f5⟩ := hf it (by simp)
  exact wpAny_pyNext_dict_end (I.ok.hd hc) h1 da (List.getElem?_eq_none_iff.mpr (by omega)) fun h' eb => ⟨rfl, I.turned (t' := s.toks) (fun b o hb z => eb b o hb z) f0 f1 f3 f4 f5⟩
 self := fun _ _ _ _ _ st h => by
  obtain ⟨_, _, _, h1⟩ := st
  exact wpAny_pyIter_keyiter h1 h
section
variable {X : Cx}
def iKeys (F : Addr → Prop) (td : TE) : TI := fun σ H R => td σ H fun v H1 => ∃ d kvs, v = .ref d ∧ H1 d = some (.dK kvs) ∧ (F d → ∀ o, R (Itk d o kvs) (upd H1 d (.frz o (.dK kvs))))
end
end L2
namespace L2
open PySem PySem.Spec PyProof.Rows PySem.SeqAt
inductive SmD (K : Fg) (H : Hp) : Nat → V → V → Prop
 | flat {n v} : Ws v = true → SmD K H n v v
 | tup {n a b xs ys} : SqT K H a xs → SqT K H b ys → xs.length = ys.length → (∀ (i : Nat) x y, xs[i]? = some x → ys[i]? = some y → SmD K H n x y) → SmD K H (n + 1) (.ref a) (.ref b)
 | lst {n a b xs ys} : SqL K H a xs → SqL K H b ys → xs.length = ys.length → (∀ (i : Nat) x y, xs[i]? = some x → ys[i]? = some y → SmD K H n x y) → SmD K H (n + 1) (.ref a) (.ref b)
section
variable {X : Cx} {pins : List (Addr × Obj)} {σ : St} {H : Hp} {s : Shared}
theorem Qhj {n : Nat} {x y : V} (h : SmD X.K H n x y) : ∀ {A : Around} {u v : Value}, A.units + n < cLine → Inv X pins σ H s → RelV x u → RelV y v →
  EqAt A s u v true ∧ (∀ a c, u = .ref a → v = .ref c → RcAt A s u v true ∧ RcNeAt A s u v false) := by
 induction h with
 | @flat n x hf =>
  intro A u v hu I ru rv
  have := Qkj (A := A) (s := s) ru rv hf hf
  rw [Qjo hf] at this
  refine ⟨this, fun a c e _ => ?_⟩
  subst e
  cases x with
  | non => cases ru
  | bl b => cases ru
  | int i => obtain ⟨_, h⟩ := ru; cases h
  | str z => obtain ⟨_, h⟩ := ru; cases h
  | _ => exact nomatch hf
 | @tup m p q xs ys hq hq' hl hs ih =>
  intro A u v hu I ru rv
  cases ru
  cases rv
  obtain ⟨its, r, pt, _⟩ := I.tuple hq
  obtain ⟨its', r', pt', _⟩ := I.tuple hq'
  have l1 := r.length
  have l2 := r'.length
  have key : ∀ j (h1 : j < its.toArray.size) (h2 : j < its'.toArray.size), EqAt A.in1 s its.toArray[j] its'.toArray[j] ((fun _ => true) j) := fun j h1 h2 => by
   rw [jV] at h1 h2
   have j1 : j < xs.length := by omega
   have j2 : j < ys.length := by omega
   obtain ⟨u1, e1, ru1⟩ := r.get (gE j1)
   obtain ⟨u2, e2, ru2⟩ := r'.get (gE j2)
   have eq := (ih j _ _ (gE j1) (gE j2) (A := A.in1) (by show A.units + 1 + m < cLine; omega) I ru1 ru2).1
   have z1 : its.toArray[j] = u1 := by rw [gE (by omega)] at e1; simpa using e1
   have z2 : its'.toArray[j] = u2 := by rw [gE (by omega)] at e2; simpa using e2
   rw [z1, z2]
   exact eq
  have hb : ((List.range (min its.toArray.size its'.toArray.size)).all (fun _ => true) && its.toArray.size == its'.toArray.size) = true := by
   rw [wQ, Kt, jV, jV, beq_iff_eq]
   exact ⟨fun _ _ => rfl, by omega⟩
  have t1 := RcAt.tuples pt pt' (by omega) key
  have t2 := RcNeAt.tuples pt pt' (by omega) key
  rw [hb] at t1 t2
  refine ⟨?_, fun a c _ _ => ⟨t1, t2⟩⟩
  by_cases hpq : p = q
  ·subst hpq
   exact EqAt.same _
  ·exact EqAt.of_refs hpq t1
 | @lst m p q xs ys hq hq' hl hs ih =>
  intro A u v hu I ru rv
  cases ru
  cases rv
  obtain ⟨its, r, pt, _⟩ := I.list hq
  obtain ⟨its', r', pt', _⟩ := I.list hq'
  have l1 := r.length
  have l2 := r'.length
  have key : ∀ j (h1 : j < its.toArray.size) (h2 : j < its'.toArray.size), EqAt A.in1 s its.toArray[j] its'.toArray[j] ((fun _ => true) j) := fun j h1 h2 => by
   rw [jV] at h1 h2
   have j1 : j < xs.length := by omega
   have j2 : j < ys.length := by omega
   obtain ⟨u1, e1, ru1⟩ := r.get (gE j1)
   obtain ⟨u2, e2, ru2⟩ := r'.get (gE j2)
   have eq := (ih j _ _ (gE j1) (gE j2) (A := A.in1) (by show A.units + 1 + m < cLine; omega) I ru1 ru2).1
   have z1 : its.toArray[j] = u1 := by rw [gE (by omega)] at e1; simpa using e1
   have z2 : its'.toArray[j] = u2 := by rw [gE (by omega)] at e2; simpa using e2
   rw [z1, z2]
   exact eq
  have hsz : its.toArray.size = its'.toArray.size := by rw [jV, jV]; omega
  have hb : ((List.range its.toArray.size).all (fun _ => true)) = true := by
   rw [Kt]
   exact fun _ _ => rfl
  have t1 := RcAt.lists pt.isList pt'.isList hsz (by omega) key
  have t2 := RcNeAt.lists pt.isList pt'.isList hsz (by omega) key
  rw [hb] at t1 t2
  refine ⟨?_, fun a c _ _ => ⟨t1, t2⟩⟩
  by_cases hpq : p = q
  ·subst hpq
   exact EqAt.same _
  ·exact EqAt.of_refs hpq t1
theorem Qmn {n : Nat} (hu : X.A.units + n < cLine) : OpR X (compareOp .Eq) (fun x y H Q => ∃ a b, x = .ref a ∧ y = .ref b ∧ SmD X.K H n x y ∧ Q (.bl true) H) := by
 intro pins s σ H x y v u Q I rx ry h
 obtain ⟨a, b, rfl, rfl, al, q⟩ := h
 cases rx
 cases ry
 exact ((Qhj al (A := X.A) (u := .ref a) (v := .ref b) hu I rfl rfl).2 a b rfl rfl).1 _ _ _ _ ⟨.bl true, H, I, rfl, q⟩
theorem Qan {n : Nat} (hu : X.A.units + n < cLine) : OpR X (compareOp .NotEq) (fun x y H Q => ∃ a b, x = .ref a ∧ y = .ref b ∧ SmD X.K H n x y ∧ Q (.bl false) H) := by
 intro pins s σ H x y v u Q I rx ry h
 obtain ⟨a, b, rfl, rfl, al, q⟩ := h
 cases rx
 cases ry
 exact ((Qhj al (A := X.A) (u := .ref a) (v := .ref b) hu I rfl rfl).2 a b rfl rfl).2 _ _ _ _ ⟨.bl false, H, I, rfl, q⟩
theorem Qmo {K : Fg} {n : Nat} (hK : X.K = K) (hu : X.A.units + n < cLine) : OpR X (compareOp .Eq) (fun x y H Q => ∃ (a b : Addr) (ks ls : List Key), x = .ref a ∧ y = .ref b ∧ SqT K H a (ks.map kV) ∧ SqT K H b (ls.map kV) ∧ ∀ c : Bool, (c = true ↔ ks = ls) → Q (.bl c) H) := by
 subst hK
 intro pins s σ H x y v u Q I rx ry h
 obtain ⟨a, b, ks, ls, rfl, rfl, h1, h2, q⟩ := h
 cases rx
 cases ry
 obtain ⟨its, r, pt, _⟩ := I.tuple h1
 obtain ⟨its', r', pt', _⟩ := I.tuple h2
 have l1 := r.length
 have l2 := r'.length
 rw [jX] at l1 l2
 have key := Qgl (A := X.A.in1) (s := s) r r'
 refine RcAt.tuples pt pt' (by omega) key _ _ _ _ ⟨.bl _, H, I, rfl, q _ ?_⟩
 rw [wQ, Kt, jV, jV, beq_iff_eq]
 constructor
 ·rintro ⟨z1, z2⟩
  refine Qcp (by omega) fun i x y ex ey => ?_
  have hi := (kQ.mp ex).1
  have := kX (z1 i (by omega))
  rw [ex, ey] at this
  exact Option.some.inj this
 ·intro z
  subst z
  exact ⟨fun i _ => yQ rfl, by omega⟩
end
section
variable {K : Fg} {H : Hp}
theorem SmD.pair {n : Nat} {a b : Addr} {x y x' y' : V} (h : SqT K H a [x, y]) (h' : SqT K H b [x', y']) (h1 : SmD K H n x x') (h2 : SmD K H n y y') : SmD K H (n + 1) (.ref a) (.ref b) := by
 refine .tup h h' rfl fun i v w e1 e2 => ?_
 match i with
 | 0 => simp at e1 e2; subst e1 e2; exact h1
 | 1 => simp at e1 e2; subst e1 e2; exact h2
 | i + 2 => simp at e1
theorem SmD.flats {n : Nat} {a b : Addr} {xs : List V} (h : SqT K H a xs) (h' : SqT K H b xs) (hf : ∀ x ∈ xs, Ws x = true) : SmD K H (n + 1) (.ref a) (.ref b) :=
 .tup h h' rfl fun i v w e1 e2 => by
  rw [e1] at e2
  cases e2
  exact .flat (hf _ (kZ e1))
theorem SmD.flatL {n : Nat} {a b : Addr} {xs : List V} (h : SqL K H a xs) (h' : SqL K H b xs) (hf : ∀ x ∈ xs, Ws x = true) : SmD K H (n + 1) (.ref a) (.ref b) :=
 .lst h h' rfl fun i v w e1 e2 => by
  rw [e1] at e2
  cases e2
  exact .flat (hf _ (kZ e1))
end
end L2
namespace L2
open PySem PySem.Spec PyProof.Rows PySem.SeqAt
section
variable {prog : Program} {w : World}
variable {A : Around} {E : Value → Shared → Prop} {s : Shared}
end
end L2
namespace L2
open PySem PySem.Spec PyProof.Rows PySem.SeqAt
section
variable {prog : Program} {w : World} {A : Around} {E : Value → Shared → Prop} {s : Shared} {d : Addr} {o : Obj} {es : Array DictEntry} {ep : Nat}
theorem Qcc {Q : Value → Shared → Prop} (hd : (d == sysModules) = false) (ho : s.heap.get? d = some o) (hx : o.ExactDict) (hdat : o.data = .dict es ep)
  (hQ : Q (.ref s.heap.objs.size) { s with heap := s.heap.push { cls := .type "dict_keyiterator", data := .fields #[.ref d, .int 0 0, .int es.size 0, .int ep 0] } }) :
  wpAny (model prog w) A (pyIter (.ref d)) Q E s := by
 have hT : s.TypeIs (.ref d) "dict" := ⟨o, ho, hx.1⟩
 refine wpAny_pyIter_slot hT F.slot_dict_iter (wpAny_call_entry F.slot_dict_iter hT F.entry_dict_iter ?_ (F.args_dict_iter_1 _))
 unfold Builtin.«dict.__iter__»
 refine jQ ?_
 unfold Builtin.Dict.dictSlotNone
 refine jQ (wpAny_notOrdered_dict hT ?_)
 show wpAny _ _ (pure (Value.ref d)) _ _ s
 refine jK ?_
 show wpAny _ _ (Builtin.Dict.showsAll d >>= _) _ _ s
 unfold Builtin.Dict.showsAll
 rw [if_neg (by rw [hd]; exact kJ)]
 refine jQ (jK ?_)
 refine jQ (wpAny_dictEntries ho hdat ?_)
 refine jQ (wpAny_dictEpoch ho hdat ?_)
 refine jQ (wpAny_newObj_type (jK ⟨_, rfl, "dict_keyiterator", _, ⟨_, yK _ rfl, rfl⟩, F.slot_dict_keyiterator_next.lookup, ?_⟩))
 simpa [rawInt] using hQ
theorem Ki {it : Addr} {i : Nat} {Q : Option Value → Shared → Prop} (hit : s.heap.IsKeyIter it d i es.size ep) (hod : s.heap.get? d = some o) (hdd : o.data = .dict es ep) (hlt' : i < es.size)
  (hQ : ∀ h', h'.IsKeyIter it d (i + 1) es.size ep → Heap.SameBut it s.heap h' → Q (some es[i].key) { s with heap := h' }) :
  wpAny (model prog w) A (pyNext (.ref it)) Q E s := by
 obtain ⟨oi, ho, hc, hd⟩ := id hit
 unfold pyNext
 refine jQ (wpAny_attempt (wpAny_callSpecial?_slot (name := Str.ofString "__next__") hit.typeIs F.slot_dict_keyiterator_next
  (wpAny_call_entry F.slot_dict_keyiterator_next hit.typeIs F.entry_dict_keyiterator_next ?_ (F.args_dict_keyiterator_next_1 _))))
 refine jQ (jK ?_)
 refine jQ ?_
 refine jQ ?_
 first | refine jQ (wpAny_typeNameOfWhole_keyiter hit.typeIs (jK ?_)) | refine jQ (wpAny_typeNameOf_keyiter hit.typeIs (jK ?_))
 refine jQ (wpAny_fieldsOf ho hd ?_)
 have hown : Builtin.Dict_items.ownsTuple "dict_keyiterator" = false := by decide
 simp only [hown, jZf, if_false]
 show wpAny _ _ (if (Value.ref d == Value.none) = true then _ else _) _ _ s
 rw [if_neg (show ¬ ((Value.ref d == Value.none) = true) from kJ)]
 refine jQ (jK ?_)
 refine jQ (wpAny_dictEntries hod hdd ?_)
 rw [if_neg (by simp)]
 refine jQ (jK ?_)
 refine jQ (wpAny_dictEpoch hod hdd ?_)
 rw [if_neg (by simp)]
 refine jK ?_
 simp only [show ¬ ((i : Int) < 0) from by omega, if_false, jYb, Array.getElem?_eq_getElem hlt']
 refine jQ ?_
 first | refine jQ (wpAny_typeNameOfWhole_keyiter hit.typeIs (jK ?_)) | refine jQ (wpAny_typeNameOf_keyiter hit.typeIs (jK ?_))
 refine jQ (wpAny_isOneOf_keyiter hit.typeIs ?_)
 show wpAny _ _ (setField (.ref it) 1 (rawInt ((i : Int) + 1)) >>= _) _ _ s
 refine jQ (wpAny_setField ho hd (by simp) ?_)
 have hit' : (s.heap.update it (Obj.mapFields (·.setIfInBounds 1 (rawInt ((i : Int) + 1))))).IsKeyIter it d (i + 1) es.size ep :=
  ⟨_, Heap.get?_update_self _ ho (Obj.isFreed_of_fields (Obj.data_mapFields hd _)), (Obj.cls_mapFields ..).trans hc, by rw [Obj.data_mapFields hd]; simp [rawInt]⟩
 refine jQ (wpAny_holding ?_)
 refine jQ (wpAny_isOneOf_keyiter (s := { s with heap := s.heap.update it (Obj.mapFields (·.setIfInBounds 1 (rawInt ((i : Int) + 1)))) }) hit'.typeIs ?_)
 show wpAny _ _ (pure es[i].key) _ _ _
 exact jK (jK ⟨_, rfl, jK (hQ _ hit' (Heap.SameBut.update ..))⟩)
theorem Ks {it : Addr} {i : Nat} {Q : Option Value → Shared → Prop} (hh : A.handled = none) (hit : s.heap.IsKeyIter it d i es.size ep) (hod : s.heap.get? d = some o) (hdd : o.data = .dict es ep) (hge : es.size ≤ i)
  (hQ : ∀ h', Heap.ExtBut it s.heap h' → Q none { s with heap := h' }) : wpAny (model prog w) A (pyNext (.ref it)) Q E s := by
 obtain ⟨oi, ho, hc, hd⟩ := id hit
 unfold pyNext
 refine jQ (wpAny_attempt (wpAny_callSpecial?_slot (name := Str.ofString "__next__") hit.typeIs F.slot_dict_keyiterator_next
  (wpAny_call_entry F.slot_dict_keyiterator_next hit.typeIs F.entry_dict_keyiterator_next ?_ (F.args_dict_keyiterator_next_1 _))))
 refine jQ (jK ?_)
 refine jQ ?_
 refine jQ ?_
 first | refine jQ (wpAny_typeNameOfWhole_keyiter hit.typeIs (jK ?_)) | refine jQ (wpAny_typeNameOf_keyiter hit.typeIs (jK ?_))
 refine jQ (wpAny_fieldsOf ho hd ?_)
 have hown : Builtin.Dict_items.ownsTuple "dict_keyiterator" = false := by decide
 simp only [hown, jZf, if_false]
 show wpAny _ _ (if (Value.ref d == Value.none) = true then _ else _) _ _ s
 rw [if_neg (show ¬ ((Value.ref d == Value.none) = true) from kJ)]
 refine jQ (jK ?_)
 refine jQ (wpAny_dictEntries hod hdd ?_)
 rw [if_neg (by simp)]
 refine jQ (jK ?_)
 refine jQ (wpAny_dictEpoch hod hdd ?_)
 rw [if_neg (by simp)]
 refine jK ?_
 simp only [show ¬ ((i : Int) < 0) from by omega, if_false, jYb, Array.getElem?_eq_none hge]
 refine jQ ?_
 first | refine jQ (wpAny_typeNameOfWhole_keyiter hit.typeIs (jK ?_)) | refine jQ (wpAny_typeNameOf_keyiter hit.typeIs (jK ?_))
 show wpAny _ _ (setField (.ref it) 0 .none >>= _) _ _ s
 refine jQ (wpAny_setField ho hd (by simp) ?_)
 show wpAny _ _ (newExc (.type "StopIteration") [] >>= _) _ _ _
 refine jQ ?_
 simp only [newExc, newTuple]
 refine jQ (wpAny_newObj_type ?_ (by size_fits))
 refine jQ (m := firstArgMember _ _) (wpAny_of_eq (a := Value.none) (by first | rfl | (simp only [firstArgMember]; rfl)) ?_)
 refine wpAny_newObj_type ?_ (by size_fits)
 simp only [raiseNew]
 refine jQ (wpAny_handled ?_)
 rw [show A.in1.handled = none from hh]
 refine jQ (jK (wpAny_throw ?_))
 refine jQ (wpAny_isInstance (T := "StopIteration") (b := true) ⟨_, yK _ rfl, rfl⟩ isSubtype_stop ?_)
 exact jK (hQ _ (((Heap.SameBut.update ..).extBut.push _).push _))
end
section
variable {K : Fg} {H H' : Hp} {kvs : List (Rw2 × V)} {xs : List (Rw2 × Addr × Value)}
end
section
variable {X : Cx} {pins : List (Addr × Obj)} {σ : St} {H : Hp} {s : Shared} {a b : Addr} {kvs : List (Rw2 × V)} {k : Rw2}
end
section
variable {X : Cx} {o e f : Expr} {apos cpos pos : Pos} {td ty tx : TE}
end
end L2
namespace L2
open PySem PySem.Spec PyProof.Rows PySem.SeqAt
section
variable {X : Cx} {pins : List (Addr × Obj)} {σ : St} {H : Hp} {s : Shared} {d : Addr} {o : Obj} {kvs : List (List Key × V)}
theorem Inv.nfT (I : Inv X pins σ H s) (e : H d = some (.dT kvs)) : NF X d := fun o u z => by
 have := I.base.frzs d o u z
 rw [e] at this
 cases this
theorem Inv.freezeT (I : Inv X pins σ H s) (e : H d = some (.dT kvs)) : ∃ o, s.heap.get? d = some o ∧ Inv X pins σ (upd H d (.frz o (.dT kvs))) s := by
 obtain ⟨z, y, xs, r, o, es, ep, h1, h2, h3, h4, h5⟩ := (show ObjOk X.prog X.w H s.heap d (.dT kvs) from I.hok d _ e)
 refine ⟨o, h1, Ww (t' := s.toks) I (by rw [e]; exact True.intro) (Heap.SameBut.refl _ _) ⟨o, h1⟩ ⟨h1, z, y, xs, Paired.mapP r fun p q z => ⟨z.1, ?_, z.2.2⟩, o, es, ep, h1, h2, h3, h4, h5⟩⟩
 rw [Qk (Yx z.2.1 e (by intro z; cases z))]
 exact z.2.1
theorem Inv.thawT (I : Inv X pins σ H s) (nf : NF X d) (e : H d = some (.frz o (.dT kvs))) : Inv X pins σ (upd H d (.dT kvs)) s := by
 have ne : ∀ b, H b = none → b ≠ d := fun b n z => by rw [z, e] at n; cases n
 have ok : ObjOk X.prog X.w H s.heap d (.frz o (.dT kvs)) := I.hok d _ e
 obtain ⟨_, z, y, xs, r, oo, es, ep, h1, h2, h3, h4, h5⟩ := ok
 refine ⟨I.ok, I.os, I.bare, ⟨I.base.keep, I.base.slot, fun b q e1 n hx => ?_, I.base.there, fun b xs q => ?_, fun b o' u q => ?_, fun b ps q => ?_⟩, I.loc, I.cell, ?_, fun x c q => ?_, fun p hp => ?_, fun b u q => ?_, I.len⟩
 ·have n1 := I.base.free b q e1 n hx
  rw [Qk (ne b n1)]; exact n1
 ·have q1 := I.base.tups b xs q
  rw [Qk (Yx q1 e (by intro z; cases z))]; exact q1
 ·have q1 := I.base.frzs b o' u q
  rw [Qk (fun z => by subst z; exact nf _ _ q)]; exact q1
 ·obtain ⟨m, q1⟩ := I.base.tbls b ps q
  exact ⟨m, by rw [Qk (Yx q1 e (by intro z; cases z))]; exact q1⟩
 ·rw [Qk (ne _ I.free)]; exact I.free
 ·have n1 := I.freeC x c q
  rw [Qk (ne _ n1)]; exact n1
 ·obtain ⟨a1, a2, a3⟩ := I.pin p hp
  exact ⟨a1, by rw [Qk (ne _ a2)]; exact a2, a3⟩
 ·by_cases hb : b = d
  ·subst hb
   rw [Qd] at q
   cases q
   exact ⟨z, y, xs, Paired.mapP r fun p q z => ⟨z.1, by rw [Qk (Yx z.2.1 e (by intro z; cases z))]; exact z.2.1, z.2.2⟩, oo, es, ep, h1, h2, h3, h4, h5⟩
  ·rw [Qk hb] at q
   exact (I.hok b u q).stay (fun _ _ _ r => r) (fun c r => by rw [Qk (Yx r e (by intro z; cases z))]; exact r) fun c xs r => by rw [Qk (Yx r e (by intro z; cases z))]; exact r
end
def ItKt (d : Addr) (o : Obj) (kvs : List (List Key × V)) : It :=
  ⟨fun i H => H d = some (.frz o (.dT kvs)) ∧ i < kvs.length,
   fun i H v H' => H' = H ∧ ∃ t k x, v = .ref t ∧ H t = some (.tup (k.map kV)) ∧ kvs[i]? = some (k, x),
   fun i H => H d = some (.frz o (.dT kvs)) ∧ kvs.length ≤ i⟩
theorem Qez {P : Program} {w : World} {K : Fg} {tg : Expr} {it d : Addr} {o : Obj} {kvs : List (List Key × V)} {es : Array DictEntry} {ep : Nat} (hdd : o.data = .dict es ep) :
  Turn P w K tg (ItKt d o kvs) [it] it (fun i h => h.IsKeyIter it d i es.size ep) where
 mem := by simp
 obj := fun i h st c hc => by
  obtain ⟨q, e, c1, d1⟩ := st
  have e5 : c = it := by simpa using hc
  subst e5
  exact ⟨q, e, fun v z => by rw [d1] at z; cases z⟩
 keep := fun i h h' st k => st.at fun o e => k it (by simp) o e
 item := by
  intro X hP hw hK hc i pins s σ H E I hf st hg
  subst hP hw hK
  obtain ⟨q1, hi⟩ := hg
  obtain ⟨ho, z, y, xs, r, oo, es', ep', h1, h2, h3, h4, h5⟩ := (show ObjOk X.prog X.w H s.heap d (.frz o (.dT kvs)) from I.hok d _ q1)
  rw [ho] at h1
  cases h1
  rw [hdd] at h3
  cases h3
  have lr := Paired.length r
  have hsz : es.size = xs.length := by rw [← jXb, h4, jX]
  obtain ⟨f0, f1, f2, f3, f4, f5⟩ := hf it (by simp)
  refine Ki st ho hdd (by omega) fun h' st' sb => ?_
  have I1 : Inv X pins σ H { s with heap := h' } := I.turned (t' := s.toks) (fun b o hb e => (sb.2 b hb).trans e) f0 f1 f3 f4 f5
  obtain ⟨q, e, c, d1⟩ := id st'
  have hk : es[i].key = .ref (xs[i]).2.1 := by
   have h6 : es.toList[i]? = (xs.map (entryOfKey (tupleKind (Xt X.prog X.w))))[i]? := by rw [h4]
   rw [zK, gE (show i < xs.length by omega), Array.getElem?_toList, Array.getElem?_eq_getElem (show i < es.size by omega)] at h6
   rw [Option.some.inj h6]; rfl
  obtain ⟨⟨k, x⟩, ek⟩ : ∃ kx, kvs[i]? = some kx := ⟨_, gE hi⟩
  obtain ⟨q2, eq2, e4, e5, _⟩ := Qy r ek
  have e6 : q2 = xs[i] := Option.some.inj (eq2.symm.trans (gE (by omega)))
  subst e6
  exact ⟨_, rfl, Qfh (s := { s with heap := h' }) e c d1 (by decide) ⟨.ref (xs[i]).2.1, H, I1, hk, ⟨rfl, _, k, x, rfl, e5, ek⟩, st', fun b hb => (hf b hb).1⟩⟩
 done := by
  intro X hP hw hK hc i pins s σ H E I hf st hg
  subst hP hw hK
  obtain ⟨q1, hi⟩ := hg
  obtain ⟨ho, z, y, xs, r, oo, es', ep', h1, h2, h3, h4, h5⟩ := (show ObjOk X.prog X.w H s.heap d (.frz o (.dT kvs)) from I.hok d _ q1)
  rw [ho] at h1
  cases h1
  rw [hdd] at h3
  cases h3
  have lr := Paired.length r
  have hsz : es.size = xs.length := by rw [← jXb, h4, jX]
  obtain ⟨f0, f1, f2, f3, f4, f5⟩ := hf it (by simp)
  exact Ks (I.ok.hd hc) st ho hdd (by omega) fun h' eb => ⟨rfl, I.turned (t' := s.toks) (fun b o hb z => eb b o hb z) f0 f1 f3 f4 f5⟩
 self := fun _ _ _ _ _ st h => wpAny_pyIter_keyiter st h
section
variable {X : Cx}
def iKeysT (F : Addr → Prop) (td : TE) : TI := fun σ H R => td σ H fun v H1 => ∃ d kvs, v = .ref d ∧ H1 d = some (.dT kvs) ∧ (F d → ∀ o, R (ItKt d o kvs) (upd H1 d (.frz o (.dT kvs))))
theorem Qjp {tg a : Expr} {td : TE} (ha : PE X a td) : PI X tg a (iKeysT (NF X) td) := by
 intro pins s σ H R I h
 refine thn (ha pins s σ H _ I h) fun v s1 hqP => ?_
 obtain ⟨x, H1, I1, r1, q1⟩ := hqP
 obtain ⟨d, kvs, e, g, q⟩ := q1
 subst e
 obtain rfl : v = Value.ref d := r1
 have nf := I1.nfT g
 obtain ⟨o, ho, I2⟩ := I1.freezeT g
 obtain ⟨z, y, xs, r, oo, es, ep, h1, h2, h3, h4, h5⟩ := (show ObjOk X.prog X.w H1 s1.heap d (.dT kvs) from I1.hok d _ g)
 rw [ho] at h1
 cases h1
 refine Qcc y ho h2 h3 ?_
 have I3 : Inv X pins σ (upd H1 d (.frz o (.dT kvs))) { s1 with heap := s1.heap.push { cls := .type "dict_keyiterator", data := .fields #[.ref d, .int 0 0, .int es.size 0, .int ep 0] } } := I2.kept (t' := s1.toks) fun b o z => jW _ z
 refine ⟨s1.heap.objs.size, [s1.heap.objs.size], _, ItKt d o kvs, _, rfl, I3, Qez h3, ⟨_, yK _ rfl, rfl, rfl⟩, fun c hc => ?_, q nf o⟩
 simp only [zY, jXc, or_false] at hc
 subst hc
 exact I2.fpOk (jZ _) (I2.hok.fresh (jZ _))
def tThwE (F : Addr → Prop) (t : TE) : TE := fun σ H Q => t σ H fun v H' => ∃ d o kvs, F d ∧ H' d = some (.frz o (.dT kvs)) ∧ Q v (upd H' d (.dT kvs))
theorem Qjq {e : Expr} {t : TE} (h : PE X e t) : PE X e (tThwE (NF X) t) := by
 intro pins s σ H Q I q
 refine thn (h pins s σ H _ I q) fun v s' hqP => ?_
 obtain ⟨x, H', I', rv, d, o, kvs, nf, e, r⟩ := hqP
 exact ⟨x, _, I'.thawT nf e, rv, r⟩
end
end L2
namespace Nb
open PySem L2
abbrev Ch := Str × Str × Int
abbrev Lb := List Key × List Int × Int
def ChV (K : Fg) (H : Hp) (v : V) (c : Ch) : Prop := ∃ t, v = .ref t ∧ SqT K H t [.str c.1, .str c.2.1, .int c.2.2]
abbrev ChsAre (K : Fg) (H : Hp) : List V → List Ch → Prop := Paired (ChV K H)
theorem ChV.same {K : Fg} {H H' : Hp} (s : Same H H') {v : V} {c : Ch} (h : ChV K H v c) : ChV K H' v c := by obtain ⟨t, e, z⟩ := h; exact ⟨t, e, s.tup z⟩
theorem ChV.updL {K : Fg} {H : Hp} {g : Addr} {ys zs : List V} (hg : H g = some (.lst ys)) {v : V} {c : Ch} (h : ChV K H v c) : ChV K (upd H g (.lst zs)) v c := by obtain ⟨t, e, z⟩ := h; exact ⟨t, e, Xi hg z⟩
theorem ChsAre.same {K : Fg} {H H' : Hp} (s : Same H H') {vs : List V} {A : List Ch} (h : ChsAre K H vs A) : ChsAre K H' vs A := Paired.mapP h fun _ _ z => z.same s
theorem ChsAre.updL {K : Fg} {H : Hp} {g : Addr} {ys zs : List V} (hg : H g = some (.lst ys)) {vs : List V} {A : List Ch} (h : ChsAre K H vs A) : ChsAre K (upd H g (.lst zs)) vs A := Paired.mapP h fun _ _ z => z.updL hg
def LbV (K : Fg) (H : Hp) (v : V) (l : Lb) : Prop := ∃ t a b, v = .ref t ∧ SqT K H t [.ref a, .ref b] ∧ SqT K H a (l.1.map kV) ∧ RowAt K H b l.2
abbrev LbsAre (K : Fg) (H : Hp) : List V → List Lb → Prop := Paired (LbV K H)
theorem LbV.same {K : Fg} {H H' : Hp} (s : Same H H') {v : V} {l : Lb} (h : LbV K H v l) : LbV K H' v l := by obtain ⟨t, a, b, e, z1, z2, z3⟩ := h; exact ⟨t, a, b, e, s.tup z1, s.tup z2, z3.same s⟩
theorem LbV.updL {K : Fg} {H : Hp} {g : Addr} {ys zs : List V} (hg : H g = some (.lst ys)) {v : V} {l : Lb} (h : LbV K H v l) : LbV K (upd H g (.lst zs)) v l := by obtain ⟨t, a, b, e, z1, z2, p, z3, z4⟩ := h; exact ⟨t, a, b, e, Xi hg z1, Xi hg z2, p, Xi hg z3, Xi hg z4⟩
theorem LbsAre.same {K : Fg} {H H' : Hp} (s : Same H H') {vs : List V} {A : List Lb} (h : LbsAre K H vs A) : LbsAre K H' vs A := Paired.mapP h fun _ _ z => z.same s
theorem LbsAre.updL {K : Fg} {H : Hp} {g : Addr} {ys zs : List V} (hg : H g = some (.lst ys)) {vs : List V} {A : List Lb} (h : LbsAre K H vs A) : LbsAre K (upd H g (.lst zs)) vs A := Paired.mapP h fun _ _ z => z.updL hg
structure ChsAt (K : Fg) (H : Hp) (a : Addr) (A : List Ch) : Prop where
 ex : ∃ vs, SqL K H a vs ∧ ChsAre K H vs A
 few : A.length ≤ 2000000
theorem ChsAt.same {K : Fg} {H H' : Hp} (s : Same H H') {a : Addr} {A : List Ch} (h : ChsAt K H a A) : ChsAt K H' a A := ⟨let ⟨vs, z1, z2⟩ := h.ex; ⟨vs, s.seq z1, z2.same s⟩, h.few⟩
structure LbI (K : Fg) (H0 H : Hp) (g : Addr) (L : List Lb) : Prop where
 fr : H0 g = none
 sm : Same H0 H
 ex : ∃ ys, H g = some (.lst ys) ∧ LbsAre K H ys L
theorem LbI.same {K : Fg} {H0 H H' : Hp} (s : Same H H') {g : Addr} {L : List Lb} (h : LbI K H0 H g L) : LbI K H0 H' g L := ⟨h.fr, h.sm.trans s, let ⟨ys, z1, z2⟩ := h.ex; ⟨ys, s _ _ z1, z2.same s⟩⟩
theorem LbI.start {K : Fg} {H0 : Hp} {g : Addr} (h : H0 g = none) : LbI K H0 (upd H0 g (.lst [])) g [] := ⟨h, Qc h _, [], Qd, .nil⟩
theorem Yc {H0 H : Hp} {g : Addr} {o : HO} (s : Same H0 H) (h : H0 g = none) : Same H0 (upd H g o) := fun b u e => by
 rw [Qk (Qp e h)]; exact s _ _ e
theorem Zy {K : Fg} {H0 H H2 : Hp} {g a b t p : Addr} {L : List Lb} {lab : List Key} {lv : List V} {xs : List Int} {z : Int} (h : LbI K H0 H g L) (ha : H a = none) (s : Same (upd H a (.tup lv)) H2) (hb : H2 b = none) (hp : SqT K H2 p (xs.map V.int)) (ht : upd H2 b (.tup [.ref p, .int z]) t = none) (hl : L.length < 1000000) (hv : lv = lab.map kV) :
  ∃ ys, upd (upd H2 b (.tup [.ref p, .int z])) t (.tup [.ref a, .ref b]) g = some (.lst ys) ∧ ys.length < sizeLine ∧ LbI K H0 (upd (upd (upd H2 b (.tup [.ref p, .int z])) t (.tup [.ref a, .ref b])) g (.lst (ys ++ [.ref t]))) g (L ++ [(lab, xs, z)]) := by
 subst hv
 obtain ⟨ys, hg, hL⟩ := h.ex
 have s1 := Qc ha (.tup (lab.map kV))
 have s2 := Qc hb (.tup [.ref p, .int z])
 have s3 := Qc ht (.tup [.ref a, .ref b])
 have sA := ((s1.trans s).trans s2).trans s3
 have hg3 := sA _ _ hg
 refine ⟨ys, hg3, zZ (by rw [Paired.length hL]; exact hl) (by decide +kernel), h.fr, Yc (h.sm.trans sA) h.fr, _, Qd, ?_⟩
 refine Paired.snoc ((hL.same sA).updL hg3) ⟨t, a, b, rfl, Xi hg3 (Qs Qd), Xi hg3 ((s2.trans s3).tup (s.tup (Qs Qd))), p, Xi hg3 (s3.tup (Qs Qd)), Xi hg3 ((s2.trans s3).tup hp)⟩
theorem Qhk {K : Fg} {H : Hp} {vs : List V} {A : List Ch} (h : ChsAre K H vs A) {i : Nat} {v : V} (e : vs[i]? = some v) : ∃ c, A[i]? = some c ∧ c ∈ A ∧ ChV K H v c := by
 obtain ⟨c, ec, z⟩ := Qy h e
 exact ⟨c, ec, kZ ec, z⟩
theorem Kp {K : Fg} {H : Hp} {a D : Addr} {A : List Ch} {f : Ch → Int} {cs τ0 : St} {te : TE} {Q : Addr → Hp → Prop} (hτ : τ0 = none :: cs) (hA : ChsAt K H a A) (hD : H D = none)
  (hs : ∀ (c : Ch) (t : Addr) (H1 : Hp), c ∈ A → Same H H1 → SqT K H1 t [.str c.1, .str c.2.1, .int c.2.2] → ∀ P : V → Hp → Prop, (∀ H2, Same H1 H2 → P (.int (f c)) H2) → te (some (.ref t) :: cs) H1 P)
  (hd : ∀ H1, Same H H1 → H1 D = some (.lst ((A.map f).map V.int)) → Q D H1) :
  LcW (Itl K a) D τ0 H (Kq 0) tYes te Q := by
 subst hτ
 obtain ⟨vs, h1, h2⟩ := hA.ex
 have lA := Paired.length h2
 have hz : (2000000 : Nat) < sizeLine := by decide
 have fw := hA.few
 let Pv25 : Nat → St → List V → Hp → Prop := fun i τ ys H1 => ∃ v : Option V, τ = v :: cs ∧ ys = ((A.take i).map f).map V.int ∧ H1 D = some (.lst ys) ∧ Same H H1
 refine Yo (n := A.length) Pv25 ?_ (fun i τ ys H1 hi h => ?_) (fun i τ ys H1 hi h => ?_) (fun τ ys H1 h => ?_) ?_ ?_
 ·exact ⟨none, rfl, rfl, Qd, Qc hD _⟩
 ·obtain ⟨v, rfl, rfl, hD1, s1⟩ := h
  exact ⟨hD1, by rw [jX, jX, zQ]; omega⟩
 ·obtain ⟨v, rfl, rfl, hD1, s1⟩ := h
  exact ⟨vs, _, s1.seq h1, gE (by omega)⟩
 ·obtain ⟨v, rfl, rfl, hD1, s1⟩ := h
  exact ⟨vs, s1.seq h1, by omega⟩
 ·rintro i τ ys H1 x H2 hi ⟨v, rfl, rfl, hD1, s1⟩ ⟨rfl, e1⟩
  obtain ⟨c, ec, hc, t, rfl, ht⟩ := Qhk h2 (e1 _ (s1.seq h1))
  refine hs c t _ hc s1 (s1.tup ht) _ fun H3 s3 => ⟨s3 _ _ hD1, _, rfl, ?_, Qd, Yc (s1.trans s3) hD⟩
  rw [Zz ec, kK, kK]; rfl
 ·rintro τ ys H1 ⟨v, rfl, rfl, hD1, s1⟩
  rw [kY] at hD1
  exact hd H1 s1 hD1
def wayR (w : Str) : BR → Option (Str × Int × Int)
 | .way w' v l c => if w' = w then some (v, l, c) else none
 | _ => none
theorem wayR_some {w : Str} {r : BR} {x : Str × Int × Int} : wayR w r = some x ↔ r = .way w x.1 x.2.1 x.2.2 := by
 cases r with
 | way w' v l c =>
  show (if w' = w then some (v, l, c) else none) = some x ↔ _
  by_cases h : w' = w
  ·rw [if_pos h, h]
   constructor
   ·intro e; cases e; rfl
   ·intro e; injection e with _ e2 e3 e4; subst e2 e3 e4; rfl
  ·rw [if_neg h]
   exact ⟨fun e => (nomatch e), fun e => absurd (by injection e) h⟩
 | _ => exact ⟨fun e => (nomatch e), fun e => (nomatch e)⟩
def chW (n : Int) (w : Str) (p : Str × Int × Int) : List Ch := (List.range (n - p.2.1 + 1).toNat).map fun b : Nat => (w, p.1, (b : Int))
def chO (n : Int) (B : List BR) (w : Str) : List Ch := (B.filterMap (wayR w)).flatMap (chW n w)
def chs (n : Int) (B : List BR) : List Ch := (wks B).flatMap (chO n B)
theorem Xs {α β : Type} {l : List α} {f : α → List β} {m : Nat} (h : ∀ x ∈ l, (f x).length ≤ m) : (l.flatMap f).length ≤ l.length * m := by
 induction l with
 | nil => simp
 | cons a l ih =>
  rw [jJb, jY, xK, Nat.add_mul, Nat.one_mul]
  have h1 := h a (zX ..)
  have h2 := ih fun x hx => h x (xX _ hx)
  omega
theorem Ym {α β : Type} {l : List α} {i : Nat} {x : α} (f : α → List β) (h : l[i]? = some x) : (l.take (i + 1)).flatMap f = (l.take i).flatMap f ++ f x := by
 rw [Zz h, wJ]; simp
theorem Qmp {n : Int} {B : List BR} {w : Str} {c : Ch} (h : c ∈ chO n B w) : c.1 = w ∧ ∃ l k, BR.way w c.2.1 l k ∈ B ∧ 0 ≤ c.2.2 ∧ c.2.2 + l ≤ n := by
 obtain ⟨x, hx, hc⟩ := jXd.mp h
 obtain ⟨r, hr, e⟩ := yY.mp hx
 rw [wayR_some] at e
 subst e
 obtain ⟨b, hb, rfl⟩ := wW.mp hc
 have := List.mem_range.mp hb
 exact ⟨rfl, x.2.1, x.2.2, hr, by show (0 : Int) ≤ (b : Int); omega, by show (b : Int) + x.2.1 ≤ n; omega⟩
theorem Jg {n : Int} {B : List BR} {c : Ch} (h : c ∈ chs n B) : ∃ l k, BR.way c.1 c.2.1 l k ∈ B ∧ 0 ≤ c.2.2 ∧ c.2.2 + l ≤ n := by
 obtain ⟨w, hw, hc⟩ := jXd.mp h
 obtain ⟨e, z⟩ := Qmp hc
 rw [e]
 exact z
theorem Qda {n : Int} {B : List BR} (bk : BookOk n B) {w : Str} : ∀ x ∈ B.filterMap (wayR w), (chW n w x).length ≤ 12 := fun x hx => by
 obtain ⟨r, hr, e⟩ := yY.mp hx
 rw [wayR_some] at e
 subst e
 have h1 : 1 ≤ x.2.1 ∧ _ := bk.wb.ok _ hr
 have := bk.n12
 unfold chW
 rw [jX, xZ]
 omega
theorem Qdb {n : Int} {B : List BR} (bk : BookOk n B) (w : Str) : (chO n B w).length ≤ 4800 := by
 have h1 := Xs (Qda bk (w := w))
 have h2 := kW (wayR w) B
 have h3 := bk.wb.len
 unfold chO
 omega
theorem Qhl {n : Int} {B : List BR} (bk : BookOk n B) : (chs n B).length ≤ 2000000 := by
 have h1 := Xs (l := wks B) (f := chO n B) (m := 4800) fun w _ => Qdb bk w
 have h2 : (wks B).length ≤ B.length := kW Yj B
 have h3 := bk.wb.len
 unfold chs
 omega
def labW (A : List Ch) (w : Str) : List Lb := [([Sum.inr ("work" : Str), Sum.inr w, Sum.inl 1], A.map fun c => if c.1 = w then 1 else 0, 1), ([Sum.inr ("work" : Str), Sum.inr w, Sum.inl (-1)], A.map fun c => -(if c.1 = w then 1 else 0), -1)]
def Qdc (B : List BR) (A : List Ch) (p : Str × Int) (day : Int) : Lb := ([Sum.inr ("room" : Str), Sum.inr p.1, Sum.inl day], A.map fun c => -(useR B p.1 day c), -(Wf B p.1 p.2 day))
def labR (n : Int) (B : List BR) (A : List Ch) (p : Str × Int) : List Lb := (List.range n.toNat).map fun d : Nat => Qdc B A p (d : Int)
def Qcd (B : List BR) (A : List Ch) (p : Str × Int × Int) (day : Int) : List Lb := [([Sum.inr ("least" : Str), Sum.inr p.1, Sum.inl day], A.map (Zg B p.1 day), -p.2.2), ([Sum.inr ("most" : Str), Sum.inr p.1, Sum.inl day], A.map fun c => -(Zg B p.1 day c), p.2.2 - p.2.1)]
def labS (n : Int) (B : List BR) (A : List Ch) (p : Str × Int × Int) : List Lb := (List.range (n + 1).toNat).flatMap fun d : Nat => Qcd B A p (d : Int)
def Qjr (B : List BR) (A : List Ch) (p : Str × Str × Int) (day : Int) : Lb := ([Sum.inr ("after" : Str), Sum.inr p.1, Sum.inr p.2.1, Sum.inl day], A.map fun c => afN c.1 c.2.2 (lenB B c.1 c.2.1) p.1 p.2.1 p.2.2 day, 0)
def labA (n : Int) (B : List BR) (A : List Ch) (p : Str × Str × Int) : List Lb := (List.range (n + 1).toNat).map fun d : Nat => Qjr B A p (d : Int)
def benR : BR → Option (Str × Int)
 | .bench b r => some (b, r)
 | _ => none
def stoR : BR → Option (Str × Int × Int)
 | .store s m f => some (s, m, f)
 | _ => none
def aftR : BR → Option (Str × Str × Int)
 | .after x y g => some (x, y, g)
 | _ => none
def labs (n : Int) (B : List BR) : List Lb := (wks B).flatMap (labW (chs n B)) ++ (B.filterMap benR).flatMap (labR n B (chs n B)) ++ (B.filterMap stoR).flatMap (labS n B (chs n B)) ++ (B.filterMap aftR).flatMap (labA n B (chs n B))
theorem Qao {A : List Ch} (ws : List Str) : (ws.flatMap (labW A)).length ≤ ws.length * 2 := Xs fun w _ => jZ 2
theorem Kz {n : Int} (h : n ≤ 12) {B : List BR} {A : List Ch} (ps : List (Str × Int)) : (ps.flatMap (labR n B A)).length ≤ ps.length * 12 := Xs fun p _ => by
 unfold labR; rw [jX, xZ]; omega
theorem Va {n : Int} (h : n ≤ 12) {B : List BR} {A : List Ch} (ps : List (Str × Int × Int)) : (ps.flatMap (labS n B A)).length ≤ ps.length * 26 := Xs fun p _ => by
 unfold labS
 have := Xs (l := List.range (n + 1).toNat) (f := fun d => Qcd B A p ((d : Nat) : Int)) (m := 2) fun d _ => jZ 2
 rw [xZ] at this
 omega
theorem Vb {n : Int} (h : n ≤ 12) {B : List BR} {A : List Ch} (ps : List (Str × Str × Int)) : (ps.flatMap (labA n B A)).length ≤ ps.length * 13 := Xs fun p _ => by
 unfold labA; rw [jX, xZ]; omega
end Nb
namespace L2
open PySem PySem.Spec PyProof.Rows PySem.SeqAt
theorem Qce {M : Model} {A : Around} {E : Value → Shared → Prop} {s : Shared} {a b : Value} {Q : Value → Shared → Prop} (ha : s.TypeIs a "list") (hb : s.TypeIs b "list") (hc : wpAny M A (call (.builtin "list.__iadd__") [a, b]) Q E s) : wpAny M A (inplaceOp .Add a b) Q E s := by
 unfold inplaceOp
 refine wpAny_holding ?_
 have h0 : typeLookup (.type "list") (dunderI "add") = pure (some (.builtin "list.__iadd__")) := F.slot_list_iadd.lookup
 have hs : isSeqSlot (some (.builtin "list.__iadd__")) = true := by decide +kernel
 have hfi : fillsInplaceSlot (.type "list") "add" (Operator.Add == .Add) = pure false := by
  unfold fillsInplaceSlot
  show (typeLookup (.type "list") (dunderI "add") >>= fun fi => pure (fi.isSome && !isSeqSlot fi)) = pure false
  rw [h0, pure_bind, hs]; rfl
 refine jQ (wpAny_typeOf ha (jQ (wpAny_of_eq hfi ?_)))
 show wpAny M A (if false = true then _ else _) Q E s
 rw [if_neg kJ]
 refine jQ (wpAny_binaryOp1_none (nm := "add") ha hb (PySem.fillsNumberSlot_seq (id := "list.__add__") (r := none) F.slot_list_add.lookup (by decide +kernel) (by rw [typeLookup_type, builtinLookup_eq_fast]; kernel_rfl) rfl) ?_)
 refine jQ (wpAny_of_eq (PySem.seqSlot_of h0 hs) ?_)
 exact jQ (wpAny_rule hc)
section
variable {X : Cx}
def ipL : TIp := fun x y H Q => ∃ l b xs zs, x = .ref l ∧ y = .ref b ∧ H l = some (.lst xs) ∧ H b = some (.lst zs) ∧ xs.length + zs.length ≤ sizeLine ∧ Q (.ref l) (upd H l (.lst (xs ++ zs)))
theorem Qmq : PIp X .Add ipL := by
 intro pins s σ H x y v u Q I rx ry h
 obtain ⟨l, b, xs, zs, rfl, rfl, hH, hB, hz, q⟩ := h
 cases rx
 cases ry
 obtain ⟨z, its, n, r, hl, e⟩ := I.lstM hH
 obtain ⟨z2, its2, n2, r2, hl2, e2⟩ := I.lstM hB
 have hsz : its.toArray.size + its2.toArray.size ≤ sizeLine := by rw [jV, jV]; omega
 have hlong : ¬ (!its.toArray.isEmpty && Builtin.List.listTooLong (its.toArray.size + its2.toArray.size)) = true := by
  rw [Qih hsz, Bool.and_false]
  exact kJ
 refine Qce ⟨_, e, rfl⟩ ⟨_, e2, rfl⟩ (call_meets F.slot_list_iadd ⟨_, e, rfl⟩ F.entry_list_iadd (F.args_list_iadd_2 _ _)
  (AutoSeq1.list___iadd___list_list_0 l its.toArray n b its2.toArray n2 hlong (by rw [jV]; omega) (by omega)) ⟨e, e2, ?_⟩)
 refine ⟨.ref l, _, I.lset (its' := its ++ its2) hH e (by simp) (r.append r2) ?_, rfl, q⟩
 rw [jY]
 omega
end
end L2
namespace Nb
open PySem L2
abbrev Wn : Stmt := inClass (top 5) 3
def wyK (w : Str) : List Key → Option Str
 | [.inr a, .inr b, .inr v] => if a = "way" ∧ b = w then some v else none
 | _ => none
theorem Qmr {w : Str} {k : List Key} (h : wayK k = false) : wyK w k = none := by
 have h' : ¬ (k.head? = some (Sum.inr ("way" : Str))) := of_decide_eq_false h
 unfold wyK
 split
 ·rename_i a b v
  rw [if_neg]
  rintro ⟨rfl, _⟩
  exact h' rfl
 ·rfl
theorem Qms {w : Str} (r : BR) : wyK w r.key = (wayR w r).map (·.1) := by
 cases r with
 | way w' v l c =>
  show (if ("way" : Str) = "way" ∧ w' = w then some v else none) = Option.map _ (if w' = w then some (v, l, c) else none)
  by_cases h : w' = w
  ·rw [if_pos ⟨rfl, h⟩, if_pos h]; rfl
  ·rw [if_neg (fun z => h z.2), if_neg h]; rfl
 | use k w' v t m => rfl
 | after x y g =>
  show (if ("after" : Str) = "way" ∧ x = w then some y else none) = none
  rw [if_neg (fun z => absurd z.1 (by decide +kernel))]
 | _ => rfl
theorem Qap {w : Str} : ∀ l : List (List Key), l.filterMap (wyK w) = (l.filter wayK).filterMap (wyK w)
 | [] => rfl
 | k :: l => by
  rw [List.filter_cons]
  by_cases h : wayK k = true
  ·rw [if_pos h, wZ, wZ, Qap l]
  ·rw [if_neg h, wZ, Qmr (by simpa using h), Qap l]
theorem Qmt {kvs : List (List Key × V)} {B : List BR} (h : (kvs.map (·.1)).filter wayK = (B.map BR.key).filter wayK) (w : Str) : kvs.filterMap (fun p => wyK w p.1) = (B.filterMap (wayR w)).map (·.1) := by
 have e1 : kvs.filterMap (fun p => wyK w p.1) = (kvs.map (·.1)).filterMap (wyK w) := by rw [List.filterMap_map]; rfl
 rw [e1, Qap, h, ← Qap, List.filterMap_map, List.map_filterMap]
 congr 1
 funext r
 exact Qms r
theorem Qmu {kvs : List (List Key × V)} {B : List BR} (h : (kvs.map (·.1)).filter wayK = (B.map BR.key).filter wayK) {k : List Key} {x : V} (hk : (k, x) ∈ kvs) {w : Str} (e : cutV (k.map kV) none (some 2) = [V.str "way", V.str w]) : ∃ v, k = [Sum.inr ("way" : Str), Sum.inr w, Sum.inr v] := by
 have e2 : (k.take 2).map kV = [V.str "way", V.str w] := by
  rw [← e]
  unfold cutV
  rw [HT.sIx_none, List.drop_zero, Nat.sub_zero, show (2 : Int) = ((2 : Nat) : Int) from rfl, HT.sIx_nat, jX, ← List.map_take]
  congr 1
  by_cases c : 2 ≤ k.length
  ·rw [jXe c]
  ·rw [Nat.min_eq_right (by omega), wY (by omega), wY (jZ _)]
 have hw : wayK k = true := by
  match k, e2 with
  | a :: k', e2 =>
   rw [List.take_succ_cons, xY] at e2
   injection e2 with e3
   cases a with
   | inl i => exact nomatch e3
   | inr a => injection e3 with e3; subst e3; exact yQ rfl
  | [], e2 => exact nomatch e2
 have hm : k ∈ (B.map BR.key).filter wayK := by
  rw [← h]
  exact xW.mpr ⟨wW.mpr ⟨_, hk, rfl⟩, hw⟩
 obtain ⟨r, hr, rfl⟩ := wW.mp (xW.mp hm).1
 have hww : r.word = "way" := by
  have := kX hw
  exact Sum.inr.inj (Option.some.inj (show some (Sum.inr r.word : Key) = some (Sum.inr ("way" : Str)) from this))
 obtain ⟨w', v, l, c, rfl⟩ := Qdt hww
 have e3 : [V.str "way", V.str w'] = [V.str "way", V.str w] := e2
 injection e3 with _ e3
 injection e3 with e3
 injection e3 with e3
 subst e3
 exact ⟨v, rfl⟩
theorem Qkp {k : Key} {a : Str} (h : V.str a = kV k) : k = Sum.inr a := by
 cases k with
 | inl i => exact nomatch h
 | inr x => injection h with h; rw [h]
theorem two_keys {ks : List Key} {a b : Str} (h : [V.str a, V.str b] = ks.map kV) : ks = [Sum.inr a, Sum.inr b] := by
 cases ks with
 | nil => exact nomatch h
 | cons x ks =>
  rw [xY] at h
  injection h with h1 h
  cases ks with
  | nil => exact nomatch h
  | cons y ks =>
   rw [xY] at h
   injection h with h2 h
   cases ks with
   | nil => rw [Qkp h1, Qkp h2]
   | cons z ks => exact nomatch h
structure ChI (K : Fg) (H0 H : Hp) (g : Addr) (A : List Ch) : Prop where
 fr : H0 g = none
 sm : Same H0 H
 ex : ∃ ys, H g = some (.lst ys) ∧ ChsAre K H ys A
theorem ChI.same {K : Fg} {H0 H H' : Hp} (s : Same H H') {g : Addr} {A : List Ch} (h : ChI K H0 H g A) : ChI K H0 H' g A := ⟨h.fr, h.sm.trans s, let ⟨ys, z1, z2⟩ := h.ex; ⟨ys, s _ _ z1, z2.same s⟩⟩
def Qhm (K : Fg) (C : Addr) : Sp := fun vs H Q _ => ∃ (p : Addr) (n : Int) (B : List BR), vs = [.ref p] ∧ FcAt K C H p n B ∧ BookOk n B ∧ ∀ (g : Addr) (H' : Hp), Same H H' → H g = none → H' g ≠ none → ChsAt K H' g (chs n B) → Q (.ref g) H'
section
variable {P : Program} {w : World} {K : Fg} {mg : Str → Option Value} {base : Heap}
theorem scFcA : FnScope ["self", "found", "work", "way"] ["self"] (Qi Wn) := ⟨rfl, rfl, rfl, by decide +kernel, rfl, by decide +kernel, by decide +kernel⟩
theorem okFcA {f fL C : Addr} {fd fdL : FuncData} (F : Fun K "all_choices" "Facts.all_choices" Wn f fd) (M : Mg mg) (T : FcTxt K mg C) (GL : FnOk P w K mg base CX0 1 fL fdL ["self", "work", "way"] (Qhc K C)) (bL : Binds K fdL ["self", "work", "way"] []) (mL : Meth K C "last_begin" fL) : FnOk P w K mg base CX0 2 f fd ["self"] (Qhm K C) := by
 refine F.ok scFcA (fun vs H Q E h => ?_) (fun cdv A outer s H vs Q E hr h => ?_)
 ·obtain ⟨p, n, B, rfl, _⟩ := h
  rfl
 obtain ⟨p, n, B, rfl, hFc, bk, q⟩ := h
 have hu6 : (A.deeper (PyProof.Rows.envOfC "Facts.all_choices" (Qi Wn) s.heap.objs.size f cdv)).units + 6 < cLine := wK (jQb (by decide) _) hr.un
 have hz : (2000000 : Nat) < sizeLine := by decide
 obtain ⟨dx, lw, lb, lh, ls, la, ds, fs, kvs, yh, ysS, ya, hF⟩ := id hFc
 refine ⟨_, (Qh (Qq (i := 1) scFcA.nd rfl (Or.inl rfl) (Xr Qg))
  (Qh (Xk PassesOwn.never rfl (Qu (Ze (pv 0) rfl)) (Qn (i := 2) scFcA.nd rfl (Or.inr rfl) (Or.inl rfl)) (Qj (Xk PassesOwn.never rfl (Qu (Qjq (Zf ["names", "work"] [none, some 2] rfl (Qjp (Ze (pv 0) rfl)) (fun _ _ _ => (Qn (i := 0) (show (["names", "work"] : List Str).Nodup by decide +kernel) rfl (Or.inl rfl) (Or.inr rfl))) (fun _ _ _ => (Jc (Qr (Qmo (K := K) (n := 6) rfl hu6) (Yh (Qit (K := K) rfl) (pv 0) Yy (Ys Qe)) (Qx (Qa Qz (Qa (pv 1) Qg))) (Qv _)))) (fun _ _ _ => (Qo (Jq (K := K) rfl) (pv 0) Qe (fun _ _ => rfl)))))) (Qn (i := 3) scFcA.nd rfl (Or.inr rfl) (Or.inl rfl)) (Qj (Qfg (i := 1) scFcA.nd rfl (Or.inl rfl) (Zf ["begin", "work", "way"] [none, some 2, some 3] rfl (Xu rfl M.range_ (Qa (Ql Qt (Zh (pv 0) T.cl mL GL (hr.mono (by decide)) bL .nil Jb (Qa (pv 2) (Qa (pv 3) Qg))) Qe) Qg)) (fun _ _ _ => (Qn (i := 0) (show (["begin", "work", "way"] : List Str).Nodup by decide +kernel) rfl (Or.inl rfl) (Or.inr rfl))) (fun _ _ _ => Yq) (fun _ _ _ => (Qx (Qa (pv 1) (Qa (pv 2) (Qa (pv 0) Qg)))))) Qmq)))))
  (Qj (Xe (pv 1))))), ?_⟩
 refine ⟨by show 0 ≤ sizeLine; decide, fun g hg => ?_⟩
 have c0 : ChI K H (upd H g (.lst [])) g [] := ⟨hg, Qc hg _, [], Qd, .nil⟩
 generalize upd H g (.lst []) = H1 at c0 ⊢
 let Pv26 : Nat → St → Hp → Prop := fun i σ H1 => ∃ u v : Option V, σ = [some (.ref p), some (.ref g), u, v] ∧ ChI K H H1 g (((wks B).take i).flatMap (chO n B))
 refine ⟨_, rfl, p, C, dx, fs, _, rfl, c0.sm _ _ hF.hp, T.cl, T.nW, hF.fW, lw, rfl, ⟨_, Qb (c0.sm _ _ hF.hW)⟩, Xp (xs := (wks B).map V.str) Pv26 ⟨none, none, rfl, c0⟩ ?_ ?_ ?_⟩
 ·rintro i σ H1 hi ⟨u, v, rfl, c⟩
  exact Qb (c.sm _ _ hF.hW)
 ·rintro i x σ H1 ex ⟨u, v, rfl, c⟩
  obtain ⟨w, ew, rfl⟩ := Zo ex
  refine ⟨_, rfl, p, C, dx, fs, _, rfl, c.sm _ _ hF.hp, T.cl, T.nI, hF.fI, ds, kvs, rfl, c.sm _ _ hF.hI, fun nf o D hD => ?_⟩
  have hds := c.sm _ _ hF.hI
  have sf : ∀ b u, H1 b = some u → b ≠ ds → upd H1 ds (.frz o (.dT kvs)) b = some u := fun b u e ne => by rw [Qk ne]; exact e
  have hfz : upd H1 ds (.frz o (.dT kvs)) ds = some (.frz o (.dT kvs)) := Qd
  have hD1 : H1 D = none := by
   cases e : H1 D with
   | none => rfl
   | some u =>
    by_cases c : D = ds
    ·subst c; rw [hfz] at hD; cases hD
    ·rw [sf D u e c] at hD; cases hD
  generalize upd H1 ds (.frz o (.dT kvs)) = Hf at sf hfz hD ⊢
  have lk := hF.kl
  let Pv27 : Nat → St → List V → Hp → Prop := fun j τ ys H2 => ∃ v : Option V, τ = [v, some (.str w)] ∧ ys = ((kvs.take j).filterMap fun p => wyK w p.1).map V.str ∧ ys.length ≤ j ∧ H2 D = some (.lst ys) ∧ Same Hf H2
  refine Yo (n := kvs.length) Pv27 ?_ (fun j τ ys H2 hj h => ?_) (fun j τ ys H2 hj h => ?_) (fun τ ys H2 h => ?_) ?_ ?_
  ·exact ⟨none, rfl, rfl, jZ _, Qd, Qc hD _⟩
  ·obtain ⟨v, rfl, ey, hl, hE, sv⟩ := h
   exact ⟨hE, by omega⟩
  ·obtain ⟨v, rfl, ey, hl, hE, sv⟩ := h
   exact ⟨sv _ _ hfz, hj⟩
  ·obtain ⟨v, rfl, ey, hl, hE, sv⟩ := h
   exact ⟨sv _ _ hfz, jZ _⟩
  ·rintro j τ ys H2 x H3 hj ⟨v, rfl, ey, hl, hE, sv⟩ ⟨rfl, t, k, y, rfl, ht, ek⟩
   obtain ⟨ks2, e2⟩ := Qje k none (some 2)
   refine ⟨_, rfl, _, rfl, t, _, rfl, Qs ht, fun p2 H4 s4 hp2 => ⟨_, rfl, by show 2 ≤ sizeLine; decide, fun p3 hp3 => ?_⟩⟩
   rw [e2] at hp2
   have s5 := s4.trans (Qc hp3 (.tup [.str "way", .str w]))
   have hp2' := (Qc hp3 (.tup [.str "way", .str w])).tup hp2
   have hp3' : SqT K (upd H4 p3 (.tup [.str "way", .str w])) p3 ([Sum.inr ("way" : Str), Sum.inr w].map kV) := Qs Qd
   generalize upd H4 p3 (.tup [.str "way", .str w]) = H5 at s5 hp2' hp3' ⊢
   refine ⟨p2, p3, ks2, [Sum.inr ("way" : Str), Sum.inr w], rfl, rfl, hp2', hp3', fun c hc => ⟨_, rfl, ite2 (fun y => ?_) (fun y => ?_)⟩⟩
   ·have e3 := hc.mp y
    rw [e3] at e2
    obtain ⟨vv, rfl⟩ := Qmu hF.wo (kZ ek) e2
    have e4 : wyK w [Sum.inr ("way" : Str), Sum.inr w, Sum.inr vv] = some vv := by
     show (if ("way" : Str) = "way" ∧ w = w then some vv else none) = some vv
     rw [if_pos ⟨rfl, rfl⟩]
    refine ⟨_, rfl, t, _, _, _, rfl, rfl, s5.tup (Qs ht), Qcz, s5 _ _ hE, _, rfl, ?_, by rw [jY]; exact wX hl, Qd, Yc (sv.trans s5) hD⟩
    rw [Xf (fun p => wyK w p.1) ek, e4, kK, ey]
    rfl
   ·have e4 : wyK w k = none := by
     cases e : wyK w k with
     | none => rfl
     | some vv =>
      exfalso
      unfold wyK at e
      split at e
      ·rename_i a b v'
       split at e
       ·rename_i h'
        obtain ⟨rfl, rfl⟩ := h'
        have e5 : cutV ([V.str "way", V.str b, V.str v']) none (some 2) = ks2.map kV := e2
        rw [cut2] at e5
        refine y (hc.mpr ?_)
        exact two_keys e5
       ·cases e
      ·cases e
    refine ⟨_, rfl, ?_, by omega, s5 _ _ hE, sv.trans s5⟩
    rw [Xf (fun p => wyK w p.1) ek, e4, ey]
    simp
  rintro τ ys H2 ⟨v', rfl, ey, hl, hE, sv⟩
  rw [kY, Qmt hF.wo] at ey
  refine ⟨ds, o, kvs, nf, sv _ _ hfz, ?_⟩
  have nD : D ≠ ds := fun e => by rw [e, hds] at hD1; cases hD1
  have s5 : Same H1 (upd H2 ds (.dT kvs)) := fun b u e => by
   by_cases c : b = ds
   ·subst c; rw [Qd, ← hds]; exact e
   ·rw [Qk c]; exact sv _ _ (sf b u e c)
  have hE5 : upd H2 ds (.dT kvs) D = some (.lst ys) := by rw [Qk nD]; exact hE
  have c5 := c.same s5
  have ngD : D ≠ g := fun e => by obtain ⟨zs, hz, _⟩ := c.ex; rw [e, hz] at hD1; cases hD1
  generalize upd H2 ds (.dT kvs) = H5 at s5 hE5 c5 ⊢
  rw [ey] at hE5
  clear ey hE sv hfz sf
  have wl := kW (wayR w) B
  have bl := bk.wb.len
  refine ⟨D, rfl, ⟨_, Qb hE5⟩, Xp (xs := ((B.filterMap (wayR w)).map (·.1)).map V.str) (fun j σ H6 => ∃ v : Option V, σ = [some (.ref p), some (.ref g), some (.str w), v] ∧ ChI K H H6 g (((wks B).take i).flatMap (chO n B) ++ ((B.filterMap (wayR w)).take j).flatMap (chW n w)) ∧ H6 D = some (.lst (((B.filterMap (wayR w)).map (·.1)).map V.str))) ⟨v, rfl, by rw [List.take_zero, wV, yW]; exact c5, hE5⟩ ?_ ?_ ?_⟩
  ·rintro j σ H6 hj ⟨v, rfl, c6, hD6⟩
   exact Qb hD6
  ·rintro j x σ H6 ex ⟨v, rfl, c6, hD6⟩
   obtain ⟨vv, evv, rfl⟩ := Zo ex
   rw [zK] at evv
   obtain ⟨⟨v1, l, k⟩, ew3, e7⟩ := jZb.mp evv
   have e7' : v1 = vv := e7
   subst e7'
   obtain ⟨r, hr, er⟩ := yY.mp (kZ ew3)
   rw [wayR_some] at er
   subst er
   have hok : 1 ≤ l ∧ l ≤ n ∧ _ := bk.wb.ok _ hr
   have n12 := bk.n12
   refine ⟨_, rfl, _, rfl, p, dx, fs, rfl, c6.sm _ _ hF.hp, hF.nL, _, rfl, _, rfl, p, n, B, w, v1, l, k, rfl, hFc.same c6.sm, hr, fun H7 s7 => ⟨_, _, rfl, rfl, _, rfl, by omega, by omega, fun D2 hD2 => ?_⟩⟩
   let Pv28 : Nat → St → List V → Hp → Prop := fun m τ ys H8 => ∃ v : Option V, τ = [v, some (.str w), some (.str v1)] ∧ ChsAre K H8 ys ((List.range m).map fun b : Nat => (w, v1, (b : Int))) ∧ H8 D2 = some (.lst ys) ∧ Same H7 H8
   refine Yo (n := (n - l + 1).toNat) Pv28 ?_ (fun m τ ys H8 hm h => ?_) (fun m τ ys H8 hm h => ?_) (fun τ ys H8 h => ?_) ?_ ?_
   ·exact ⟨none, rfl, .nil, Qd, Qc hD2 _⟩
   ·obtain ⟨v, rfl, hY, hE, sv⟩ := h
    have := Paired.length hY
    rw [jX, xZ] at this
    exact ⟨hE, by omega⟩
   ·exact hm
   ·exact jZ _
   ·rintro m τ ys H8 x H9 hm ⟨v, rfl, hY, hE, sv⟩ ⟨rfl, rfl⟩
    refine ⟨_, rfl, _, rfl, _, rfl, by show 3 ≤ sizeLine; decide, fun t ht => ?_⟩
    have s9 := Qc ht (.tup [.str w, .str v1, .int (0 + (m : Int))])
    have ht9 : upd H9 t (.tup [.str w, .str v1, .int (0 + (m : Int))]) t = some (.tup [.str w, .str v1, .int (0 + (m : Int))]) := Qd
    generalize upd H9 t (.tup [.str w, .str v1, .int (0 + (m : Int))]) = H10 at s9 ht9 ⊢
    refine ⟨s9 _ _ hE, _, rfl, ?_, Qd, Yc (sv.trans s9) hD2⟩
    rw [jXa, kK]
    refine Paired.snoc ((ChsAre.same s9 hY).updL (s9 _ _ hE)) ⟨t, rfl, Xi (s9 _ _ hE) (Qs ?_)⟩
    rw [ht9, Int.zero_add]
   rintro τ ys H8 ⟨v', rfl, hY, hE, sv⟩
   have c8 := c6.same (s7.trans sv)
   obtain ⟨xs, hg8, hX⟩ := c8.ex
   have l1 := Paired.length hX
   have l2 := Paired.length hY
   have ng2 : D2 ≠ g := fun e => by
    obtain ⟨zs, hz, _⟩ := (c6.same s7).ex
    rw [e, hz] at hD2; cases hD2
   have e9 : ((wks B).take i).flatMap (chO n B) ++ ((B.filterMap (wayR w)).take (j + 1)).flatMap (chW n w) = (((wks B).take i).flatMap (chO n B) ++ ((B.filterMap (wayR w)).take j).flatMap (chW n w)) ++ ((List.range (n - l + 1).toNat).map fun b : Nat => (w, v1, (b : Int))) := by
    rw [Ym (chW n w) ew3, zW]; rfl
   refine ⟨g, D2, xs, ys, rfl, rfl, hg8, hE, ?_, _, rfl, ?_, ?_⟩
   ·rw [l1, l2, ← jY, ← e9, jY]
    have a1 := Xs (l := (wks B).take i) (f := chO n B) (m := 4800) fun w _ => Qdb bk w
    have a2 := Xs (l := (B.filterMap (wayR w)).take (j + 1)) (f := chW n w) (m := 12) fun x hx => Qda bk x (jZe hx)
    have a3 : (wks B).length ≤ B.length := kW Yj B
    rw [zQ] at a1 a2
    omega
   ·rw [e9]
    exact ⟨c8.fr, Yc c8.sm c8.fr, _, Qd, Ke (hX.updL hg8) (ChsAre.updL hg8 hY)⟩
   ·rw [Qk ngD]
    exact sv _ _ (s7 _ _ hD6)
  ·rintro σ H6 ⟨v, rfl, c6, hD6⟩
   rw [jX, jX, kY] at c6
   exact ⟨_, _, rfl, by rw [Ym (chO n B) ew]; exact c6⟩
 ·rintro σ H1 ⟨u, v, rfl, c⟩
  rw [jX, kY] at c
  obtain ⟨ys, hy, hY⟩ := c.ex
  exact ⟨_, rfl, q g H1 c.sm c.fr (by rw [hy]; exact fun z => nomatch z) ⟨⟨ys, Qb hy, hY⟩, Qhl bk⟩⟩
end
abbrev sWoR : Stmt := top 8
theorem Qdd {A : List Ch} {f : Ch → Int} : (A.map f).map (fun x => -x) = A.map fun c => -(f c) := by rw [List.map_map]; rfl
def spWoR (K : Fg) (C : Addr) : Sp := fun vs H Q _ => ∃ (p a : Addr) (n : Int) (B : List BR), vs = [.ref p, .ref a] ∧ FcAt K C H p n B ∧ BookOk n B ∧ ChsAt K H a (chs n B) ∧ ∀ (g : Addr) (H' : Hp), LbI K H H' g ((wks B).flatMap (labW (chs n B))) → Q (.ref g) H'
section
variable {P : Program} {w : World} {K : Fg} {mg : Str → Option Value} {base : Heap}
theorem scWoR : FnScope ["facts", "asked", "told", "work", "numbers"] ["facts", "asked"] (Qi sWoR) := ⟨rfl, rfl, rfl, by decide +kernel, rfl, by decide +kernel, by decide +kernel⟩
theorem okWoR {C : Addr} (F : Fn K mg "work_rows" sWoR) (M : Mg mg) (T : FcTxt K mg C) (c_negated : Cal P w K mg base 1 "negated" ["numbers"] (Qam K)) : Cal P w K mg base 2 "work_rows" ["facts", "asked"] (spWoR K C) := by
 refine Ye F scWoR (fun _ _ _ _ _ _ => We (fun _ _ => rfl)) (fun vs H Q E h => ?_) (fun f cdv A outer s H vs Q E hr h => ?_)
 ·obtain ⟨p, a, n, B, rfl, _⟩ := h
  rfl
 obtain ⟨p, a, n, B, rfl, hFc, bk, hA, q⟩ := h
 obtain ⟨dx, lw, lb, lh, ls, la, ds, fs, kvs, yh, ysS, ya, hF⟩ := id hFc
 have bl := bk.wb.len
 have n1 := bk.n1
 have n12 := bk.n12
 have fw := hA.few
 refine ⟨_, (Qh (Qq (i := 2) scWoR.nd rfl (Or.inl rfl) (Xr Qg))
  (Qh (Xk PassesOwn.never rfl (Qu (Ze (pv 0) rfl)) (Qn (i := 3) scWoR.nd rfl (Or.inr rfl) (Or.inl rfl)) (Qh (Qq (i := 4) scWoR.nd rfl (Or.inl rfl) (Xc Xb rfl M.tuple_ Xy (Qa (Zf ["choice", "work"] [none, some 3] rfl (Qu (pv 1)) (fun _ _ _ => (Qn (i := 0) (show (["choice", "work"] : List Str).Nodup by decide +kernel) rfl (Or.inl rfl) (Or.inr rfl))) (fun _ _ _ => Yq) (fun _ _ _ => (Wp (Qr Yk (Qo (Jq (K := K) rfl) (pv 0) Qe (fun _ _ => rfl)) (pv 1) (Qv _)) Qe Qe))) Qg)))
  (Qh (Xh (Yz PySem.F.plainAttrs_list PySem.F.slot_list_append PySem.F.type_list_append Qw (pv 2) (Qa (Qx (Qa (Qx (Qa Qz (Qa (pv 3) (Qa Qe Qg)))) (Qa (Qx (Qa (pv 4) (Qa Qe Qg))) Qg))) Qg)))
  (Qj (Xh (Yz PySem.F.plainAttrs_list PySem.F.slot_list_append PySem.F.type_list_append Qw (pv 2) (Qa (Qx (Qa (Qx (Qa Qz (Qa (pv 3) (Qa (Qay Km Qe) Qg)))) (Qa (Qx (Qa (Xx c_negated (hr.mono (by decide)) (Qa (pv 4) Qg)) (Qa (Qay Km Qe) Qg))) Qg))) Qg)))))))
  (Qj (Xe (pv 2))))), ?_⟩
 refine ⟨by show 0 ≤ sizeLine; decide, fun g hg => ?_⟩
 have i0 : LbI K H (upd H g (.lst [])) g [] := LbI.start hg
 generalize upd H g (.lst []) = H1 at i0 ⊢
 let Pv29 : Nat → St → Hp → Prop := fun i σ H1 => ∃ u v : Option V, σ = [some (.ref p), some (.ref a), some (.ref g), u, v] ∧ LbI K H H1 g (((wks B).take i).flatMap (labW (chs n B)))
 refine ⟨_, rfl, p, C, dx, fs, _, rfl, i0.sm _ _ hF.hp, T.cl, T.nW, hF.fW, lw, rfl, ⟨_, Qb (i0.sm _ _ hF.hW)⟩, Xp (xs := (wks B).map V.str) Pv29 ⟨none, none, rfl, i0⟩ ?_ ?_ ?_⟩
 ·rintro i σ H1 hi ⟨u, v, rfl, c⟩
  exact Qb (c.sm _ _ hF.hW)
 ·rintro i x σ H1 ex ⟨u, v, rfl, c⟩
  obtain ⟨w, ew, rfl⟩ := Zo ex
  have ll := Qao (A := chs n B) ((wks B).take i)
  have lk : (wks B).length ≤ B.length := kW Yj B
  rw [zQ] at ll
  have hA1 := hA.same c.sm
  obtain ⟨vs, hv, _⟩ := hA1.ex
  refine ⟨_, rfl, a, rfl, ⟨_, hv⟩, fun D hD => Kp (f := fun c => if c.1 = w then 1 else 0) (cs := [some (.str w)]) rfl hA1 hD (fun c t H2 hc s2 ht Pq k => ?_) (fun H2 s2 hD2 => ?_)⟩
  ·refine ⟨_, rfl, t, _, _, _, rfl, rfl, ht, Jf, _, rfl, rfl, _, rfl, ite2 (fun y => ?_) (fun y => ?_)⟩
   ·have := k H2 (Same.refl _)
    rw [show (if c.1 = w then (1 : Int) else 0) = 1 from if_pos (eqS y)] at this
    exact this
   ·have := k H2 (Same.refl _)
    rw [show (if c.1 = w then (1 : Int) else 0) = 0 from if_neg (fun z => y (by rw [z]; exact yesS _))] at this
    exact this
  refine ⟨D, _, rfl, .inl ⟨Qb hD2, fun tn htn => ?_⟩⟩
  have c3 := c.same (s2.trans (Qc htn (.tup (((chs n B).map fun c => if c.1 = w then 1 else 0).map V.int))))
  have hn3 : SqT K (upd H2 tn (.tup (((chs n B).map fun c => if c.1 = w then 1 else 0).map V.int))) tn (((chs n B).map fun c => if c.1 = w then 1 else 0).map V.int) := Qs Qd
  generalize upd H2 tn (.tup (((chs n B).map fun c => if c.1 = w then 1 else 0).map V.int)) = H3 at c3 hn3 ⊢
  obtain ⟨y3, hy3, _⟩ := c3.ex
  refine ⟨_, rfl, .inl ⟨rfl, _, Qb hy3⟩, _, rfl, by show 3 ≤ sizeLine; decide, fun a1 ha1 => ⟨_, rfl, by show 2 ≤ sizeLine; decide, fun b1 hb1 => ⟨by show 2 ≤ sizeLine; decide, fun t1 ht1 => ?_⟩⟩⟩
  have hn4 := (Qc ha1 (.tup [.str "work", .str w, .int 1])).tup hn3
  have sx := ((Qc ha1 (.tup [.str "work", .str w, .int 1])).trans (Qc hb1 (.tup [.ref tn, .int 1]))).trans (Qc ht1 (.tup [.ref a1, .ref b1]))
  obtain ⟨y4, hy4, hl4, c4⟩ := Zy (lab := [Sum.inr ("work" : Str), Sum.inr w, Sum.inl 1]) c3 ha1 (Same.refl _) hb1 hn4 ht1 (by omega) rfl
  refine ⟨_, _, _, rfl, rfl, hy4, hl4, ?_⟩
  have hn5 := Xi (zs := y4 ++ [.ref t1]) hy4 (sx.tup hn3)
  generalize upd (upd (upd (upd H3 a1 (.tup [.str "work", .str w, .int 1])) b1 (.tup [.ref tn, .int 1])) t1 (.tup [.ref a1, .ref b1])) g (.lst (y4 ++ [.ref t1])) = H4 at c4 hn5 ⊢
  obtain ⟨y5, hy5, _⟩ := c4.ex
  refine ⟨_, rfl, .inl ⟨rfl, _, Qb hy5⟩, _, rfl, _, rfl, by show 3 ≤ sizeLine; decide, fun a2 ha2 => ⟨_, rfl, tn, _, rfl, .inr ((Qc ha2 (.tup [.str "work", .str w, .int (-1)])).tup hn5), by rw [jX]; exact fw, fun tm H6 s6 hm hm6 => ⟨_, rfl, by show 2 ≤ sizeLine; decide, fun b2 hb2 => ⟨by show 2 ≤ sizeLine; decide, fun t2 ht2 => ?_⟩⟩⟩⟩
  rw [Qdd] at hm6
  obtain ⟨y6, hy6, hl6, c6⟩ := Zy (lab := [Sum.inr ("work" : Str), Sum.inr w, Sum.inl (-1)]) c4 ha2 s6 hb2 hm6 ht2 (by rw [jY, xV]; omega) rfl
  refine ⟨_, _, _, rfl, rfl, hy6, hl6, _, _, rfl, ?_⟩
  rw [Ym (labW (chs n B)) ew]
  rw [zW] at c6
  exact c6
 ·rintro σ H1 ⟨u, v, rfl, c⟩
  rw [jX, kY] at c
  exact ⟨_, rfl, q g H1 c⟩
end
abbrev sRoR : Stmt := top 9
theorem Qaq {α : Type} {p : BR → Bool} {f : BR → Option α} {d : α} (h1 : ∀ r, p r = true → ∃ x, f r = some x) (h2 : ∀ r, p r = false → f r = none) : ∀ B : List BR, B.filterMap f = (B.filter p).map fun r => (f r).getD d
 | [] => rfl
 | r :: B => by
  rw [List.filter_cons]
  by_cases h : p r = true
  ·obtain ⟨x, e⟩ := h1 r h
   rw [if_pos h, xY, wZ, e, Qaq h1 h2 B]; rfl
  ·rw [if_neg h, wZ, h2 r (by simpa using h), Qaq h1 h2 B]
theorem Qhn (B : List BR) : B.filterMap stoR = (B.filter (selW "store")).map fun r => (stoR r).getD ("", 0, 0) := Qaq (fun r h => by
  obtain ⟨s, m, f, rfl⟩ := Kf (kX h); exact ⟨_, rfl⟩) (fun r h => by
  cases r with
  | store s m f => exact absurd rfl (of_decide_eq_false h)
  | _ => rfl) B
theorem Qho (B : List BR) : B.filterMap aftR = (B.filter (selW "after")).map fun r => (aftR r).getD ("", "", 0) := Qaq (fun r h => by
  obtain ⟨x, y, g, rfl⟩ := Kd (kX h); exact ⟨_, rfl⟩) (fun r h => by
  cases r with
  | after s m f => exact absurd rfl (of_decide_eq_false h)
  | _ => rfl) B
theorem Qhp (B : List BR) : bns B = (B.filterMap benR).map (·.1) := by
 unfold bns
 rw [List.map_filterMap]
 congr 1
 funext r
 cases r <;> rfl
theorem Qmv {B : List BR} {x : Str × Int} (h : x ∈ B.filterMap benR) : BR.bench x.1 x.2 ∈ B := by
 obtain ⟨r, hr, e⟩ := yY.mp h
 cases r with
 | bench b c => cases e; exact hr
 | _ => exact nomatch e
theorem day0 (d : Nat) : (0 : Int) + (d : Int) = (d : Int) := Int.zero_add _
def spRoR (K : Fg) (C : Addr) : Sp := fun vs H Q _ => ∃ (p a : Addr) (n : Int) (B : List BR), vs = [.ref p, .ref a] ∧ FcAt K C H p n B ∧ BookOk n B ∧ ChsAt K H a (chs n B) ∧ ∀ (g : Addr) (H' : Hp), LbI K H H' g ((B.filterMap benR).flatMap (labR n B (chs n B))) → Q (.ref g) H'
section
variable {P : Program} {w : World} {K : Fg} {mg : Str → Option Value} {base : Heap}
theorem scRoR : FnScope ["facts", "asked", "told", "bench", "day", "numbers"] ["facts", "asked"] (Qi sRoR) := ⟨rfl, rfl, rfl, by decide +kernel, rfl, by decide +kernel, by decide +kernel⟩
theorem okRoR {C : Addr} {fU : Addr} {fdU : FuncData} {fR : Addr} {fdR : FuncData} (F : Fn K mg "room_rows" sRoR) (M : Mg mg) (T : FcTxt K mg C) (GU : FnOk P w K mg base CX0 2 fU fdU ["self", "choice", "bench", "day"] (Qhd K C)) (bU : Binds K fdU ["self", "choice", "bench", "day"] []) (mU : Meth K C "used_by" fU) (GR : FnOk P w K mg base CX0 1 fR fdR ["self", "bench", "day"] (Qhg K C)) (bR : Binds K fdR ["self", "bench", "day"] []) (mR : Meth K C "room_of" fR) (c_negated : Cal P w K mg base 1 "negated" ["numbers"] (Qam K)) : Cal P w K mg base 3 "room_rows" ["facts", "asked"] (spRoR K C) := by
 refine Ye F scRoR (fun _ _ _ _ _ _ => We (fun _ _ => rfl)) (fun vs H Q E h => ?_) (fun f cdv A outer s H vs Q E hr h => ?_)
 ·obtain ⟨p, a, n, B, rfl, _⟩ := h
  rfl
 obtain ⟨p, a, n, B, rfl, hFc, bk, hA, q⟩ := h
 obtain ⟨dx, lw, lb, lh, ls, la, ds, fs, kvs, yh, ysS, ya, hF⟩ := id hFc
 have bl := bk.wb.len
 have n1 := bk.n1
 have n12 := bk.n12
 have fw := hA.few
 refine ⟨_, (Qh (Qq (i := 2) scRoR.nd rfl (Or.inl rfl) (Xr Qg))
  (Qh (Xk PassesOwn.never rfl (Qu (Ze (pv 0) rfl)) (Qn (i := 3) scRoR.nd rfl (Or.inr rfl) (Or.inl rfl)) (Qj (Xk PassesOwn.never rfl (Xu rfl M.range_ (Qa (Ze (pv 0) rfl) Qg)) (Qn (i := 4) scRoR.nd rfl (Or.inr rfl) (Or.inl rfl)) (Qh (Qq (i := 5) scRoR.nd rfl (Or.inl rfl) (Xx c_negated (hr.mono (by decide)) (Qa (Zf ["choice", "facts", "bench", "day"] [none, some 0, some 3, some 4] rfl (Qu (pv 1)) (fun _ _ _ => (Qn (i := 0) (show (["choice", "facts", "bench", "day"] : List Str).Nodup by decide +kernel) rfl (Or.inl rfl) (Or.inr rfl))) (fun _ _ _ => Yq) (fun _ _ _ => (Zh (pv 1) T.cl mU GU (hr.mono (by decide)) bU .nil Jb (Qa (pv 0) (Qa (pv 2) (Qa (pv 3) Qg)))))) Qg)))
  (Qj (Xh (Yz PySem.F.plainAttrs_list PySem.F.slot_list_append PySem.F.type_list_append Qw (pv 2) (Qa (Qx (Qa (Qx (Qa Qz (Qa (pv 3) (Qa (pv 4) Qg)))) (Qa (Qx (Qa (pv 5) (Qa (Qay Km (Zh (pv 0) T.cl mR GR (hr.mono (by decide)) bR .nil Jb (Qa (pv 3) (Qa (pv 4) Qg)))) Qg))) Qg))) Qg))))))))
  (Qj (Xe (pv 2))))), ?_⟩
 refine ⟨by show 0 ≤ sizeLine; decide, fun g hg => ?_⟩
 have i0 : LbI K H (upd H g (.lst [])) g [] := LbI.start hg
 generalize upd H g (.lst []) = H1 at i0 ⊢
 let Pv30 : Nat → St → Hp → Prop := fun i σ H1 => ∃ u v w : Option V, σ = [some (.ref p), some (.ref a), some (.ref g), u, v, w] ∧ LbI K H H1 g (((B.filterMap benR).take i).flatMap (labR n B (chs n B)))
 refine ⟨_, rfl, p, C, dx, fs, _, rfl, i0.sm _ _ hF.hp, T.cl, T.nB, hF.fB, lb, rfl, ⟨_, Qb (i0.sm _ _ hF.hB)⟩, Xp (xs := (bns B).map V.str) Pv30 ⟨none, none, none, rfl, i0⟩ ?_ ?_ ?_⟩
 ·rintro i σ H1 hi ⟨u, v, w, rfl, c⟩
  exact Qb (c.sm _ _ hF.hB)
 ·rintro i x σ H1 ex ⟨u, v, w, rfl, c⟩
  obtain ⟨b, eb, rfl⟩ := Zo ex
  rw [Qhp, zK] at eb
  obtain ⟨⟨b1, r⟩, er, e7⟩ := jZb.mp eb
  have e7' : b1 = b := e7
  subst e7'
  have hbn := Qmv (kZ er)
  have ll := Kz n12 (B := B) (A := chs n B) ((B.filterMap benR).take i)
  have lk : (B.filterMap benR).length ≤ B.length := kW benR B
  rw [zQ] at ll
  let Pv31 : Nat → St → Hp → Prop := fun j σ H1 => ∃ v w : Option V, σ = [some (.ref p), some (.ref a), some (.ref g), some (.str b1), v, w] ∧ LbI K H H1 g (((B.filterMap benR).take i).flatMap (labR n B (chs n B)) ++ (List.range j).map fun d : Nat => Qdc B (chs n B) (b1, r) (d : Int))
  refine ⟨_, rfl, p, C, dx, fs, _, rfl, c.sm _ _ hF.hp, T.cl, T.nD, hF.fD, _, rfl, by omega, by omega, Yd (lo := 0) (n := n.toNat) Pv31 ⟨v, w, rfl, by rw [jKb, jZa, yW]; exact c⟩ ?_ ?_⟩
  ·rintro j σ H1 hj ⟨v, w, rfl, c⟩
   rw [day0]
   have hA1 := hA.same c.sm
   obtain ⟨vs, hv, _⟩ := hA1.ex
   refine ⟨_, rfl, a, rfl, ⟨_, hv⟩, fun D hD => Kp (f := useR B b1 (j : Int)) (cs := [some (.ref p), some (.str b1), some (.int (j : Int))]) rfl hA1 hD (fun ch t H2 hc s2 ht Pq k => ?_) (fun H2 s2 hD2 => ?_)⟩
   ·obtain ⟨l, cc, hw, _, _⟩ := Jg hc
    exact ⟨_, rfl, p, dx, fs, rfl, s2 _ _ (c.sm _ _ hF.hp), hF.nU, _, rfl, _, rfl, _, rfl, p, t, n, B, ch.1, ch.2.1, b1, ch.2.2, l, cc, _, rfl, hFc.same (c.sm.trans s2), bk.wb, ht, hw, fun H3 s3 => k H3 s3⟩
   refine ⟨D, _, rfl, .inl (Qb hD2), by rw [jX]; exact fw, fun tn H3 s3 hn hn3 => ?_⟩
   rw [Qdd] at hn3
   have c3 := c.same (s2.trans s3)
   obtain ⟨y3, hy3, _⟩ := c3.ex
   refine ⟨_, rfl, .inl ⟨rfl, _, Qb hy3⟩, _, rfl, _, rfl, by show 3 ≤ sizeLine; decide, fun a1 ha1 => ?_⟩
   have sa := Qc ha1 (.tup [.str "room", .str b1, .int (j : Int)])
   refine ⟨_, rfl, _, rfl, p, dx, fs, rfl, sa _ _ (c3.sm _ _ hF.hp), hF.nR, _, rfl, _, rfl, p, n, B, b1, r, _, rfl, hFc.same (c3.sm.trans sa), bk.wb, hbn, fun H4 s4 => ⟨_, rfl, by show 2 ≤ sizeLine; decide, fun b2 hb2 => ⟨by show 2 ≤ sizeLine; decide, fun t2 ht2 => ?_⟩⟩⟩
   obtain ⟨y4, hy4, hl4, c4⟩ := Zy (lab := [Sum.inr ("room" : Str), Sum.inr b1, Sum.inl (j : Int)]) c3 ha1 s4 hb2 ((sa.trans s4).tup hn3) ht2 (by rw [jY, jX, xZ]; omega) rfl
   refine ⟨_, _, _, rfl, rfl, hy4, hl4, _, _, rfl, ?_⟩
   rw [jXa, kK, ← zW]
   exact c4
  ·rintro σ H1 ⟨v, w, rfl, c⟩
   exact ⟨_, _, _, rfl, by rw [Ym (labR n B (chs n B)) er]; exact c⟩
 ·rintro σ H1 ⟨u, v, w, rfl, c⟩
  rw [jX, Qhp, jX, kY] at c
  exact ⟨_, rfl, q g H1 c⟩
end
abbrev sStR : Stmt := top 10
def spStR (K : Fg) (C : Addr) : Sp := fun vs H Q _ => ∃ (p a : Addr) (n : Int) (B : List BR), vs = [.ref p, .ref a] ∧ FcAt K C H p n B ∧ BookOk n B ∧ ChsAt K H a (chs n B) ∧ ∀ (g : Addr) (H' : Hp), LbI K H H' g ((B.filterMap stoR).flatMap (labS n B (chs n B))) → Q (.ref g) H'
section
variable {P : Program} {w : World} {K : Fg} {mg : Str → Option Value} {base : Heap}
theorem scStR : FnScope ["facts", "asked", "told", "store", "most", "first", "day", "numbers"] ["facts", "asked"] (Qi sStR) := ⟨rfl, rfl, rfl, by decide +kernel, rfl, by decide +kernel, by decide +kernel⟩
theorem okStR {C : Addr} {fG : Addr} {fdG : FuncData} (F : Fn K mg "store_rows" sStR) (M : Mg mg) (T : FcTxt K mg C) (GG : FnOk P w K mg base CX0 2 fG fdG ["self", "choice", "store", "day"] (Qhe K C)) (bG : Binds K fdG ["self", "choice", "store", "day"] []) (mG : Meth K C "gain_by" fG) (c_negated : Cal P w K mg base 1 "negated" ["numbers"] (Qam K)) : Cal P w K mg base 3 "store_rows" ["facts", "asked"] (spStR K C) := by
 refine Ye F scStR (fun _ _ _ _ _ _ => We (fun _ _ => rfl)) (fun vs H Q E h => ?_) (fun f cdv A outer s H vs Q E hr h => ?_)
 ·obtain ⟨p, a, n, B, rfl, _⟩ := h
  rfl
 obtain ⟨p, a, n, B, rfl, hFc, bk, hA, q⟩ := h
 obtain ⟨dx, lw, lb, lh, ls, la, ds, fs, kvs, yh, ysS, ya, hF⟩ := id hFc
 have bl := bk.wb.len
 have n1 := bk.n1
 have n12 := bk.n12
 have fw := hA.few
 have lS := Paired.length hF.tS
 refine ⟨_, (Qh (Qq (i := 2) scStR.nd rfl (Or.inl rfl) (Xr Qg))
  (Qh (Xk PassesOwn.never rfl (Qu (Ze (pv 0) rfl)) (Qaw rfl (Yn (Qn (i := 3) scStR.nd rfl (Or.inr rfl) (Or.inl rfl)) (Yn (Qn (i := 4) scStR.nd rfl (Or.inl rfl) (Or.inl rfl)) (Yn (Qn (i := 5) scStR.nd rfl (Or.inl rfl) (Or.inl rfl)) Vf)))) (Qj (Xk PassesOwn.never rfl (Xu rfl M.range_ (Qa (Ql Qt (Ze (pv 0) rfl) Qe) Qg)) (Qn (i := 6) scStR.nd rfl (Or.inr rfl) (Or.inl rfl)) (Qh (Qq (i := 7) scStR.nd rfl (Or.inl rfl) (Xc Xb rfl M.tuple_ Xy (Qa (Zf ["choice", "facts", "store", "day"] [none, some 0, some 3, some 6] rfl (Qu (pv 1)) (fun _ _ _ => (Qn (i := 0) (show (["choice", "facts", "store", "day"] : List Str).Nodup by decide +kernel) rfl (Or.inl rfl) (Or.inr rfl))) (fun _ _ _ => Yq) (fun _ _ _ => (Zh (pv 1) T.cl mG GG (hr.mono (by decide)) bG .nil Jb (Qa (pv 0) (Qa (pv 2) (Qa (pv 3) Qg)))))) Qg)))
  (Qh (Xh (Yz PySem.F.plainAttrs_list PySem.F.slot_list_append PySem.F.type_list_append Qw (pv 2) (Qa (Qx (Qa (Qx (Qa Qz (Qa (pv 3) (Qa (pv 6) Qg)))) (Qa (Qx (Qa (pv 7) (Qa (Qay Km (pv 5)) Qg))) Qg))) Qg)))
  (Qj (Xh (Yz PySem.F.plainAttrs_list PySem.F.slot_list_append PySem.F.type_list_append Qw (pv 2) (Qa (Qx (Qa (Qx (Qa Qz (Qa (pv 3) (Qa (pv 6) Qg)))) (Qa (Qx (Qa (Xx c_negated (hr.mono (by decide)) (Qa (pv 7) Qg)) (Qa (Ql Zj (pv 5) (pv 4)) Qg))) Qg))) Qg)))))))))
  (Qj (Xe (pv 2))))), ?_⟩
 refine ⟨by show 0 ≤ sizeLine; decide, fun g hg => ?_⟩
 have i0 : LbI K H (upd H g (.lst [])) g [] := LbI.start hg
 generalize upd H g (.lst []) = H1 at i0 ⊢
 let Pv32 : Nat → St → Hp → Prop := fun i σ H1 => ∃ u v w x y : Option V, σ = [some (.ref p), some (.ref a), some (.ref g), u, v, w, x, y] ∧ LbI K H H1 g (((B.filterMap stoR).take i).flatMap (labS n B (chs n B)))
 refine ⟨_, rfl, p, C, dx, fs, _, rfl, i0.sm _ _ hF.hp, T.cl, T.nS, hF.fS, ls, rfl, ⟨_, Qb (i0.sm _ _ hF.hS)⟩, Xp (xs := ysS) Pv32 ⟨none, none, none, none, none, rfl, i0⟩ ?_ ?_ ?_⟩
 ·rintro i σ H1 hi ⟨u, v, w, x, y, rfl, c⟩
  exact Qb (c.sm _ _ hF.hS)
 ·rintro i x σ H1 ex ⟨u, v, w, xo, y, rfl, c⟩
  obtain ⟨rr, er0, t0, rfl, ht0⟩ := Qy hF.tS ex
  obtain ⟨s1, m, ff, rfl⟩ := Kf (kX (xW.mp (kZ er0)).2)
  have er : (B.filterMap stoR)[i]? = some (s1, m, ff) := by rw [Qhn, zK, er0]; rfl
  have ll := Va n12 (B := B) (A := chs n B) ((B.filterMap stoR).take i)
  have lk : (B.filterMap stoR).length ≤ B.length := kW stoR B
  rw [zQ] at ll
  refine ⟨t0, _, rfl, c.sm.tup ht0, rfl, _, _, rfl, _, _, rfl, _, _, rfl, rfl, ?_⟩
  let Pv33 : Nat → St → Hp → Prop := fun j σ H1 => ∃ v w : Option V, σ = [some (.ref p), some (.ref a), some (.ref g), some (.str s1), some (.int m), some (.int ff), v, w] ∧ LbI K H H1 g (((B.filterMap stoR).take i).flatMap (labS n B (chs n B)) ++ (List.range j).flatMap fun d : Nat => Qcd B (chs n B) (s1, m, ff) (d : Int))
  refine ⟨_, rfl, p, C, dx, fs, _, rfl, c.sm _ _ hF.hp, T.cl, T.nD, hF.fD, _, _, rfl, rfl, _, rfl, by omega, by omega, Yd (lo := 0) (n := (n + 1).toNat) Pv33 ⟨xo, y, rfl, by rw [jKb, wV, yW]; exact c⟩ ?_ ?_⟩
  ·rintro j σ H1 hj ⟨v, w, rfl, c⟩
   rw [day0]
   have l2 := Xs (l := List.range j) (f := fun d : Nat => Qcd B (chs n B) (s1, m, ff) (d : Int)) (m := 2) fun d _ => jZ 2
   rw [xZ] at l2
   have hA1 := hA.same c.sm
   obtain ⟨vs, hv, _⟩ := hA1.ex
   refine ⟨_, rfl, a, rfl, ⟨_, hv⟩, fun D hD => Kp (f := Zg B s1 (j : Int)) (cs := [some (.ref p), some (.str s1), some (.int (j : Int))]) rfl hA1 hD (fun ch t H2 hc s2 ht Pq k => ?_) (fun H2 s2 hD2 => ?_)⟩
   ·obtain ⟨l, cc, hw, _, _⟩ := Jg hc
    exact ⟨_, rfl, p, dx, fs, rfl, s2 _ _ (c.sm _ _ hF.hp), hF.nG, _, rfl, _, rfl, _, rfl, p, t, n, B, ch.1, ch.2.1, s1, ch.2.2, l, cc, _, rfl, hFc.same (c.sm.trans s2), bk.wb, ht, hw, fun H3 s3 => k H3 s3⟩
   refine ⟨D, _, rfl, .inl ⟨Qb hD2, fun tn htn => ?_⟩⟩
   have c3 := c.same (s2.trans (Qc htn (.tup (((chs n B).map (Zg B s1 (j : Int))).map V.int))))
   have hn3 : SqT K (upd H2 tn (.tup (((chs n B).map (Zg B s1 (j : Int))).map V.int))) tn (((chs n B).map (Zg B s1 (j : Int))).map V.int) := Qs Qd
   generalize upd H2 tn (.tup (((chs n B).map (Zg B s1 (j : Int))).map V.int)) = H3 at c3 hn3 ⊢
   obtain ⟨y3, hy3, _⟩ := c3.ex
   refine ⟨_, rfl, .inl ⟨rfl, _, Qb hy3⟩, _, rfl, _, rfl, by show 3 ≤ sizeLine; decide, fun a1 ha1 => ⟨_, rfl, _, rfl, _, rfl, by show 2 ≤ sizeLine; decide, fun b1 hb1 => ⟨by show 2 ≤ sizeLine; decide, fun t1 ht1 => ?_⟩⟩⟩
   have hn4 := (Qc ha1 (.tup [.str "least", .str s1, .int (j : Int)])).tup hn3
   have sx := ((Qc ha1 (.tup [.str "least", .str s1, .int (j : Int)])).trans (Qc hb1 (.tup [.ref tn, .int (-ff)]))).trans (Qc ht1 (.tup [.ref a1, .ref b1]))
   obtain ⟨y4, hy4, hl4, c4⟩ := Zy (lab := [Sum.inr ("least" : Str), Sum.inr s1, Sum.inl (j : Int)]) c3 ha1 (Same.refl _) hb1 hn4 ht1 (by rw [jY]; omega) rfl
   refine ⟨_, _, _, rfl, rfl, hy4, hl4, ?_⟩
   have hn5 := Xi (zs := y4 ++ [.ref t1]) hy4 (sx.tup hn3)
   generalize upd (upd (upd (upd H3 a1 (.tup [.str "least", .str s1, .int (j : Int)])) b1 (.tup [.ref tn, .int (-ff)])) t1 (.tup [.ref a1, .ref b1])) g (.lst (y4 ++ [.ref t1])) = H4 at c4 hn5 ⊢
   obtain ⟨y5, hy5, _⟩ := c4.ex
   refine ⟨_, rfl, .inl ⟨rfl, _, Qb hy5⟩, _, rfl, _, rfl, by show 3 ≤ sizeLine; decide, fun a2 ha2 => ⟨_, rfl, tn, _, rfl, .inr ((Qc ha2 (.tup [.str "most", .str s1, .int (j : Int)])).tup hn5), by rw [jX]; exact fw, fun tm H6 s6 hm hm6 => ⟨_, rfl, _, rfl, _, _, rfl, rfl, by show 2 ≤ sizeLine; decide, fun b2 hb2 => ⟨by show 2 ≤ sizeLine; decide, fun t2 ht2 => ?_⟩⟩⟩⟩
   rw [Qdd] at hm6
   obtain ⟨y6, hy6, hl6, c6⟩ := Zy (lab := [Sum.inr ("most" : Str), Sum.inr s1, Sum.inl (j : Int)]) c4 ha2 s6 hb2 hm6 ht2 (by rw [jY, jY, xV]; omega) rfl
   refine ⟨_, _, _, rfl, rfl, hy6, hl6, _, _, rfl, ?_⟩
   rw [jXa, wJ, ← zW]
   rw [zW] at c6
   exact c6
  ·rintro σ H1 ⟨v, w, rfl, c⟩
   exact ⟨_, _, _, _, _, rfl, by rw [Ym (labS n B (chs n B)) er]; exact c⟩
 ·rintro σ H1 ⟨u, v, w, x, y, rfl, c⟩
  rw [lS, wY (by rw [Qhn, jX]; exact jZ _)] at c
  exact ⟨_, rfl, q g H1 c⟩
end
abbrev sAfR : Stmt := top 12
def spAfR (K : Fg) (C : Addr) : Sp := fun vs H Q _ => ∃ (p a : Addr) (n : Int) (B : List BR), vs = [.ref p, .ref a] ∧ FcAt K C H p n B ∧ BookOk n B ∧ ChsAt K H a (chs n B) ∧ ∀ (g : Addr) (H' : Hp), LbI K H H' g ((B.filterMap aftR).flatMap (labA n B (chs n B))) → Q (.ref g) H'
section
variable {P : Program} {w : World} {K : Fg} {mg : Str → Option Value} {base : Heap}
theorem scAfR : FnScope ["facts", "asked", "told", "after", "day", "numbers"] ["facts", "asked"] (Qi sAfR) := ⟨rfl, rfl, rfl, by decide +kernel, rfl, by decide +kernel, by decide +kernel⟩
theorem okAfR {C : Addr} (F : Fn K mg "after_rows" sAfR) (M : Mg mg) (T : FcTxt K mg C) (c_after_number : Cal P w K mg base 2 "after_number" ["facts", "choice", "after", "day"] (spAfN K C)) : Cal P w K mg base 3 "after_rows" ["facts", "asked"] (spAfR K C) := by
 refine Ye F scAfR (fun _ _ _ _ _ _ => We (fun _ _ => rfl)) (fun vs H Q E h => ?_) (fun f cdv A outer s H vs Q E hr h => ?_)
 ·obtain ⟨p, a, n, B, rfl, _⟩ := h
  rfl
 obtain ⟨p, a, n, B, rfl, hFc, bk, hA, q⟩ := h
 obtain ⟨dx, lw, lb, lh, ls, la, ds, fs, kvs, yh, ysS, ya, hF⟩ := id hFc
 have bl := bk.wb.len
 have n1 := bk.n1
 have n12 := bk.n12
 have fw := hA.few
 have lS := Paired.length hF.tA
 refine ⟨_, (Qh (Qq (i := 2) scAfR.nd rfl (Or.inl rfl) (Xr Qg))
  (Qh (Xk PassesOwn.never rfl (Qu (Ze (pv 0) rfl)) (Qn (i := 3) scAfR.nd rfl (Or.inr rfl) (Or.inl rfl)) (Qj (Xk PassesOwn.never rfl (Xu rfl M.range_ (Qa (Ql Qt (Ze (pv 0) rfl) Qe) Qg)) (Qn (i := 4) scAfR.nd rfl (Or.inr rfl) (Or.inl rfl)) (Qh (Qq (i := 5) scAfR.nd rfl (Or.inl rfl) (Xc Xb rfl M.tuple_ Xy (Qa (Zf ["choice", "facts", "after", "day"] [none, some 0, some 3, some 4] rfl (Qu (pv 1)) (fun _ _ _ => (Qn (i := 0) (show (["choice", "facts", "after", "day"] : List Str).Nodup by decide +kernel) rfl (Or.inl rfl) (Or.inr rfl))) (fun _ _ _ => Yq) (fun _ _ _ => (Xx c_after_number (hr.mono (by decide)) (Qa (pv 1) (Qa (pv 0) (Qa (pv 2) (Qa (pv 3) Qg))))))) Qg)))
  (Qj (Xh (Yz PySem.F.plainAttrs_list PySem.F.slot_list_append PySem.F.type_list_append Qw (pv 2) (Qa (Qx (Qa (Qx (Qa Qz (Qa (Qo Xn (pv 3) Qe (fun _ _ => rfl)) (Qa (Qo Xn (pv 3) Qe (fun _ _ => rfl)) (Qa (pv 4) Qg))))) (Qa (Qx (Qa (pv 5) (Qa Qe Qg))) Qg))) Qg))))))))
  (Qj (Xe (pv 2))))), ?_⟩
 refine ⟨by show 0 ≤ sizeLine; decide, fun g hg => ?_⟩
 have i0 : LbI K H (upd H g (.lst [])) g [] := LbI.start hg
 generalize upd H g (.lst []) = H1 at i0 ⊢
 let Pv34 : Nat → St → Hp → Prop := fun i σ H1 => ∃ u v w : Option V, σ = [some (.ref p), some (.ref a), some (.ref g), u, v, w] ∧ LbI K H H1 g (((B.filterMap aftR).take i).flatMap (labA n B (chs n B)))
 refine ⟨_, rfl, p, C, dx, fs, _, rfl, i0.sm _ _ hF.hp, T.cl, T.nA, hF.fA, la, rfl, ⟨_, Qb (i0.sm _ _ hF.hA)⟩, Xp (xs := ya) Pv34 ⟨none, none, none, rfl, i0⟩ ?_ ?_ ?_⟩
 ·rintro i σ H1 hi ⟨u, v, w, rfl, c⟩
  exact Qb (c.sm _ _ hF.hA)
 ·rintro i x σ H1 ex ⟨u, v, w, rfl, c⟩
  obtain ⟨rr, er0, t0, rfl, ht0⟩ := Qy hF.tA ex
  obtain ⟨s1, m, ff, rfl⟩ := Kd (kX (xW.mp (kZ er0)).2)
  have ht0' : SqT K H t0 [.str s1, .str m, .int ff] := ht0
  have er : (B.filterMap aftR)[i]? = some (s1, m, ff) := by rw [Qho, zK, er0]; rfl
  have ll := Vb n12 (B := B) (A := chs n B) ((B.filterMap aftR).take i)
  have lk : (B.filterMap aftR).length ≤ B.length := kW aftR B
  rw [zQ] at ll
  let Pv35 : Nat → St → Hp → Prop := fun j σ H1 => ∃ v w : Option V, σ = [some (.ref p), some (.ref a), some (.ref g), some (.ref t0), v, w] ∧ LbI K H H1 g (((B.filterMap aftR).take i).flatMap (labA n B (chs n B)) ++ (List.range j).map fun d : Nat => Qjr B (chs n B) (s1, m, ff) (d : Int))
  refine ⟨_, rfl, p, C, dx, fs, _, rfl, c.sm _ _ hF.hp, T.cl, T.nD, hF.fD, _, _, rfl, rfl, _, rfl, by omega, by omega, Yd (lo := 0) (n := (n + 1).toNat) Pv35 ⟨v, w, rfl, by rw [jKb, jZa, yW]; exact c⟩ ?_ ?_⟩
  ·rintro j σ H1 hj ⟨v, w, rfl, c⟩
   rw [day0]
   have hA1 := hA.same c.sm
   obtain ⟨vs, hv, _⟩ := hA1.ex
   refine ⟨_, rfl, a, rfl, ⟨_, hv⟩, fun D hD => Kp (f := fun c => afN c.1 c.2.2 (lenB B c.1 c.2.1) s1 m ff (j : Int)) (cs := [some (.ref p), some (.ref t0), some (.int (j : Int))]) rfl hA1 hD (fun ch t H2 hc s2 ht Pq k => ?_) (fun H2 s2 hD2 => ?_)⟩
   ·obtain ⟨l, cc, hw, _, _⟩ := Jg hc
    have e := Zp bk.wb hw
    refine ⟨_, rfl, _, rfl, _, rfl, _, rfl, p, t, t0, n, B, ch.1, ch.2.1, ch.2.2, l, cc, s1, m, ff, _, rfl, hFc.same (c.sm.trans s2), ht, hw, (c.sm.trans s2).tup ht0', fun H3 s3 => ?_⟩
    have := k H3 s3
    rw [e] at this
    exact this
   refine ⟨D, _, rfl, .inl ⟨Qb hD2, fun tn htn => ?_⟩⟩
   have c3 := c.same (s2.trans (Qc htn (.tup (((chs n B).map fun c => afN c.1 c.2.2 (lenB B c.1 c.2.1) s1 m ff (j : Int)).map V.int))))
   have hn3 : SqT K (upd H2 tn (.tup (((chs n B).map fun c => afN c.1 c.2.2 (lenB B c.1 c.2.1) s1 m ff (j : Int)).map V.int))) tn (((chs n B).map fun c => afN c.1 c.2.2 (lenB B c.1 c.2.1) s1 m ff (j : Int)).map V.int) := Qs Qd
   generalize upd H2 tn (.tup (((chs n B).map fun c => afN c.1 c.2.2 (lenB B c.1 c.2.1) s1 m ff (j : Int)).map V.int)) = H3 at c3 hn3 ⊢
   obtain ⟨y3, hy3, _⟩ := c3.ex
   refine ⟨_, rfl, .inl ⟨rfl, _, Qb hy3⟩, _, rfl, t0, _, _, _, rfl, rfl, c3.sm.tup ht0', Jf, _, rfl, t0, _, _, _, rfl, rfl, c3.sm.tup ht0', Qmm, _, rfl, by show 4 ≤ sizeLine; decide, fun a1 ha1 => ⟨_, rfl, by show 2 ≤ sizeLine; decide, fun b1 hb1 => ⟨by show 2 ≤ sizeLine; decide, fun t1 ht1 => ?_⟩⟩⟩
   have hn4 := (Qc ha1 (.tup [.str "after", .str s1, .str m, .int (j : Int)])).tup hn3
   obtain ⟨y4, hy4, hl4, c4⟩ := Zy (lab := [Sum.inr ("after" : Str), Sum.inr s1, Sum.inr m, Sum.inl (j : Int)]) c3 ha1 (Same.refl _) hb1 hn4 ht1 (by rw [jY, jX, xZ]; omega) rfl
   refine ⟨_, _, _, rfl, rfl, hy4, hl4, _, _, rfl, ?_⟩
   rw [jXa, kK, ← zW]
   exact c4
  ·rintro σ H1 ⟨v, w, rfl, c⟩
   exact ⟨_, _, _, rfl, by rw [Ym (labA n B (chs n B)) er]; exact c⟩
 ·rintro σ H1 ⟨u, v, w, rfl, c⟩
  rw [lS, wY (by rw [Qho, jX]; exact jZ _)] at c
  exact ⟨_, rfl, q g H1 c⟩
end
abbrev Qjs : Stmt := top 13
theorem Kj {K : Fg} {H0 H : Hp} {g1 g2 p : Addr} {y1 y2 : List V} {L1 L2 : List Lb} (s : Same H0 H) (h1 : H g1 = some (.lst y1)) (r1 : LbsAre K H y1 L1) (h2 : H g2 = some (.lst y2)) (r2 : LbsAre K H y2 L2) (hp : H p = none) : LbI K H0 (upd H p (.lst (y1 ++ y2))) p (L1 ++ L2) :=
 ⟨s.free hp, Yc s (s.free hp), _, Qd, Ke (r1.same (Qc hp _)) (LbsAre.same (Qc hp _) r2)⟩
theorem Jj {n : Int} {B : List BR} (bk : BookOk n B) : ((wks B).flatMap (labW (chs n B))).length ≤ 800 ∧ ((B.filterMap benR).flatMap (labR n B (chs n B))).length ≤ 4800 ∧ ((B.filterMap stoR).flatMap (labS n B (chs n B))).length ≤ 10400 ∧ ((B.filterMap aftR).flatMap (labA n B (chs n B))).length ≤ 5200 := by
 have bl := bk.wb.len
 have n12 := bk.n12
 have a1 := Qao (A := chs n B) (wks B)
 have a2 := Kz n12 (B := B) (A := chs n B) (B.filterMap benR)
 have a3 := Va n12 (B := B) (A := chs n B) (B.filterMap stoR)
 have a4 := Vb n12 (B := B) (A := chs n B) (B.filterMap aftR)
 have b1 : (wks B).length ≤ B.length := kW Yj B
 have b2 := kW benR B
 have b3 := kW stoR B
 have b4 := kW aftR B
 refine ⟨by omega, by omega, by omega, by omega⟩
def Qhq (K : Fg) : Sp := fun vs H Q _ => ∃ (d : Addr) (n : Int) (us : List V) (B : List BR), vs = [.ref d] ∧ H d = some (.lst us) ∧ RowsB H us B ∧ BookOk n B ∧ ∀ (g : Addr) (H' : Hp), LbI K H H' g (labs n B) → Q (.ref g) H'
section
variable {P : Program} {w : World} {K : Fg} {mg : Str → Option Value} {base : Heap}
theorem scLabd : FnScope ["book", "facts", "asked"] ["book"] (Qi Qjs) := ⟨rfl, rfl, rfl, by decide +kernel, rfl, by decide +kernel, by decide +kernel⟩
theorem okLabd {C : Addr} {fA : Addr} {fdA : FuncData} {fI : Addr} {fdI : FuncData} (F : Fn K mg "labelled" Qjs) (M : Mg mg) (T : FcTxt K mg C) (mkI : Mk K C fI) (GI : FnOk P w K mg base CX0 2 fI fdI ["self", "book"] (Qcw K C)) (bI : Binds K fdI ["self", "book"] []) (GA : FnOk P w K mg base CX0 2 fA fdA ["self"] (Qhm K C)) (bA : Binds K fdA ["self"] []) (mA : Meth K C "all_choices" fA) (c_work_rows : Cal P w K mg base 2 "work_rows" ["facts", "asked"] (spWoR K C)) (c_room_rows : Cal P w K mg base 3 "room_rows" ["facts", "asked"] (spRoR K C)) (c_store_rows : Cal P w K mg base 3 "store_rows" ["facts", "asked"] (spStR K C)) (c_after_rows : Cal P w K mg base 3 "after_rows" ["facts", "asked"] (spAfR K C)) : Cal P w K mg base 4 "labelled" ["book"] (Qhq K) := by
 refine Ye F scLabd (fun _ _ _ _ _ _ => bind1 (fun _ => rfl)) (fun vs H Q E h => ?_) (fun f cdv A outer s H vs Q E hr h => ?_)
 ·obtain ⟨d, n, us, B, rfl, _⟩ := h
  rfl
 obtain ⟨d, n, us, B, rfl, hd, hB, bk, q⟩ := h
 have hz : (50000 : Nat) < sizeLine := by decide
 obtain ⟨k1, k2, k3, k4⟩ := Jj bk
 refine ⟨_, (Qh (Qq (i := 1) scLabd.nd rfl (Or.inl rfl) (Qfs mkI GI (hr.mono (by decide)) rfl T.mgC bI .nil Jb (Qa (pv 0) Qg)))
  (Qh (Qq (i := 2) scLabd.nd rfl (Or.inl rfl) (Qdj (pv 1) T.cl mA GA (hr.mono (by decide)) bA .nil Jb))
  (Qj (Xe (Ql Jl (Ql Jl (Ql Jl (Xx c_work_rows (hr.mono (by decide)) (Qa (pv 1) (Qa (pv 2) Qg))) (Xx c_room_rows (hr.mono (by decide)) (Qa (pv 1) (Qa (pv 2) Qg)))) (Xx c_store_rows (hr.mono (by decide)) (Qa (pv 1) (Qa (pv 2) Qg)))) (Xx c_after_rows (hr.mono (by decide)) (Qa (pv 1) (Qa (pv 2) Qg)))))))), ?_⟩
 refine ⟨_, rfl, fun p dx fp fdx ndx => ?_⟩
 dsimp only [tNil]
 have s1 : Same H (upd (upd H dx (.own p)) p (.ins C dx [])) := (Qc fdx _).trans (Qc (by rw [Qk ndx.symm]; exact fp) _)
 have hp1 : upd (upd H dx (.own p)) p (.ins C dx []) p = some (.ins C dx []) := Qd
 generalize upd (upd H dx (.own p)) p (.ins C dx []) = H1 at s1 hp1 ⊢
 refine ⟨p, d, dx, n, us, B, rfl, hp1, s1 _ _ hd, hB.same s1, bk, fun H2 hFc fr => ⟨rfl, ?_⟩⟩
 have s2 : Same H H2 := fun b o e => fr b o (s1 _ _ e) (Qp e fp)
 obtain ⟨dx2, lw, lb, lh, ls, la, ds, fs, kvs, yh, ysS, ya, hF⟩ := id hFc
 refine ⟨_, rfl, p, dx2, fs, rfl, hF.hp, hF.nC, ?_⟩
 dsimp only [tNil]
 refine ⟨p, n, B, rfl, hFc, bk, fun a H3 s3 hn hne hA => ?_⟩
 refine ⟨_, rfl, _, rfl, p, a, n, B, rfl, hFc.same s3, bk, hA, fun g1 H4 i4 => ?_⟩
 have hA4 := hA.same i4.sm
 have s4 := s3.trans i4.sm
 refine ⟨_, rfl, _, rfl, p, a, n, B, rfl, hFc.same s4, bk, hA4, fun g2 H5 i5 => ?_⟩
 obtain ⟨y1, h1, r1⟩ := i4.ex
 obtain ⟨y2, h2, r2⟩ := i5.ex
 have l1 := Paired.length r1
 have l2 := Paired.length r2
 refine ⟨g1, g2, y1, y2, rfl, rfl, i5.sm _ _ h1, h2, by omega, fun p6 hp6 => ?_⟩
 have i6 := Kj (Same.refl _) (i5.sm _ _ h1) (r1.same i5.sm) h2 r2 hp6
 have s6 := s4.trans (i5.sm.trans i6.sm)
 generalize upd H5 p6 (.lst (y1 ++ y2)) = H6 at i6 s6 ⊢
 refine ⟨_, rfl, _, rfl, p, a, n, B, rfl, hFc.same s6, bk, (hA4.same i5.sm).same i6.sm, fun g3 H7 i7 => ?_⟩
 obtain ⟨y6, h6, r6⟩ := i6.ex
 obtain ⟨y7, h7, r7⟩ := i7.ex
 have l6 := Paired.length r6
 have l7 := Paired.length r7
 rw [jY] at l6
 refine ⟨p6, g3, y6, y7, rfl, rfl, i7.sm _ _ h6, h7, by omega, fun p8 hp8 => ?_⟩
 have i8 := Kj (Same.refl _) (i7.sm _ _ h6) (r6.same i7.sm) h7 r7 hp8
 have s8 := s6.trans (i7.sm.trans i8.sm)
 generalize upd H7 p8 (.lst (y6 ++ y7)) = H8 at i8 s8 ⊢
 refine ⟨_, rfl, _, rfl, p, a, n, B, rfl, hFc.same s8, bk, (((hA4.same i5.sm).same i6.sm).same i7.sm).same i8.sm, fun g4 H9 i9 => ?_⟩
 obtain ⟨y8, h8, r8⟩ := i8.ex
 obtain ⟨y9, h9, r9⟩ := i9.ex
 have l8 := Paired.length r8
 have l9 := Paired.length r9
 rw [jY, jY] at l8
 refine ⟨p8, g4, y8, y9, rfl, rfl, i9.sm _ _ h8, h9, by omega, fun p10 hp10 => ?_⟩
 exact q p10 _ (Kj (s2.trans (s8.trans i9.sm)) (i9.sm _ _ h8) (r8.same i9.sm) h9 r9 hp10)
end
abbrev sPrb : Stmt := top 14
def wyL (B : List BR) (w v : Str) : Int × Int := match (B.filterMap (wayR w)).find? (fun x => decide (x.1 = v)) with
 | some x => x.2
 | none => (0, 0)
theorem Qkq {n : Int} {B : List BR} (wb : WB n B) {w v : Str} {l c : Int} (h : BR.way w v l c ∈ B) : wyL B w v = (l, c) := by
 have hm : (v, l, c) ∈ B.filterMap (wayR w) := yY.mpr ⟨_, h, wayR_some.mpr rfl⟩
 unfold wyL
 cases e : (B.filterMap (wayR w)).find? (fun x => decide (x.1 = v)) with
 | none => exact absurd (yQ rfl) (List.find?_eq_none.mp e _ hm)
 | some x =>
  have h1 := List.find?_some e
  have h2 := List.mem_of_find?_eq_some e
  obtain ⟨r, hr, er⟩ := yY.mp h2
  rw [wayR_some, kX h1] at er
  subst er
  obtain ⟨z1, z2⟩ := wb.way1 hr h
  show x.2 = (l, c)
  rw [← z1, ← z2]
def prcC (B : List BR) (c : Ch) : Int := Qcb B c.1 c.2.2 (wyL B c.1 c.2.1).1 (wyL B c.1 c.2.1).2
theorem Qmw {n : Int} {B : List BR} (bk : BookOk n B) (w : Str) : 0 ≤ (Je B w).1 ∧ (Je B w).1 ≤ 100 := by
 have n12 := bk.n12
 by_cases h : ∃ d k, BR.late w d k ∈ B
 ·obtain ⟨d, k, h⟩ := h
  rw [Qak bk.wb h]
  have : 0 ≤ d ∧ d ≤ n ∧ _ := bk.wb.ok _ h
  exact ⟨this.1, by show d ≤ 100; omega⟩
 ·rw [Qal (fun d k z => h ⟨d, k, z⟩)]
  exact ⟨Int.le_refl _, by decide⟩
def spPrb (K : Fg) : Sp := fun vs H Q _ => ∃ (d : Addr) (n : Int) (us : List V) (B : List BR), vs = [.ref d] ∧ H d = some (.lst us) ∧ RowsB H us B ∧ BookOk n B ∧ ∀ (t l c : Addr) (ys : List V) (H' : Hp), Same H H' → SqT K H' t [.ref l, .ref c] → H l = none → H' l = some (.lst ys) → Zv K H' ys ((labs n B).map (·.2)) → SqT K H' c (((chs n B).map (prcC B)).map V.int) → Q (.ref t) H'
section
variable {P : Program} {w : World} {K : Fg} {mg : Str → Option Value} {base : Heap}
theorem scPrb : FnScope ["book", "facts", "costs"] ["book"] (Qi sPrb) := ⟨rfl, rfl, rfl, by decide +kernel, rfl, by decide +kernel, by decide +kernel⟩
theorem okPrb {C : Addr} {fA : Addr} {fdA : FuncData} {fP : Addr} {fdP : FuncData} {fI : Addr} {fdI : FuncData} (F : Fn K mg "problem_of" sPrb) (M : Mg mg) (T : FcTxt K mg C) (mkI : Mk K C fI) (GI : FnOk P w K mg base CX0 2 fI fdI ["self", "book"] (Qcw K C)) (bI : Binds K fdI ["self", "book"] []) (GA : FnOk P w K mg base CX0 2 fA fdA ["self"] (Qhm K C)) (bA : Binds K fdA ["self"] []) (mA : Meth K C "all_choices" fA) (GP : FnOk P w K mg base CX0 2 fP fdP ["self", "choice"] (Qdy K C)) (bP : Binds K fdP ["self", "choice"] []) (mP : Meth K C "price_of" fP) (c_labelled : Cal P w K mg base 4 "labelled" ["book"] (Qhq K)) : Cal P w K mg base 5 "problem_of" ["book"] (spPrb K) := by
 refine Ye F scPrb (fun _ _ _ _ _ _ => bind1 (fun _ => rfl)) (fun vs H Q E h => ?_) (fun f cdv A outer s H vs Q E hr h => ?_)
 ·obtain ⟨d, n, us, B, rfl, _⟩ := h
  rfl
 obtain ⟨d, n, us, B, rfl, hd, hB, bk, q⟩ := h
 have hz : (50000 : Nat) < sizeLine := by decide
 obtain ⟨k1, k2, k3, k4⟩ := Jj bk
 have kl : (labs n B).length ≤ 22000 := by
  unfold labs
  rw [jY, jY, jY]
  omega
 refine ⟨_, (Qh (Qq (i := 1) scPrb.nd rfl (Or.inr rfl) (Qfs mkI GI (hr.mono (by decide)) rfl T.mgC bI .nil Jb (Qa (pv 0) Qg)))
  (Qh (Qq (i := 2) scPrb.nd rfl (Or.inl rfl) (Xc Xb rfl M.tuple_ Xy (Qa (Zf ["choice", "facts"] [none, some 1] rfl (Qu (Qdj (pv 1) T.cl mA GA (hr.mono (by decide)) bA .nil Jb)) (fun _ _ _ => (Qn (i := 0) (show (["choice", "facts"] : List Str).Nodup by decide +kernel) rfl (Or.inl rfl) (Or.inr rfl))) (fun _ _ _ => Yq) (fun _ _ _ => (Zh (pv 1) T.cl mP GP (hr.mono (by decide)) bP .nil Jb (Qa (pv 0) Qg)))) Qg)))
  (Qj (Xe (Qx (Qa (Zf ["label", "row"] [none, none] rfl (Qu (Xx c_labelled (hr.mono (by decide)) (Qa (pv 0) Qg))) (fun _ _ _ => (Zt (K := K) (i := 0) (j := 1) rfl rfl (show (["label", "row"] : List Str).Nodup by decide +kernel) rfl rfl rfl rfl)) (fun _ _ _ => Yq) (fun _ _ _ => (pv 1))) (Qa (pv 2) Qg))))))), ?_⟩
 refine ⟨_, rfl, fun p dx fp fdx ndx => ?_⟩
 dsimp only [tNil]
 have s1 : Same H (upd (upd H dx (.own p)) p (.ins C dx [])) := (Qc fdx _).trans (Qc (by rw [Qk ndx.symm]; exact fp) _)
 have hp1 : upd (upd H dx (.own p)) p (.ins C dx []) p = some (.ins C dx []) := Qd
 generalize upd (upd H dx (.own p)) p (.ins C dx []) = H1 at s1 hp1 ⊢
 refine ⟨p, d, dx, n, us, B, rfl, hp1, s1 _ _ hd, hB.same s1, bk, fun H2 hFc fr => ⟨rfl, ?_⟩⟩
 have s2 : Same H H2 := fun b o e => fr b o (s1 _ _ e) (Qp e fp)
 obtain ⟨dx2, lw, lb, lh, ls, la, ds, fs, kvs, yh, ysS, ya, hF⟩ := id hFc
 refine ⟨_, rfl, p, dx2, fs, rfl, hF.hp, hF.nC, ?_⟩
 dsimp only [tNil]
 refine ⟨p, n, B, rfl, hFc, bk, fun a H3 s3 hn hne hA => ?_⟩
 obtain ⟨vs, hv, _⟩ := hA.ex
 refine ⟨a, rfl, ⟨_, hv⟩, fun D hD => Kp (f := prcC B) (cs := [some (.ref p)]) rfl hA hD (fun ch t H4 hc s4 ht Pq k => ?_) (fun H4 s4 hD4 => ?_)⟩
 ·obtain ⟨l, cc, hw, b0, b1⟩ := Jg hc
  have n12 := bk.n12
  obtain ⟨z1, z2⟩ := Qmw bk ch.1
  refine ⟨_, rfl, p, dx2, fs, rfl, s4 _ _ (s3 _ _ hF.hp), hF.nP, _, rfl, p, t, n, B, ch.1, ch.2.1, ch.2.2, l, cc, rfl, hFc.same (s3.trans s4), bk.wb, ht, hw, b0, by omega, z1, z2, fun H5 s5 => ?_⟩
  have := k H5 s5
  unfold prcC at this
  rw [Qkq bk.wb hw] at this
  exact this
 refine ⟨D, _, rfl, .inl ⟨Qb hD4, fun tc htc => ?_⟩⟩
 have s5 := s2.trans (s3.trans (s4.trans (Qc htc (.tup (((chs n B).map (prcC B)).map V.int)))))
 have hc5 : SqT K (upd H4 tc (.tup (((chs n B).map (prcC B)).map V.int))) tc (((chs n B).map (prcC B)).map V.int) := Qs Qd
 generalize upd H4 tc (.tup (((chs n B).map (prcC B)).map V.int)) = H5 at s5 hc5 ⊢
 refine ⟨_, rfl, d, n, us, B, rfl, s5 _ _ hd, hB.same s5, bk, fun g H6 i6 => ?_⟩
 obtain ⟨y6, h6, r6⟩ := i6.ex
 have l6 := Paired.length r6
 refine ⟨g, rfl, ⟨_, Qb h6⟩, fun D2 hD2 => ?_⟩
 let Pv36 : Nat → St → List V → Hp → Prop := fun i τ ys H7 => ∃ u v : Option V, τ = [u, v] ∧ Zv K H7 ys (((labs n B).take i).map (·.2)) ∧ H7 D2 = some (.lst ys) ∧ Same H6 H7
 refine Yo (n := (labs n B).length) Pv36 ?_ (fun i τ ys H7 hi h => ?_) (fun i τ ys H7 hi h => ?_) (fun τ ys H7 h => ?_) ?_ ?_
 ·exact ⟨none, none, rfl, .nil, Qd, Qc hD2 _⟩
 ·obtain ⟨u, v, rfl, hR, hE, sv⟩ := h
  have := Paired.length hR
  rw [jX, zQ] at this
  exact ⟨hE, by omega⟩
 ·obtain ⟨u, v, rfl, hR, hE, sv⟩ := h
  exact ⟨y6, _, Qb (sv _ _ h6), gE (by omega)⟩
 ·obtain ⟨u, v, rfl, hR, hE, sv⟩ := h
  exact ⟨y6, Qb (sv _ _ h6), by omega⟩
 ·rintro i τ ys H7 x H8 hi ⟨u, v, rfl, hR, hE, sv⟩ ⟨rfl, e1⟩
  obtain ⟨lb, el, t, a1, b1, rfl, z1, z2, z3⟩ := Qy r6 (e1 _ (Qb (sv _ _ h6)))
  refine ⟨t, _, rfl, sv.tup z1, rfl, _, _, rfl, _, _, rfl, rfl, _, rfl, hE, _, _, rfl, ?_, Qd, Yc sv hD2⟩
  rw [Zz el, kK]
  have up : ∀ {t r}, RowAt K H8 t r → RowAt K (upd H8 D2 (.lst (ys ++ [.ref b1]))) t r := fun ⟨p, q1, q2⟩ => ⟨p, Xi hE q1, Xi hE q2⟩
  exact Paired.snoc (Paired.mapP hR fun _ _ ⟨t, e, z⟩ => ⟨t, e, up z⟩) ⟨b1, rfl, up (z3.same sv)⟩
 rintro τ ys H7 ⟨u, v, rfl, hR, hE, sv⟩
 rw [kY] at hR
 refine ⟨_, rfl, by show 2 ≤ sizeLine; decide, fun t ht => ?_⟩
 have st := Qc ht (.tup [.ref D2, .ref tc])
 have sA := s5.trans (i6.sm.trans (sv.trans st))
 refine q t D2 tc ys _ sA (Qs Qd) ((s5.trans i6.sm).free hD2) (st _ _ hE) (Paired.mapP hR fun _ _ ⟨t, e, z⟩ => ⟨t, e, z.same st⟩) ((i6.sm.trans (sv.trans st)).tup hc5)
end
end Nb
namespace L2
open PySem PySem.Spec PyProof.Rows PySem.SeqAt
section
variable {X : Cx}
theorem Qjt {tg a : Expr} {td : TE} (ha : PE X a td) : PI X tg a (iKeys (NF X) td) := by
 intro pins s σ H R I h
 refine thn (ha pins s σ H _ I h) fun v s1 hqP => ?_
 obtain ⟨x, H1, I1, r1, q1⟩ := hqP
 obtain ⟨d, kvs, e, hd, q⟩ := q1
 subst e
 obtain rfl : v = Value.ref d := r1
 have nf := I1.nf hd
 obtain ⟨o, ho, I2⟩ := I1.freeze hd
 obtain ⟨z, hd', vs, rel, dd⟩ := Qls I1.hok hd
 obtain ⟨o', es', ep, h1, h2, h3, h4⟩ := id dd
 rw [ho] at h1
 cases h1
 obtain ⟨vs', rel', da⟩ := Qgz I2.hok Qd h3
 have lr := rel'.length
 refine wpAny_pyIter_dict hd' da ?_
 have I4 : Inv X pins σ (upd H1 d (.frz o (.dK kvs))) { s1 with heap := s1.heap.push { cls := .type "dict_keyiterator", data := .fields #[.ref d, .int 0 0, .int vs'.length 0, .int ep 0] } } := I2.kept (t' := s1.toks) fun b o z => jW _ z
 refine ⟨s1.heap.objs.size, [s1.heap.objs.size], _, Itk d o kvs, _, rfl, I4, Qhi, ⟨es', ep, h3, ?_⟩, fun c hc => ?_, q nf o⟩
 ·rw [lr]
  exact ⟨_, yK _ rfl, rfl, rfl⟩
 ·simp only [zY, jXc, or_false] at hc
  subst hc
  exact I2.fpOk (jZ _) (I2.hok.fresh (jZ _))
end
theorem Qju {d : Addr} {o : Obj} {kvs : List (Key × V)} {g : TG} {tb : TS} {D : Ends} {σ : St} {H : Hp} (Pv : Nat → St → Hp → Prop) (h0 : Pv 0 σ H) (hl : ∀ i σ H, i ≤ kvs.length → Pv i σ H → H d = some (.frz o (.dK kvs)))
  (hs : ∀ i k x σ H, kvs[i]? = some (k, x) → Pv i σ H → g (kV k) σ H fun σ2 H2 => tb { D with nx := Pv (i + 1), ct := Pv (i + 1), bk := D.nx } σ2 H2) (hd : ∀ σ H, Pv kvs.length σ H → D.nx σ H) :
  ∃ W : Nat → Nat → St → Hp → Prop, (∃ m, W 0 m σ H) ∧ ∀ i n σ H, W i n σ H →
   ((Itk d o kvs).stop i H ∧ D.nx σ H) ∨ ((Itk d o kvs).go i H ∧ ∃ N : St → Hp → Prop, (∀ σ' H', N σ' H' → ∃ m', m' < n ∧ W (i + 1) m' σ' H') ∧ ∀ x H', (Itk d o kvs).yld i H x H' → g x σ H' fun σ2 H2 => tb { D with nx := N, ct := N, bk := D.nx } σ2 H2) := by
 refine ⟨fun i n σ H => n = kvs.length - i ∧ i ≤ kvs.length ∧ Pv i σ H, ⟨_, rfl, jQd _, h0⟩, ?_⟩
 rintro i n σ H ⟨rfl, hi, p⟩
 have q1 := hl i σ H hi p
 by_cases hlt : i < kvs.length
 ·refine .inr ⟨⟨q1, hlt⟩, Pv (i + 1), fun σ' H' p' => ⟨kvs.length - (i + 1), by omega, rfl, hlt, p'⟩, fun x H' y => ?_⟩
  obtain ⟨k, u, rfl, rfl, y1⟩ := y
  exact hs i k u σ H' y1 p
 ·have e : i = kvs.length := by omega
  subst e
  exact .inl ⟨⟨q1, jZ _⟩, hd σ H p⟩
end L2
namespace Nb
open PySem L2
structure BkAt (H : Hp) (d : Addr) (n : Int) (B : List BR) : Prop where
 ex : ∃ us, H d = some (.lst us) ∧ RowsB H us B
 bk : BookOk n B
theorem BkAt.same {H H' : Hp} (s : Same H H') {d : Addr} {n : Int} {B : List BR} (h : BkAt H d n B) : BkAt H' d n B := ⟨let ⟨us, h1, h2⟩ := h.ex; ⟨us, s _ _ h1, h2.same s⟩, h.bk⟩
theorem BkAt.days {H : Hp} {d : Addr} {n : Int} {B : List BR} (h : BkAt H d n B) : ∃ us l0, H d = some (.lst us) ∧ RowsB H us B ∧ atI us 0 = some (.ref l0) ∧ H l0 = some (.lst ((BR.days n).cells.map kV)) := by
 obtain ⟨us, h1, h2⟩ := h.ex
 have lu := h2.length
 obtain ⟨u0, eu0⟩ : ∃ u0, us[0]? = some u0 := ⟨_, gE (by
  rw [lu]
  exact (kQ.mp h.bk.hd).1)⟩
 obtain ⟨r0, ld, er0, rfl, hr0⟩ := h2.get eu0
 rw [h.bk.hd] at er0
 cases er0
 exact ⟨us, ld, h1, h2, Qgf (k := 0) eu0, hr0⟩
theorem Qar (n : Int) : atI ((BR.days n).cells.map kV) 1 = some (.int n) := rfl
theorem lc_bk {α : Type} {f : BR → Option α} (R : Hp → V → α → Prop) (Rs : ∀ {H H' v x}, Same H H' → R H v x → R H' v x) (Ru : ∀ {H g ys zs v x}, H g = some (.lst ys) → R H v x → R (upd H g (.lst zs)) v x)
  {K : Fg} {H : Hp} {d D : Addr} {us : List V} {B : List BR} {cs τ0 : St} {tt : TT} {te : TE} {Q : Addr → Hp → Prop} (hτ : τ0 = none :: cs) (h1 : H d = some (.lst us)) (h2 : RowsB H us B) (bl : B.length ≤ 400) (hD : H D = none)
  (hs : ∀ (r : BR) (lr : Addr) (H1 : Hp), r ∈ B → Same H H1 → H1 lr = some (.lst (r.cells.map kV)) → ∀ (P1 : V → Hp → Prop) (P2 : Hp → Prop), (∀ v H2 x, f r = some x → Same H1 H2 → R H2 v x → P1 v H2) → (f r = none → ∀ H2, Same H1 H2 → P2 H2) →
   tt (some (.ref lr) :: cs) H1 fun ok H3 => if ok = true then te (some (.ref lr) :: cs) H3 P1 else P2 H3)
  (hd : ∀ ys H1, Same H H1 → H1 D = some (.lst ys) → Paired (R H1) ys (B.filterMap f) → Q D H1) :
  LcW (Itl K d) D τ0 H (Kq 0) tt te Q := by
 subst hτ
 have lu := h2.length
 have hz : (20000 : Nat) < sizeLine := by decide
 let Pv37 : Nat → St → List V → Hp → Prop := fun i τ ys H1 => ∃ v : Option V, τ = v :: cs ∧ Paired (R H1) ys ((B.take i).filterMap f) ∧ ys.length ≤ i ∧ H1 D = some (.lst ys) ∧ Same H H1
 refine Yo (n := B.length) Pv37 ?_ (fun i τ ys H1 hi h => ?_) (fun i τ ys H1 hi h => ?_) (fun τ ys H1 h => ?_) ?_ ?_
 ·exact ⟨none, rfl, .nil, jZ _, Qd, Qc hD _⟩
 ·obtain ⟨v, rfl, hR, hl, hE, sv⟩ := h
  exact ⟨hE, by omega⟩
 ·obtain ⟨v, rfl, hR, hl, hE, sv⟩ := h
  exact ⟨us, _, Qb (sv _ _ h1), gE (by omega)⟩
 ·obtain ⟨v, rfl, hR, hl, hE, sv⟩ := h
  exact ⟨us, Qb (sv _ _ h1), by omega⟩
 ·rintro i τ ys H1 x H2 hi ⟨v, rfl, hR, hl, hE, sv⟩ ⟨rfl, e1⟩
  obtain ⟨r, lr, er, rfl, hr⟩ := (h2.same sv).get (e1 _ (Qb (sv _ _ h1)))
  refine hs r lr _ (kZ er) sv hr _ _ (fun v H3 x e s3 hx => ⟨s3 _ _ hE, _, rfl, ?_, by rw [jY]; exact wX hl, Qd, Yc (sv.trans s3) hD⟩) (fun e H3 s3 => ⟨_, rfl, ?_, by omega, s3 _ _ hE, sv.trans s3⟩)
  ·rw [Xf f er, e]
   exact Paired.snoc (Paired.mapP hR fun _ _ z => Ru (s3 _ _ hE) (Rs s3 z)) (Ru (s3 _ _ hE) hx)
  ·rw [Xf f er, e, jQf, yW]
   exact Paired.mapP hR fun _ _ z => Rs s3 z
 ·rintro τ ys H1 ⟨v, rfl, hR, hl, hE, sv⟩
  rw [kY] at hR
  exact hd ys H1 sv hE hR
theorem Wb : ∀ {ys : List V} {xs : List Int}, Paired (fun v x => v = V.int x) ys xs → ys = xs.map V.int
 | _, _, .nil => rfl
 | _, _, .cons e t => by rw [e, Wb t, xY]
def WyV (K : Fg) (H : Hp) (v : V) (x : Str × Int × Int) : Prop := ∃ t, v = .ref t ∧ SqT K H t [.str x.1, .int x.2.1, .int x.2.2]
def PlOne (K : Fg) (H : Hp) (P : Addr) (w v : Str) (b : Int) : Prop := ∃ t, H P = some (.dK [(Sum.inr w, .ref t)]) ∧ SqT K H t [.str v, .int b]
theorem PlOne.same {K : Fg} {H H' : Hp} (s : Same H H') {P : Addr} {w v : Str} {b : Int} (h : PlOne K H P w v b) : PlOne K H' P w v b := by obtain ⟨t, h1, h2⟩ := h; exact ⟨t, s _ _ h1, s.tup h2⟩
theorem Vc {K : Fg} {H : Hp} {P t : Addr} {w v : Str} {b : Int} (hP : H P = none) (ht : upd H P (.dK []) t = none) :
  upd (upd H P (.dK [])) t (.tup [.str v, .int b]) P = some (.dK []) ∧ Same H (upd (upd (upd H P (.dK [])) t (.tup [.str v, .int b])) P (.dK (Jd [] [(Sum.inr w, .ref t)]))) ∧ PlOne K (upd (upd (upd H P (.dK [])) t (.tup [.str v, .int b])) P (.dK (Jd [] [(Sum.inr w, .ref t)]))) P w v b := by
 have ne : t ≠ P := fun e => by rw [e, Qd] at ht; cases ht
 have s1 := (Qc hP (.dK [])).trans (Qc ht (.tup [.str v, .int b]))
 refine ⟨by rw [Qk ne.symm, Qd], Yc s1 hP, t, by rw [Qd]; rfl, Qs ?_⟩
 rw [Qk ne, Qd]
theorem Qjv (a b c : V) : cutV [a, b, c] (some 1) none = [b, c] := by
 unfold cutV
 rfl
theorem at_way {w v : Str} {l c : Int} : atI ((BR.way w v l c).cells.map kV) 1 = some (.str w) ∧ atI ((BR.way w v l c).cells.map kV) 2 = some (.str v) ∧ atI ((BR.way w v l c).cells.map kV) 3 = some (.int l) ∧ atI ((BR.way w v l c).cells.map kV) 4 = some (.int c) := ⟨rfl, rfl, rfl, rfl⟩
theorem Qmx {w : Str} {r : BR} (h : r.word ≠ "way") : wayR w r = none := by
 cases r with
 | way w' v l c => exact absurd rfl h
 | _ => rfl
theorem Qmy {w w' v : Str} {l c : Int} (h : w' ≠ w) : wayR w (.way w' v l c) = none := if_neg h
theorem Qmz {w v : Str} {l c : Int} : wayR w (.way w v l c) = some (v, l, c) := if_pos rfl
abbrev sMny : Stmt := top 30
theorem cut14 (ks : List Key) (h : 4 ≤ ks.length) : cutV (ks.map kV) (some 1) (some 4) = ((ks.drop 1).take 3).map kV := by
 unfold cutV
 rw [show (1 : Int) = ((1 : Nat) : Int) from rfl, show (4 : Int) = ((4 : Nat) : Int) from rfl, HT.sIx_nat, HT.sIx_nat, jX, jXe h, jXe (show 1 ≤ ks.length by omega), ← List.map_drop, ← List.map_take]
def Qna (K : Fg) : Sp := fun vs H Q _ => ∃ (d ch : Addr) (k : Fin 3) (w v t : Str) (b n : Int) (B : List BR), vs = [.ref d, .str (useW k), .ref ch, .str t] ∧ BkAt H d n B ∧ SqT K H ch [.str w, .str v, .int b] ∧ ∀ (H' : Hp), Same H H' → Q (.int (Zi B k w v t)) H'
section
variable {P : Program} {w : World} {K : Fg} {mg : Str → Option Value} {base : Heap}
theorem scMny : FnScope ["_law_book_here", "_law_word", "_law_choice", "_law_thing"] ["_law_book_here", "_law_word", "_law_choice", "_law_thing"] (Qi sMny) := ⟨rfl, rfl, rfl, by decide +kernel, rfl, by decide +kernel, by decide +kernel⟩
theorem okMny (F : Fn K mg "_law_many" sMny) (M : Mg mg) : Cal P w K mg base 1 "_law_many" ["_law_book_here", "_law_word", "_law_choice", "_law_thing"] (Qna K) := by
 refine Ye F scMny (fun _ _ _ _ _ _ => Qgq (fun _ _ _ _ => rfl)) (fun vs H Q E h => ?_) (fun f cdv A outer s H vs Q E hr h => ?_)
 ·obtain ⟨d, ch, k, w, v, t, b, n, B, rfl, _⟩ := h
  rfl
 obtain ⟨d, ch, k, w, v, t, b, n, B, rfl, hb, hch, q⟩ := h
 have hu6 : (A.deeper (PyProof.Rows.envOfC "_law_many" (Qi sMny) s.heap.objs.size f cdv)).units + 6 < cLine := wK (jQb (by decide) _) hr.un
 have hz : (2000000 : Nat) < sizeLine := by decide
 refine ⟨_, (Qj (Xe (Xm (Qgb rfl) rfl M.sum bt_sum (Qa (Zf ["_law_row", "_law_word", "_law_choice", "_law_thing"] [none, some 1, some 2, some 3] rfl (Qu (pv 0)) (fun _ _ _ => (Qn (i := 0) (show (["_law_row", "_law_word", "_law_choice", "_law_thing"] : List Str).Nodup by decide +kernel) rfl (Or.inl rfl) (Or.inr rfl))) (fun _ _ _ => (Jc (PW.pt (Ve (Qr Yk (Qo (Xq (K := K) rfl) (pv 0) Qe (fun _ _ => rfl)) (pv 1) (Qv _)) (Vd (Qr (op_eqK (K := K) (n := 6) rfl hu6) (Yh (Jx (K := K) rfl) (pv 0) (Ys Qe) (Ys Qe)) (Xr (Qa (Qo (Jq (K := K) rfl) (pv 2) Qe (fun _ _ => rfl)) (Qa (Qo (Jq (K := K) rfl) (pv 2) Qe (fun _ _ => rfl)) (Qa (pv 3) Qg)))) (Qv _))))))) (fun _ _ _ => (Qo (Xq (K := K) rfl) (pv 0) Qe (fun _ _ => rfl)))) Qg)))), ?_⟩
 obtain ⟨us, h1, h2⟩ := hb.ex
 refine ⟨_, rfl, d, rfl, ⟨_, Qb h1⟩, fun D hD => lc_bk (f := Jn k w v t) (fun _ v x => v = V.int x) (fun _ z => z) (fun _ z => z) (cs := [some (.str (useW k)), some (.ref ch), some (.str t)]) rfl h1 h2 hb.bk.wb.len hD (fun r lr H1 hm s1 hr P1 P2 k1 k2 => ?_) (fun ys H1 s1 hE hR => ?_)⟩
 ·refine ⟨_, rfl, lr, _, _, _, rfl, rfl, Qb hr, Yt r, _, rfl, rfl, _, rfl, ite2 (fun y => ?_) (fun y => ?_)⟩
  ·obtain ⟨w', v', t', m, rfl⟩ := Qdx (eqS y)
   refine ⟨_, rfl, _, rfl, _, rfl, lr, _, rfl, Qb hr, fun p hp => ?_⟩
   rw [cut14 _ (by show 4 ≤ 5; decide)]
   have e3 : (((BR.use k w' v' t' m).cells.drop 1).take 3).map kV = [.str w', .str v', .str t'] := rfl
   rw [e3]
   have s2 := Qc hp (.lst [.str w', .str v', .str t'])
   have hp2 : SqL K (upd H1 p (.lst [.str w', .str v', .str t'])) p ([Sum.inr w', Sum.inr v', Sum.inr t'].map kV) := Qb Qd
   generalize upd H1 p (.lst [.str w', .str v', .str t']) = H2 at s2 hp2 ⊢
   have hch2 := (s1.trans s2).tup hch
   refine ⟨_, rfl, ch, _, _, _, rfl, rfl, hch2, Jf, _, rfl, ch, _, _, _, rfl, rfl, hch2, Qmm, _, rfl, by show 3 ≤ sizeLine; decide, fun p3 hp3 => ?_⟩
   have s3 := Qc hp3 (.lst [.str w, .str v, .str t])
   refine ⟨p, p3, [Sum.inr w', Sum.inr v', Sum.inr t'], [Sum.inr w, Sum.inr v, Sum.inr t], rfl, rfl, s3.seq hp2, Qb Qd, fun c hc => ⟨_, rfl, ite2 (fun y2 => ?_) (fun y2 => ?_)⟩⟩
   ·have e := hc.mp y2
    injection e with e1 e
    injection e with e2 e
    injection e with e3
    have e1 := Sum.inr.inj e1
    have e2 := Sum.inr.inj e2
    have e3 := Sum.inr.inj e3
    subst e1 e2 e3
    exact ⟨_, rfl, lr, _, _, _, rfl, rfl, Qb (s3 _ _ (s2 _ _ hr)), (show atI ((BR.use k w' v' t' m).cells.map kV) 4 = some (.int m) from rfl), k1 _ _ _ (manyOf_some.mpr rfl) (s2.trans s3) rfl⟩
   ·refine k2 ?_ _ (s2.trans s3)
    cases e : Jn k w v t (.use k w' v' t' m) with
    | none => rfl
    | some x =>
     have e := manyOf_some.mp e
     injection e with _ e1 e2 e3
     subst e1 e2 e3
     exact absurd (hc.mpr rfl) y2
  ·refine k2 ?_ H1 (Same.refl _)
   cases e : Jn k w v t r with
   | none => rfl
   | some x =>
    have e := manyOf_some.mp e
    subst e
    exact absurd (yesS _) y
 ·have e := Wb hR
  subst e
  exact ⟨D, _, rfl, Qb hE, q H1 s1⟩
end
abbrev sWys : Stmt := top 23
def Qjw (K : Fg) : Sp := fun vs H Q _ => ∃ (d : Addr) (w : Str) (n : Int) (B : List BR), vs = [.ref d, .str w] ∧ BkAt H d n B ∧ ∀ (D : Addr) (ys : List V) (H' : Hp), Same H H' → H D = none → H' D = some (.lst ys) → Paired (WyV K H') ys (B.filterMap (wayR w)) → Q (.ref D) H'
section
variable {P : Program} {w : World} {K : Fg} {mg : Str → Option Value} {base : Heap}
theorem scWys : FnScope ["_law_book_here", "_law_work"] ["_law_book_here", "_law_work"] (Qi sWys) := ⟨rfl, rfl, rfl, by decide +kernel, rfl, by decide +kernel, by decide +kernel⟩
theorem okWys (F : Fn K mg "_law_ways" sWys) (M : Mg mg) : Cal P w K mg base 1 "_law_ways" ["_law_book_here", "_law_work"] (Qjw K) := by
 refine Ye F scWys (fun _ _ _ _ _ _ => We (fun _ _ => rfl)) (fun vs H Q E h => ?_) (fun f cdv A outer s H vs Q E hr h => ?_)
 ·obtain ⟨d, w, n, B, rfl, _⟩ := h
  rfl
 obtain ⟨d, w, n, B, rfl, hb, q⟩ := h
 have hz : (2000000 : Nat) < sizeLine := by decide
 refine ⟨_, (Qj (Xe (Zf ["_law_row", "_law_work"] [none, some 1] rfl (Qu (pv 0)) (fun _ _ _ => (Qn (i := 0) (show (["_law_row", "_law_work"] : List Str).Nodup by decide +kernel) rfl (Or.inl rfl) (Or.inr rfl))) (fun _ _ _ => (Jc (PW.pt (Ve (Qr Yk (Qo (Xq (K := K) rfl) (pv 0) Qe (fun _ _ => rfl)) Qz (Qv _)) (Vd (Qr Yk (Qo (Xq (K := K) rfl) (pv 0) Qe (fun _ _ => rfl)) (pv 1) (Qv _))))))) (fun _ _ _ => (Qx (Qa (Qo (Xq (K := K) rfl) (pv 0) Qe (fun _ _ => rfl)) (Qa (Qo (Xq (K := K) rfl) (pv 0) Qe (fun _ _ => rfl)) (Qa (Qo (Xq (K := K) rfl) (pv 0) Qe (fun _ _ => rfl)) Qg)))))))), ?_⟩
 obtain ⟨us, h1, h2⟩ := hb.ex
 refine ⟨_, rfl, d, rfl, ⟨_, Qb h1⟩, fun D hD => lc_bk (f := wayR w) (WyV K) (fun s ⟨t, e, z⟩ => ⟨t, e, s.tup z⟩) (fun hg ⟨t, e, z⟩ => ⟨t, e, Xi hg z⟩) (cs := [some (.str w)]) rfl h1 h2 hb.bk.wb.len hD (fun r lr H1 hm s1 hr P1 P2 k1 k2 => ?_) (fun ys H1 s1 hE hR => q D ys H1 s1 hD hE hR)⟩
 refine ⟨_, rfl, lr, _, _, _, rfl, rfl, Qb hr, Yt r, rfl, _, rfl, ite2 (fun y => ?_) (fun y => ?_)⟩
 ·obtain ⟨w', v, l, c, rfl⟩ := Qdt (eqS y)
  refine ⟨_, rfl, lr, _, _, _, rfl, rfl, Qb hr, at_way.1, _, rfl, rfl, _, rfl, ite2 (fun y2 => ?_) (fun y2 => ?_)⟩
  ·have e := eqS y2
   subst e
   refine ⟨_, rfl, lr, _, _, _, rfl, rfl, Qb hr, at_way.2.1, _, rfl, lr, _, _, _, rfl, rfl, Qb hr, at_way.2.2.1, _, rfl, lr, _, _, _, rfl, rfl, Qb hr, at_way.2.2.2, by show 3 ≤ sizeLine; decide, fun t ht => ?_⟩
   exact k1 _ _ _ Qmz (Qc ht _) ⟨t, rfl, Qs Qd⟩
  ·exact k2 (Qmy fun e => y2 (by rw [e]; exact yesS _)) H1 (Same.refl _)
 ·exact k2 (Qmx fun e => y (by rw [e]; exact yesS _)) H1 (Same.refl _)
end
abbrev Qhr : Stmt := top 26
theorem pl_get {K : Fg} {H : Hp} {P : Addr} {w v : Str} {b : Int} (h : PlOne K H P w v b) : ∃ t, DGet H P (.str w) (some (.ref t)) ∧ SqT K H t [.str v, .int b] := by
 obtain ⟨t, h1, h2⟩ := h
 exact ⟨t, .inl ⟨_, Sum.inr w, .inl h1, rfl, (Yi (p := (Sum.inr w, V.ref t)) (r := []) rfl).symm⟩, h2⟩
theorem Qkr {f : Str × Int × Int → Option Int} {K : Fg} {H : Hp} {a D : Addr} {vs : List V} {xs : List (Str × Int × Int)} {cs τ0 : St} {tt : TT} {te : TE} {Q : Addr → Hp → Prop} (hτ : τ0 = none :: none :: none :: cs) (h1 : H a = some (.lst vs)) (h2 : Paired (WyV K H) vs xs) (bl : xs.length ≤ 400) (hD : H D = none)
  (hs : ∀ x ∈ xs, ∀ (H1 : Hp), Same H H1 → ∀ (P1 : V → Hp → Prop) (P2 : Hp → Prop), (∀ z H2, f x = some z → Same H1 H2 → P1 (.int z) H2) → (f x = none → ∀ H2, Same H1 H2 → P2 H2) →
   tt (some (.str x.1) :: some (.int x.2.1) :: some (.int x.2.2) :: cs) H1 fun ok H3 => if ok = true then te (some (.str x.1) :: some (.int x.2.1) :: some (.int x.2.2) :: cs) H3 P1 else P2 H3)
  (hd : ∀ H1, Same H H1 → H1 D = some (.lst ((xs.filterMap f).map V.int)) → Q D H1) :
  LcW (Itl K a) D τ0 H (gTrip K 0 1 2) tt te Q := by
 subst hτ
 have lu := Paired.length h2
 have hz : (20000 : Nat) < sizeLine := by decide
 let Pv38 : Nat → St → List V → Hp → Prop := fun i τ ys H1 => ∃ u v w : Option V, τ = u :: v :: w :: cs ∧ ys = ((xs.take i).filterMap f).map V.int ∧ ys.length ≤ i ∧ H1 D = some (.lst ys) ∧ Same H H1
 refine Yo (n := xs.length) Pv38 ?_ (fun i τ ys H1 hi h => ?_) (fun i τ ys H1 hi h => ?_) (fun τ ys H1 h => ?_) ?_ ?_
 ·exact ⟨none, none, none, rfl, rfl, jZ _, Qd, Qc hD _⟩
 ·obtain ⟨u, v, w, rfl, hR, hl, hE, sv⟩ := h
  exact ⟨hE, by omega⟩
 ·obtain ⟨u, v, w, rfl, hR, hl, hE, sv⟩ := h
  exact ⟨vs, _, Qb (sv _ _ h1), gE (by omega)⟩
 ·obtain ⟨u, v, w, rfl, hR, hl, hE, sv⟩ := h
  exact ⟨vs, Qb (sv _ _ h1), by omega⟩
 ·rintro i τ ys H1 x H2 hi ⟨u, v, w, rfl, hR, hl, hE, sv⟩ ⟨rfl, e1⟩
  obtain ⟨x, er, t, rfl, ht⟩ := Qy h2 (e1 _ (Qb (sv _ _ h1)))
  refine ⟨t, _, rfl, sv.tup ht, rfl, _, _, rfl, _, _, rfl, _, _, rfl, rfl, ?_⟩
  refine hs x (kZ er) _ sv _ _ (fun z H3 e s3 => ⟨s3 _ _ hE, _, _, _, rfl, ?_, by rw [jY]; exact wX hl, Qd, Yc (sv.trans s3) hD⟩) (fun e H3 s3 => ⟨_, _, _, rfl, ?_, by omega, s3 _ _ hE, sv.trans s3⟩)
  ·rw [Xf f er, e, kK, hR]; rfl
  ·rw [Xf f er, e, jQf, yW]; exact hR
 ·rintro τ ys H1 ⟨u, v, w, rfl, hR, hl, hE, sv⟩
  rw [kY] at hR
  subst hR
  exact hd H1 sv hE
def pkL (v : Str) (x : Str × Int × Int) : Option Int := if x.1 = v then some x.2.1 else none
def pkC (v : Str) (x : Str × Int × Int) : Option Int := if x.1 = v then some x.2.2 else none
theorem Qea {xs : List Int} {a : Int} (h : ∀ x ∈ xs, x = a) (hm : a ∈ xs) : atI (xs.map V.int) 0 = some (.int a) := by
 cases xs with
 | nil => exact nomatch hm
 | cons x xs => rw [h x (zX ..)]; exact Qgf (k := 0) rfl
theorem Qhs {n : Int} {B : List BR} (wb : WB n B) {w v : Str} {l c : Int} (h : BR.way w v l c ∈ B) : atI (((B.filterMap (wayR w)).filterMap (pkL v)).map V.int) 0 = some (.int l) ∧ atI (((B.filterMap (wayR w)).filterMap (pkC v)).map V.int) 0 = some (.int c) := by
 have hm : (v, l, c) ∈ B.filterMap (wayR w) := yY.mpr ⟨_, h, wayR_some.mpr rfl⟩
 have all : ∀ x ∈ B.filterMap (wayR w), x.1 = v → x.2.1 = l ∧ x.2.2 = c := fun x hx e => by
  obtain ⟨r, hr, er⟩ := yY.mp hx
  rw [wayR_some, e] at er
  subst er
  exact wb.way1 hr h
 refine ⟨Qea (fun z hz => ?_) (yY.mpr ⟨_, hm, if_pos rfl⟩), Qea (fun z hz => ?_) (yY.mpr ⟨_, hm, if_pos rfl⟩)⟩
 ·obtain ⟨x, hx, e⟩ := yY.mp hz
  unfold pkL at e
  split at e
  ·rename_i e2
   cases e
   exact (all x hx e2).1
  ·cases e
 ·obtain ⟨x, hx, e⟩ := yY.mp hz
  unfold pkC at e
  split at e
  ·rename_i e2
   cases e
   exact (all x hx e2).2
  ·cases e
def Qcf (K : Fg) : Sp := fun vs H Q _ => ∃ (d P : Addr) (w v : Str) (b l c n : Int) (B : List BR), vs = [.ref d, .ref P, .str w] ∧ BkAt H d n B ∧ PlOne K H P w v b ∧ BR.way w v l c ∈ B ∧ ∀ (H' : Hp), Same H H' → Q (.int (b + l)) H'
section
variable {P : Program} {w : World} {K : Fg} {mg : Str → Option Value} {base : Heap}
theorem scLEnd : FnScope ["_law_book_here", "_law_plan", "_law_work", "_law_way_here", "_law_begin"] ["_law_book_here", "_law_plan", "_law_work"] (Qi Qhr) := ⟨rfl, rfl, rfl, by decide +kernel, rfl, by decide +kernel, by decide +kernel⟩
theorem okLEnd (F : Fn K mg "_law_end" Qhr) (M : Mg mg) (cl_ways : Cal P w K mg base 1 "_law_ways" ["_law_book_here", "_law_work"] (Qjw K)) : Cal P w K mg base 2 "_law_end" ["_law_book_here", "_law_plan", "_law_work"] (Qcf K) := by
 refine Ye F scLEnd (fun _ _ _ _ _ _ => Qiu (fun _ _ _ => rfl)) (fun vs H Q E h => ?_) (fun f cdv A outer s H vs Q E hr h => ?_)
 ·obtain ⟨d, P, w, v, b, l, c, n, B, rfl, _⟩ := h
  rfl
 obtain ⟨d, P, w, v, b, l, c, n, B, rfl, hb, hP, hw, q⟩ := h
 have hu : (A.deeper (PyProof.Rows.envOfC "_law_end" (Qi Qhr) s.heap.objs.size f cdv)).units + 1 < cLine := wK (jQb (by decide) _) hr.un
 have hz : (2000000 : Nat) < sizeLine := by decide
 refine ⟨_, (Qh (ps_asg (Ka hu (pv 1) (pv 2) (fun _ _ => rfl)) (Qaw rfl (Yn (Qn (i := 3) scLEnd.nd rfl (Or.inr rfl) (Or.inl rfl)) (Yn (Qn (i := 4) scLEnd.nd rfl (Or.inl rfl) (Or.inl rfl)) Vf))))
  (Qj (Xe (Ql Qt (pv 4) (Qo Qm (Zf ["_law_name_here", "_law_length", "_law_cost_here", "_law_way_here"] [none, none, none, some 3] rfl (Qu (Xx cl_ways (hr.mono (by decide)) (Qa (pv 0) (Qa (pv 2) Qg)))) (fun _ _ _ => (Qcr (K := K) (i := 0) (j := 1) (l := 2) rfl rfl (show (["_law_name_here", "_law_length", "_law_cost_here", "_law_way_here"] : List Str).Nodup by decide +kernel) rfl rfl rfl rfl rfl rfl)) (fun _ _ _ => (Jc (Qr Yk (pv 0) (pv 3) (Qv _)))) (fun _ _ _ => (pv 1))) Qe (fun _ _ => rfl)))))), ?_⟩
 have bl := hb.bk.wb.len
 have wl := kW (wayR w) B
 obtain ⟨t, dg, ht⟩ := pl_get hP
 refine ⟨_, rfl, _, rfl, P, _, rfl, dg, t, _, rfl, ht, rfl, _, _, rfl, _, _, rfl, rfl, ?_⟩
 refine ⟨_, rfl, _, rfl, _, rfl, d, w, n, B, rfl, hb, fun a ys H2 s2 _ ha hW => ?_⟩
 refine ⟨a, rfl, ⟨_, Qb ha⟩, fun D hD => Qkr (f := pkL v) (cs := [some (.str v)]) rfl ha hW (by omega) hD (fun x hx H3 s3 P1 P2 k1 k2 => ?_) (fun H3 s3 hE => ?_)⟩
 ·refine ⟨_, rfl, _, rfl, rfl, _, rfl, ite2 (fun y => ?_) (fun y => ?_)⟩
  ·exact ⟨_, rfl, k1 _ _ (if_pos (eqS y)) (Same.refl _)⟩
  ·exact k2 (if_neg fun e => y (by rw [e]; exact yesS _)) _ (Same.refl _)
 ·exact ⟨D, _, _, _, rfl, rfl, Qb hE, (Qhs hb.bk.wb hw).1, _, _, rfl, rfl, q _ (s2.trans s3)⟩
end
abbrev Qjx : Stmt := top 31
def Qks (K : Fg) : Sp := fun vs H Q _ => ∃ (d ch : Addr) (w v s : Str) (b l c day n : Int) (B : List BR), vs = [.ref d, .ref ch, .str s, .int day] ∧ BkAt H d n B ∧ SqT K H ch [.str w, .str v, .int b] ∧ BR.way w v l c ∈ B ∧ ∀ (H' : Hp), Same H H' → Q (.int (Zg B s day (w, v, b))) H'
section
variable {P : Program} {w : World} {K : Fg} {mg : Str → Option Value} {base : Heap}
theorem scFlow : FnScope ["_law_book_here", "_law_choice", "_law_store_here", "_law_day", "_law_end_here", "_law_found"] ["_law_book_here", "_law_choice", "_law_store_here", "_law_day"] (Qi Qjx) := ⟨rfl, rfl, rfl, by decide +kernel, rfl, by decide +kernel, by decide +kernel⟩
theorem okFlow (F : Fn K mg "_law_flow" Qjx) (M : Mg mg) (cl_end : Cal P w K mg base 2 "_law_end" ["_law_book_here", "_law_plan", "_law_work"] (Qcf K)) (cl_many : Cal P w K mg base 1 "_law_many" ["_law_book_here", "_law_word", "_law_choice", "_law_thing"] (Qna K)) : Cal P w K mg base 3 "_law_flow" ["_law_book_here", "_law_choice", "_law_store_here", "_law_day"] (Qks K) := by
 refine Ye F scFlow (fun _ _ _ _ _ _ => Qgq (fun _ _ _ _ => rfl)) (fun vs H Q E h => ?_) (fun f cdv A outer s H vs Q E hr h => ?_)
 ·obtain ⟨d, ch, w, v, s, b, l, c, day, n, B, rfl, _⟩ := h
  rfl
 obtain ⟨d, ch, w, v, st, b, l, c, day, n, B, rfl, hb, hch, hw, q⟩ := h
 have hz : (2000000 : Nat) < sizeLine := by decide
 refine ⟨_, (Qh (Qq (i := 4) scFlow.nd rfl (Or.inl rfl) (Xx cl_end (hr.mono (by decide)) (Qa (pv 0) (Qa (Wy (Kv (Qo Xn (pv 1) Qe (fun _ _ => rfl)) (Yh Kn (pv 1) (Ys Qe) Yy) Wx) rfl rfl (jJe _ _) (by decide)) (Qa (Qo Xn (pv 1) Qe (fun _ _ => rfl)) Qg)))))
  (Qh (Qq (i := 5) scFlow.nd rfl (Or.inl rfl) Qe)
  (Qh (Yu (Qr Kr (Qo Xn (pv 1) Qe (fun _ _ => rfl)) (pv 3) (Qv _)) (Qj (Qq (i := 5) scFlow.nd rfl (Or.inl rfl) (Ql Zj Qe (Xx cl_many (hr.mono (by decide)) (Qa (pv 0) (Qa Qz (Qa (pv 1) (Qa (pv 2) Qg)))))))) Xj)
  (Qh (Yu (Qr Kr (pv 4) (pv 3) (Qv _)) (Qj (Qq (i := 5) scFlow.nd rfl (Or.inl rfl) (Ql Qt (pv 5) (Xx cl_many (hr.mono (by decide)) (Qa (pv 0) (Qa Qz (Qa (pv 1) (Qa (pv 2) Qg)))))))) Xj)
  (Qj (Xe (pv 5))))))), ?_⟩
 have el := Zp hb.bk.wb hw
 refine ⟨_, rfl, fun P hP => ?_⟩
 have hch1 := (Qc hP (.dK [])).tup hch
 refine ⟨_, rfl, ch, _, _, _, rfl, rfl, hch1, Jf, _, rfl, _, rfl, ch, _, rfl, hch1, (by show ¬ (HT.sIx 3 0 (some 1) = 0 ∧ HT.sIx 3 3 none = 3); decide), fun tp htp => ?_⟩
 rw [Qjv]
 obtain ⟨p1, s2, hpl⟩ := Vc (K := K) (w := w) (v := v) (b := b) hP htp
 refine ⟨p1, [(Sum.inr w, .ref tp)], rfl, by show 1 ≤ 15; decide, ?_⟩
 generalize upd (upd (upd H P (.dK [])) tp (.tup [.str v, .int b])) P (.dK (Jd [] [(Sum.inr w, .ref tp)])) = H2 at s2 hpl ⊢
 refine ⟨_, rfl, ch, _, _, _, rfl, rfl, s2.tup hch, Jf, d, P, w, v, b, l, c, n, B, rfl, hb.same s2, hpl, hw, fun H3 s3 => ?_⟩
 have s23 := s2.trans s3
 have hg : ∀ H', Same H H' → ∀ z, z = (if b + l ≤ day then Zi B 2 w v st else 0) - (if b ≤ day then Zi B 1 w v st else 0) → Q (.int z) H' := fun H' s' z e => by
  have := q H' s'
  unfold Zg at this
  rw [el] at this
  rw [e]
  exact this
 refine ⟨_, rfl, ch, _, _, _, rfl, rfl, s23.tup hch, Qcz, _, rfl, _, _, rfl, rfl, _, rfl, ite2 (fun y => ?_) (fun y => ?_)⟩
 ·refine ⟨_, rfl, _, rfl, _, rfl, d, ch, 1, w, v, st, b, n, B, rfl, hb.same s23, s23.tup hch, fun H4 s4 => ⟨_, _, rfl, rfl, ?_⟩⟩
  have s24 := s23.trans s4
  refine ⟨_, rfl, _, rfl, _, _, rfl, rfl, _, rfl, ite2 (fun y2 => ?_) (fun y2 => ?_)⟩
  ·refine ⟨_, rfl, _, rfl, _, rfl, _, rfl, d, ch, 2, w, v, st, b, n, B, rfl, hb.same s24, s24.tup hch, fun H5 s5 => ⟨_, _, rfl, rfl, _, rfl, hg _ (s24.trans s5) _ ?_⟩⟩
   rw [if_pos (kX y), if_pos (kX y2)]; omega
  ·refine ⟨_, rfl, hg _ s24 _ ?_⟩
   rw [if_pos (kX y), if_neg (fun z => y2 (yQ z))]
 ·refine ⟨_, rfl, _, rfl, _, _, rfl, rfl, _, rfl, ite2 (fun y2 => ?_) (fun y2 => ?_)⟩
  ·refine ⟨_, rfl, _, rfl, _, rfl, _, rfl, d, ch, 2, w, v, st, b, n, B, rfl, hb.same s23, s23.tup hch, fun H5 s5 => ⟨_, _, rfl, rfl, _, rfl, hg _ (s23.trans s5) _ ?_⟩⟩
   rw [if_neg (fun z => y (yQ z)), if_pos (kX y2)]; omega
  ·refine ⟨_, rfl, hg _ s23 _ ?_⟩
   rw [if_neg (fun z => y (yQ z)), if_neg (fun z => y2 (yQ z))]; rfl
end
abbrev sRm : Stmt := top 32
theorem Qht {B : List BR} {b : Str} {r day : Int} {q : BR} (h : q ∈ B) (hs : Yw b day q = true) : Wf B b r day = 0 := by
 unfold Wf
 rw [if_neg]
 intro z
 have : q ∈ B.filter (Yw b day) := xW.mpr ⟨h, hs⟩
 rw [jJd.mp z] at this
 exact nomatch this
theorem Qnb {B : List BR} {b : Str} {r day : Int} (h : ∀ q ∈ B, Yw b day q = false) : Wf B b r day = r := by
 unfold Wf
 rw [if_pos]
 rw [jJd, List.filter_eq_nil_iff]
 intro q hq
 rw [h q hq]
 exact kJ
def spRm (K : Fg) : Sp := fun vs H Q _ => ∃ (d : Addr) (b : Str) (r day n : Int) (B : List BR), vs = [.ref d, .str b, .int r, .int day] ∧ BkAt H d n B ∧ Q (.int (Wf B b r day)) H
section
variable {P : Program} {w : World} {K : Fg} {mg : Str → Option Value} {base : Heap}
theorem scRm : FnScope ["_law_book_here", "_law_bench_here", "_law_room_here", "_law_day", "_law_row"] ["_law_book_here", "_law_bench_here", "_law_room_here", "_law_day"] (Qi sRm) := ⟨rfl, rfl, rfl, by decide +kernel, rfl, by decide +kernel, by decide +kernel⟩
theorem okRm (F : Fn K mg "_law_room" sRm) (M : Mg mg) : Cal P w K mg base 1 "_law_room" ["_law_book_here", "_law_bench_here", "_law_room_here", "_law_day"] (spRm K) := by
 refine Ye F scRm (fun _ _ _ _ _ _ => Qgq (fun _ _ _ _ => rfl)) (fun vs H Q E h => ?_) (fun f cdv A outer s H vs Q E hr h => ?_)
 ·obtain ⟨d, b, r, day, n, B, rfl, _⟩ := h
  rfl
 obtain ⟨d, b, r, day, n, B, rfl, hb, q⟩ := h
 have hz : (2000000 : Nat) < sizeLine := by decide
 refine ⟨_, (Qh (Xk PassesOwn.never rfl (Qu (pv 0)) (Qn (i := 4) scRm.nd rfl (Or.inl rfl) (Or.inl rfl)) (Qj (Yu (PW.pt (Ve (Qr Yk (Qo Qm (pv 4) Qe (fun _ _ => rfl)) Qz (Qv _)) (Ve (Qr Yk (Qo Qm (pv 4) Qe (fun _ _ => rfl)) (pv 1) (Qv _)) (Ve (Qr Kr (Qo Qm (pv 4) Qe (fun _ _ => rfl)) (pv 3) (Qv _)) (Vd (Qr Qfo (pv 3) (Qo Qm (pv 4) Qe (fun _ _ => rfl)) (Qv _))))))) (Qj (Xe Qe)) Xj)))
  (Qj (Xe (pv 2)))), ?_⟩
 obtain ⟨us, h1, h2⟩ := hb.ex
 have lu := h2.length
 let Pv39 : Nat → St → Hp → Prop := fun i σ H1 => H1 = H ∧ (∃ u : Option V, σ = [some (.ref d), some (.str b), some (.int r), some (.int day), u]) ∧ ∀ q ∈ B.take i, Yw b day q = false
 refine ⟨_, rfl, d, rfl, ⟨_, Qb h1⟩, Xp (xs := us) Pv39 ⟨rfl, ⟨none, rfl⟩, fun q hq => (nomatch hq)⟩ ?_ ?_ ?_⟩
 ·rintro i σ H1 hi ⟨rfl, _⟩
  exact Qb h1
 ·rintro i x σ H1 ex ⟨rfl, ⟨u, rfl⟩, hn⟩
  obtain ⟨rr, lr, er, rfl, hr⟩ := h2.get ex
  have hm := kZ er
  have nx : Yw b day rr = false → ∀ q ∈ B.take (i + 1), Yw b day q = false := fun h q hq => by
   rw [Zz er] at hq
   rcases yX.mp hq with z | z
   ·exact hn q z
   ·rw [jJ.mp z]; exact h
  refine ⟨_, rfl, lr, _, _, _, rfl, rfl, Qb hr, Yt rr, rfl, _, rfl, ite2 (fun y => ?_) (fun y => ite2 (fun z => nomatch z) fun _ => ⟨rfl, ⟨_, rfl⟩, nx (Qha fun e => y (by rw [e]; exact yesS _))⟩)⟩
  obtain ⟨b', f, t, rfl⟩ := Qbw (eqS y)
  refine ⟨_, rfl, lr, _, _, _, rfl, rfl, Qb hr, (show atI ((BR.shut b' f t).cells.map kV) 1 = some (.str b') from rfl), _, rfl, rfl, _, rfl, ite2 (fun y1 => ?_) (fun y1 => ite2 (fun z => nomatch z) fun _ => ⟨rfl, ⟨_, rfl⟩, nx (zJ fun z => y1 (by rw [z.1]; exact yesS _))⟩)⟩
  refine ⟨_, rfl, lr, _, _, _, rfl, rfl, Qb hr, (show atI ((BR.shut b' f t).cells.map kV) 2 = some (.int f) from rfl), _, rfl, _, _, rfl, rfl, _, rfl, ite2 (fun y2 => ?_) (fun y2 => ite2 (fun z => nomatch z) fun _ => ⟨rfl, ⟨_, rfl⟩, nx (zJ fun z => y2 (yQ z.2.1))⟩)⟩
  refine ⟨_, rfl, _, rfl, lr, _, _, _, rfl, rfl, Qb hr, (show atI ((BR.shut b' f t).cells.map kV) 3 = some (.int t) from rfl), _, _, rfl, rfl, _, rfl, ite2 (fun y3 => ?_) (fun y3 => ⟨rfl, ⟨_, rfl⟩, nx (zJ fun z => y3 (yQ z.2.2))⟩)⟩
  have e := Qht (r := r) hm (show Yw b day (.shut b' f t) = true from yQ ⟨eqS y1, kX y2, kX y3⟩)
  rw [e] at q
  exact q
 ·rintro σ H1 ⟨rfl, ⟨u, rfl⟩, hn⟩
  rw [lu, kY] at hn
  rw [Qnb hn] at q
  exact ⟨_, rfl, q⟩
end
abbrev sBen : Stmt := top 33
theorem LbI.updN {K : Fg} {H0 H : Hp} {g gN : Addr} {xs zs : List V} {L : List Lb} (h : LbI K H0 H g L) (hN : H gN = some (.lst xs)) (ne : gN ≠ g) (nN : H0 gN = none) : LbI K H0 (upd H gN (.lst zs)) g L := by
 obtain ⟨ys, h1, h2⟩ := h.ex
 exact ⟨h.fr, Yc h.sm nN, ys, by rw [Qk ne.symm]; exact h1, h2.updL hN⟩
theorem Kk {H : Hp} {gN : Addr} {A : List Ch} {f : Ch → Int} {i : Nat} {c : Ch} {z : Int} (e : A[i]? = some c) (hz : z = f c) : upd H gN (.lst (((A.take i).map f).map V.int ++ [.int z])) gN = some (.lst (((A.take (i + 1)).map f).map V.int)) := by
 rw [Qd, Zz e, kK, kK, hz]; rfl
theorem Kl {A : List Ch} {f : Ch → Int} {i : Nat} (h : A.length ≤ 2000000) : (((A.take i).map f).map V.int).length < sizeLine := by
 have hz : (2000000 : Nat) < sizeLine := by decide
 rw [jX, jX, zQ]
 omega
theorem Qhu {K : Fg} {H : Hp} {a D : Addr} {ns : List Int} {f : Int → Int} {cs τ0 : St} {te : TE} {Q : Addr → Hp → Prop} (hτ : τ0 = none :: cs) (h1 : SqL K H a (ns.map V.int)) (fw : ns.length ≤ 2000000) (hD : H D = none)
  (hs : ∀ (x : Int) (H1 : Hp), Same H H1 → ∀ P : V → Hp → Prop, P (.int (f x)) H1 → te (some (.int x) :: cs) H1 P)
  (hd : ∀ H1, Same H H1 → H1 D = some (.lst ((ns.map f).map V.int)) → Q D H1) :
  LcW (Itl K a) D τ0 H (Kq 0) tYes te Q := by
 subst hτ
 have hz : (2000000 : Nat) < sizeLine := by decide
 let Pv40 : Nat → St → List V → Hp → Prop := fun i τ ys H1 => ∃ v : Option V, τ = v :: cs ∧ ys = ((ns.take i).map f).map V.int ∧ H1 D = some (.lst ys) ∧ Same H H1
 refine Yo (n := ns.length) Pv40 ?_ (fun i τ ys H1 hi h => ?_) (fun i τ ys H1 hi h => ?_) (fun τ ys H1 h => ?_) ?_ ?_
 ·exact ⟨none, rfl, rfl, Qd, Qc hD _⟩
 ·obtain ⟨v, rfl, rfl, hD1, s1⟩ := h
  exact ⟨hD1, by rw [jX, jX, zQ]; omega⟩
 ·obtain ⟨v, rfl, rfl, hD1, s1⟩ := h
  exact ⟨_, _, s1.seq h1, gE (by rw [jX]; exact hi)⟩
 ·obtain ⟨v, rfl, rfl, hD1, s1⟩ := h
  exact ⟨_, s1.seq h1, by rw [jX]; exact jZ _⟩
 ·rintro i τ ys H1 x H2 hi ⟨v, rfl, rfl, hD1, s1⟩ ⟨rfl, e1⟩
  obtain ⟨x, ex, rfl⟩ := Wv (e1 _ (s1.seq h1))
  refine hs x _ s1 _ ⟨hD1, _, rfl, ?_, Qd, Yc s1 hD⟩
  rw [Zz ex, kK, kK]; rfl
 ·rintro τ ys H1 ⟨v, rfl, rfl, hD1, s1⟩
  rw [kY] at hD1
  exact hd H1 s1 hD1
theorem Qeb {A : List Ch} {f : Ch → Int} : (A.map f).map (fun x => 0 - x) = A.map fun c => -(f c) := by
 rw [List.map_map]
 exact List.map_congr_left fun c _ => Int.zero_sub _
theorem Qkt (p : Prop) [Decidable p] (k : Bool) (h : k = true ↔ p) : (if k = true then (1 : Int) else 0) = if p then 1 else 0 := by
 by_cases c : p
 ·rw [if_pos c, if_pos (h.mpr c)]
 ·rw [if_neg c, if_neg (fun z => c (h.mp z))]
theorem str_iff {a b : Str} : decide (V.str a = V.str b) = true ↔ a = b := ⟨eqS, fun e => by rw [e]; exact yesS _⟩
def spBen (K : Fg) : Sp := fun vs H Q _ => ∃ (d a lr : Addr) (n : Int) (B : List BR) (b : Str) (r : Int), vs = [.ref d, .ref a, .ref lr] ∧ BkAt H d n B ∧ ChsAt K H a (chs n B) ∧ H lr = some (.lst ((.bench b r : BR).cells.map kV)) ∧ .bench b r ∈ B ∧ ∀ (g : Addr) (H' : Hp), LbI K H H' g (labR n B (chs n B) (b, r)) → Q (.ref g) H'
section
variable {P : Program} {w : World} {K : Fg} {mg : Str → Option Value} {base : Heap}
theorem scBen : FnScope ["_law_book_here", "_law_some", "_law_row", "_law_found", "_law_day", "_law_numbers", "_law_choice", "_law_end_here", "_law_on"] ["_law_book_here", "_law_some", "_law_row"] (Qi sBen) := ⟨rfl, rfl, rfl, by decide +kernel, rfl, by decide +kernel, by decide +kernel⟩
theorem okBen (F : Fn K mg "_law_bench" sBen) (M : Mg mg) (cl_end : Cal P w K mg base 2 "_law_end" ["_law_book_here", "_law_plan", "_law_work"] (Qcf K)) (cl_many : Cal P w K mg base 1 "_law_many" ["_law_book_here", "_law_word", "_law_choice", "_law_thing"] (Qna K)) (cl_room : Cal P w K mg base 1 "_law_room" ["_law_book_here", "_law_bench_here", "_law_room_here", "_law_day"] (spRm K)) : Cal P w K mg base 3 "_law_bench" ["_law_book_here", "_law_some", "_law_row"] (spBen K) := by
 refine Ye F scBen (fun _ _ _ _ _ _ => Qiu (fun _ _ _ => rfl)) (fun vs H Q E h => ?_) (fun f cdv A outer s H vs Q E hr h => ?_)
 ·obtain ⟨d, a, lr, n, B, b, r, rfl, _⟩ := h
  rfl
 obtain ⟨d, a, lr, n, B, b1, r, rfl, hb, hA, hlr, hmb, q⟩ := h
 have hz : (2000000 : Nat) < sizeLine := by decide
 refine ⟨_, (Qh (Qq (i := 3) scBen.nd rfl (Or.inl rfl) (Xr Qg))
  (Qh (Xk PassesOwn.never rfl (Xu rfl M.range_ (Qa (Qo Qm (Qo Qm (pv 0) Qe (fun _ _ => rfl)) Qe (fun _ _ => rfl)) Qg)) (Qn (i := 4) scBen.nd rfl (Or.inl rfl) (Or.inl rfl)) (Qh (Qq (i := 5) scBen.nd rfl (Or.inl rfl) (Xr Qg))
  (Qh (Xk PassesOwn.never rfl (Qu (pv 1)) (Qn (i := 6) scBen.nd rfl (Or.inl rfl) (Or.inl rfl)) (Qh (Qq (i := 7) scBen.nd rfl (Or.inl rfl) (Xx cl_end (hr.mono (by decide)) (Qa (pv 0) (Qa (Wy (Kv (Qo Xn (pv 6) Qe (fun _ _ => rfl)) (Yh Kn (pv 6) (Ys Qe) Yy) Wx) rfl rfl (jJe _ _) (by decide)) (Qa (Qo Xn (pv 6) Qe (fun _ _ => rfl)) Qg)))))
  (Qh (Qq (i := 8) scBen.nd rfl (Or.inl rfl) (Qav (Zs Kr (Qo Xn (pv 6) Qe (fun _ _ => rfl)) (pv 4) (Qv _)) (Qau (Zs Qfo (pv 4) (pv 7) (Qv _)))))
  (Qj (Xh (Yz PySem.F.plainAttrs_list PySem.F.slot_list_append PySem.F.type_list_append Qw (pv 5) (Qa (Ql Zj Qe (Ql Zl (Xc Js rfl M.int_ Qbl (Qa (pv 8) Qg)) (Xx cl_many (hr.mono (by decide)) (Qa (pv 0) (Qa Qz (Qa (pv 6) (Qa (Qo Qm (pv 2) Qe (fun _ _ => rfl)) Qg))))))) Qg)))))))
  (Qj (Xh (Yz PySem.F.plainAttrs_list PySem.F.slot_list_append PySem.F.type_list_append Qw (pv 3) (Qa (Qx (Qa (Qx (Qa Qz (Qa (Qo Qm (pv 2) Qe (fun _ _ => rfl)) (Qa (pv 4) Qg)))) (Qa (Qx (Qa (Xc Xb rfl M.tuple_ Xy (Qa (pv 5) Qg)) (Qa (Ql Zj Qe (Xx cl_room (hr.mono (by decide)) (Qa (pv 0) (Qa (Qo Qm (pv 2) Qe (fun _ _ => rfl)) (Qa (Qo Qm (pv 2) Qe (fun _ _ => rfl)) (Qa (pv 4) Qg)))))) Qg))) Qg))) Qg)))))))
  (Qj (Xe (pv 3))))), ?_⟩
 obtain ⟨us, l0, h1, h2, a0, hl0⟩ := hb.days
 have bk := hb.bk
 have bl := bk.wb.len
 have n1 := bk.n1
 have n12 := bk.n12
 have fw := hA.few
 refine ⟨by show 0 ≤ sizeLine; decide, fun g hg => ?_⟩
 have i0 : LbI K H (upd H g (.lst [])) g [] := LbI.start hg
 generalize upd H g (.lst []) = H1 at i0 ⊢
 let Pv41 : Nat → St → Hp → Prop := fun j σ H1 => ∃ u1 u2 u3 u4 u5 : Option V, σ = [some (.ref d), some (.ref a), some (.ref lr), some (.ref g), u1, u2, u3, u4, u5] ∧ LbI K H H1 g ((List.range j).map fun d : Nat => Qdc B (chs n B) (b1, r) (d : Int))
 refine ⟨_, rfl, d, _, _, _, rfl, rfl, Qb (i0.sm _ _ h1), a0, l0, _, _, _, rfl, rfl, Qb (i0.sm _ _ hl0), Qar n, _, rfl, by omega, by omega, Yd (lo := 0) (n := n.toNat) Pv41 ⟨none, none, none, none, none, rfl, i0⟩ ?_ ?_⟩
 ·rintro j σ H1 hj ⟨u1, u2, u3, u4, u5, rfl, c⟩
  rw [day0]
  refine ⟨by show 0 ≤ sizeLine; decide, fun gN hgN => ?_⟩
  have neN : gN ≠ g := fun e => by
   obtain ⟨zs, hz1, _⟩ := c.ex
   rw [e, hz1] at hgN; cases hgN
  have nN := c.sm.free hgN
  have c1 := c.same (Qc hgN (.lst []))
  have hN1 : upd H1 gN (.lst []) gN = some (.lst []) := Qd
  generalize upd H1 gN (.lst []) = H1' at c1 hN1 ⊢
  obtain ⟨vs, hv, hvc⟩ := hA.ex
  have lv := Paired.length hvc
  let Pv42 : Nat → St → Hp → Prop := fun i σ H2 => ∃ u3 u4 u5 : Option V, σ = [some (.ref d), some (.ref a), some (.ref lr), some (.ref g), some (.int (j : Int)), some (.ref gN), u3, u4, u5] ∧ LbI K H H2 g ((List.range j).map fun d : Nat => Qdc B (chs n B) (b1, r) (d : Int)) ∧ H2 gN = some (.lst ((((chs n B).take i).map fun c => -(useR B b1 (j : Int) c)).map V.int))
  refine ⟨_, rfl, a, rfl, ⟨_, c1.sm.seq hv⟩, Xp (xs := vs) Pv42 ⟨u3, u4, u5, rfl, c1, hN1⟩ ?_ ?_ ?_⟩
  ·rintro i σ H2 hi ⟨u3, u4, u5, rfl, c2, hN2⟩
   exact c2.sm.seq hv
  ·rintro i x σ H2 ex ⟨u3, u4, u5, rfl, c2, hN2⟩
   obtain ⟨ch, ec, hc, t, rfl, ht0⟩ := Qhk hvc ex
   obtain ⟨l, cc, hw, _, _⟩ := Jg hc
   have ht := c2.sm.tup ht0
   refine ⟨_, rfl, fun P hP => ?_⟩
   have hch1 := (Qc hP (.dK [])).tup ht
   refine ⟨_, rfl, t, _, _, _, rfl, rfl, hch1, Jf, _, rfl, _, rfl, t, _, rfl, hch1, (by show ¬ (HT.sIx 3 0 (some 1) = 0 ∧ HT.sIx 3 3 none = 3); decide), fun tp htp => ?_⟩
   rw [Qjv]
   obtain ⟨p1, s3, hpl⟩ := Vc (K := K) (w := ch.1) (v := ch.2.1) (b := ch.2.2) hP htp
   refine ⟨p1, [(Sum.inr ch.1, .ref tp)], rfl, by show 1 ≤ 15; decide, ?_⟩
   generalize upd (upd (upd H2 P (.dK [])) tp (.tup [.str ch.2.1, .int ch.2.2])) P (.dK (Jd [] [(Sum.inr ch.1, .ref tp)])) = H3 at s3 hpl ⊢
   refine ⟨_, rfl, t, _, _, _, rfl, rfl, s3.tup ht, Jf, d, P, ch.1, ch.2.1, ch.2.2, l, cc, n, B, rfl, (hb.same c2.sm).same s3, hpl, hw, fun H4 s4 => ?_⟩
   have s34 := s3.trans s4
   refine ⟨_, rfl, t, _, _, _, rfl, rfl, s34.tup ht, Qcz, _, rfl, _, _, rfl, rfl, _, rfl, ite2 (fun y => ?_) (fun y => ?_)⟩
   ·refine ⟨_, rfl, _, rfl, _, _, rfl, rfl, ?_⟩
    have c4 := c2.same s34
    have hN4 := s34 _ _ hN2
    refine ⟨_, rfl, .inl ⟨rfl, _, Qb hN4⟩, _, rfl, .inr ⟨_, rfl, _, rfl, _, rfl, _, rfl, lr, _, _, _, rfl, rfl, Qb (c4.sm _ _ hlr), (show atI ((BR.bench b1 r).cells.map kV) 1 = some (.str b1) from rfl), d, t, 0, ch.1, ch.2.1, b1, ch.2.2, n, B, rfl, hb.same c4.sm, s34.tup ht, fun H5 s5 => ?_⟩⟩
    refine ⟨_, _, rfl, rfl, .inl (by constructor <;> split <;> decide), _, _, rfl, rfl, _, _, _, rfl, rfl, s5 _ _ hN4, Kl fw, _, _, _, rfl, (c4.same s5).updN (s5 _ _ hN4) neN nN, Kk ec ?_⟩
    show 0 - (if decide ((j : Int) < ch.2.2 + l) = true then 1 else 0) * Zi B 0 ch.1 ch.2.1 b1 = -(useR B b1 (j : Int) ch)
    unfold useR
    rw [Zp bk.wb hw, Qkt ((j : Int) < ch.2.2 + l) _ (decide_eq_true_iff (p := (j : Int) < ch.2.2 + l))]
    have yy := kX y
    by_cases z : (j : Int) < ch.2.2 + l
    ·rw [if_pos z, if_pos ⟨yy, z⟩]; omega
    ·rw [if_neg z, if_neg (fun q => z q.2)]; omega
   ·have yy : ¬ ch.2.2 ≤ (j : Int) := fun z => y (yQ z)
    have c4 := c2.same s34
    have hN4 := s34 _ _ hN2
    refine ⟨_, rfl, .inl ⟨rfl, _, Qb hN4⟩, _, rfl, .inr ⟨_, rfl, _, rfl, _, rfl, _, rfl, lr, _, _, _, rfl, rfl, Qb (c4.sm _ _ hlr), (show atI ((BR.bench b1 r).cells.map kV) 1 = some (.str b1) from rfl), d, t, 0, ch.1, ch.2.1, b1, ch.2.2, n, B, rfl, hb.same c4.sm, s34.tup ht, fun H5 s5 => ?_⟩⟩
    refine ⟨_, _, rfl, rfl, .inl (by constructor <;> split <;> decide), _, _, rfl, rfl, _, _, _, rfl, rfl, s5 _ _ hN4, Kl fw, _, _, _, rfl, (c4.same s5).updN (s5 _ _ hN4) neN nN, Kk ec ?_⟩
    show 0 - (if false = true then 1 else 0) * Zi B 0 ch.1 ch.2.1 b1 = -(useR B b1 (j : Int) ch)
    unfold useR
    rw [Zp bk.wb hw, if_neg (show ¬ (false = true) from kJ)]
    rw [if_neg (fun q => yy q.1)]; omega
  ·rintro σ H2 ⟨u3, u4, u5, rfl, c2, hN2⟩
   rw [lv, kY] at hN2
   obtain ⟨y3, hy3, _⟩ := c2.ex
   refine ⟨_, rfl, .inl ⟨rfl, _, Qb hy3⟩, _, rfl, lr, _, _, _, rfl, rfl, Qb (c2.sm _ _ hlr), (show atI ((BR.bench b1 r).cells.map kV) 1 = some (.str b1) from rfl), _, rfl, by show 3 ≤ sizeLine; decide, fun a1 ha1 => ?_⟩
   have sa := Qc ha1 (.tup [.str "room", .str b1, .int (j : Int)])
   refine ⟨_, rfl, gN, _, rfl, .inl ⟨Qb (sa _ _ hN2), fun tn htn => ?_⟩⟩
   have st := Qc htn (.tup (((chs n B).map fun c => -(useR B b1 (j : Int) c)).map V.int))
   have hn3 : SqT K (upd (upd H2 a1 (.tup [.str "room", .str b1, .int (j : Int)])) tn (.tup (((chs n B).map fun c => -(useR B b1 (j : Int) c)).map V.int))) tn (((chs n B).map fun c => -(useR B b1 (j : Int) c)).map V.int) := Qs Qd
   have sq := (c2.sm.trans sa).trans st
   generalize upd (upd H2 a1 (.tup [.str "room", .str b1, .int (j : Int)])) tn (.tup (((chs n B).map fun c => -(useR B b1 (j : Int) c)).map V.int)) = H3 at st hn3 sq ⊢
   refine ⟨_, rfl, _, rfl, lr, _, _, _, rfl, rfl, Qb (sq _ _ hlr), (show atI ((BR.bench b1 r).cells.map kV) 1 = some (.str b1) from rfl), _, rfl, lr, _, _, _, rfl, rfl, Qb (sq _ _ hlr), (show atI ((BR.bench b1 r).cells.map kV) 2 = some (.int r) from rfl), _, rfl, d, b1, r, _, n, B, rfl, hb.same sq, _, _, rfl, rfl, by show 2 ≤ sizeLine; decide, fun b2 hb2 => ⟨by show 2 ≤ sizeLine; decide, fun t2 ht2 => ?_⟩⟩
   obtain ⟨y4, hy4, hl4, c4⟩ := Zy (lab := [Sum.inr ("room" : Str), Sum.inr b1, Sum.inl (j : Int)]) c2 ha1 st hb2 hn3 ht2 (by rw [jX, xZ]; omega) rfl
   refine ⟨_, _, _, rfl, rfl, hy4, hl4, _, _, _, _, _, rfl, ?_⟩
   rw [jXa, kK, show [j].map (fun d : Nat => Qdc B (chs n B) (b1, r) (d : Int)) = [([Sum.inr ("room" : Str), Sum.inr b1, Sum.inl (j : Int)], (chs n B).map fun c => -(useR B b1 (j : Int) c), 0 - Wf B b1 r (j : Int))] from by
    show [Qdc B (chs n B) (b1, r) (j : Int)] = _
    unfold Qdc
    rw [Int.zero_sub]]
   exact c4
 ·rintro σ H1 ⟨u1, u2, u3, u4, u5, rfl, c⟩
  exact ⟨_, rfl, q g H1 c⟩
end
abbrev Qjy : Stmt := top 34
def Qku (K : Fg) : Sp := fun vs H Q _ => ∃ (d a lr : Addr) (n : Int) (B : List BR) (s : Str) (m f : Int), vs = [.ref d, .ref a, .ref lr] ∧ BkAt H d n B ∧ ChsAt K H a (chs n B) ∧ H lr = some (.lst ((.store s m f : BR).cells.map kV)) ∧ .store s m f ∈ B ∧ ∀ (g : Addr) (H' : Hp), LbI K H H' g (labS n B (chs n B) (s, m, f)) → Q (.ref g) H'
section
variable {P : Program} {w : World} {K : Fg} {mg : Str → Option Value} {base : Heap}
theorem scLSto : FnScope ["_law_book_here", "_law_some", "_law_row", "_law_found", "_law_day", "_law_numbers"] ["_law_book_here", "_law_some", "_law_row"] (Qi Qjy) := ⟨rfl, rfl, rfl, by decide +kernel, rfl, by decide +kernel, by decide +kernel⟩
theorem okLSto (F : Fn K mg "_law_store" Qjy) (M : Mg mg) (cl_flow : Cal P w K mg base 3 "_law_flow" ["_law_book_here", "_law_choice", "_law_store_here", "_law_day"] (Qks K)) : Cal P w K mg base 4 "_law_store" ["_law_book_here", "_law_some", "_law_row"] (Qku K) := by
 refine Ye F scLSto (fun _ _ _ _ _ _ => Qiu (fun _ _ _ => rfl)) (fun vs H Q E h => ?_) (fun f cdv A outer s H vs Q E hr h => ?_)
 ·obtain ⟨d, a, lr, n, B, s, m, f, rfl, _⟩ := h
  rfl
 obtain ⟨d, a, lr, n, B, s1, m, ff, rfl, hb, hA, hlr, hmb, q⟩ := h
 have hz : (2000000 : Nat) < sizeLine := by decide
 refine ⟨_, (Qh (Qq (i := 3) scLSto.nd rfl (Or.inl rfl) (Xr Qg))
  (Qh (Xk PassesOwn.never rfl (Xu rfl M.range_ (Qa (Ql Qt (Qo Qm (Qo Qm (pv 0) Qe (fun _ _ => rfl)) Qe (fun _ _ => rfl)) Qe) Qg)) (Qn (i := 4) scLSto.nd rfl (Or.inr rfl) (Or.inl rfl)) (Qh (Jz (i := 5) ["_law_choice", "_law_book_here", "_law_row", "_law_day"] [none, some 0, some 2, some 4] rfl scLSto.nd rfl (Or.inl rfl) (Qu (pv 1)) (fun _ _ _ => (Qn (i := 0) (show (["_law_choice", "_law_book_here", "_law_row", "_law_day"] : List Str).Nodup by decide +kernel) rfl (Or.inl rfl) (Or.inr rfl))) (fun _ _ _ => Yq) (fun _ _ _ => (Xx cl_flow (hr.mono (by decide)) (Qa (pv 1) (Qa (pv 0) (Qa (Qo (Xq (K := K) rfl) (pv 2) Qe (fun _ _ => rfl)) (Qa (pv 3) Qg)))))))
  (Qh (Xh (Yz PySem.F.plainAttrs_list PySem.F.slot_list_append PySem.F.type_list_append Qw (pv 3) (Qa (Qx (Qa (Qx (Qa Qz (Qa (Qo Qm (pv 2) Qe (fun _ _ => rfl)) (Qa (pv 4) Qg)))) (Qa (Qx (Qa (Xc Xb rfl M.tuple_ Xy (Qa (pv 5) Qg)) (Qa (Ql Zj Qe (Qo Qm (pv 2) Qe (fun _ _ => rfl))) Qg))) Qg))) Qg)))
  (Qj (Xh (Yz PySem.F.plainAttrs_list PySem.F.slot_list_append PySem.F.type_list_append Qw (pv 3) (Qa (Qx (Qa (Qx (Qa Qz (Qa (Qo Qm (pv 2) Qe (fun _ _ => rfl)) (Qa (pv 4) Qg)))) (Qa (Qx (Qa (Xc Xb rfl M.tuple_ Xy (Qa (Zf ["_law_number"] [none] rfl (Qu (pv 5)) (fun _ _ _ => (Qn (i := 0) (show (["_law_number"] : List Str).Nodup by decide +kernel) rfl (Or.inl rfl) (Or.inr rfl))) (fun _ _ _ => Yq) (fun _ _ _ => (Ql Zj Qe (pv 0)))) Qg)) (Qa (Ql Zj (Qo Qm (pv 2) Qe (fun _ _ => rfl)) (Qo Qm (pv 2) Qe (fun _ _ => rfl))) Qg))) Qg))) Qg)))))))
  (Qj (Xe (pv 3))))), ?_⟩
 obtain ⟨us, l0, h1, h2, a0, hl0⟩ := hb.days
 have bk := hb.bk
 have bl := bk.wb.len
 have n1 := bk.n1
 have n12 := bk.n12
 have fw := hA.few
 refine ⟨by show 0 ≤ sizeLine; decide, fun g hg => ?_⟩
 have i0 : LbI K H (upd H g (.lst [])) g [] := LbI.start hg
 generalize upd H g (.lst []) = H1 at i0 ⊢
 let Pv43 : Nat → St → Hp → Prop := fun j σ H1 => ∃ u1 u2 : Option V, σ = [some (.ref d), some (.ref a), some (.ref lr), some (.ref g), u1, u2] ∧ LbI K H H1 g ((List.range j).flatMap fun d : Nat => Qcd B (chs n B) (s1, m, ff) (d : Int))
 refine ⟨_, rfl, d, _, _, _, rfl, rfl, Qb (i0.sm _ _ h1), a0, l0, _, _, _, rfl, rfl, Qb (i0.sm _ _ hl0), Qar n, _, _, rfl, rfl, _, rfl, by omega, by omega, Yd (lo := 0) (n := (n + 1).toNat) Pv43 ⟨none, none, rfl, i0⟩ ?_ ?_⟩
 ·rintro j σ H1 hj ⟨u1, u2, rfl, c⟩
  rw [day0]
  have l2 := Xs (l := List.range j) (f := fun d : Nat => Qcd B (chs n B) (s1, m, ff) (d : Int)) (m := 2) fun d _ => jZ 2
  rw [xZ] at l2
  have hA1 := hA.same c.sm
  obtain ⟨vs, hv, _⟩ := hA1.ex
  refine ⟨_, rfl, a, rfl, ⟨_, hv⟩, fun D hD => Kp (f := Zg B s1 (j : Int)) (cs := [some (.ref d), some (.ref lr), some (.int (j : Int))]) rfl hA1 hD (fun ch t H2 hc s2 ht Pq k => ?_) (fun H2 s2 hD2 => ?_)⟩
  ·obtain ⟨l, cc, hw, _, _⟩ := Jg hc
   exact ⟨_, rfl, _, rfl, _, rfl, lr, _, _, _, rfl, rfl, Qb (s2 _ _ (c.sm _ _ hlr)), (show atI ((BR.store s1 m ff).cells.map kV) 1 = some (.str s1) from rfl), _, rfl, d, t, ch.1, ch.2.1, s1, ch.2.2, l, cc, _, n, B, rfl, hb.same (c.sm.trans s2), ht, hw, fun H3 s3 => k H3 s3⟩
  have c2 := c.same s2
  obtain ⟨y3, hy3, _⟩ := c2.ex
  refine ⟨_, rfl, .inl ⟨rfl, _, Qb hy3⟩, _, rfl, lr, _, _, _, rfl, rfl, Qb (c2.sm _ _ hlr), (show atI ((BR.store s1 m ff).cells.map kV) 1 = some (.str s1) from rfl), _, rfl, by show 3 ≤ sizeLine; decide, fun a1 ha1 => ?_⟩
  have sa := Qc ha1 (.tup [.str "least", .str s1, .int (j : Int)])
  refine ⟨_, rfl, D, _, rfl, .inl ⟨Qb (sa _ _ hD2), fun tn htn => ?_⟩⟩
  have st := Qc htn (.tup (((chs n B).map (Zg B s1 (j : Int))).map V.int))
  have hn3 : SqT K (upd (upd H2 a1 (.tup [.str "least", .str s1, .int (j : Int)])) tn (.tup (((chs n B).map (Zg B s1 (j : Int))).map V.int))) tn (((chs n B).map (Zg B s1 (j : Int))).map V.int) := Qs Qd
  have sq := (c2.sm.trans sa).trans st
  have hD3 := st _ _ (sa _ _ hD2)
  generalize upd (upd H2 a1 (.tup [.str "least", .str s1, .int (j : Int)])) tn (.tup (((chs n B).map (Zg B s1 (j : Int))).map V.int)) = H3 at st hn3 sq hD3 ⊢
  refine ⟨_, rfl, lr, _, _, _, rfl, rfl, Qb (sq _ _ hlr), (show atI ((BR.store s1 m ff).cells.map kV) 3 = some (.int ff) from rfl), _, _, rfl, rfl, by show 2 ≤ sizeLine; decide, fun b2 hb2 => ⟨by show 2 ≤ sizeLine; decide, fun t2 ht2 => ?_⟩⟩
  obtain ⟨y4, hy4, hl4, c4⟩ := Zy (lab := [Sum.inr ("least" : Str), Sum.inr s1, Sum.inl (j : Int)]) c2 ha1 st hb2 hn3 ht2 (by omega) rfl
  refine ⟨_, _, _, rfl, rfl, hy4, hl4, ?_⟩
  have neD : D ≠ g := fun e => by
   obtain ⟨zs, hz1, _⟩ := c.ex
   rw [e, hz1] at hD; cases hD
  have hD4 : upd (upd (upd H3 b2 (.tup [.ref tn, .int (0 - ff)])) t2 (.tup [.ref a1, .ref b2])) g (.lst (y4 ++ [.ref t2])) D = some (.lst (((chs n B).map (Zg B s1 (j : Int))).map V.int)) := by
   rw [Qk neD]
   exact Qc ht2 _ _ _ (Qc hb2 _ _ _ hD3)
  generalize upd (upd (upd H3 b2 (.tup [.ref tn, .int (0 - ff)])) t2 (.tup [.ref a1, .ref b2])) g (.lst (y4 ++ [.ref t2])) = H4 at c4 hD4 ⊢
  obtain ⟨y5, hy5, _⟩ := c4.ex
  refine ⟨_, rfl, .inl ⟨rfl, _, Qb hy5⟩, _, rfl, lr, _, _, _, rfl, rfl, Qb (c4.sm _ _ hlr), (show atI ((BR.store s1 m ff).cells.map kV) 1 = some (.str s1) from rfl), _, rfl, by show 3 ≤ sizeLine; decide, fun a3 ha3 => ?_⟩
  have sb := Qc ha3 (.tup [.str "most", .str s1, .int (j : Int)])
  refine ⟨_, rfl, D, rfl, ⟨_, Qb (sb _ _ hD4)⟩, fun D5 hD5 => Qhu (f := fun x => 0 - x) (cs := []) rfl (Qb (sb _ _ hD4)) (by rw [jX]; exact fw) hD5 (fun x H5 s5 Pq k => ⟨_, rfl, _, _, rfl, rfl, k⟩) (fun H5 s5 hE5 => ?_)⟩
  rw [Qeb] at hE5
  refine ⟨D5, _, rfl, .inl ⟨Qb hE5, fun tm htm => ?_⟩⟩
  have su := s5.trans (Qc htm (.tup (((chs n B).map fun c => -(Zg B s1 (j : Int) c)).map V.int)))
  have hm6 : SqT K (upd H5 tm (.tup (((chs n B).map fun c => -(Zg B s1 (j : Int) c)).map V.int))) tm (((chs n B).map fun c => -(Zg B s1 (j : Int) c)).map V.int) := Qs Qd
  generalize upd H5 tm (.tup (((chs n B).map fun c => -(Zg B s1 (j : Int) c)).map V.int)) = H6 at su hm6 ⊢
  have sq6 := (c4.sm.trans sb).trans su
  refine ⟨_, rfl, lr, _, _, _, rfl, rfl, Qb (sq6 _ _ hlr), (show atI ((BR.store s1 m ff).cells.map kV) 3 = some (.int ff) from rfl), _, rfl, lr, _, _, _, rfl, rfl, Qb (sq6 _ _ hlr), (show atI ((BR.store s1 m ff).cells.map kV) 2 = some (.int m) from rfl), _, _, rfl, rfl, by show 2 ≤ sizeLine; decide, fun b4 hb4 => ⟨by show 2 ≤ sizeLine; decide, fun t4 ht4 => ?_⟩⟩
  obtain ⟨y6, hy6, hl6, c6⟩ := Zy (lab := [Sum.inr ("most" : Str), Sum.inr s1, Sum.inl (j : Int)]) c4 ha3 su hb4 hm6 ht4 (by rw [jY, xV]; omega) rfl
  refine ⟨_, _, _, rfl, rfl, hy6, hl6, _, _, rfl, ?_⟩
  rw [jXa, wJ, show [j].flatMap (fun d : Nat => Qcd B (chs n B) (s1, m, ff) (d : Int)) = [([Sum.inr ("least" : Str), Sum.inr s1, Sum.inl (j : Int)], ((chs n B).map (Zg B s1 (j : Int))), 0 - ff)] ++ [([Sum.inr ("most" : Str), Sum.inr s1, Sum.inl (j : Int)], (chs n B).map fun c => -(Zg B s1 (j : Int) c), ff - m)] from by
   rw [Int.zero_sub]; rfl, ← zW]
  exact c6
 ·rintro σ H1 ⟨u1, u2, rfl, c⟩
  exact ⟨_, rfl, q g H1 c⟩
end
abbrev Qjz : Stmt := top 35
theorem Qnc {w x y : Str} {b l g day : Int} (hxy : x ≠ y) {k1 k2 : Bool} (h1 : k1 = true ↔ (w = x ∧ b + l + g ≤ day)) (h2 : k2 = true ↔ (w = y ∧ b ≤ day)) : (if k1 = true then (1 : Int) else 0) - (if k2 = true then 1 else 0) = afN w b l x y g day := by
 unfold afN
 by_cases e : w = x
 ·have n2 : ¬ k2 = true := fun z => hxy (e.symm.trans (h2.mp z).1)
  rw [if_neg n2, if_pos e]
  by_cases c : b + l + g ≤ day
  ·rw [if_pos c, if_pos (h1.mpr ⟨e, c⟩)]; rfl
  ·rw [if_neg c, if_neg (fun z => c (h1.mp z).2)]; rfl
 ·rw [if_neg (fun z => e (h1.mp z).1), if_neg e]
  by_cases c : w = y ∧ b ≤ day
  ·rw [if_pos c, if_pos (h2.mpr c)]; rfl
  ·rw [if_neg c, if_neg (fun z => c (h2.mp z))]; rfl
def Qkv (K : Fg) : Sp := fun vs H Q _ => ∃ (d a lr : Addr) (n : Int) (B : List BR) (x y : Str) (g : Int), vs = [.ref d, .ref a, .ref lr] ∧ BkAt H d n B ∧ ChsAt K H a (chs n B) ∧ H lr = some (.lst ((.after x y g : BR).cells.map kV)) ∧ .after x y g ∈ B ∧ ∀ (gl : Addr) (H' : Hp), LbI K H H' gl (labA n B (chs n B) (x, y, g)) → Q (.ref gl) H'
section
variable {P : Program} {w : World} {K : Fg} {mg : Str → Option Value} {base : Heap}
theorem scLAft : FnScope ["_law_book_here", "_law_some", "_law_row", "_law_found", "_law_day", "_law_numbers", "_law_choice", "_law_end_here", "_law_number"] ["_law_book_here", "_law_some", "_law_row"] (Qi Qjz) := ⟨rfl, rfl, rfl, by decide +kernel, rfl, by decide +kernel, by decide +kernel⟩
theorem okLAft (F : Fn K mg "_law_after" Qjz) (M : Mg mg) (cl_end : Cal P w K mg base 2 "_law_end" ["_law_book_here", "_law_plan", "_law_work"] (Qcf K)) : Cal P w K mg base 3 "_law_after" ["_law_book_here", "_law_some", "_law_row"] (Qkv K) := by
 refine Ye F scLAft (fun _ _ _ _ _ _ => Qiu (fun _ _ _ => rfl)) (fun vs H Q E h => ?_) (fun f cdv A outer s H vs Q E hr h => ?_)
 ·obtain ⟨d, a, lr, n, B, x, y, g, rfl, _⟩ := h
  rfl
 obtain ⟨d, a, lr, n, B, x1, y1, gg, rfl, hb, hA, hlr, hmb, q⟩ := h
 have hz : (2000000 : Nat) < sizeLine := by decide
 refine ⟨_, (Qh (Qq (i := 3) scLAft.nd rfl (Or.inl rfl) (Xr Qg))
  (Qh (Xk PassesOwn.never rfl (Xu rfl M.range_ (Qa (Ql Qt (Qo Qm (Qo Qm (pv 0) Qe (fun _ _ => rfl)) Qe (fun _ _ => rfl)) Qe) Qg)) (Qn (i := 4) scLAft.nd rfl (Or.inl rfl) (Or.inl rfl)) (Qh (Qq (i := 5) scLAft.nd rfl (Or.inl rfl) (Xr Qg))
  (Qh (Xk PassesOwn.never rfl (Qu (pv 1)) (Qn (i := 6) scLAft.nd rfl (Or.inl rfl) (Or.inl rfl)) (Qh (Qq (i := 7) scLAft.nd rfl (Or.inl rfl) (Xx cl_end (hr.mono (by decide)) (Qa (pv 0) (Qa (Wy (Kv (Qo Xn (pv 6) Qe (fun _ _ => rfl)) (Yh Kn (pv 6) (Ys Qe) Yy) Wx) rfl rfl (jJe _ _) (by decide)) (Qa (Qo Xn (pv 6) Qe (fun _ _ => rfl)) Qg)))))
  (Qh (Qq (i := 8) scLAft.nd rfl (Or.inl rfl) (Xc Js rfl M.int_ Qbl (Qa (Qav (Zs Yk (Qo Xn (pv 6) Qe (fun _ _ => rfl)) (Qo Qm (pv 2) Qe (fun _ _ => rfl)) (Qv _)) (Qau (Zs Kr (Ql Qt (pv 7) (Qo Qm (pv 2) Qe (fun _ _ => rfl))) (pv 4) (Qv _)))) Qg)))
  (Qj (Xh (Yz PySem.F.plainAttrs_list PySem.F.slot_list_append PySem.F.type_list_append Qw (pv 5) (Qa (Ql Zj (pv 8) (Xc Js rfl M.int_ Qbl (Qa (Qav (Zs Yk (Qo Xn (pv 6) Qe (fun _ _ => rfl)) (Qo Qm (pv 2) Qe (fun _ _ => rfl)) (Qv _)) (Qau (Zs Kr (Qo Xn (pv 6) Qe (fun _ _ => rfl)) (pv 4) (Qv _)))) Qg))) Qg)))))))
  (Qj (Xh (Yz PySem.F.plainAttrs_list PySem.F.slot_list_append PySem.F.type_list_append Qw (pv 3) (Qa (Qx (Qa (Qx (Qa Qz (Qa (Qo Qm (pv 2) Qe (fun _ _ => rfl)) (Qa (Qo Qm (pv 2) Qe (fun _ _ => rfl)) (Qa (pv 4) Qg))))) (Qa (Qx (Qa (Xc Xb rfl M.tuple_ Xy (Qa (pv 5) Qg)) (Qa Qe Qg))) Qg))) Qg)))))))
  (Qj (Xe (pv 3))))), ?_⟩
 obtain ⟨us, l0, h1, h2, a0, hl0⟩ := hb.days
 have bk := hb.bk
 have bl := bk.wb.len
 have n1 := bk.n1
 have n12 := bk.n12
 have fw := hA.few
 refine ⟨by show 0 ≤ sizeLine; decide, fun g hg => ?_⟩
 have i0 : LbI K H (upd H g (.lst [])) g [] := LbI.start hg
 generalize upd H g (.lst []) = H1 at i0 ⊢
 have hxy : x1 ≠ y1 := (show x1 ≠ y1 ∧ 0 ≤ gg ∧ gg ≤ n from bk.wb.ok _ hmb).1
 let Pv44 : Nat → St → Hp → Prop := fun j σ H1 => ∃ u1 u2 u3 u4 u5 : Option V, σ = [some (.ref d), some (.ref a), some (.ref lr), some (.ref g), u1, u2, u3, u4, u5] ∧ LbI K H H1 g ((List.range j).map fun d : Nat => Qjr B (chs n B) (x1, y1, gg) (d : Int))
 refine ⟨_, rfl, d, _, _, _, rfl, rfl, Qb (i0.sm _ _ h1), a0, l0, _, _, _, rfl, rfl, Qb (i0.sm _ _ hl0), Qar n, _, _, rfl, rfl, _, rfl, by omega, by omega, Yd (lo := 0) (n := (n + 1).toNat) Pv44 ⟨none, none, none, none, none, rfl, i0⟩ ?_ ?_⟩
 ·rintro j σ H1 hj ⟨u1, u2, u3, u4, u5, rfl, c⟩
  rw [day0]
  refine ⟨by show 0 ≤ sizeLine; decide, fun gN hgN => ?_⟩
  have neN : gN ≠ g := fun e => by
   obtain ⟨zs, hz1, _⟩ := c.ex
   rw [e, hz1] at hgN; cases hgN
  have nN := c.sm.free hgN
  have c1 := c.same (Qc hgN (.lst []))
  have hN1 : upd H1 gN (.lst []) gN = some (.lst []) := Qd
  generalize upd H1 gN (.lst []) = H1' at c1 hN1 ⊢
  obtain ⟨vs, hv, hvc⟩ := hA.ex
  have lv := Paired.length hvc
  let Pv45 : Nat → St → Hp → Prop := fun i σ H2 => ∃ u3 u4 u5 : Option V, σ = [some (.ref d), some (.ref a), some (.ref lr), some (.ref g), some (.int (j : Int)), some (.ref gN), u3, u4, u5] ∧ LbI K H H2 g ((List.range j).map fun d : Nat => Qjr B (chs n B) (x1, y1, gg) (d : Int)) ∧ H2 gN = some (.lst ((((chs n B).take i).map fun c => afN c.1 c.2.2 (lenB B c.1 c.2.1) x1 y1 gg (j : Int)).map V.int))
  refine ⟨_, rfl, a, rfl, ⟨_, c1.sm.seq hv⟩, Xp (xs := vs) Pv45 ⟨u3, u4, u5, rfl, c1, hN1⟩ ?_ ?_ ?_⟩
  ·rintro i σ H2 hi ⟨u3, u4, u5, rfl, c2, hN2⟩
   exact c2.sm.seq hv
  ·rintro i x σ H2 ex ⟨u3, u4, u5, rfl, c2, hN2⟩
   obtain ⟨ch, ec, hc, t, rfl, ht0⟩ := Qhk hvc ex
   obtain ⟨l, cc, hw, _, _⟩ := Jg hc
   have ht := c2.sm.tup ht0
   refine ⟨_, rfl, fun P hP => ?_⟩
   have hch1 := (Qc hP (.dK [])).tup ht
   refine ⟨_, rfl, t, _, _, _, rfl, rfl, hch1, Jf, _, rfl, _, rfl, t, _, rfl, hch1, (by show ¬ (HT.sIx 3 0 (some 1) = 0 ∧ HT.sIx 3 3 none = 3); decide), fun tp htp => ?_⟩
   rw [Qjv]
   obtain ⟨p1, s3, hpl⟩ := Vc (K := K) (w := ch.1) (v := ch.2.1) (b := ch.2.2) hP htp
   refine ⟨p1, [(Sum.inr ch.1, .ref tp)], rfl, by show 1 ≤ 15; decide, ?_⟩
   generalize upd (upd (upd H2 P (.dK [])) tp (.tup [.str ch.2.1, .int ch.2.2])) P (.dK (Jd [] [(Sum.inr ch.1, .ref tp)])) = H3 at s3 hpl ⊢
   refine ⟨_, rfl, t, _, _, _, rfl, rfl, s3.tup ht, Jf, d, P, ch.1, ch.2.1, ch.2.2, l, cc, n, B, rfl, (hb.same c2.sm).same s3, hpl, hw, fun H4 s4 => ?_⟩
   have s34 := s3.trans s4
   have c4 := c2.same s34
   have hN4 := s34 _ _ hN2
   have hch4 := s34.tup ht
   have hl4 := c4.sm _ _ hlr
   have fin : ∀ (k1 k2 : Bool) (z : Int), (k1 = true ↔ (ch.1 = x1 ∧ ch.2.2 + l + gg ≤ (j : Int))) → (k2 = true ↔ (ch.1 = y1 ∧ ch.2.2 ≤ (j : Int))) → z = (if k1 = true then (1 : Int) else 0) - (if k2 = true then 1 else 0) → z = afN ch.1 ch.2.2 (lenB B ch.1 ch.2.1) x1 y1 gg (j : Int) := fun k1 k2 z e1 e2 e => by
    rw [e, Zp bk.wb hw]
    exact Qnc hxy e1 e2
   refine ⟨_, rfl, t, _, _, _, rfl, rfl, hch4, Jf, _, rfl, lr, _, _, _, rfl, rfl, Qb hl4, (show atI ((BR.after x1 y1 gg).cells.map kV) 1 = some (.str x1) from rfl), rfl, _, rfl, ite2 (fun y => ?_) (fun y => ?_)⟩
   ·refine ⟨_, rfl, _, rfl, lr, _, _, _, rfl, rfl, Qb hl4, (show atI ((BR.after x1 y1 gg).cells.map kV) 3 = some (.int gg) from rfl), _, _, rfl, rfl, _, rfl, _, _, rfl, rfl, .inr ⟨_, rfl, ?_⟩⟩
    have k1 : decide (ch.2.2 + l + gg ≤ (j : Int)) = true ↔ (ch.1 = x1 ∧ ch.2.2 + l + gg ≤ (j : Int)) := ⟨fun z => ⟨eqS y, kX z⟩, fun z => yQ z.2⟩
    refine ⟨_, rfl, .inl ⟨rfl, _, Qb hN4⟩, _, rfl, _, rfl, t, _, _, _, rfl, rfl, hch4, Jf, _, rfl, lr, _, _, _, rfl, rfl, Qb hl4, (show atI ((BR.after x1 y1 gg).cells.map kV) 2 = some (.str y1) from rfl), rfl, _, rfl, ite2 (fun y2 => ?_) (fun y2 => ?_)⟩
    ·exact ⟨_, rfl, t, _, _, _, rfl, rfl, hch4, Qcz, _, rfl, _, _, rfl, rfl, .inr ⟨_, rfl, _, _, rfl, rfl, _, _, _, rfl, rfl, hN4, Kl fw, _, _, _, rfl, c4.updN hN4 neN nN, Kk ec (fin _ _ _ k1 ⟨fun z => ⟨eqS y2, kX z⟩, fun z => yQ z.2⟩ rfl)⟩⟩
    ·exact .inr ⟨_, rfl, _, _, rfl, rfl, _, _, _, rfl, rfl, hN4, Kl fw, _, _, _, rfl, c4.updN hN4 neN nN, Kk ec (fin _ false _ k1 ⟨fun z => (nomatch z), fun z => absurd (str_iff.mpr z.1) y2⟩ rfl)⟩
   ·refine .inr ⟨_, rfl, ?_⟩
    have k1 : false = true ↔ (ch.1 = x1 ∧ ch.2.2 + l + gg ≤ (j : Int)) := ⟨fun z => (nomatch z), fun z => absurd (str_iff.mpr z.1) y⟩
    refine ⟨_, rfl, .inl ⟨rfl, _, Qb hN4⟩, _, rfl, _, rfl, t, _, _, _, rfl, rfl, hch4, Jf, _, rfl, lr, _, _, _, rfl, rfl, Qb hl4, (show atI ((BR.after x1 y1 gg).cells.map kV) 2 = some (.str y1) from rfl), rfl, _, rfl, ite2 (fun y2 => ?_) (fun y2 => ?_)⟩
    ·exact ⟨_, rfl, t, _, _, _, rfl, rfl, hch4, Qcz, _, rfl, _, _, rfl, rfl, .inr ⟨_, rfl, _, _, rfl, rfl, _, _, _, rfl, rfl, hN4, Kl fw, _, _, _, rfl, c4.updN hN4 neN nN, Kk ec (fin _ _ _ k1 ⟨fun z => ⟨eqS y2, kX z⟩, fun z => yQ z.2⟩ rfl)⟩⟩
    ·exact .inr ⟨_, rfl, _, _, rfl, rfl, _, _, _, rfl, rfl, hN4, Kl fw, _, _, _, rfl, c4.updN hN4 neN nN, Kk ec (fin _ false _ k1 ⟨fun z => (nomatch z), fun z => absurd (str_iff.mpr z.1) y2⟩ rfl)⟩
  ·rintro σ H2 ⟨u3, u4, u5, rfl, c2, hN2⟩
   rw [lv, kY] at hN2
   obtain ⟨y3, hy3, _⟩ := c2.ex
   refine ⟨_, rfl, .inl ⟨rfl, _, Qb hy3⟩, _, rfl, lr, _, _, _, rfl, rfl, Qb (c2.sm _ _ hlr), (show atI ((BR.after x1 y1 gg).cells.map kV) 1 = some (.str x1) from rfl), _, rfl, lr, _, _, _, rfl, rfl, Qb (c2.sm _ _ hlr), (show atI ((BR.after x1 y1 gg).cells.map kV) 2 = some (.str y1) from rfl), _, rfl, by show 4 ≤ sizeLine; decide, fun a1 ha1 => ?_⟩
   have sa := Qc ha1 (.tup [.str "after", .str x1, .str y1, .int (j : Int)])
   refine ⟨_, rfl, gN, _, rfl, .inl ⟨Qb (sa _ _ hN2), fun tn htn => ⟨by show 2 ≤ sizeLine; decide, fun b2 hb2 => ⟨by show 2 ≤ sizeLine; decide, fun t2 ht2 => ?_⟩⟩⟩⟩
   have st := Qc htn (.tup (((chs n B).map fun c => afN c.1 c.2.2 (lenB B c.1 c.2.1) x1 y1 gg (j : Int)).map V.int))
   have hn3 : SqT K (upd (upd H2 a1 (.tup [.str "after", .str x1, .str y1, .int (j : Int)])) tn (.tup (((chs n B).map fun c => afN c.1 c.2.2 (lenB B c.1 c.2.1) x1 y1 gg (j : Int)).map V.int))) tn (((chs n B).map fun c => afN c.1 c.2.2 (lenB B c.1 c.2.1) x1 y1 gg (j : Int)).map V.int) := Qs Qd
   obtain ⟨y4, hy4, hl4, c4⟩ := Zy (lab := [Sum.inr ("after" : Str), Sum.inr x1, Sum.inr y1, Sum.inl (j : Int)]) c2 ha1 st hb2 hn3 ht2 (by rw [jX, xZ]; omega) rfl
   refine ⟨_, _, _, rfl, rfl, hy4, hl4, _, _, _, _, _, rfl, ?_⟩
   rw [jXa, kK]
   exact c4
 ·rintro σ H1 ⟨u1, u2, u3, u4, u5, rfl, c⟩
  exact ⟨_, rfl, q g H1 c⟩
end
abbrev sDue : Stmt := top 36
theorem Qnd {r : BR} (h : r.word ≠ "bench") : benR r = none := by
 cases r with
 | bench b c => exact absurd rfl h
 | _ => rfl
theorem Qne {r : BR} (h : r.word ≠ "store") : stoR r = none := by
 cases r with
 | store b m f => exact absurd rfl h
 | _ => rfl
theorem Qnf {r : BR} (h : r.word ≠ "after") : aftR r = none := by
 cases r with
 | after b m f => exact absurd rfl h
 | _ => rfl
def Qhv (K : Fg) : Sp := fun vs H Q _ => ∃ (d a : Addr) (n : Int) (B : List BR), vs = [.ref d, .ref a] ∧ BkAt H d n B ∧ ChsAt K H a (chs n B) ∧ ∀ (g : Addr) (H' : Hp), LbI K H H' g (labs n B) → Q (.ref g) H'
section
variable {P : Program} {w : World} {K : Fg} {mg : Str → Option Value} {base : Heap}
theorem scDue : FnScope ["_law_book_here", "_law_some", "_law_found", "_law_row", "_law_numbers"] ["_law_book_here", "_law_some"] (Qi sDue) := ⟨rfl, rfl, rfl, by decide +kernel, rfl, by decide +kernel, by decide +kernel⟩
theorem okDue (F : Fn K mg "_law_due" sDue) (M : Mg mg) (cl_bench : Cal P w K mg base 3 "_law_bench" ["_law_book_here", "_law_some", "_law_row"] (spBen K)) (cl_store : Cal P w K mg base 4 "_law_store" ["_law_book_here", "_law_some", "_law_row"] (Qku K)) (cl_after : Cal P w K mg base 3 "_law_after" ["_law_book_here", "_law_some", "_law_row"] (Qkv K)) : Cal P w K mg base 5 "_law_due" ["_law_book_here", "_law_some"] (Qhv K) := by
 refine Ye F scDue (fun _ _ _ _ _ _ => We (fun _ _ => rfl)) (fun vs H Q E h => ?_) (fun f cdv A outer s H vs Q E hr h => ?_)
 ·obtain ⟨d, a, n, B, rfl, _⟩ := h
  rfl
 obtain ⟨d, a, n, B, rfl, hb, hA, q⟩ := h
 have hz : (2000000 : Nat) < sizeLine := by decide
 refine ⟨_, (Qh (Qq (i := 2) scDue.nd rfl (Or.inl rfl) (Xr Qg))
  (Qh (Xk PassesOwn.never rfl (Qu (pv 0)) (Qn (i := 3) scDue.nd rfl (Or.inr rfl) (Or.inl rfl)) (Qj (Yu (Qr Yk (Qo Qm (pv 3) Qe (fun _ _ => rfl)) Qz (Qv _)) (Qh (Jz (i := 4) ["_law_choice", "_law_row"] [none, some 3] rfl scDue.nd rfl (Or.inl rfl) (Qu (pv 1)) (fun _ _ _ => (Qn (i := 0) (show (["_law_choice", "_law_row"] : List Str).Nodup by decide +kernel) rfl (Or.inl rfl) (Or.inr rfl))) (fun _ _ _ => Yq) (fun _ _ _ => (Xc Js rfl M.int_ Qbl (Qa (Zs Yk (Qo (Jq (K := K) rfl) (pv 0) Qe (fun _ _ => rfl)) (Qo (Xq (K := K) rfl) (pv 1) Qe (fun _ _ => rfl)) (Qv _)) Qg))))
  (Qh (Xh (Yz PySem.F.plainAttrs_list PySem.F.slot_list_append PySem.F.type_list_append Qw (pv 2) (Qa (Qx (Qa (Qx (Qa Qz (Qa (Qo Qm (pv 3) Qe (fun _ _ => rfl)) (Qa Qe Qg)))) (Qa (Qx (Qa (Xc Xb rfl M.tuple_ Xy (Qa (pv 4) Qg)) (Qa Qe Qg))) Qg))) Qg)))
  (Qj (Xh (Yz PySem.F.plainAttrs_list PySem.F.slot_list_append PySem.F.type_list_append Qw (pv 2) (Qa (Qx (Qa (Qx (Qa Qz (Qa (Qo Qm (pv 3) Qe (fun _ _ => rfl)) (Qa (Qay Km Qe) Qg)))) (Qa (Qx (Qa (Xc Xb rfl M.tuple_ Xy (Qa (Zf ["_law_number"] [none] rfl (Qu (pv 4)) (fun _ _ _ => (Qn (i := 0) (show (["_law_number"] : List Str).Nodup by decide +kernel) rfl (Or.inl rfl) (Or.inr rfl))) (fun _ _ _ => Yq) (fun _ _ _ => (Ql Zj Qe (pv 0)))) Qg)) (Qa (Qay Km Qe) Qg))) Qg))) Qg)))))) Xj)))
  (Qh (Xk PassesOwn.never rfl (Qu (pv 0)) (Qn (i := 3) scDue.nd rfl (Or.inr rfl) (Or.inl rfl)) (Qj (Yu (Qr Yk (Qo Qm (pv 3) Qe (fun _ _ => rfl)) Qz (Qv _)) (Qj (Qq (i := 2) scDue.nd rfl (Or.inl rfl) (Ql Jl (pv 2) (Xx cl_bench (hr.mono (by decide)) (Qa (pv 0) (Qa (pv 1) (Qa (pv 3) Qg))))))) Xj)))
  (Qh (Xk PassesOwn.never rfl (Qu (pv 0)) (Qn (i := 3) scDue.nd rfl (Or.inr rfl) (Or.inl rfl)) (Qj (Yu (Qr Yk (Qo Qm (pv 3) Qe (fun _ _ => rfl)) Qz (Qv _)) (Qj (Qq (i := 2) scDue.nd rfl (Or.inl rfl) (Ql Jl (pv 2) (Xx cl_store (hr.mono (by decide)) (Qa (pv 0) (Qa (pv 1) (Qa (pv 3) Qg))))))) Xj)))
  (Qh (Xk PassesOwn.never rfl (Qu (pv 0)) (Qn (i := 3) scDue.nd rfl (Or.inr rfl) (Or.inl rfl)) (Qj (Yu (Qr Yk (Qo Qm (pv 3) Qe (fun _ _ => rfl)) Qz (Qv _)) (Qj (Qq (i := 2) scDue.nd rfl (Or.inl rfl) (Ql Jl (pv 2) (Xx cl_after (hr.mono (by decide)) (Qa (pv 0) (Qa (pv 1) (Qa (pv 3) Qg))))))) Xj)))
  (Qj (Xe (pv 2)))))))), ?_⟩
 obtain ⟨us, l0, h1, h2, a0, hl0⟩ := hb.days
 have bk := hb.bk
 have bl := bk.wb.len
 have n1 := bk.n1
 have n12 := bk.n12
 have fw := hA.few
 refine ⟨by show 0 ≤ sizeLine; decide, fun g hg => ?_⟩
 have i0 : LbI K H (upd H g (.lst [])) g [] := LbI.start hg
 generalize upd H g (.lst []) = H1 at i0 ⊢
 have lu := h2.length
 obtain ⟨k1, k2, k3, k4⟩ := Jj bk
 let Pv46 : Nat → St → Hp → Prop := fun i σ H1 => ∃ u v : Option V, σ = [some (.ref d), some (.ref a), some (.ref g), u, v] ∧ LbI K H H1 g (((B.take i).filterMap Yj).flatMap (labW (chs n B)))
 refine ⟨_, rfl, d, rfl, ⟨_, Qb (i0.sm _ _ h1)⟩, Xp (xs := us) Pv46 ⟨none, none, rfl, i0⟩ ?_ ?_ ?_⟩
 ·rintro i σ H1 hi ⟨u, v, rfl, c⟩
  exact Qb (c.sm _ _ h1)
 ·rintro i x σ H1 ex ⟨u, v, rfl, c⟩
  obtain ⟨r, lr, er, rfl, hr0⟩ := h2.get ex
  have hr := c.sm _ _ hr0
  refine ⟨_, rfl, lr, _, _, _, rfl, rfl, Qb hr, Yt r, rfl, _, rfl, ite2 (fun y => ?_) (fun y => ?_)⟩
  ·obtain ⟨w, rfl⟩ := Vt (eqS y)
   have aw : atI ((BR.work w).cells.map kV) 1 = some (.str w) := rfl
   have ll := Qao (A := chs n B) ((B.take i).filterMap Yj)
   have lk := kW Yj (B.take i)
   rw [zQ] at lk
   have hA1 := hA.same c.sm
   obtain ⟨vs, hv, _⟩ := hA1.ex
   refine ⟨_, rfl, a, rfl, ⟨_, hv⟩, fun D hD => Kp (f := fun c => if c.1 = w then 1 else 0) (cs := [some (.ref lr)]) rfl hA1 hD (fun ch t H2 hc s2 ht Pq k => ?_) (fun H2 s2 hD2 => ?_)⟩
   ·refine ⟨_, rfl, t, _, _, _, rfl, rfl, ht, Jf, _, rfl, lr, _, _, _, rfl, rfl, Qb (s2 _ _ hr), aw, rfl, .inr ⟨_, rfl, ?_⟩⟩
    have := k H2 (Same.refl _)
    have e := Qkt (ch.1 = w) _ (str_iff (a := ch.1) (b := w))
    rw [← e] at this
    exact this
   have c2 := c.same s2
   obtain ⟨y3, hy3, _⟩ := c2.ex
   refine ⟨_, rfl, .inl ⟨rfl, _, Qb hy3⟩, _, rfl, lr, _, _, _, rfl, rfl, Qb (c2.sm _ _ hr0), aw, by show 3 ≤ sizeLine; decide, fun a1 ha1 => ?_⟩
   have sa := Qc ha1 (.tup [.str "work", .str w, .int 1])
   refine ⟨_, rfl, D, _, rfl, .inl ⟨Qb (sa _ _ hD2), fun tn htn => ⟨by show 2 ≤ sizeLine; decide, fun b2 hb2 => ⟨by show 2 ≤ sizeLine; decide, fun t2 ht2 => ?_⟩⟩⟩⟩
   have st := Qc htn (.tup (((chs n B).map fun c => if c.1 = w then (1 : Int) else 0).map V.int))
   have hn3 : SqT K (upd (upd H2 a1 (.tup [.str "work", .str w, .int 1])) tn (.tup (((chs n B).map fun c => if c.1 = w then (1 : Int) else 0).map V.int))) tn (((chs n B).map fun c => if c.1 = w then (1 : Int) else 0).map V.int) := Qs Qd
   have hD3 := st _ _ (sa _ _ hD2)
   obtain ⟨y4, hy4, hl4, c4⟩ := Zy (lab := [Sum.inr ("work" : Str), Sum.inr w, Sum.inl 1]) c2 ha1 st hb2 hn3 ht2 (by omega) rfl
   refine ⟨_, _, _, rfl, rfl, hy4, hl4, ?_⟩
   have neD : D ≠ g := fun e => by
    obtain ⟨zs, hz1, _⟩ := c.ex
    rw [e, hz1] at hD; cases hD
   have hD4 : upd (upd (upd (upd (upd H2 a1 (.tup [.str "work", .str w, .int 1])) tn (.tup (((chs n B).map fun c => if c.1 = w then (1 : Int) else 0).map V.int))) b2 (.tup [.ref tn, .int 1])) t2 (.tup [.ref a1, .ref b2])) g (.lst (y4 ++ [.ref t2])) D = some (.lst (((chs n B).map fun c => if c.1 = w then (1 : Int) else 0).map V.int)) := by
    rw [Qk neD]
    exact Qc ht2 _ _ _ (Qc hb2 _ _ _ hD3)
   generalize upd (upd (upd (upd (upd H2 a1 (.tup [.str "work", .str w, .int 1])) tn (.tup (((chs n B).map fun c => if c.1 = w then (1 : Int) else 0).map V.int))) b2 (.tup [.ref tn, .int 1])) t2 (.tup [.ref a1, .ref b2])) g (.lst (y4 ++ [.ref t2])) = H4 at c4 hD4 ⊢
   obtain ⟨y5, hy5, _⟩ := c4.ex
   refine ⟨_, rfl, .inl ⟨rfl, _, Qb hy5⟩, _, rfl, lr, _, _, _, rfl, rfl, Qb (c4.sm _ _ hr0), aw, _, rfl, by show 3 ≤ sizeLine; decide, fun a3 ha3 => ?_⟩
   have sb := Qc ha3 (.tup [.str "work", .str w, .int (-1)])
   refine ⟨_, rfl, D, rfl, ⟨_, Qb (sb _ _ hD4)⟩, fun D5 hD5 => Qhu (f := fun x => 0 - x) (cs := []) rfl (Qb (sb _ _ hD4)) (by rw [jX]; exact fw) hD5 (fun x H5 s5 Pq k => ⟨_, rfl, _, _, rfl, rfl, k⟩) (fun H5 s5 hE5 => ?_)⟩
   rw [Qeb] at hE5
   refine ⟨D5, _, rfl, .inl ⟨Qb hE5, fun tm htm => ?_⟩⟩
   have su := s5.trans (Qc htm (.tup (((chs n B).map fun c => -(if c.1 = w then (1 : Int) else 0)).map V.int)))
   have hm6 : SqT K (upd H5 tm (.tup (((chs n B).map fun c => -(if c.1 = w then (1 : Int) else 0)).map V.int))) tm (((chs n B).map fun c => -(if c.1 = w then (1 : Int) else 0)).map V.int) := Qs Qd
   refine ⟨_, rfl, by show 2 ≤ sizeLine; decide, fun b4 hb4 => ⟨by show 2 ≤ sizeLine; decide, fun t4 ht4 => ?_⟩⟩
   obtain ⟨y6, hy6, hl6, c6⟩ := Zy (lab := [Sum.inr ("work" : Str), Sum.inr w, Sum.inl (-1)]) c4 ha3 su hb4 hm6 ht4 (by rw [jY, xV]; omega) rfl
   refine ⟨_, _, _, rfl, rfl, hy6, hl6, _, _, rfl, ?_⟩
   rw [Xf Yj er, show Yj (.work w) = some w from rfl, wJ]
   rw [zW] at c6
   exact c6
  ·refine ⟨_, _, rfl, ?_⟩
   rw [Xf Yj er, Vv (fun e => y (by rw [e]; exact yesS _)), jQf, yW]
   exact c
 rintro σ H1 ⟨u, v, rfl, c⟩
 rw [lu, kY] at c
 have cX : LbI K H H1 g ((wks B).flatMap (labW (chs n B))) := c
 obtain ⟨gX, egX⟩ : ∃ gX, gX = g := ⟨g, rfl⟩
 rw [← egX] at cX ⊢
 clear c
 let Pv47 : Nat → St → Hp → Prop := fun i σ H1 => ∃ (gx : Addr) (u v : Option V), σ = [some (.ref d), some (.ref a), some (.ref gx), u, v] ∧ LbI K H H1 gx ((wks B).flatMap (labW (chs n B)) ++ ((B.take i).filterMap benR).flatMap (labR n B (chs n B)))
 refine ⟨_, rfl, d, rfl, ⟨_, Qb (cX.sm _ _ h1)⟩, Xp (xs := us) Pv47 ⟨gX, u, v, rfl, by rw [show (B.take 0).filterMap benR = [] from rfl, wV, yW]; exact cX⟩ ?_ ?_ ?_⟩
 ·rintro i σ H1 hi ⟨gx, u, v, rfl, c⟩
  exact Qb (c.sm _ _ h1)
 ·rintro i x σ H1 ex ⟨gx, u, v, rfl, c⟩
  obtain ⟨r, lr, er, rfl, hr0⟩ := h2.get ex
  have hr := c.sm _ _ hr0
  refine ⟨_, rfl, lr, _, _, _, rfl, rfl, Qb hr, Yt r, rfl, _, rfl, ite2 (fun y => ?_) (fun y => ?_)⟩
  ·obtain ⟨b, r0, rfl⟩ := Wm (eqS y)
   refine ⟨_, rfl, _, rfl, _, rfl, _, rfl, d, a, lr, n, B, b, r0, rfl, hb.same c.sm, hA.same c.sm, hr, kZ er, fun g2 H2 i2 => ?_⟩
   obtain ⟨y1, e1, r1⟩ := c.ex
   obtain ⟨y2, e2, r2⟩ := i2.ex
   have q1 := Paired.length r1
   have q2 := Paired.length r2
   have q3 := Kz n12 (B := B) (A := chs n B) ((B.take i).filterMap benR)
   have q4 := kW benR (B.take i)
   have q5 : (labR n B (chs n B) (b, r0)).length ≤ 12 := by
    have := Kz n12 (B := B) (A := chs n B) [(b, r0)]
    rw [jJb, wV, yW, xV, Nat.one_mul] at this
    exact this
   rw [zQ] at q4
   repeat rw [jY] at q1
   refine ⟨gx, g2, y1, y2, rfl, rfl, i2.sm _ _ e1, e2, by omega, fun p hp => ?_⟩
   have c3 := Kj (c.sm.trans i2.sm) (i2.sm _ _ e1) (r1.same i2.sm) e2 r2 hp
   refine ⟨p, _, _, rfl, ?_⟩
   rw [Xf benR er, show benR (.bench b r0) = some (b, r0) from rfl, wJ]
   rw [zW] at c3
   simpa using c3
  ·refine ⟨gx, _, _, rfl, ?_⟩
   rw [Xf benR er, Qnd (fun e => y (by rw [e]; exact yesS _)), jQf, yW]
   exact c
 rintro σ H1 ⟨gx, u, v, rfl, c⟩
 rw [lu, kY] at c
 have cX : LbI K H H1 gx ((wks B).flatMap (labW (chs n B)) ++ (B.filterMap benR).flatMap (labR n B (chs n B))) := c
 obtain ⟨gX, egX⟩ : ∃ gX, gX = gx := ⟨gx, rfl⟩
 rw [← egX] at cX ⊢
 clear c
 let Pv48 : Nat → St → Hp → Prop := fun i σ H1 => ∃ (gx : Addr) (u v : Option V), σ = [some (.ref d), some (.ref a), some (.ref gx), u, v] ∧ LbI K H H1 gx (((wks B).flatMap (labW (chs n B)) ++ (B.filterMap benR).flatMap (labR n B (chs n B))) ++ ((B.take i).filterMap stoR).flatMap (labS n B (chs n B)))
 refine ⟨_, rfl, d, rfl, ⟨_, Qb (cX.sm _ _ h1)⟩, Xp (xs := us) Pv48 ⟨gX, u, v, rfl, by rw [show (B.take 0).filterMap stoR = [] from rfl, wV, yW]; exact cX⟩ ?_ ?_ ?_⟩
 ·rintro i σ H1 hi ⟨gx, u, v, rfl, c⟩
  exact Qb (c.sm _ _ h1)
 ·rintro i x σ H1 ex ⟨gx, u, v, rfl, c⟩
  obtain ⟨r, lr, er, rfl, hr0⟩ := h2.get ex
  have hr := c.sm _ _ hr0
  refine ⟨_, rfl, lr, _, _, _, rfl, rfl, Qb hr, Yt r, rfl, _, rfl, ite2 (fun y => ?_) (fun y => ?_)⟩
  ·obtain ⟨s0, m0, f0, rfl⟩ := Kf (eqS y)
   refine ⟨_, rfl, _, rfl, _, rfl, _, rfl, d, a, lr, n, B, s0, m0, f0, rfl, hb.same c.sm, hA.same c.sm, hr, kZ er, fun g2 H2 i2 => ?_⟩
   obtain ⟨y1, e1, r1⟩ := c.ex
   obtain ⟨y2, e2, r2⟩ := i2.ex
   have q1 := Paired.length r1
   have q2 := Paired.length r2
   have q3 := Va n12 (B := B) (A := chs n B) ((B.take i).filterMap stoR)
   have q4 := kW stoR (B.take i)
   have q5 : (labS n B (chs n B) (s0, m0, f0)).length ≤ 26 := by
    have := Va n12 (B := B) (A := chs n B) [(s0, m0, f0)]
    rw [jJb, wV, yW, xV, Nat.one_mul] at this
    exact this
   rw [zQ] at q4
   repeat rw [jY] at q1
   refine ⟨gx, g2, y1, y2, rfl, rfl, i2.sm _ _ e1, e2, by omega, fun p hp => ?_⟩
   have c3 := Kj (c.sm.trans i2.sm) (i2.sm _ _ e1) (r1.same i2.sm) e2 r2 hp
   refine ⟨p, _, _, rfl, ?_⟩
   rw [Xf stoR er, show stoR (.store s0 m0 f0) = some (s0, m0, f0) from rfl, wJ]
   rw [zW] at c3
   simpa using c3
  ·refine ⟨gx, _, _, rfl, ?_⟩
   rw [Xf stoR er, Qne (fun e => y (by rw [e]; exact yesS _)), jQf, yW]
   exact c
 rintro σ H1 ⟨gx, u, v, rfl, c⟩
 rw [lu, kY] at c
 have cX : LbI K H H1 gx ((wks B).flatMap (labW (chs n B)) ++ (B.filterMap benR).flatMap (labR n B (chs n B)) ++ (B.filterMap stoR).flatMap (labS n B (chs n B))) := c
 obtain ⟨gX, egX⟩ : ∃ gX, gX = gx := ⟨gx, rfl⟩
 rw [← egX] at cX ⊢
 clear c
 let Pv49 : Nat → St → Hp → Prop := fun i σ H1 => ∃ (gx : Addr) (u v : Option V), σ = [some (.ref d), some (.ref a), some (.ref gx), u, v] ∧ LbI K H H1 gx (((wks B).flatMap (labW (chs n B)) ++ (B.filterMap benR).flatMap (labR n B (chs n B)) ++ (B.filterMap stoR).flatMap (labS n B (chs n B))) ++ ((B.take i).filterMap aftR).flatMap (labA n B (chs n B)))
 refine ⟨_, rfl, d, rfl, ⟨_, Qb (cX.sm _ _ h1)⟩, Xp (xs := us) Pv49 ⟨gX, u, v, rfl, by rw [show (B.take 0).filterMap aftR = [] from rfl, wV, yW]; exact cX⟩ ?_ ?_ ?_⟩
 ·rintro i σ H1 hi ⟨gx, u, v, rfl, c⟩
  exact Qb (c.sm _ _ h1)
 ·rintro i x σ H1 ex ⟨gx, u, v, rfl, c⟩
  obtain ⟨r, lr, er, rfl, hr0⟩ := h2.get ex
  have hr := c.sm _ _ hr0
  refine ⟨_, rfl, lr, _, _, _, rfl, rfl, Qb hr, Yt r, rfl, _, rfl, ite2 (fun y => ?_) (fun y => ?_)⟩
  ·obtain ⟨x0, y0, g0, rfl⟩ := Kd (eqS y)
   refine ⟨_, rfl, _, rfl, _, rfl, _, rfl, d, a, lr, n, B, x0, y0, g0, rfl, hb.same c.sm, hA.same c.sm, hr, kZ er, fun g2 H2 i2 => ?_⟩
   obtain ⟨y1, e1, r1⟩ := c.ex
   obtain ⟨y2, e2, r2⟩ := i2.ex
   have q1 := Paired.length r1
   have q2 := Paired.length r2
   have q3 := Vb n12 (B := B) (A := chs n B) ((B.take i).filterMap aftR)
   have q4 := kW aftR (B.take i)
   have q5 : (labA n B (chs n B) (x0, y0, g0)).length ≤ 13 := by
    have := Vb n12 (B := B) (A := chs n B) [(x0, y0, g0)]
    rw [jJb, wV, yW, xV, Nat.one_mul] at this
    exact this
   rw [zQ] at q4
   repeat rw [jY] at q1
   refine ⟨gx, g2, y1, y2, rfl, rfl, i2.sm _ _ e1, e2, by omega, fun p hp => ?_⟩
   have c3 := Kj (c.sm.trans i2.sm) (i2.sm _ _ e1) (r1.same i2.sm) e2 r2 hp
   refine ⟨p, _, _, rfl, ?_⟩
   rw [Xf aftR er, show aftR (.after x0 y0 g0) = some (x0, y0, g0) from rfl, wJ]
   rw [zW] at c3
   simpa using c3
  ·refine ⟨gx, _, _, rfl, ?_⟩
   rw [Xf aftR er, Qnf (fun e => y (by rw [e]; exact yesS _)), jQf, yW]
   exact c
 rintro σ H1 ⟨gx, u, v, rfl, c⟩
 rw [lu, kY] at c
 exact ⟨_, rfl, q gx H1 c⟩
end
abbrev Qcg : Stmt := top 27
theorem Qng {n : Int} {B : List BR} (wb : WB n B) (w : Str) : (B.filterMap (Zq w)).Pairwise fun _ _ => False := by
 rw [List.pairwise_filterMap]
 refine wb.nd.imp fun {r q} ha x hx y hy => ?_
 have e1 := lateR_some.mp hx
 have e2 := lateR_some.mp hy
 subst e1 e2
 have ns : ¬ ("late" : Str) = "shut" := by decide +kernel
 rcases ha with z | z | z
 ·exact ns z
 ·exact ns z
 ·exact z rfl
def ltS (w : Str) (e : Int) (B : List BR) : Int := ((B.filterMap (Zq w)).map fun x => x.2 * (if e - x.1 > 0 then e - x.1 else 0)).sum
theorem Qhw {n : Int} {B : List BR} (wb : WB n B) {w : Str} {b l c : Int} : c + ltS w (b + l) B = Qcb B w b l c := by
 unfold ltS Qcb
 have hp := Qng wb w
 by_cases h : ∃ d k, BR.late w d k ∈ B
 ·obtain ⟨d, k, h⟩ := h
  rw [Qak wb h]
  have hm : (d, k) ∈ B.filterMap (Zq w) := yY.mpr ⟨_, h, lateR_some.mpr rfl⟩
  have hx : ∀ x ∈ B.filterMap (Zq w), x = (d, k) := fun x hx => by
   obtain ⟨r, hr, er⟩ := yY.mp hx
   rw [lateR_some] at er
   subst er
   have := wb.uniq hr h rfl (by show ¬ (("late" : Str) = "shut"); decide +kernel)
   injection this with _ e1 e2
   exact Prod.ext e1 e2
  generalize B.filterMap (Zq w) = xs at hm hx hp
  match xs, hm, hx, hp with
  | [x], _, hx, _ =>
   rw [hx x (zX ..)]
   simp [Int.mul_comm]
  | x :: y :: xs, _, _, hp => exact absurd (List.rel_of_pairwise_cons hp (zX ..)) id
 ·rw [Qal (fun d k z => h ⟨d, k, z⟩)]
  have : B.filterMap (Zq w) = [] := by
   rw [List.filterMap_eq_nil_iff]
   intro r hr
   cases e : Zq w r with
   | none => rfl
   | some x => rw [lateR_some] at e; subst e; exact absurd ⟨_, _, hr⟩ h
  rw [this]
  simp
theorem Qec {w : Str} {e : Int} {B : List BR} {i : Nat} {r : BR} (h : B[i]? = some r) : ltS w e (B.take (i + 1)) = ltS w e (B.take i) + (match Zq w r with | some x => x.2 * (if e - x.1 > 0 then e - x.1 else 0) | none => 0) := by
 unfold ltS
 rw [Xf (Zq w) h, kK, List.sum_append]
 cases Zq w r <;> simp
theorem Qka {K : Fg} {H : Hp} {P t : Addr} {kvs : List (Key × V)} {o : HO} {xs : List V} (hP : H P = some (.dK kvs)) (h : SqT K H t xs) : SqT K (upd H P o) t xs := by
 rcases h with (h | ⟨p, h⟩) | h
 ·exact .inl (.inl (by rw [Qk (Yx h hP (by intro z; cases z))]; exact h))
 ·exact .inl (.inr ⟨p, by rw [Qk (Yx h hP (by intro z; cases z))]; exact h⟩)
 ·exact .inr h
theorem BkAt.updO {H : Hp} {P d : Addr} {kvs : List (Key × V)} {o : HO} {n : Int} {B : List BR} (hP : H P = some (.dK kvs)) (h : BkAt H d n B) : BkAt (upd H P o) d n B := by
 obtain ⟨us, h1, h2⟩ := h.ex
 exact ⟨⟨us, by rw [Qk (Yx h1 hP (by intro z; cases z))]; exact h1, h2.imp fun l r _ z => by rw [Qk (Yx z hP (by intro z; cases z))]; exact z⟩, h.bk⟩
theorem Qkb {w : Str} {r : BR} (h : r.word ≠ "late") : Zq w r = none := by
 cases r with
 | late w' d k => exact absurd rfl h
 | _ => rfl
def Qhx (K : Fg) : Sp := fun vs H Q _ => ∃ (d P : Addr) (w v : Str) (b l c n : Int) (B : List BR), vs = [.ref d, .ref P] ∧ BkAt H d n B ∧ PlOne K H P w v b ∧ BR.way w v l c ∈ B ∧ 0 ≤ b ∧ b + l ≤ n ∧ ∀ (H' : Hp), Same H H' → Q (.int (Qcb B w b l c)) H'
section
variable {P : Program} {w : World} {K : Fg} {mg : Str → Option Value} {base : Heap}
theorem scLCost : FnScope ["_law_book_here", "_law_plan", "_law_total", "_law_work", "_law_row"] ["_law_book_here", "_law_plan"] (Qi Qcg) := ⟨rfl, rfl, rfl, by decide +kernel, rfl, by decide +kernel, by decide +kernel⟩
theorem Qnh (F : Fn K mg "_law_cost" Qcg) (M : Mg mg) (cl_ways : Cal P w K mg base 1 "_law_ways" ["_law_book_here", "_law_work"] (Qjw K)) (cl_end : Cal P w K mg base 2 "_law_end" ["_law_book_here", "_law_plan", "_law_work"] (Qcf K)) : Cal P w K mg base 3 "_law_cost" ["_law_book_here", "_law_plan"] (Qhx K) := by
 refine Ye F scLCost (fun _ _ _ _ _ _ => We (fun _ _ => rfl)) (fun vs H Q E h => ?_) (fun f cdv A outer s H vs Q E hr h => ?_)
 ·obtain ⟨d, P, w, v, b, l, c, n, B, rfl, _⟩ := h
  rfl
 obtain ⟨d, P, w, v, b, l, c, n, B, rfl, hb, hPl, hw, b0, b1, q⟩ := h
 have hu : (A.deeper (PyProof.Rows.envOfC "_law_cost" (Qi Qcg) s.heap.objs.size f cdv)).units + 1 < cLine := wK (jQb (by decide) _) hr.un
 have hz : (2000000 : Nat) < sizeLine := by decide
 refine ⟨_, (Qh (Qq (i := 2) scLCost.nd rfl (Or.inl rfl) Qe)
  (Qh (Qmc (Xk PassesOwn.never rfl (Qjt (pv 1)) (Qn (i := 3) scLCost.nd rfl (Or.inr rfl) (Or.inl rfl)) (Qj (Qq (i := 2) scLCost.nd rfl (Or.inl rfl) (Ql Qt (pv 2) (Qo Qm (Zf ["_law_name_here", "_law_length", "_law_cost_here", "_law_plan", "_law_work"] [none, none, none, some 1, some 3] rfl (Qu (Xx cl_ways (hr.mono (by decide)) (Qa (pv 0) (Qa (pv 3) Qg)))) (fun _ _ _ => (Qcr (K := K) (i := 0) (j := 1) (l := 2) rfl rfl (show (["_law_name_here", "_law_length", "_law_cost_here", "_law_plan", "_law_work"] : List Str).Nodup by decide +kernel) rfl rfl rfl rfl rfl rfl)) (fun _ _ _ => (Jc (Qr Yk (pv 0) (Qo (Jq (K := K) rfl) (Ka hu (pv 3) (pv 4) (fun _ _ => rfl)) Qe (fun _ _ => rfl)) (Qv _)))) (fun _ _ _ => (pv 2))) Qe (fun _ _ => rfl)))))))
  (Qh (Xk PassesOwn.never rfl (Qu (pv 0)) (Qn (i := 4) scLCost.nd rfl (Or.inl rfl) (Or.inl rfl)) (Qj (Yu (PW.pt (Ve (Qr Yk (Qo Qm (pv 4) Qe (fun _ _ => rfl)) Qz (Qv _)) (Vd (pt_cmp (pc_din hu (Qo Qm (pv 4) Qe (fun _ _ => rfl)) (pv 1)))))) (Qj (Qq (i := 2) scLCost.nd rfl (Or.inl rfl) (Ql Qt (pv 2) (Ql Zl (Qo Qm (pv 4) Qe (fun _ _ => rfl)) (Xm (Qaz rfl) rfl M.max Qkm (Qa Qe (Qa (Ql Zj (Xx cl_end (hr.mono (by decide)) (Qa (pv 0) (Qa (pv 1) (Qa (Qo Qm (pv 4) Qe (fun _ _ => rfl)) Qg)))) (Qo Qm (pv 4) Qe (fun _ _ => rfl))) Qg))))))) Xj)))
  (Qj (Xe (pv 2)))))), ?_⟩
 have bl := hb.bk.wb.len
 have n12 := hb.bk.n12
 have wl := kW (wayR w) B
 obtain ⟨t, hP, ht⟩ := id hPl
 refine ⟨_, rfl, P, _, rfl, hP, fun nf o => ?_⟩
 have hbf := hb.updO (o := .frz o (.dK [(Sum.inr w, .ref t)])) hP
 have htf := Qka (o := .frz o (.dK [(Sum.inr w, .ref t)])) hP ht
 have sf : ∀ b u, H b = some u → b ≠ P → upd H P (.frz o (.dK [(Sum.inr w, .ref t)])) b = some u := fun b u e ne => by rw [Qk ne]; exact e
 have hfz : upd H P (.frz o (.dK [(Sum.inr w, .ref t)])) P = some (.frz o (.dK [(Sum.inr w, .ref t)])) := Qd
 generalize upd H P (.frz o (.dK [(Sum.inr w, .ref t)])) = Hf at hbf htf sf hfz ⊢
 have dgf : ∀ H1, Same Hf H1 → DGet H1 P (.str w) (some (.ref t)) := fun H1 s => .inl ⟨_, Sum.inr w, .inr ⟨o, s _ _ hfz⟩, rfl, (Yi (p := (Sum.inr w, V.ref t)) (r := []) rfl).symm⟩
 refine Qju (kvs := [(Sum.inr w, V.ref t)]) (fun i σ H1 => ∃ (u : Option V) (z : Int), σ = [some (.ref d), some (.ref P), some (.int z), u, none] ∧ (i = 0 → z = 0) ∧ (i = 1 → z = c) ∧ Same Hf H1) ⟨none, 0, rfl, fun _ => rfl, fun e => (nomatch e), Same.refl _⟩ ?_ ?_ ?_
 ·rintro i σ H1 hi ⟨u, z, rfl, _, _, s1⟩
  exact s1 _ _ hfz
 ·rintro i k x σ H1 e ⟨u, z, rfl, z0, _, s1⟩
  match i, e with
  | 0, e =>
   cases e
   have z0 := z0 rfl
   subst z0
   refine ⟨_, rfl, _, rfl, _, rfl, d, w, n, B, rfl, hbf.same s1, fun a ys H2 s2 _ ha hW => ?_⟩
   refine ⟨a, rfl, ⟨_, Qb ha⟩, fun D hD => Qkr (f := pkC v) (cs := [some (.ref P), some (.str w)]) rfl ha hW (by omega) hD (fun x hx H3 s3 P1 P2 k1 k2 => ?_) (fun H3 s3 hE => ?_)⟩
   ·have s13 := (s1.trans s2).trans s3
    refine ⟨_, rfl, _, rfl, _, rfl, P, _, rfl, dgf _ s13, t, _, _, _, rfl, rfl, s13.tup htf, at0, rfl, _, rfl, ite2 (fun y => ?_) (fun y => ?_)⟩
    ·exact ⟨_, rfl, k1 _ _ (if_pos (eqS y)) (Same.refl _)⟩
    ·exact k2 (if_neg fun e => y (by rw [e]; exact yesS _)) _ (Same.refl _)
   ·exact ⟨D, _, _, _, rfl, rfl, Qb hE, (Qhs hb.bk.wb hw).2, _, _, rfl, rfl, _, _, rfl, fun e => (nomatch e), fun _ => Int.zero_add _, (s1.trans s2).trans s3⟩
 ·rintro σ H1 ⟨u, z, rfl, _, z1, s1⟩
  have z1 := z1 rfl
  subst z1
  refine ⟨P, o, _, nf, s1 _ _ hfz, ?_⟩
  have s2 : Same H (upd H1 P (.dK [(Sum.inr w, .ref t)])) := fun b u e => by
   by_cases c : b = P
   ·subst c; rw [Qd, ← hP]; exact e
   ·rw [Qk c]; exact s1 _ _ (sf b u e c)
  generalize upd H1 P (.dK [(Sum.inr w, .ref t)]) = H2 at s2 ⊢
  clear hbf htf sf hfz dgf s1
  obtain ⟨us, h1, h2⟩ := hb.ex
  have lu := h2.length
  let Pv50 : Nat → St → Hp → Prop := fun i σ H3 => (∃ u v : Option V, σ = [some (.ref d), some (.ref P), some (.int (z + ltS w (b + l) (B.take i))), u, v]) ∧ Same H H3
  refine ⟨_, rfl, d, rfl, ⟨_, Qb (s2 _ _ h1)⟩, Xp (xs := us) Pv50 ⟨⟨u, none, by rw [show ltS w (b + l) (B.take 0) = 0 from rfl, Int.add_zero]⟩, s2⟩ ?_ ?_ ?_⟩
  ·rintro i σ H3 hi ⟨⟨u, v, rfl⟩, s3⟩
   exact Qb (s3 _ _ h1)
  ·rintro i x σ H3 ex ⟨⟨u, v', rfl⟩, s3⟩
   obtain ⟨r, lr, er, rfl, hr0⟩ := h2.get ex
   have hr := s3 _ _ hr0
   have no : Zq w r = none → ltS w (b + l) (B.take (i + 1)) = ltS w (b + l) (B.take i) := fun e => by rw [Qec er, e]; exact Int.add_zero _
   refine ⟨_, rfl, lr, _, _, _, rfl, rfl, Qb hr, Yt r, rfl, _, rfl, ite2 (fun y => ?_) (fun y => ite2 (fun z => nomatch z) fun _ => ⟨⟨_, _, by rw [no (Qkb fun e => y (by rw [e]; exact yesS _))]; rfl⟩, s3⟩)⟩
   obtain ⟨w', dd, k, rfl⟩ := Qbt (eqS y)
   have a1 : atI ((BR.late w' dd k).cells.map kV) 1 = some (.str w') := rfl
   refine ⟨_, rfl, lr, _, _, _, rfl, rfl, Qb hr, a1, _, rfl, P, _, rfl, .inl ⟨_, Sum.inr w', .inl (s3 _ _ hP), rfl, rfl⟩, _, rfl, ite2 (fun y1 => ?_) (fun y1 => ?_)⟩
   ·have ew : w' = w := by
     by_cases e : w = w'
     ·exact e.symm
     ·exfalso
      rw [Yr (p := (Sum.inr w, V.ref t)) (r := []) (fun z => e (Sum.inr.inj z))] at y1
      exact nomatch y1
    subst ew
    have hok : 0 ≤ dd ∧ dd ≤ n ∧ _ := hb.bk.wb.ok _ (kZ er)
    refine ⟨_, rfl, _, rfl, lr, _, _, _, rfl, rfl, Qb hr, (show atI ((BR.late w' dd k).cells.map kV) 3 = some (.int k) from rfl), _, rfl, _, rfl, _, rfl, lr, _, _, _, rfl, rfl, Qb hr, a1, d, P, w', v, b, l, z, n, B, rfl, hb.same s3, hPl.same s3, hw, fun H4 s4 => ?_⟩
    refine ⟨_, rfl, lr, _, _, _, rfl, rfl, Qb (s4 _ _ hr), (show atI ((BR.late w' dd k).cells.map kV) 2 = some (.int dd) from rfl), _, _, rfl, rfl, _, _, rfl, _, _, rfl, rfl, .inr ?_, _, _, rfl, rfl, ⟨u, some (.ref lr), ?_⟩, s3.trans s4⟩
    ·constructor
     ·show -(2 ^ 64) < (if b + l - dd > 0 then b + l - dd else 0)
      split <;> omega
     ·show (if b + l - dd > 0 then b + l - dd else 0) < 2 ^ 64
      split <;> omega
    ·rw [Qec er, show Zq w' (BR.late w' dd k) = some (dd, k) from if_pos rfl, ← Int.add_assoc]
     rfl
   ·have e2 : Zq w (BR.late w' dd k) = none := if_neg fun e => y1 (by
     rw [e, Yi (p := (Sum.inr w, V.ref t)) (r := []) rfl]; rfl)
    exact ⟨⟨_, _, by rw [no e2]; rfl⟩, s3⟩
  ·rintro σ H3 ⟨⟨u, v', rfl⟩, s3⟩
   rw [lu, kY, Qhw hb.bk.wb]
   exact ⟨_, rfl, q H3 s3⟩
end
abbrev sChs : Stmt := top 24
theorem ch_put {K : Fg} {H0 H : Hp} {g t : Addr} {A : List Ch} {c : Ch} (h : ChI K H0 H g A) (ht : H t = none) (hl : A.length ≤ 2000000) : ∃ ys, upd H t (.tup [.str c.1, .str c.2.1, .int c.2.2]) g = some (.lst ys) ∧ ys.length < sizeLine ∧ ChI K H0 (upd (upd H t (.tup [.str c.1, .str c.2.1, .int c.2.2])) g (.lst (ys ++ [.ref t]))) g (A ++ [c]) := by
 obtain ⟨ys, hg, hA⟩ := h.ex
 have s1 := Qc ht (.tup [.str c.1, .str c.2.1, .int c.2.2])
 have hz : (2000000 : Nat) < sizeLine := by decide
 have := Paired.length hA
 refine ⟨ys, s1 _ _ hg, by omega, h.fr, Yc (h.sm.trans s1) h.fr, _, Qd, Paired.snoc ((hA.same s1).updL (s1 _ _ hg)) ⟨t, rfl, Xi (s1 _ _ hg) (Qs Qd)⟩⟩
theorem Qkc {K : Fg} {H H' : Hp} (s : Same H H') {ys : List V} {xs : List (Str × Int × Int)} (h : Paired (WyV K H) ys xs) : Paired (WyV K H') ys xs := Paired.mapP h fun _ _ ⟨t, e, z⟩ => ⟨t, e, s.tup z⟩
theorem Qni {K : Fg} {H : Hp} {g : Addr} {as bs : List V} (hg : H g = some (.lst as)) {ys : List V} {xs : List (Str × Int × Int)} (h : Paired (WyV K H) ys xs) : Paired (WyV K (upd H g (.lst bs))) ys xs := Paired.mapP h fun _ _ ⟨t, e, z⟩ => ⟨t, e, Xi hg z⟩
def spChs (K : Fg) : Sp := fun vs H Q _ => ∃ (d : Addr) (n : Int) (B : List BR), vs = [.ref d] ∧ BkAt H d n B ∧ ∀ (g : Addr) (H' : Hp), ChI K H H' g (chs n B) → Q (.ref g) H'
section
variable {P : Program} {w : World} {K : Fg} {mg : Str → Option Value} {base : Heap}
theorem scChs : FnScope ["_law_book_here", "_law_found", "_law_row", "_law_way_here", "_law_length", "_law_cost_here", "_law_begin"] ["_law_book_here"] (Qi sChs) := ⟨rfl, rfl, rfl, by decide +kernel, rfl, by decide +kernel, by decide +kernel⟩
theorem okChs (F : Fn K mg "_law_choices" sChs) (M : Mg mg) (cl_ways : Cal P w K mg base 1 "_law_ways" ["_law_book_here", "_law_work"] (Qjw K)) : Cal P w K mg base 2 "_law_choices" ["_law_book_here"] (spChs K) := by
 refine Ye F scChs (fun _ _ _ _ _ _ => bind1 (fun _ => rfl)) (fun vs H Q E h => ?_) (fun f cdv A outer s H vs Q E hr h => ?_)
 ·obtain ⟨d, n, B, rfl, _⟩ := h
  rfl
 obtain ⟨d, n, B, rfl, hb, q⟩ := h
 have hz : (2000000 : Nat) < sizeLine := by decide
 refine ⟨_, (Qh (Qq (i := 1) scChs.nd rfl (Or.inl rfl) (Xr Qg))
  (Qh (Xk PassesOwn.never rfl (Qu (pv 0)) (Qn (i := 2) scChs.nd rfl (Or.inl rfl) (Or.inl rfl)) (Qj (Yu (Qr Yk (Qo Qm (pv 2) Qe (fun _ _ => rfl)) Qz (Qv _)) (Qj (Xk PassesOwn.never rfl (Qu (Xx cl_ways (hr.mono (by decide)) (Qa (pv 0) (Qa (Qo Qm (pv 2) Qe (fun _ _ => rfl)) Qg)))) (Qaw rfl (Yn (Qn (i := 3) scChs.nd rfl (Or.inl rfl) (Or.inl rfl)) (Yn (Qn (i := 4) scChs.nd rfl (Or.inl rfl) (Or.inl rfl)) (Yn (Qn (i := 5) scChs.nd rfl (Or.inl rfl) (Or.inl rfl)) Vf)))) (Qj (Xk PassesOwn.never rfl (Xu rfl M.range_ (Qa (Ql Qt (Ql Zj (Qo Qm (Qo Qm (pv 0) Qe (fun _ _ => rfl)) Qe (fun _ _ => rfl)) (pv 4)) Qe) Qg)) (Qn (i := 6) scChs.nd rfl (Or.inl rfl) (Or.inl rfl)) (Qj (Xh (Yz PySem.F.plainAttrs_list PySem.F.slot_list_append PySem.F.type_list_append Qw (pv 1) (Qa (Qx (Qa (Qo Qm (pv 2) Qe (fun _ _ => rfl)) (Qa (pv 3) (Qa (pv 6) Qg)))) Qg)))))))) Xj)))
  (Qj (Xe (pv 1))))), ?_⟩
 obtain ⟨us, l0, h1, h2, a0, hl0⟩ := hb.days
 have lu := h2.length
 have bk := hb.bk
 have bl := bk.wb.len
 have n12 := bk.n12
 refine ⟨by show 0 ≤ sizeLine; decide, fun g hg => ?_⟩
 have c0 : ChI K H (upd H g (.lst [])) g [] := ⟨hg, Qc hg _, [], Qd, .nil⟩
 generalize upd H g (.lst []) = H1 at c0 ⊢
 let Pv51 : Nat → St → Hp → Prop := fun i σ H1 => ∃ u1 u2 u3 u4 u5 : Option V, σ = [some (.ref d), some (.ref g), u1, u2, u3, u4, u5] ∧ ChI K H H1 g (((B.take i).filterMap Yj).flatMap (chO n B))
 refine ⟨_, rfl, d, rfl, ⟨_, Qb (c0.sm _ _ h1)⟩, Xp (xs := us) Pv51 ⟨none, none, none, none, none, rfl, c0⟩ ?_ ?_ ?_⟩
 ·rintro i σ H1 hi ⟨u1, u2, u3, u4, u5, rfl, c⟩
  exact Qb (c.sm _ _ h1)
 ·rintro i x σ H1 ex ⟨u1, u2, u3, u4, u5, rfl, c⟩
  obtain ⟨r, lr, er, rfl, hr0⟩ := h2.get ex
  have hr := c.sm _ _ hr0
  refine ⟨_, rfl, lr, _, _, _, rfl, rfl, Qb hr, Yt r, rfl, _, rfl, ite2 (fun y => ?_) (fun y => ?_)⟩
  ·obtain ⟨w, rfl⟩ := Vt (eqS y)
   have aw : atI ((BR.work w).cells.map kV) 1 = some (.str w) := rfl
   refine ⟨_, rfl, _, rfl, lr, _, _, _, rfl, rfl, Qb hr, aw, d, w, n, B, rfl, hb.same c.sm, fun D ys H2 s2 nD hD hW => ?_⟩
   have c2 := c.same s2
   have ngD : D ≠ g := fun e => by
    obtain ⟨zs, hz1, _⟩ := c.ex
    rw [e, hz1] at nD; cases nD
   let Pv52 : Nat → St → Hp → Prop := fun j σ H3 => ∃ u2 u3 u4 u5 : Option V, σ = [some (.ref d), some (.ref g), some (.ref lr), u2, u3, u4, u5] ∧ ChI K H H3 g (((B.take i).filterMap Yj).flatMap (chO n B) ++ ((B.filterMap (wayR w)).take j).flatMap (chW n w)) ∧ H3 D = some (.lst ys) ∧ Paired (WyV K H3) ys (B.filterMap (wayR w))
   refine ⟨D, rfl, ⟨_, Qb hD⟩, Xp (xs := ys) Pv52 ⟨u2, u3, u4, u5, rfl, by rw [List.take_zero, wV, yW]; exact c2, hD, hW⟩ ?_ ?_ ?_⟩
   ·rintro j σ H3 hj ⟨u2, u3, u4, u5, rfl, c3, hD3, hW3⟩
    exact Qb hD3
   ·rintro j x σ H3 ex3 ⟨u2, u3, u4, u5, rfl, c3, hD3, hW3⟩
    obtain ⟨⟨v, l, k⟩, ew, t, rfl, ht⟩ := Qy hW3 ex3
    obtain ⟨r', hm, e5⟩ := yY.mp (kZ ew)
    rw [wayR_some] at e5
    subst e5
    have hok : 1 ≤ l ∧ l ≤ n ∧ _ := bk.wb.ok _ hm
    have ht' : SqT K H3 t [.str v, .int l, .int k] := ht
    refine ⟨t, _, rfl, ht', rfl, _, _, rfl, _, _, rfl, _, _, rfl, rfl, ?_⟩
    let Pv53 : Nat → St → Hp → Prop := fun m σ H4 => ∃ u5 : Option V, σ = [some (.ref d), some (.ref g), some (.ref lr), some (.str v), some (.int l), some (.int k), u5] ∧ ChI K H H4 g (((B.take i).filterMap Yj).flatMap (chO n B) ++ ((B.filterMap (wayR w)).take j).flatMap (chW n w) ++ (List.range m).map fun b : Nat => (w, v, (b : Int))) ∧ H4 D = some (.lst ys) ∧ Paired (WyV K H4) ys (B.filterMap (wayR w))
    refine ⟨_, rfl, d, _, _, _, rfl, rfl, Qb (c3.sm _ _ h1), a0, l0, _, _, _, rfl, rfl, Qb (c3.sm _ _ hl0), Qar n, _, rfl, _, _, rfl, rfl, _, _, rfl, rfl, _, rfl, by omega, by omega, Yd (lo := 0) (n := (n - l + 1).toNat) Pv53 ⟨u5, rfl, by rw [jKb, jZa, yW]; exact c3, hD3, hW3⟩ ?_ ?_⟩
    ·rintro m σ H4 hm4 ⟨u5, rfl, c4, hD4, hW4⟩
     rw [day0]
     obtain ⟨y4, hy4, _⟩ := c4.ex
     refine ⟨_, rfl, .inl ⟨rfl, _, Qb hy4⟩, _, rfl, lr, _, _, _, rfl, rfl, Qb (c4.sm _ _ hr0), aw, _, rfl, _, rfl, by show 3 ≤ sizeLine; decide, fun t4 ht4 => ?_⟩
     obtain ⟨y5, hy5, hl5, c5⟩ := ch_put (c := (w, v, (m : Int))) c4 ht4 (by
      rw [jY, jY, jX, xZ]
      have a1 := Xs (l := (B.take i).filterMap Yj) (f := chO n B) (m := 4800) fun w _ => Qdb bk w
      have a2 := Xs (l := (B.filterMap (wayR w)).take j) (f := chW n w) (m := 12) fun x hx => Qda bk x (jZe hx)
      have a3 := kW Yj (B.take i)
      have a4 := kW (wayR w) B
      rw [zQ] at a2 a3
      omega)
     have s5 := Qc ht4 (.tup [.str w, .str v, .int (m : Int)])
     refine ⟨_, _, _, rfl, rfl, hy5, hl5, _, rfl, ?_, ?_, Qni hy5 (Qkc s5 hW4)⟩
     ·rw [jXa, kK, ← zW]
      exact c5
     ·rw [Qk ngD]
      exact s5 _ _ hD4
    ·rintro σ H4 ⟨u5, rfl, c4, hD4, hW4⟩
     refine ⟨_, _, _, _, rfl, ?_, hD4, hW4⟩
     rw [Ym (chW n w) ew, ← zW]
     exact c4
   ·rintro σ H3 ⟨u2, u3, u4, u5, rfl, c3, hD3, hW3⟩
    refine ⟨_, _, _, _, _, rfl, ?_⟩
    rw [Paired.length hW, kY] at c3
    rw [Xf Yj er, show Yj (.work w) = some w from rfl, wJ]
    simpa [chO] using c3
  ·refine ⟨_, _, _, _, _, rfl, ?_⟩
   rw [Xf Yj er, Vv (fun e => y (by rw [e]; exact yesS _)), jQf, yW]
   exact c
 ·rintro σ H1 ⟨u1, u2, u3, u4, u5, rfl, c⟩
  rw [lu, kY] at c
  exact ⟨_, rfl, q g H1 c⟩
end
abbrev sLaw : Stmt := top 37
theorem Qnj {X : Cx} {K : Fg} (hK : X.K = K) : SlR X (rSlT K) := by subst hK; exact Kn
theorem Qkd {n : Int} {B : List BR} {l : Lb} (h : l ∈ labs n B) : l.2.1.length = (chs n B).length := by
 unfold labs at h
 rcases yX.mp h with h | h
 ·rcases yX.mp h with h | h
  ·rcases yX.mp h with h | h
   ·obtain ⟨w, _, h⟩ := jXd.mp h
    unfold labW at h
    rcases zY.mp h with e | h
    ·rw [e]; exact jX ..
    ·rw [jJ.mp h]; exact jX ..
   ·obtain ⟨p, _, h⟩ := jXd.mp h
    obtain ⟨d, _, rfl⟩ := wW.mp h
    exact jX ..
  ·obtain ⟨p, _, h⟩ := jXd.mp h
   obtain ⟨d, _, h⟩ := jXd.mp h
   unfold Qcd at h
   rcases zY.mp h with e | h
   ·rw [e]; exact jX ..
   ·rw [jJ.mp h]; exact jX ..
 ·obtain ⟨p, _, h⟩ := jXd.mp h
  obtain ⟨d, _, rfl⟩ := wW.mp h
  exact jX ..
theorem Qas (xs : List Int) : ∀ x ∈ xs.map V.int, Ws x = true := fun x hx => by
 obtain ⟨i, _, rfl⟩ := wW.mp hx; rfl
theorem Qed (ks : List Key) : ∀ x ∈ ks.map kV, Ws x = true := fun x hx => by
 obtain ⟨k, _, rfl⟩ := wW.mp hx; exact Qab k
theorem Qkw {K : Fg} {H : Hp} {m : Nat} {a b : Addr} {r : List Int × Int} (h1 : RowAt K H a r) (h2 : RowAt K H b r) : SmD K H (m + 2) (.ref a) (.ref b) := by
 obtain ⟨p, a1, a2⟩ := h1
 obtain ⟨q, b1, b2⟩ := h2
 exact .pair a1 b1 (.flats a2 b2 (Qas _)) (.flat rfl)
theorem lb_sm {K : Fg} {H : Hp} {m : Nat} {u v : V} {l : Lb} (h1 : LbV K H u l) (h2 : LbV K H v l) : SmD K H (m + 3) u v := by
 obtain ⟨t, a, b, rfl, x1, x2, x3⟩ := h1
 obtain ⟨t', a', b', rfl, y1, y2, y3⟩ := h2
 exact .pair x1 y1 (.flats x2 y2 (Qed _)) (Qkw x3 y3)
theorem Qkx {K : Fg} {H : Hp} {m : Nat} {g g' : Addr} {ys zs : List V} {L : List Lb} (h1 : H g = some (.lst ys)) (r1 : LbsAre K H ys L) (h2 : H g' = some (.lst zs)) (r2 : LbsAre K H zs L) : SmD K H (m + 4) (.ref g) (.ref g') := by
 refine .lst (Qb h1) (Qb h2) ((Paired.length r1).trans (Paired.length r2).symm) fun i x y ex ey => ?_
 obtain ⟨l, el, z1⟩ := Qy r1 ex
 obtain ⟨l', el', z2⟩ := Qy r2 ey
 rw [el] at el'
 cases el'
 exact lb_sm z1 z2
theorem Qhy {K : Fg} {H : Hp} {m : Nat} {g g' : Addr} {ys zs : List V} {R : List (List Int × Int)} (h1 : H g = some (.lst ys)) (r1 : Zv K H ys R) (h2 : H g' = some (.lst zs)) (r2 : Zv K H zs R) : SmD K H (m + 3) (.ref g) (.ref g') := by
 refine .lst (Qb h1) (Qb h2) ((Paired.length r1).trans (Paired.length r2).symm) fun i x y ex ey => ?_
 obtain ⟨l, el, t, rfl, z1⟩ := Qy r1 ex
 obtain ⟨l', el', t', rfl, z2⟩ := Qy r2 ey
 rw [el] at el'
 cases el'
 exact Qkw z1 z2
theorem Qnk {K : Fg} {H : Hp} {m : Nat} {g g' : Addr} {ys zs : List V} {B : List BR} (h1 : H g = some (.lst ys)) (r1 : RowsB H ys B) (h2 : H g' = some (.lst zs)) (r2 : RowsB H zs B) : SmD K H (m + 2) (.ref g) (.ref g') := by
 refine .lst (Qb h1) (Qb h2) (r1.length.trans r2.length.symm) fun i x y ex ey => ?_
 obtain ⟨r, l, er, rfl, z1⟩ := r1.get ex
 obtain ⟨r', l', er', rfl, z2⟩ := r2.get ey
 rw [er] at er'
 cases er'
 exact .flatL (Qb z1) (Qb z2) (Qed _)
theorem Qfa {K : Fg} {H : Hp} {ys : List V} {L : List Lb} (h : LbsAre K H ys L) : Qev ys := fun s r e => by
 cases h with
 | nil => cases e
 | cons z _ => obtain ⟨t, _, _, rfl, _⟩ := z; cases e
theorem Qfb {K : Fg} {H : Hp} {ys : List V} {R : List (List Int × Int)} (h : Zv K H ys R) : Qev ys := fun s r e => by
 cases h with
 | nil => cases e
 | cons z _ => obtain ⟨t, rfl, _⟩ := z; cases e
theorem Qky {K : Fg} {H : Hp} {g D : Addr} {ys : List V} {L : List Lb} {τ0 : St} {Q : Addr → Hp → Prop} (hτ : τ0 = [none, none]) (h6 : H g = some (.lst ys)) (r6 : LbsAre K H ys L) (kl : L.length ≤ 22000) (hD2 : H D = none)
  (hd : ∀ zs H1, Same H H1 → H1 D = some (.lst zs) → Zv K H1 zs (L.map (·.2)) → Q D H1) : LcW (Itl K g) D τ0 H (gPair K 0 1) tYes (tVar 1) Q := by
 subst hτ
 have l6 := Paired.length r6
 have hz : (50000 : Nat) < sizeLine := by decide
 let Pv54 : Nat → St → List V → Hp → Prop := fun i τ zs H7 => ∃ u v : Option V, τ = [u, v] ∧ Zv K H7 zs ((L.take i).map (·.2)) ∧ H7 D = some (.lst zs) ∧ Same H H7
 refine Yo (n := L.length) Pv54 ?_ (fun i τ zs H7 hi h => ?_) (fun i τ zs H7 hi h => ?_) (fun τ zs H7 h => ?_) ?_ ?_
 ·exact ⟨none, none, rfl, .nil, Qd, Qc hD2 _⟩
 ·obtain ⟨u, v, rfl, hR, hE, sv⟩ := h
  have := Paired.length hR
  rw [jX, zQ] at this
  exact ⟨hE, by omega⟩
 ·obtain ⟨u, v, rfl, hR, hE, sv⟩ := h
  exact ⟨ys, _, Qb (sv _ _ h6), gE (by omega)⟩
 ·obtain ⟨u, v, rfl, hR, hE, sv⟩ := h
  exact ⟨ys, Qb (sv _ _ h6), by omega⟩
 ·rintro i τ zs H7 x H8 hi ⟨u, v, rfl, hR, hE, sv⟩ ⟨rfl, e1⟩
  obtain ⟨lb, el, t, a1, b1, rfl, z1, z2, z3⟩ := Qy r6 (e1 _ (Qb (sv _ _ h6)))
  refine ⟨t, _, rfl, sv.tup z1, rfl, _, _, rfl, _, _, rfl, rfl, _, rfl, hE, _, _, rfl, ?_, Qd, Yc sv hD2⟩
  rw [Zz el, kK]
  have up : ∀ {t r}, RowAt K H8 t r → RowAt K (upd H8 D (.lst (zs ++ [.ref b1]))) t r := fun ⟨p, q1, q2⟩ => ⟨p, Xi hE q1, Xi hE q2⟩
  exact Paired.snoc (Paired.mapP hR fun _ _ ⟨t, e, z⟩ => ⟨t, e, up z⟩) ⟨b1, rfl, up (z3.same sv)⟩
 ·rintro τ zs H7 ⟨u, v, rfl, hR, hE, sv⟩
  rw [kY] at hR
  exact hd zs H7 sv hE hR
structure Wd (K : Fg) (H : Hp) (gH gD tc : Addr) (B : List BR) (uH yD : List V) (L : List Lb) (cs : List Int) : Prop where
 hH : H gH = some (.lst uH)
 hR : RowsB H uH B
 hD : H gD = some (.lst yD)
 hL : LbsAre K H yD L
 hc : SqT K H tc (cs.map V.int)
theorem Wd.same {K : Fg} {H H' : Hp} {gH gD tc : Addr} {B : List BR} {uH yD : List V} {L : List Lb} {cs : List Int} (h : Wd K H gH gD tc B uH yD L cs) (s : Same H H') : Wd K H' gH gD tc B uH yD L cs := ⟨s _ _ h.hH, h.hR.same s, s _ _ h.hD, h.hL.same s, s.tup h.hc⟩
theorem Wd.upd {K : Fg} {H : Hp} {gH gD tc g : Addr} {B : List BR} {uH yD zs ws : List V} {L : List Lb} {cs : List Int} (h : Wd K H gH gD tc B uH yD L cs) (hg : H g = some (.lst zs)) (n : Qev zs) (n1 : gH ≠ g) (n2 : gD ≠ g) : Wd K (L2.upd H g (.lst ws)) gH gD tc B uH yD L cs :=
 ⟨by rw [Qk n1]; exact h.hH, h.hR.updL hg n, by rw [Qk n2]; exact h.hD, h.hL.updL hg, Xi hg h.hc⟩
section
variable {P : Program} {w : World} {K : Fg} {mg : Str → Option Value} {base : Heap}
theorem scLaw : FnScope ["_law_script", "_law_draws_here", "_law_book_here", "_law_some", "_law_handed", "_law_found", "_law_due_here", "_law_label", "_law_row", "_law_costs", "_law_tells"] ["_law_script"] (Qi sLaw) := ⟨rfl, rfl, rfl, by decide +kernel, rfl, by decide +kernel, by decide +kernel⟩
theorem okLaw {f : Addr} {fd : FuncData} (F : Fun K "law" "law" sLaw f fd) (M : Mg mg) (cl_whole : Cal P w K mg base 1 "_law_whole" ["_law_found"] (Qge)) (cl_draws : Cal P w K mg base 2 "_law_draws" ["_law_script", "_law_many_here"] (Qbu K)) (cl_book : Cal P w K mg base 3 "_law_book" ["_law_draws_here", "_law_at", "_law_most", "_law_many_here"] (Qdw K)) (cl_choices : Cal P w K mg base 2 "_law_choices" ["_law_book_here"] (spChs K)) (cl_due : Cal P w K mg base 5 "_law_due" ["_law_book_here", "_law_some"] (Qhv K)) (cl_cost : Cal P w K mg base 3 "_law_cost" ["_law_book_here", "_law_plan"] (Qhx K)) (c_labelled : Cal P w K mg base 4 "labelled" ["book"] (Qhq K)) (c_problem_of : Cal P w K mg base 5 "problem_of" ["book"] (spPrb K)) : FnOk P w K mg base CX0 6 f fd ["_law_script"] (Qip K) := by
 refine F.ok scLaw (fun vs H Q E h => ?_) (fun cdv A outer s H vs Q E hr h => ?_)
 ·obtain ⟨a, ns, rfl, _⟩ := h
  rfl
 obtain ⟨a, ns, rfl, hS, h63, q⟩ := h
 have hu6 : (A.deeper (PyProof.Rows.envOfC "law" (Qi sLaw) s.heap.objs.size f cdv)).units + 6 < cLine := wK (jQb (by decide) _) hr.un
 have hz : (50000 : Nat) < sizeLine := by decide
 refine ⟨_, (Qh (Qq (i := 1) scLaw.nd rfl (Or.inl rfl) (Xx cl_draws (hr.mono (by decide)) (Qa (pv 0) (Qa Qe Qg))))
  (Qh (Qq (i := 2) scLaw.nd rfl (Or.inr rfl) (Xx cl_book (hr.mono (by decide)) (Qa (pv 1) (Qa Qe (Qa Qe (Qa Qe Qg))))))
  (Qh (Qq (i := 3) scLaw.nd rfl (Or.inl rfl) (Xx cl_choices (hr.mono (by decide)) (Qa (pv 2) Qg)))
  (Qh (Jz (i := 4) ["_law_row"] [none] rfl scLaw.nd rfl (Or.inl rfl) (Qu (pv 2)) (fun _ _ _ => (Qn (i := 0) (show (["_law_row"] : List Str).Nodup by decide +kernel) rfl (Or.inl rfl) (Or.inr rfl))) (fun _ _ _ => Yq) (fun _ _ _ => (Xc (Wu (K := K) rfl) rfl M.list_ Qgd (Qa (pv 0) Qg))))
  (Qh (Qq (i := 5) scLaw.nd rfl (Or.inl rfl) (Xx c_labelled (hr.mono (by decide)) (Qa (pv 4) Qg)))
  (Qh (Qq (i := 6) scLaw.nd rfl (Or.inl rfl) (Xx cl_due (hr.mono (by decide)) (Qa (pv 2) (Qa (pv 3) Qg))))
  (Qh (Yu (PW.pt (Qff (Qke (Qdf (Xm Qgp rfl M.isinstance Zu (Qa (pv 5) (Qa (Qlp M.list_ Qgd) Qg))))) (Qff (Qr (Qan (n := 6) hu6) (pv 5) (pv 6) (Qv _)) (Qdg (Qr (Qan (n := 6) hu6) (pv 4) (pv 2) (Qv _)))))) (Qj (Xe Qlb)) Xj)
  (Qh (Xk PassesOwn.never rfl (Qu (pv 5)) (Zt (K := K) (i := 7) (j := 8) rfl rfl scLaw.nd rfl rfl rfl rfl) (Qj (Yu (PW.pt (Qff (Qr op_ne (Xm Yf rfl M.len Ko (Qa (Zf ["_law_number"] [none] rfl (Qkf (Qo Xn (pv 8) Qe (fun _ _ => rfl))) (fun _ _ _ => (Qn (i := 0) (show (["_law_number"] : List Str).Nodup by decide +kernel) rfl (Or.inl rfl) (Or.inr rfl))) (fun _ _ _ => (Jc (Qdf (Xx cl_whole (hr.mono (by decide)) (Qa (pv 0) Qg))))) (fun _ _ _ => (pv 0))) Qg)) (Xm Yf rfl M.len Ko (Qa (pv 3) Qg)) (Qv _)) (Qdg (Qke (Qdf (Xx cl_whole (hr.mono (by decide)) (Qa (Qo Xn (pv 8) Qe (fun _ _ => rfl)) Qg))))))) (Qj (Xe Qlb)) Xj)))
  (Qh (Qq (i := 9) scLaw.nd rfl (Or.inl rfl) (Xc Xb rfl M.tuple_ Xy (Qa (Zf ["_law_choice", "_law_book_here"] [none, some 2] rfl (Qu (pv 3)) (fun _ _ _ => (Qn (i := 0) (show (["_law_choice", "_law_book_here"] : List Str).Nodup by decide +kernel) rfl (Or.inl rfl) (Or.inr rfl))) (fun _ _ _ => Yq) (fun _ _ _ => (Xx cl_cost (hr.mono (by decide)) (Qa (pv 1) (Qa (Wy (Kv (Qo (Jq (K := K) rfl) (pv 0) Qe (fun _ _ => rfl)) (Yh (Qnj (K := K) rfl) (pv 0) (Ys Qe) Yy) Wx) rfl rfl (jJe _ _) (by decide)) Qg))))) Qg)))
  (Qh (Xh (Qkl PySem.F.plainAttrs_list PySem.F.slot_list_clear PySem.F.type_list_clear Qdl (pv 5)))
  (Qh (Qq (i := 10) scLaw.nd rfl (Or.inl rfl) (Xx c_problem_of (hr.mono (by decide)) (Qa (pv 4) Qg)))
  (Qh (Yu (PW.pt (Qff (Qr (Qan (n := 6) hu6) (pv 10) (Qx (Qa (Zf ["_law_label", "_law_row"] [none, none] rfl (Qu (pv 6)) (fun _ _ _ => (Zt (K := K) (i := 0) (j := 1) rfl rfl (show (["_law_label", "_law_row"] : List Str).Nodup by decide +kernel) rfl rfl rfl rfl)) (fun _ _ _ => Yq) (fun _ _ _ => (pv 1))) (Qa (pv 9) Qg))) (Qv _)) (Qdg (Qr (Qan (n := 6) hu6) (Xx c_labelled (hr.mono (by decide)) (Qa (pv 4) Qg)) (pv 6) (Qv _))))) (Qj (Xe Qlb)) Xj)
  (Qh (Xh (Qkl PySem.F.plainAttrs_list PySem.F.slot_list_clear PySem.F.type_list_clear Qdl (Qo Xn (pv 10) Qe (fun _ _ => rfl))))
  (Qj (Xe (Zs (Qmn (n := 6) hu6) (Xx c_problem_of (hr.mono (by decide)) (Qa (pv 4) Qg)) (Qx (Qa (Zf ["_law_label", "_law_row"] [none, none] rfl (Qu (pv 6)) (fun _ _ _ => (Zt (K := K) (i := 0) (j := 1) rfl rfl (show (["_law_label", "_law_row"] : List Str).Nodup by decide +kernel) rfl rfl rfl rfl)) (fun _ _ _ => Yq) (fun _ _ _ => (pv 1))) (Qa (pv 9) Qg))) (Qv _))))))))))))))))), ?_⟩
 refine ⟨_, rfl, a, ns, 60, rfl, hS, by decide, fun l ds H1 hl s1 hDr => ?_⟩
 refine ⟨_, rfl, l, ds, 5, 3, rfl, hDr, by omega, by decide, by decide, by decide, by decide, by decide, fun gB us n B H2 s2 nB hgB hRB bk => ?_⟩
 have hb : BkAt H2 gB n B := ⟨⟨us, hgB, hRB⟩, bk⟩
 have bl := bk.wb.len
 have lu := hRB.length
 obtain ⟨k1, k2, k3, k4⟩ := Jj bk
 have kl : (labs n B).length ≤ 22000 := by
  unfold labs
  rw [jY, jY, jY]
  omega
 refine ⟨_, rfl, gB, n, B, rfl, hb, fun gA H3 c3 => ?_⟩
 have hA : ChsAt K H3 gA (chs n B) := let ⟨ys, h1, h2⟩ := c3.ex; ⟨⟨ys, Qb h1, h2⟩, Qhl bk⟩
 have hg3 := c3.sm _ _ hgB
 have hR3 := hRB.same c3.sm
 refine ⟨_, rfl, gB, rfl, ⟨_, Qb hg3⟩, fun gH hgH => ?_⟩
 let Pv55 : Nat → St → List V → Hp → Prop := fun m τ ys H5 => ∃ v : Option V, τ = [v] ∧ RowsB H5 ys (B.take m) ∧ ys.length ≤ m ∧ H5 gH = some (.lst ys) ∧ Same H3 H5
 refine Yo (n := B.length) Pv55 ?_ (fun m τ ys H5 hm h => ?_) (fun m τ ys H5 hm h => ?_) (fun τ ys H5 h => ?_) ?_ ?_
 ·exact ⟨none, rfl, .nil, jZ _, Qd, Qc hgH _⟩
 ·obtain ⟨v, rfl, hY, hl, hE, s5⟩ := h
  exact ⟨hE, by omega⟩
 ·obtain ⟨v, rfl, hY, hl, hE, s5⟩ := h
  exact ⟨us, us[m]'(by omega), s5.seq (Qb hg3), gE (by omega)⟩
 ·obtain ⟨v, rfl, hY, hl, hE, s5⟩ := h
  exact ⟨us, s5.seq (Qb hg3), by omega⟩
 ·rintro m τ ys H5 x H6 hm ⟨v, rfl, hY, hl, hE, s5⟩ ⟨rfl, e1⟩
  obtain ⟨r, lr, er, rfl, hr⟩ := (hR3.same s5).get (e1 _ (s5.seq (Qb hg3)))
  refine ⟨_, rfl, lr, _, rfl, .inl (Qb hr), fun l2 hl2 => ?_⟩
  have s6 := Qc hl2 (.lst (r.cells.map kV))
  refine ⟨s6 _ _ hE, _, rfl, ?_, by rw [jY]; exact wX hl, Qd, Yc (s5.trans s6) hgH⟩
  rw [Zz er]
  have hl3 : L2.upd H6 l2 (.lst (r.cells.map kV)) l2 = some (.lst (r.cells.map kV)) := Qd
  have ne : l2 ≠ gH := fun e => by rw [e, hE] at hl2; cases hl2
  exact RowsB.snoc ((hY.same s6).updL (s6 _ _ hE) hY.noRow) (by rw [Qk ne]; exact hl3)
 rintro τ uH H4 ⟨v, rfl, hRH, hlu, hH4, s4⟩
 rw [kY] at hRH
 refine ⟨_, rfl, gH, n, uH, B, rfl, hH4, hRH, bk, fun gF H5 i5 => ?_⟩
 have s35 := s4.trans i5.sm
 have hb5 := hb.same (c3.sm.trans s35)
 have hA5 := hA.same s35
 refine ⟨_, rfl, _, rfl, gB, gA, n, B, rfl, hb5, hA5, fun gD H6 i6 => ?_⟩
 obtain ⟨yF, hF5, rF5⟩ := i5.ex
 obtain ⟨yD, hD6, rD6⟩ := i6.ex
 have hF6 := i6.sm _ _ hF5
 have rF6 := rF5.same i6.sm
 have hH6 := i6.sm _ _ (i5.sm _ _ hH4)
 have hRH6 := (hRH.same i5.sm).same i6.sm
 obtain ⟨us6, hgB6, hRB6⟩ := (hb5.same i6.sm).ex
 have nHF : gH ≠ gF := fun e => by have := i5.fr; rw [← e, hH4] at this; cases this
 have nDF : gD ≠ gF := fun e => by have := i6.fr; rw [e, hF5] at this; cases this
 refine ⟨_, rfl, _, _, _, rfl, .list, .inr ⟨⟨_, Qb hF6⟩, rfl⟩, _, rfl, ite2 (fun z => absurd z (by decide)) (fun _ => ?_)⟩
 refine ⟨_, rfl, _, rfl, gF, gD, rfl, rfl, Qkx hF6 rF6 hD6 rD6, _, rfl, ite2 (fun z => nomatch z) (fun _ => ?_)⟩
 refine ⟨_, rfl, _, rfl, gH, gB, rfl, rfl, Qnk hH6 hRH6 hgB6 hRB6, _, rfl, ite2 (fun z => nomatch z) (fun _ => ?_)⟩
 have lF := Paired.length rF6
 obtain ⟨vA, hvA, hcA⟩ := (hA5.same i6.sm).ex
 have lA := Paired.length hcA
 let Pv56 : Nat → St → Hp → Prop := fun i σ H7 => (∃ u v : Option V, σ = [some (.ref a), some (.ref l), some (.ref gB), some (.ref gA), some (.ref gH), some (.ref gF), some (.ref gD), u, v, none, none]) ∧ Same H6 H7
 refine ⟨_, rfl, gF, rfl, ⟨_, Qb hF6⟩, Xp (xs := yF) Pv56 ⟨⟨none, none, rfl⟩, Same.refl _⟩ ?_ ?_ ?_⟩
 ·rintro i σ H7 hi ⟨_, s7⟩
  exact Qb (s7 _ _ hF6)
 ·rintro i x σ H7 ex ⟨⟨u, v, rfl⟩, s7⟩
  obtain ⟨lb, elb, t, a1, b1, rfl, z1, z2, p, z3, z4⟩ := Qy rF6 ex
  have ln := Qkd (kZ elb)
  have fw := hA.few
  refine ⟨t, _, rfl, s7.tup z1, rfl, _, _, rfl, _, _, rfl, rfl, ?_⟩
  refine ⟨_, rfl, b1, _, _, _, rfl, rfl, s7.tup z3, at0, p, rfl, ⟨_, s7.tup z4⟩, fun D hD => ?_⟩
  let Pv57 : Nat → St → List V → Hp → Prop := fun m τ ys H8 => ∃ v : Option V, τ = [v] ∧ ys.length = m ∧ H8 D = some (.lst ys) ∧ Same H7 H8
  refine Yo (n := lb.2.1.length) Pv57 ?_ (fun m τ ys H8 hm h => ?_) (fun m τ ys H8 hm h => ?_) (fun τ ys H8 h => ?_) ?_ ?_
  ·exact ⟨none, rfl, rfl, Qd, Qc hD _⟩
  ·obtain ⟨v, rfl, hl, hE, s8⟩ := h
   have h2z : (2000000 : Nat) < sizeLine := by decide
   exact ⟨hE, by omega⟩
  ·obtain ⟨v, rfl, hl, hE, s8⟩ := h
   exact ⟨_, _, (s7.trans s8).tup z4, gE (by rw [jX]; exact hm)⟩
  ·obtain ⟨v, rfl, hl, hE, s8⟩ := h
   exact ⟨_, (s7.trans s8).tup z4, by rw [jX]; exact jZ _⟩
  ·rintro m τ ys H8 x H9 hm ⟨v, rfl, hl, hE, s8⟩ ⟨rfl, e1⟩
   obtain ⟨x, ex, rfl⟩ := Wv (e1 _ ((s7.trans s8).tup z4))
   exact ⟨_, rfl, x, rfl, _, rfl, ite2 (fun _ => ⟨_, rfl, hE, _, rfl, by rw [jY, hl]; rfl, Qd, Yc s8 hD⟩) (fun z => absurd rfl z)⟩
  rintro τ ys H8 ⟨v', rfl, hl, hE, s8⟩
  have s78 := s7.trans s8
  refine ⟨_, _, rfl, .inl (Qb hE), _, rfl, _, _, rfl, .inl (s78.seq hvA), rfl, _, rfl, ite2 (fun z => ?_) (fun _ => ?_)⟩
  ·exfalso
   have e : ys.length = vA.length := by omega
   rw [e] at z
   simp at z
  refine ⟨_, rfl, b1, _, _, _, rfl, rfl, s78.tup z3, at1, lb.2.2, rfl, _, rfl, ite2 (fun z => nomatch z) (fun _ => ⟨⟨_, _, rfl⟩, s78⟩)⟩
 rintro σ H7 ⟨⟨u, v, rfl⟩, s7⟩
 have hA7 := (hA5.same i6.sm).same s7
 have hb7 := (hb5.same i6.sm).same s7
 obtain ⟨vA7, hv7, _⟩ := hA7.ex
 refine ⟨_, rfl, gA, rfl, ⟨_, hv7⟩, fun D hD => Kp (f := prcC B) (cs := [some (.ref gB)]) rfl hA7 hD (fun ch t H8 hc s8 ht Pq k => ?_) (fun H8 s8 hD8 => ?_)⟩
 ·obtain ⟨ln, cc, hw, b0, b1⟩ := Jg hc
  refine ⟨_, rfl, fun P hP => ?_⟩
  have hch1 := (Qc hP (.dK [])).tup ht
  refine ⟨_, rfl, t, _, _, _, rfl, rfl, hch1, Jf, _, rfl, _, rfl, t, _, rfl, hch1, (by show ¬ (HT.sIx 3 0 (some 1) = 0 ∧ HT.sIx 3 3 none = 3); decide), fun tp htp => ?_⟩
  rw [Qjv]
  obtain ⟨p1, s9, hpl⟩ := Vc (K := K) (w := ch.1) (v := ch.2.1) (b := ch.2.2) hP htp
  refine ⟨p1, [(Sum.inr ch.1, .ref tp)], rfl, by show 1 ≤ 15; decide, ?_⟩
  generalize L2.upd (L2.upd (L2.upd H8 P (.dK [])) tp (.tup [.str ch.2.1, .int ch.2.2])) P (.dK (Jd [] [(Sum.inr ch.1, .ref tp)])) = H9 at s9 hpl ⊢
  refine ⟨gB, P, ch.1, ch.2.1, ch.2.2, ln, cc, n, B, rfl, hb7.same (s8.trans s9), hpl, hw, b0, b1, fun H10 s10 => ?_⟩
  have := k H10 (s9.trans s10)
  unfold prcC at this
  rw [Qkq bk.wb hw] at this
  exact this
 refine ⟨D, _, rfl, .inl ⟨Qb hD8, fun tc htc => ?_⟩⟩
 have sc := (s7.trans s8).trans (Qc htc (.tup (((chs n B).map (prcC B)).map V.int)))
 have hc9 : SqT K (L2.upd H8 tc (.tup (((chs n B).map (prcC B)).map V.int))) tc (((chs n B).map (prcC B)).map V.int) := Qs Qd
 generalize L2.upd H8 tc (.tup (((chs n B).map (prcC B)).map V.int)) = H9 at sc hc9 ⊢
 have w9 : Wd K H9 gH gD tc B uH yD (labs n B) ((chs n B).map (prcC B)) := ⟨sc _ _ hH6, hRH6.same sc, sc _ _ hD6, rD6.same sc, hc9⟩
 have hF9 := sc _ _ hF6
 have w10 := w9.upd (ws := []) hF9 (Qfa rF6) nHF nDF
 refine ⟨_, rfl, .inl ⟨rfl, _, Qb hF9⟩, gF, _, rfl, rfl, hF9, ?_⟩
 generalize L2.upd H9 gF (.lst []) = H10 at w10 ⊢
 clear hF9 w9 sc hc9 s8 hD8 hD hv7 hb7 hA7 s7
 refine ⟨_, rfl, gH, n, uH, B, rfl, w10.hH, w10.hR, bk, fun tT lT cT yT H11 s11 hT nlT hlT hRT hcT => ?_⟩
 have w11 := w10.same s11
 refine ⟨_, rfl, _, rfl, gD, rfl, ⟨_, Qb w11.hD⟩, fun D2 hD2 => Qky rfl w11.hD w11.hL kl hD2 (fun z2 H12 s12 hE2 hR2 => ?_)⟩
 have w12 := w11.same s12
 refine ⟨_, rfl, by show 2 ≤ sizeLine; decide, fun t3 ht3 => ?_⟩
 have s13 := Qc ht3 (.tup [.ref D2, .ref tc])
 have w13 := w12.same s13
 have ht33 : SqT K (L2.upd H12 t3 (.tup [.ref D2, .ref tc])) t3 [.ref D2, .ref tc] := Qs Qd
 generalize L2.upd H12 t3 (.tup [.ref D2, .ref tc]) = H13 at s13 w13 ht33 ⊢
 have up : ∀ {Ha Hb : Hp} {ys : List V} {R : List (List Int × Int)}, Same Ha Hb → Zv K Ha ys R → Zv K Hb ys R := fun s h => Paired.mapP h fun _ _ ⟨t, e, z⟩ => ⟨t, e, z.same s⟩
 have s1113 := s12.trans s13
 refine ⟨tT, t3, rfl, rfl, .pair (s1113.tup hT) ht33 (Qhy (s1113 _ _ hlT) (up s1113 hRT) (s13 _ _ hE2) (up s13 hR2)) (.flats (s1113.tup hcT) w13.hc (Qas _)), _, rfl, ite2 (fun z => nomatch z) (fun _ => ?_)⟩
 refine ⟨_, rfl, gH, n, uH, B, rfl, w13.hH, w13.hR, bk, fun g4 H14 i14 => ?_⟩
 obtain ⟨y4, h4, r4⟩ := i14.ex
 have w14 := w13.same i14.sm
 refine ⟨_, rfl, g4, gD, rfl, rfl, Qkx h4 r4 w14.hD w14.hL, _, rfl, ite2 (fun z => nomatch z) (fun _ => ?_)⟩
 have s1114 := s1113.trans i14.sm
 have hl14 := s1114 _ _ hlT
 refine ⟨_, rfl, tT, _, _, _, rfl, rfl, s1114.tup hT, at0, .inl ⟨rfl, _, Qb hl14⟩, lT, _, rfl, rfl, hl14, ?_⟩
 have nHl : gH ≠ lT := fun e => by rw [← e, w10.hH] at nlT; cases nlT
 have nDl : gD ≠ lT := fun e => by rw [← e, w10.hD] at nlT; cases nlT
 have w15 := w14.upd (ws := []) hl14 (Qfb hRT) nHl nDl
 generalize L2.upd H14 lT (.lst []) = H15 at w15 ⊢
 refine ⟨_, rfl, gH, n, uH, B, rfl, w15.hH, w15.hR, bk, fun tU lU cU yU H16 s16 hU nlU hlU hRU hcU => ?_⟩
 have w16 := w15.same s16
 refine ⟨_, rfl, gD, rfl, ⟨_, Qb w16.hD⟩, fun D5 hD5 => Qky rfl w16.hD w16.hL kl hD5 (fun z5 H17 s17 hE5 hR5 => ?_)⟩
 have w17 := w16.same s17
 refine ⟨_, rfl, by show 2 ≤ sizeLine; decide, fun t6 ht6 => ?_⟩
 have s18 := Qc ht6 (.tup [.ref D5, .ref tc])
 have s178 := s17.trans s18
 exact ⟨tU, t6, rfl, rfl, .pair (s178.tup hU) (Qs Qd) (Qhy (s178 _ _ hlU) (up s178 hRU) (s18 _ _ hE5) (up s18 hR5)) (.flats (s178.tup hcU) (w17.same s18).hc (Qas _)), q _⟩
end
theorem Xv (e : DictEntry) (l : List DictEntry) (x : Str) (t : Tok) (h : e.key = .str x t) (s : Str) : PySem.findBy PySem.Value.isStrOf ⟨e :: l⟩ s = if s = x then some e.val else PySem.findBy PySem.Value.isStrOf ⟨l⟩ s := by
 unfold PySem.findBy
 rw [List.find?_toArray, List.find?_toArray, jXf]
 by_cases hs : s = x
 ·subst hs
  rw [if_pos rfl, h]
  have : PySem.Value.isStrOf s (.str s t) = true := by simp [PySem.Value.isStrOf]
  rw [this]
  rfl
 ·rw [if_neg hs, h]
  have : PySem.Value.isStrOf s (.str x t) = false := by simp [PySem.Value.isStrOf]; exact fun z => hs z.symm
  rw [this]
theorem Qhz {w : World} {K : Fg} {mg : Str → Option Value} {aN : Addr} {es : Array DictEntry} {m : Nat} {h1 h2 h3 h4 h5 h6 h7 h8 h9 h10 h11 : Int} {t1 j1 t2 j2 t3 j3 t4 j4 t5 j5 t6 j6 t7 j7 t8 j8 t9 j9 t10 j10 t11 j11 : Tok}
  (b1 : mg "NAMES" = some (.ref aN)) (l1 : K.lookup aN = some ⟨.type "dict", none, .dict es m, #[]⟩) (k1 : PySem.W.KeysLit w.params es.toList) (o1 : (aN == sysModules) = false) (e1 : es = ⟨[⟨h1, .str "days" t1, .int 0 j1⟩, ⟨h2, .str "bench" t2, .int 1 j2⟩, ⟨h3, .str "shut" t3, .int 1 j3⟩, ⟨h4, .str "store" t4, .int 1 j4⟩, ⟨h5, .str "work" t5, .int 1 j5⟩, ⟨h6, .str "way" t6, .int 2 j6⟩, ⟨h7, .str "uses" t7, .int 3 j7⟩, ⟨h8, .str "takes" t8, .int 3 j8⟩, ⟨h9, .str "gives" t9, .int 3 j9⟩, ⟨h10, .str "after" t10, .int 2 j10⟩, ⟨h11, .str "late" t11, .int 1 j11⟩]⟩) : ∃ fN, Tab w K mg "NAMES" aN fN ∧ Qaj fN := by
 refine ⟨_, tab_mk b1 l1 k1 o1, fun r => ?_⟩
 have ef : ∀ s : Str, PySem.findBy PySem.Value.isStrOf es s = if s = "days" then some (.int 0 j1) else if s = "bench" then some (.int 1 j2) else if s = "shut" then some (.int 1 j3) else if s = "store" then some (.int 1 j4) else if s = "work" then some (.int 1 j5) else if s = "way" then some (.int 2 j6) else if s = "uses" then some (.int 3 j7) else if s = "takes" then some (.int 3 j8) else if s = "gives" then some (.int 3 j9) else if s = "after" then some (.int 2 j10) else if s = "late" then some (.int 1 j11) else none := fun s => by
  subst e1
  rw [Xv _ _ "days" t1 rfl, Xv _ _ "bench" t2 rfl, Xv _ _ "shut" t3 rfl, Xv _ _ "store" t4 rfl, Xv _ _ "work" t5 rfl, Xv _ _ "way" t6 rfl, Xv _ _ "uses" t7 rfl, Xv _ _ "takes" t8 rfl, Xv _ _ "gives" t9 rfl, Xv _ _ "after" t10 rfl, Xv _ _ "late" t11 rfl]
  rfl
 cases r with
 | days n => exact ⟨j1, by rw [ef]; rw [if_pos (show (BR.days n).word = "days" from rfl)]; rfl⟩
 | bench b r => exact ⟨j2, by rw [ef]; rw [if_neg (by show ¬ (("bench" : Str) = "days"); decide +kernel), if_pos (show (BR.bench b r).word = "bench" from rfl)]; rfl⟩
 | shut b f t => exact ⟨j3, by rw [ef]; rw [if_neg (by show ¬ (("shut" : Str) = "days"); decide +kernel), if_neg (by show ¬ (("shut" : Str) = "bench"); decide +kernel), if_pos (show (BR.shut b f t).word = "shut" from rfl)]; rfl⟩
 | store b m f => exact ⟨j4, by rw [ef]; rw [if_neg (by show ¬ (("store" : Str) = "days"); decide +kernel), if_neg (by show ¬ (("store" : Str) = "bench"); decide +kernel), if_neg (by show ¬ (("store" : Str) = "shut"); decide +kernel), if_pos (show (BR.store b m f).word = "store" from rfl)]; rfl⟩
 | work w => exact ⟨j5, by rw [ef]; rw [if_neg (by show ¬ (("work" : Str) = "days"); decide +kernel), if_neg (by show ¬ (("work" : Str) = "bench"); decide +kernel), if_neg (by show ¬ (("work" : Str) = "shut"); decide +kernel), if_neg (by show ¬ (("work" : Str) = "store"); decide +kernel), if_pos (show (BR.work w).word = "work" from rfl)]; rfl⟩
 | way w v l c => exact ⟨j6, by rw [ef]; rw [if_neg (by show ¬ (("way" : Str) = "days"); decide +kernel), if_neg (by show ¬ (("way" : Str) = "bench"); decide +kernel), if_neg (by show ¬ (("way" : Str) = "shut"); decide +kernel), if_neg (by show ¬ (("way" : Str) = "store"); decide +kernel), if_neg (by show ¬ (("way" : Str) = "work"); decide +kernel), if_pos (show (BR.way w v l c).word = "way" from rfl)]; rfl⟩
 | use k w v t m => match k with
  | 0 => exact ⟨j7, by rw [ef]; rw [if_neg (by show ¬ (("uses" : Str) = "days"); decide +kernel), if_neg (by show ¬ (("uses" : Str) = "bench"); decide +kernel), if_neg (by show ¬ (("uses" : Str) = "shut"); decide +kernel), if_neg (by show ¬ (("uses" : Str) = "store"); decide +kernel), if_neg (by show ¬ (("uses" : Str) = "work"); decide +kernel), if_neg (by show ¬ (("uses" : Str) = "way"); decide +kernel), if_pos (show (BR.use 0 w v t m).word = "uses" from rfl)]; rfl⟩
  | 1 => exact ⟨j8, by rw [ef]; rw [if_neg (by show ¬ (("takes" : Str) = "days"); decide +kernel), if_neg (by show ¬ (("takes" : Str) = "bench"); decide +kernel), if_neg (by show ¬ (("takes" : Str) = "shut"); decide +kernel), if_neg (by show ¬ (("takes" : Str) = "store"); decide +kernel), if_neg (by show ¬ (("takes" : Str) = "work"); decide +kernel), if_neg (by show ¬ (("takes" : Str) = "way"); decide +kernel), if_neg (by show ¬ (("takes" : Str) = "uses"); decide +kernel), if_pos (show (BR.use 1 w v t m).word = "takes" from rfl)]; rfl⟩
  | 2 => exact ⟨j9, by rw [ef]; rw [if_neg (by show ¬ (("gives" : Str) = "days"); decide +kernel), if_neg (by show ¬ (("gives" : Str) = "bench"); decide +kernel), if_neg (by show ¬ (("gives" : Str) = "shut"); decide +kernel), if_neg (by show ¬ (("gives" : Str) = "store"); decide +kernel), if_neg (by show ¬ (("gives" : Str) = "work"); decide +kernel), if_neg (by show ¬ (("gives" : Str) = "way"); decide +kernel), if_neg (by show ¬ (("gives" : Str) = "uses"); decide +kernel), if_neg (by show ¬ (("gives" : Str) = "takes"); decide +kernel), if_pos (show (BR.use 2 w v t m).word = "gives" from rfl)]; rfl⟩
 | after w x g => exact ⟨j10, by rw [ef]; rw [if_neg (by show ¬ (("after" : Str) = "days"); decide +kernel), if_neg (by show ¬ (("after" : Str) = "bench"); decide +kernel), if_neg (by show ¬ (("after" : Str) = "shut"); decide +kernel), if_neg (by show ¬ (("after" : Str) = "store"); decide +kernel), if_neg (by show ¬ (("after" : Str) = "work"); decide +kernel), if_neg (by show ¬ (("after" : Str) = "way"); decide +kernel), if_neg (by show ¬ (("after" : Str) = "uses"); decide +kernel), if_neg (by show ¬ (("after" : Str) = "takes"); decide +kernel), if_neg (by show ¬ (("after" : Str) = "gives"); decide +kernel), if_pos (show (BR.after w x g).word = "after" from rfl)]; rfl⟩
 | late w d c => exact ⟨j11, by rw [ef]; rw [if_neg (by show ¬ (("late" : Str) = "days"); decide +kernel), if_neg (by show ¬ (("late" : Str) = "bench"); decide +kernel), if_neg (by show ¬ (("late" : Str) = "shut"); decide +kernel), if_neg (by show ¬ (("late" : Str) = "store"); decide +kernel), if_neg (by show ¬ (("late" : Str) = "work"); decide +kernel), if_neg (by show ¬ (("late" : Str) = "way"); decide +kernel), if_neg (by show ¬ (("late" : Str) = "uses"); decide +kernel), if_neg (by show ¬ (("late" : Str) = "takes"); decide +kernel), if_neg (by show ¬ (("late" : Str) = "gives"); decide +kernel), if_neg (by show ¬ (("late" : Str) = "after"); decide +kernel), if_pos (show (BR.late w d c).word = "late" from rfl)]; rfl⟩
def htop (i : Nat) : Stmt := PySem.Challenge.pw_nonebetter_k66_rows_of_books.main.body.getD i (.Pass ⟨0, 0, 0, 0⟩)
def hob0 (i : Nat) (P : Params) : Obj :=
 bif Nat.beq i 2 then .mk .none none (.dict #[]) #[] else
 bif Nat.beq i 3 then .mk (.type "dict") none (.dict #[.mk (PyData.keyHash P "__name__") (.str "__name__" 165) (.str "law_nonebetter_k66_rows_of_books" 407), .mk (PyData.keyHash P "__doc__") (.str "__doc__" 166) .none, .mk (PyData.keyHash P "__package__") (.str "__package__" 167) .none, .mk (PyData.keyHash P "__loader__") (.str "__loader__" 168) (.builtin "__main__.__loader__#opaque"), .mk (PyData.keyHash P "__spec__") (.str "__spec__" 169) .none, .mk (PyData.keyHash P "__annotations__") (.str "__annotations__" 170) (.ref 6), .mk (PyData.keyHash P "__builtins__") (.str "__builtins__" 171) (.ref 4), .mk (PyData.keyHash P "__file__") (.str "__file__" 173) (.str "/claim/cut.py" 172), .mk (PyData.keyHash P "__cached__") (.str "__cached__" 174) .none, .mk (PyData.keyHash P "_wall") (.str "_wall" 193) (.ref 21), .mk (PyData.keyHash P "NAMES") (.str "NAMES" 229) (.ref 22), .mk (PyData.keyHash P "said_by") (.str "said_by" 236) (.ref 29), .mk (PyData.keyHash P "Facts") (.str "Facts" 349) (.ref 103), .mk (PyData.keyHash P "negated") (.str "negated" 357) (.ref 112), .mk (PyData.keyHash P "work_rows") (.str "work_rows" 363) (.ref 117), .mk (PyData.keyHash P "room_rows") (.str "room_rows" 369) (.ref 122), .mk (PyData.keyHash P "store_rows") (.str "store_rows" 375) (.ref 127), .mk (PyData.keyHash P "after_number") (.str "after_number" 385) (.ref 134), .mk (PyData.keyHash P "after_rows") (.str "after_rows" 391) (.ref 139), .mk (PyData.keyHash P "labelled") (.str "labelled" 400) (.ref 146), .mk (PyData.keyHash P "problem_of") (.str "problem_of" 406) (.ref 151), .mk (PyData.keyHash P "_law_whole") (.str "_law_whole" 415) (.ref 158), .mk (PyData.keyHash P "_law_mix") (.str "_law_mix" 425) (.ref 165), .mk (PyData.keyHash P "_law_draws") (.str "_law_draws" 436) (.ref 172), .mk (PyData.keyHash P "_law_name") (.str "_law_name" 447) (.ref 179), .mk (PyData.keyHash P "_law_rooms") (.str "_law_rooms" 465) (.ref 186), .mk (PyData.keyHash P "_law_book") (.str "_law_book" 471) (.ref 191), .mk (PyData.keyHash P "_law_way") (.str "_law_way" 491) (.ref 198), .mk (PyData.keyHash P "_law_ways") (.str "_law_ways" 497) (.ref 203), .mk (PyData.keyHash P "_law_choices") (.str "_law_choices" 510) (.ref 210), .mk (PyData.keyHash P "_law_plans") (.str "_law_plans" 525) (.ref 217), .mk (PyData.keyHash P "_law_end") (.str "_law_end" 531) (.ref 222), .mk (PyData.keyHash P "_law_cost") (.str "_law_cost" 537) (.ref 227), .mk (PyData.keyHash P "_law_moved") (.str "_law_moved" 552) (.ref 234), .mk (PyData.keyHash P "_law_is_kept") (.str "_law_is_kept" 565) (.ref 241), .mk (PyData.keyHash P "_law_many") (.str "_law_many" 571) (.ref 246), .mk (PyData.keyHash P "_law_flow") (.str "_law_flow" 583) (.ref 253), .mk (PyData.keyHash P "_law_room") (.str "_law_room" 594) (.ref 260), .mk (PyData.keyHash P "_law_bench") (.str "_law_bench" 609) (.ref 267), .mk (PyData.keyHash P "_law_store") (.str "_law_store" 615) (.ref 272), .mk (PyData.keyHash P "_law_after") (.str "_law_after" 630) (.ref 279), .mk (PyData.keyHash P "_law_due") (.str "_law_due" 636) (.ref 284), .mk (PyData.keyHash P "law") (.str "law" 642) (.ref 289)] 43) #[] else
 bif Nat.beq i 15 then .mk (.type "tuple") none (.seq #[]) #[] else
 bif Nat.beq i 17 then .mk (.type "tuple") none (.seq #[.str "k" 190]) #[] else
 .mk (.type "tuple") none (.seq #[]) #[]
def hob1 (i : Nat) (P : Params) : Obj :=
 bif Nat.beq i 20 then .mk (.type "code") none (.fields #[.str "_wall" 187, .str "_wall" 188, .str "/claim/cut.py" 189, .int 1 0, .int 1 0, .int 0 0, .int 0 0, .int 3 0, .ref 15, .bool Bool.true, .int 181 0, .ref 16, .none, .ref 17, .ref 18, .ref 19, .int 191 0, .int 1 0, .str "/claim/cut.py" 192]) #[] else
 bif Nat.beq i 21 then .mk (.type "function") (none) (.func (.mk "_wall" "_wall" (L2.Xd (htop 0)) (.stmts (L2.Xa (htop 0))) (L2.Qi (htop 0)) (3) ([]) (.none) (.none) (.none) (.str "__main__" 164) (none) (.ref 20) (.none) (0))) (#[]) else
 bif Nat.beq i 22 then .mk (.type "dict") none (.dict #[.mk (PyData.keyHash P "days") (.str "days" 196) (.int 0 197), .mk (PyData.keyHash P "bench") (.str "bench" 198) (.int 1 199), .mk (PyData.keyHash P "shut") (.str "shut" 200) (.int 1 201), .mk (PyData.keyHash P "store") (.str "store" 202) (.int 1 203), .mk (PyData.keyHash P "work") (.str "work" 204) (.int 1 205), .mk (PyData.keyHash P "way") (.str "way" 206) (.int 2 207), .mk (PyData.keyHash P "uses") (.str "uses" 208) (.int 3 209), .mk (PyData.keyHash P "takes") (.str "takes" 210) (.int 3 211), .mk (PyData.keyHash P "gives") (.str "gives" 212) (.int 3 213), .mk (PyData.keyHash P "after") (.str "after" 214) (.int 2 215), .mk (PyData.keyHash P "late") (.str "late" 216) (.int 1 217)] 11) #[] else
 bif Nat.beq i 23 then .mk (.type "tuple") none (.seq #[]) #[] else
 .mk (.type "tuple") none (.seq #[.str "row" 233]) #[]
def hob2 (i : Nat) (P : Params) : Obj :=
 bif Nat.beq i 26 then .mk (.type "tuple") none (.seq #[]) #[] else
 bif Nat.beq i 28 then .mk (.type "code") none (.fields #[.str "said_by" 230, .str "said_by" 231, .str "/claim/cut.py" 232, .int 6 0, .int 1 0, .int 0 0, .int 0 0, .int 3 0, .ref 23, .bool Bool.true, .int 181 0, .ref 24, .none, .ref 25, .ref 26, .ref 27, .int 234 0, .int 6 0, .str "/claim/cut.py" 235]) #[] else
 bif Nat.beq i 29 then .mk (.type "function") (none) (.func (.mk "said_by" "said_by" (L2.Xd (htop 3)) (.stmts (L2.Xa (htop 3))) (L2.Qi (htop 3)) (3) ([]) (.none) (.none) (.none) (.str "nonebetter.books" 194) (none) (.ref 28) (.none) (0))) (#[]) else
 bif Nat.beq i 37 then .mk (.type "tuple") none (.seq #[]) #[] else
 .mk (.type "code") none (.fields #[.str "__init__" 251, .str "Facts.__init__" 252, .str "/claim/cut.py" 253, .int 11 0, .int 2 0, .int 0 0, .int 0 0, .int 3 0, .ref 37, .bool Bool.true, .int 181 0, .ref 38, .none, .none, .none, .ref 39, .int 254 0, .int 11 0, .str "/claim/cut.py" 255]) #[]
def hob3 (i : Nat) (P : Params) : Obj :=
 bif Nat.beq i 41 then .mk (.type "function") none (.func (.mk "__init__" "Facts.__init__" (Arguments.mk [] [Arg.mk "self" none (Pos.mk 11 17 11 21), Arg.mk "book" none (Pos.mk 11 23 11 27)] none [] [] none []) (.stmts [Stmt.Assign [Expr.Attribute (Expr.Name "self" (Pos.mk 12 8 12 12)) "days" (Pos.mk 12 8 12 17)] (Expr.Subscript (Expr.Subscript (Expr.Name "book" (Pos.mk 12 20 12 24)) (Expr.Constant (Const.int 0) 0 (Pos.mk 12 25 12 26)) (Pos.mk 12 20 12 27)) (Expr.Constant (Const.int 1) 0 (Pos.mk 12 28 12 29)) (Pos.mk 12 20 12 30)) (Pos.mk 12 8 12 30), Stmt.Assign [Expr.Attribute (Expr.Name "self" (Pos.mk 13 8 13 12)) "works" (Pos.mk 13 8 13 18)] (Expr.ListComp (Expr.Subscript (Expr.Name "row" (Pos.mk 13 22 13 25)) (Expr.Constant (Const.int 1) 0 (Pos.mk 13 26 13 27)) (Pos.mk 13 22 13 28)) [Comprehension.mk (Expr.Name "row" (Pos.mk 13 33 13 36)) (Expr.Name "book" (Pos.mk 13 40 13 44)) [Expr.Compare (Expr.Subscript (Expr.Name "row" (Pos.mk 13 48 13 51)) (Expr.Constant (Const.int 0) 0 (Pos.mk 13 52 13 53)) (Pos.mk 13 48 13 54)) [CmpOp.Eq] [Expr.Constant (Const.str "work") 0 (Pos.mk 13 58 13 64)] (Pos.mk 13 48 13 64)] 0] (Scope.mk ScopeKind.function [(Str.ofString ".0", NameKind.local), (Str.ofString "row", NameKind.local)] Bool.false Bool.false []) (Pos.mk 13 21 13 65)) (Pos.mk 13 8 13 65), Stmt.Assign [Expr.Attribute (Expr.Name "self" (Pos.mk 14 8 14 12)) "benches" (Pos.mk 14 8 14 20)] (Expr.ListComp (Expr.Subscript (Expr.Name "row" (Pos.mk 14 24 14 27)) (Expr.Constant (Const.int 1) 0 (Pos.mk 14 28 14 29)) (Pos.mk 14 24 14 30)) [Comprehension.mk (Expr.Name "row" (Pos.mk 14 35 14 38)) (Expr.Name "book" (Pos.mk 14 42 14 46)) [Expr.Compare (Expr.Subscript (Expr.Name "row" (Pos.mk 14 50 14 53)) (Expr.Constant (Const.int 0) 0 (Pos.mk 14 54 14 55)) (Pos.mk 14 50 14 56)) [CmpOp.Eq] [Expr.Constant (Const.str "bench") 0 (Pos.mk 14 60 14 67)] (Pos.mk 14 50 14 67)] 0] (Scope.mk ScopeKind.function [(Str.ofString ".0", NameKind.local), (Str.ofString "row", NameKind.local)] Bool.false Bool.false []) (Pos.mk 14 23 14 68)) (Pos.mk 14 8 14 68), Stmt.Assign [Expr.Attribute (Expr.Name "self" (Pos.mk 15 8 15 12)) "shuts" (Pos.mk 15 8 15 18)] (Expr.ListComp (Expr.Call (Expr.Name "tuple" (Pos.mk 15 22 15 27)) [Expr.Subscript (Expr.Name "row" (Pos.mk 15 28 15 31)) (Expr.Slice (Option.some (Expr.Constant (Const.int 1) 0 (Pos.mk 15 32 15 33))) none none (Pos.mk 15 32 15 34)) (Pos.mk 15 28 15 35)] [] (Pos.mk 15 22 15 36)) [Comprehension.mk (Expr.Name "row" (Pos.mk 15 41 15 44)) (Expr.Name "book" (Pos.mk 15 48 15 52)) [Expr.Compare (Expr.Subscript (Expr.Name "row" (Pos.mk 15 56 15 59)) (Expr.Constant (Const.int 0) 0 (Pos.mk 15 60 15 61)) (Pos.mk 15 56 15 62)) [CmpOp.Eq] [Expr.Constant (Const.str "shut") 0 (Pos.mk 15 66 15 72)] (Pos.mk 15 56 15 72)] 0] (Scope.mk ScopeKind.function [(Str.ofString ".0", NameKind.local), (Str.ofString "row", NameKind.local), (Str.ofString "tuple", NameKind.globalImplicit)] Bool.false Bool.false []) (Pos.mk 15 21 15 73)) (Pos.mk 15 8 15 73), Stmt.Assign [Expr.Attribute (Expr.Name "self" (Pos.mk 16 8 16 12)) "stores" (Pos.mk 16 8 16 19)] (Expr.ListComp (Expr.Call (Expr.Name "tuple" (Pos.mk 16 23 16 28)) [Expr.Subscript (Expr.Name "row" (Pos.mk 16 29 16 32)) (Expr.Slice (Option.some (Expr.Constant (Const.int 1) 0 (Pos.mk 16 33 16 34))) none none (Pos.mk 16 33 16 35)) (Pos.mk 16 29 16 36)] [] (Pos.mk 16 23 16 37)) [Comprehension.mk (Expr.Name "row" (Pos.mk 16 42 16 45)) (Expr.Name "book" (Pos.mk 16 49 16 53)) [Expr.Compare (Expr.Subscript (Expr.Name "row" (Pos.mk 16 57 16 60)) (Expr.Constant (Const.int 0) 0 (Pos.mk 16 61 16 62)) (Pos.mk 16 57 16 63)) [CmpOp.Eq] [Expr.Constant (Const.str "store") 0 (Pos.mk 16 67 16 74)] (Pos.mk 16 57 16 74)] 0] (Scope.mk ScopeKind.function [(Str.ofString ".0", NameKind.local), (Str.ofString "row", NameKind.local), (Str.ofString "tuple", NameKind.globalImplicit)] Bool.false Bool.false []) (Pos.mk 16 22 16 75)) (Pos.mk 16 8 16 75), Stmt.Assign [Expr.Attribute (Expr.Name "self" (Pos.mk 17 8 17 12)) "afters" (Pos.mk 17 8 17 19)] (Expr.ListComp (Expr.Call (Expr.Name "tuple" (Pos.mk 17 23 17 28)) [Expr.Subscript (Expr.Name "row" (Pos.mk 17 29 17 32)) (Expr.Slice (Option.some (Expr.Constant (Const.int 1) 0 (Pos.mk 17 33 17 34))) none none (Pos.mk 17 33 17 35)) (Pos.mk 17 29 17 36)] [] (Pos.mk 17 23 17 37)) [Comprehension.mk (Expr.Name "row" (Pos.mk 17 42 17 45)) (Expr.Name "book" (Pos.mk 17 49 17 53)) [Expr.Compare (Expr.Subscript (Expr.Name "row" (Pos.mk 17 57 17 60)) (Expr.Constant (Const.int 0) 0 (Pos.mk 17 61 17 62)) (Pos.mk 17 57 17 63)) [CmpOp.Eq] [Expr.Constant (Const.str "after") 0 (Pos.mk 17 67 17 74)] (Pos.mk 17 57 17 74)] 0] (Scope.mk ScopeKind.function [(Str.ofString ".0", NameKind.local), (Str.ofString "row", NameKind.local), (Str.ofString "tuple", NameKind.globalImplicit)] Bool.false Bool.false []) (Pos.mk 17 22 17 75)) (Pos.mk 17 8 17 75), Stmt.Assign [Expr.Attribute (Expr.Name "self" (Pos.mk 18 8 18 12)) "said" (Pos.mk 18 8 18 17)] (Expr.Call (Expr.Name "dict" (Pos.mk 18 20 18 24)) [Expr.ListComp (Expr.Tuple [Expr.Call (Expr.Name "said_by" (Pos.mk 18 27 18 34)) [Expr.Name "row" (Pos.mk 18 35 18 38)] [] (Pos.mk 18 27 18 39), Expr.Call (Expr.Name "tuple" (Pos.mk 18 41 18 46)) [Expr.Subscript (Expr.Name "row" (Pos.mk 18 47 18 50)) (Expr.Slice (Option.some (Expr.Call (Expr.Name "len" (Pos.mk 18 51 18 54)) [Expr.Call (Expr.Name "said_by" (Pos.mk 18 55 18 62)) [Expr.Name "row" (Pos.mk 18 63 18 66)] [] (Pos.mk 18 55 18 67)] [] (Pos.mk 18 51 18 68))) none none (Pos.mk 18 51 18 69)) (Pos.mk 18 47 18 70)] [] (Pos.mk 18 41 18 71)] 0 (Pos.mk 18 26 18 72)) [Comprehension.mk (Expr.Name "row" (Pos.mk 18 77 18 80)) (Expr.Name "book" (Pos.mk 18 84 18 88)) [] 0] (Scope.mk ScopeKind.function [(Str.ofString ".0", NameKind.local), (Str.ofString "row", NameKind.local), (Str.ofString "said_by", NameKind.globalImplicit), (Str.ofString "tuple", NameKind.globalImplicit), (Str.ofString "len", NameKind.globalImplicit)] Bool.false Bool.false []) (Pos.mk 18 25 18 89)] [] (Pos.mk 18 20 18 90)) (Pos.mk 18 8 18 90)]) (Scope.mk ScopeKind.function [(Str.ofString "self", NameKind.local), (Str.ofString "book", NameKind.local), (Str.ofString "dict", NameKind.globalImplicit)] Bool.false Bool.false [(Str.ofString "fast", Const.str "self"), (Str.ofString "fast", Const.str "book"), (Str.ofString "fast", Const.str "row")]) 3 [] .none .none .none (.str "nonebetter.facts" 237) none (.ref 40) .none 0)) #[] else
 bif Nat.beq i 42 then .mk (.type "tuple") none (.seq #[]) #[] else
 bif Nat.beq i 44 then .mk (.type "tuple") none (.seq #[.str "self" 260, .str "work" 261, .str "way" 262]) #[] else
 bif Nat.beq i 45 then .mk (.type "tuple") none (.seq #[]) #[] else
 .mk (.type "code") none (.fields #[.str "is_way" 257, .str "Facts.is_way" 258, .str "/claim/cut.py" 259, .int 20 0, .int 3 0, .int 0 0, .int 0 0, .int 3 0, .ref 42, .bool Bool.true, .int 181 0, .ref 43, .none, .ref 44, .ref 45, .ref 46, .int 263 0, .int 20 0, .str "/claim/cut.py" 264]) #[]
def hob4 (i : Nat) (P : Params) : Obj :=
 bif Nat.beq i 48 then .mk (.type "function") none (.func (.mk "is_way" "Facts.is_way" (Arguments.mk [] [Arg.mk "self" none (Pos.mk 20 15 20 19), Arg.mk "work" none (Pos.mk 20 21 20 25), Arg.mk "way" none (Pos.mk 20 27 20 30)] none [] [] none []) (.stmts [Stmt.Expr (Expr.Call (Expr.Name "_wall" (Pos.mk 21 8 21 13)) [Expr.Constant (Const.int 0) 0 (Pos.mk 21 14 21 15)] [] (Pos.mk 21 8 21 16)) (Pos.mk 21 8 21 16)]) (Scope.mk ScopeKind.function [(Str.ofString "self", NameKind.local), (Str.ofString "work", NameKind.local), (Str.ofString "way", NameKind.local), (Str.ofString "_wall", NameKind.globalImplicit)] Bool.false Bool.false []) 3 [] .none .none .none (.str "nonebetter.facts" 237) none (.ref 47) .none 0)) #[] else
 bif Nat.beq i 49 then .mk (.type "tuple") none (.seq #[]) #[] else
 bif Nat.beq i 51 then .mk (.type "tuple") none (.seq #[.str "self" 269, .str "work" 270, .str "way" 271]) #[] else
 bif Nat.beq i 52 then .mk (.type "tuple") none (.seq #[]) #[] else
 .mk (.type "code") none (.fields #[.str "last_begin" 266, .str "Facts.last_begin" 267, .str "/claim/cut.py" 268, .int 23 0, .int 3 0, .int 0 0, .int 0 0, .int 3 0, .ref 49, .bool Bool.true, .int 181 0, .ref 50, .none, .ref 51, .ref 52, .ref 53, .int 272 0, .int 23 0, .str "/claim/cut.py" 273]) #[]
def hob5 (i : Nat) (P : Params) : Obj :=
 bif Nat.beq i 55 then .mk (.type "function") none (.func (.mk "last_begin" "Facts.last_begin" (Arguments.mk [] [Arg.mk "self" none (Pos.mk 23 19 23 23), Arg.mk "work" none (Pos.mk 23 25 23 29), Arg.mk "way" none (Pos.mk 23 31 23 34)] none [] [] none []) (.stmts [Stmt.Return (Option.some (Expr.BinOp (Expr.Attribute (Expr.Name "self" (Pos.mk 24 15 24 19)) "days" (Pos.mk 24 15 24 24)) Operator.Sub (Expr.Subscript (Expr.Subscript (Expr.Attribute (Expr.Name "self" (Pos.mk 24 27 24 31)) "said" (Pos.mk 24 27 24 36)) (Expr.Tuple [Expr.Constant (Const.str "way") 0 (Pos.mk 24 37 24 42), Expr.Name "work" (Pos.mk 24 44 24 48), Expr.Name "way" (Pos.mk 24 50 24 53)] 0 (Pos.mk 24 37 24 53)) (Pos.mk 24 27 24 54)) (Expr.Constant (Const.int 0) 0 (Pos.mk 24 55 24 56)) (Pos.mk 24 27 24 57)) (Pos.mk 24 15 24 57))) (Pos.mk 24 8 24 57)]) (Scope.mk ScopeKind.function [(Str.ofString "self", NameKind.local), (Str.ofString "work", NameKind.local), (Str.ofString "way", NameKind.local)] Bool.false Bool.false []) 3 [] .none .none .none (.str "nonebetter.facts" 237) none (.ref 54) .none 0)) #[] else
 bif Nat.beq i 56 then .mk (.type "tuple") none (.seq #[]) #[] else
 bif Nat.beq i 59 then .mk (.type "code") none (.fields #[.str "all_choices" 275, .str "Facts.all_choices" 276, .str "/claim/cut.py" 277, .int 26 0, .int 1 0, .int 0 0, .int 0 0, .int 3 0, .ref 56, .bool Bool.true, .int 181 0, .ref 57, .none, .none, .none, .ref 58, .int 278 0, .int 26 0, .str "/claim/cut.py" 279]) #[] else
 bif Nat.beq i 60 then .mk (.type "function") none (.func (.mk "all_choices" "Facts.all_choices" (Arguments.mk [] [Arg.mk "self" none (Pos.mk 26 20 26 24)] none [] [] none []) (.stmts [Stmt.Assign [Expr.Name "found" (Pos.mk 27 8 27 13)] (Expr.List [] (Pos.mk 27 16 27 18)) (Pos.mk 27 8 27 18), Stmt.For (Expr.Name "work" (Pos.mk 28 12 28 16)) (Expr.Attribute (Expr.Name "self" (Pos.mk 28 20 28 24)) "works" (Pos.mk 28 20 28 30)) [Stmt.For (Expr.Name "way" (Pos.mk 29 16 29 19)) (Expr.ListComp (Expr.Subscript (Expr.Name "names" (Pos.mk 29 24 29 29)) (Expr.Constant (Const.int 2) 0 (Pos.mk 29 30 29 31)) (Pos.mk 29 24 29 32)) [Comprehension.mk (Expr.Name "names" (Pos.mk 29 37 29 42)) (Expr.Attribute (Expr.Name "self" (Pos.mk 29 46 29 50)) "said" (Pos.mk 29 46 29 55)) [Expr.Compare (Expr.Subscript (Expr.Name "names" (Pos.mk 29 59 29 64)) (Expr.Slice none (Option.some (Expr.Constant (Const.int 2) 0 (Pos.mk 29 66 29 67))) none (Pos.mk 29 65 29 67)) (Pos.mk 29 59 29 68)) [CmpOp.Eq] [Expr.Tuple [Expr.Constant (Const.str "way") 0 (Pos.mk 29 73 29 78), Expr.Name "work" (Pos.mk 29 80 29 84)] 0 (Pos.mk 29 72 29 85)] (Pos.mk 29 59 29 85)] 0] (Scope.mk ScopeKind.function [(Str.ofString ".0", NameKind.local), (Str.ofString "names", NameKind.local), (Str.ofString "work", NameKind.free)] Bool.false Bool.false []) (Pos.mk 29 23 29 86)) [Stmt.AugAssign (Expr.Name "found" (Pos.mk 30 16 30 21)) Operator.Add (Expr.ListComp (Expr.Tuple [Expr.Name "work" (Pos.mk 30 27 30 31), Expr.Name "way" (Pos.mk 30 33 30 36), Expr.Name "begin" (Pos.mk 30 38 30 43)] 0 (Pos.mk 30 26 30 44)) [Comprehension.mk (Expr.Name "begin" (Pos.mk 30 49 30 54)) (Expr.Call (Expr.Name "range" (Pos.mk 30 58 30 63)) [Expr.BinOp (Expr.Call (Expr.Attribute (Expr.Name "self" (Pos.mk 30 64 30 68)) "last_begin" (Pos.mk 30 64 30 79)) [Expr.Name "work" (Pos.mk 30 80 30 84), Expr.Name "way" (Pos.mk 30 86 30 89)] [] (Pos.mk 30 64 30 90)) Operator.Add (Expr.Constant (Const.int 1) 0 (Pos.mk 30 93 30 94)) (Pos.mk 30 64 30 94)] [] (Pos.mk 30 58 30 95)) [] 0] (Scope.mk ScopeKind.function [(Str.ofString ".0", NameKind.local), (Str.ofString "begin", NameKind.local), (Str.ofString "way", NameKind.free), (Str.ofString "work", NameKind.free)] Bool.false Bool.false []) (Pos.mk 30 25 30 96)) (Pos.mk 30 16 30 96)] [] (Pos.mk 29 12 30 96)] [] (Pos.mk 28 8 30 96), Stmt.Return (Option.some (Expr.Name "found" (Pos.mk 31 15 31 20))) (Pos.mk 31 8 31 20)]) (Scope.mk ScopeKind.function [(Str.ofString "self", NameKind.local), (Str.ofString "found", NameKind.local), (Str.ofString "work", NameKind.cell), (Str.ofString "way", NameKind.cell), (Str.ofString "range", NameKind.globalImplicit)] Bool.false Bool.false [(Str.ofString "fast", Const.str "self"), (Str.ofString "fast", Const.str "found"), (Str.ofString "fast", Const.str "work"), (Str.ofString "fast", Const.str "names"), (Str.ofString "fast", Const.str "way"), (Str.ofString "fast", Const.str "begin")]) 3 [] .none .none .none (.str "nonebetter.facts" 237) none (.ref 59) .none 0)) #[] else
 .mk (.type "tuple") none (.seq #[]) #[]
def hob6 (i : Nat) (P : Params) : Obj :=
 bif Nat.beq i 63 then .mk (.type "tuple") none (.seq #[.str "self" 284, .str "choice" 285]) #[] else
 bif Nat.beq i 64 then .mk (.type "tuple") none (.seq #[]) #[] else
 bif Nat.beq i 66 then .mk (.type "code") none (.fields #[.str "end_of" 281, .str "Facts.end_of" 282, .str "/claim/cut.py" 283, .int 33 0, .int 2 0, .int 0 0, .int 0 0, .int 3 0, .ref 61, .bool Bool.true, .int 181 0, .ref 62, .none, .ref 63, .ref 64, .ref 65, .int 286 0, .int 33 0, .str "/claim/cut.py" 287]) #[] else
 bif Nat.beq i 67 then .mk (.type "function") none (.func (.mk "end_of" "Facts.end_of" (Arguments.mk [] [Arg.mk "self" none (Pos.mk 33 15 33 19), Arg.mk "choice" none (Pos.mk 33 21 33 27)] none [] [] none []) (.stmts [Stmt.Return (Option.some (Expr.BinOp (Expr.Subscript (Expr.Name "choice" (Pos.mk 34 15 34 21)) (Expr.Constant (Const.int 2) 0 (Pos.mk 34 22 34 23)) (Pos.mk 34 15 34 24)) Operator.Add (Expr.Subscript (Expr.Subscript (Expr.Attribute (Expr.Name "self" (Pos.mk 34 27 34 31)) "said" (Pos.mk 34 27 34 36)) (Expr.BinOp (Expr.Tuple [Expr.Constant (Const.str "way") 0 (Pos.mk 34 38 34 43)] 0 (Pos.mk 34 37 34 45)) Operator.Add (Expr.Subscript (Expr.Name "choice" (Pos.mk 34 48 34 54)) (Expr.Slice none (Option.some (Expr.Constant (Const.int 2) 0 (Pos.mk 34 56 34 57))) none (Pos.mk 34 55 34 57)) (Pos.mk 34 48 34 58)) (Pos.mk 34 37 34 58)) (Pos.mk 34 27 34 59)) (Expr.Constant (Const.int 0) 0 (Pos.mk 34 60 34 61)) (Pos.mk 34 27 34 62)) (Pos.mk 34 15 34 62))) (Pos.mk 34 8 34 62)]) (Scope.mk ScopeKind.function [(Str.ofString "self", NameKind.local), (Str.ofString "choice", NameKind.local)] Bool.false Bool.false []) 3 [] .none .none .none (.str "nonebetter.facts" 237) none (.ref 66) .none 0)) #[] else
 .mk (.type "tuple") none (.seq #[]) #[]
def hob7 (i : Nat) (P : Params) : Obj :=
 bif Nat.beq i 70 then .mk (.type "tuple") none (.seq #[.str "self" 292, .str "choice" 293, .str "late" 294]) #[] else
 bif Nat.beq i 71 then .mk (.type "tuple") none (.seq #[]) #[] else
 bif Nat.beq i 73 then .mk (.type "code") none (.fields #[.str "price_of" 289, .str "Facts.price_of" 290, .str "/claim/cut.py" 291, .int 36 0, .int 2 0, .int 0 0, .int 0 0, .int 3 0, .ref 68, .bool Bool.true, .int 181 0, .ref 69, .none, .ref 70, .ref 71, .ref 72, .int 295 0, .int 36 0, .str "/claim/cut.py" 296]) #[] else
 bif Nat.beq i 74 then .mk (.type "function") none (.func (.mk "price_of" "Facts.price_of" (Arguments.mk [] [Arg.mk "self" none (Pos.mk 36 17 36 21), Arg.mk "choice" none (Pos.mk 36 23 36 29)] none [] [] none []) (.stmts [Stmt.Assign [Expr.Name "late" (Pos.mk 37 8 37 12)] (Expr.Call (Expr.Attribute (Expr.Attribute (Expr.Name "self" (Pos.mk 37 15 37 19)) "said" (Pos.mk 37 15 37 24)) "get" (Pos.mk 37 15 37 28)) [Expr.Tuple [Expr.Constant (Const.str "late") 0 (Pos.mk 37 30 37 36), Expr.Subscript (Expr.Name "choice" (Pos.mk 37 38 37 44)) (Expr.Constant (Const.int 0) 0 (Pos.mk 37 45 37 46)) (Pos.mk 37 38 37 47)] 0 (Pos.mk 37 29 37 48), Expr.Tuple [Expr.Constant (Const.int 0) 0 (Pos.mk 37 51 37 52), Expr.Constant (Const.int 0) 0 (Pos.mk 37 54 37 55)] 0 (Pos.mk 37 50 37 56)] [] (Pos.mk 37 15 37 57)) (Pos.mk 37 8 37 57), Stmt.Return (Option.some (Expr.BinOp (Expr.Subscript (Expr.Subscript (Expr.Attribute (Expr.Name "self" (Pos.mk 38 15 38 19)) "said" (Pos.mk 38 15 38 24)) (Expr.BinOp (Expr.Tuple [Expr.Constant (Const.str "way") 0 (Pos.mk 38 26 38 31)] 0 (Pos.mk 38 25 38 33)) Operator.Add (Expr.Subscript (Expr.Name "choice" (Pos.mk 38 36 38 42)) (Expr.Slice none (Option.some (Expr.Constant (Const.int 2) 0 (Pos.mk 38 44 38 45))) none (Pos.mk 38 43 38 45)) (Pos.mk 38 36 38 46)) (Pos.mk 38 25 38 46)) (Pos.mk 38 15 38 47)) (Expr.Constant (Const.int 1) 0 (Pos.mk 38 48 38 49)) (Pos.mk 38 15 38 50)) Operator.Add (Expr.BinOp (Expr.Call (Expr.Name "max" (Pos.mk 38 53 38 56)) [Expr.Constant (Const.int 0) 0 (Pos.mk 38 57 38 58), Expr.BinOp (Expr.Call (Expr.Attribute (Expr.Name "self" (Pos.mk 38 60 38 64)) "end_of" (Pos.mk 38 60 38 71)) [Expr.Name "choice" (Pos.mk 38 72 38 78)] [] (Pos.mk 38 60 38 79)) Operator.Sub (Expr.Subscript (Expr.Name "late" (Pos.mk 38 82 38 86)) (Expr.Constant (Const.int 0) 0 (Pos.mk 38 87 38 88)) (Pos.mk 38 82 38 89)) (Pos.mk 38 60 38 89)] [] (Pos.mk 38 53 38 90)) Operator.Mult (Expr.Subscript (Expr.Name "late" (Pos.mk 38 93 38 97)) (Expr.Constant (Const.int 1) 0 (Pos.mk 38 98 38 99)) (Pos.mk 38 93 38 100)) (Pos.mk 38 53 38 100)) (Pos.mk 38 15 38 100))) (Pos.mk 38 8 38 100)]) (Scope.mk ScopeKind.function [(Str.ofString "self", NameKind.local), (Str.ofString "choice", NameKind.local), (Str.ofString "late", NameKind.local), (Str.ofString "max", NameKind.globalImplicit)] Bool.false Bool.false []) 3 [] .none .none .none (.str "nonebetter.facts" 237) none (.ref 73) .none 0)) #[] else
 .mk (.type "tuple") none (.seq #[]) #[]
def hob8 (i : Nat) (P : Params) : Obj :=
 bif Nat.beq i 77 then .mk (.type "tuple") none (.seq #[.str "self" 301, .str "word" 302, .str "choice" 303, .str "name" 304]) #[] else
 bif Nat.beq i 78 then .mk (.type "tuple") none (.seq #[]) #[] else
 bif Nat.beq i 80 then .mk (.type "code") none (.fields #[.str "many" 298, .str "Facts.many" 299, .str "/claim/cut.py" 300, .int 40 0, .int 4 0, .int 0 0, .int 0 0, .int 3 0, .ref 75, .bool Bool.true, .int 181 0, .ref 76, .none, .ref 77, .ref 78, .ref 79, .int 305 0, .int 40 0, .str "/claim/cut.py" 306]) #[] else
 bif Nat.beq i 81 then .mk (.type "function") none (.func (.mk "many" "Facts.many" (Arguments.mk [] [Arg.mk "self" none (Pos.mk 40 13 40 17), Arg.mk "word" none (Pos.mk 40 19 40 23), Arg.mk "choice" none (Pos.mk 40 25 40 31), Arg.mk "name" none (Pos.mk 40 33 40 37)] none [] [] none []) (.stmts [Stmt.Return (Option.some (Expr.Subscript (Expr.Call (Expr.Attribute (Expr.Attribute (Expr.Name "self" (Pos.mk 41 15 41 19)) "said" (Pos.mk 41 15 41 24)) "get" (Pos.mk 41 15 41 28)) [Expr.BinOp (Expr.BinOp (Expr.Tuple [Expr.Name "word" (Pos.mk 41 30 41 34)] 0 (Pos.mk 41 29 41 36)) Operator.Add (Expr.Subscript (Expr.Name "choice" (Pos.mk 41 39 41 45)) (Expr.Slice none (Option.some (Expr.Constant (Const.int 2) 0 (Pos.mk 41 47 41 48))) none (Pos.mk 41 46 41 48)) (Pos.mk 41 39 41 49)) (Pos.mk 41 29 41 49)) Operator.Add (Expr.Tuple [Expr.Name "name" (Pos.mk 41 53 41 57)] 0 (Pos.mk 41 52 41 59)) (Pos.mk 41 29 41 59), Expr.Tuple [Expr.Constant (Const.int 0) 0 (Pos.mk 41 62 41 63)] 0 (Pos.mk 41 61 41 65)] [] (Pos.mk 41 15 41 66)) (Expr.Constant (Const.int 0) 0 (Pos.mk 41 67 41 68)) (Pos.mk 41 15 41 69))) (Pos.mk 41 8 41 69)]) (Scope.mk ScopeKind.function [(Str.ofString "self", NameKind.local), (Str.ofString "word", NameKind.local), (Str.ofString "choice", NameKind.local), (Str.ofString "name", NameKind.local)] Bool.false Bool.false []) 3 [] .none .none .none (.str "nonebetter.facts" 237) none (.ref 80) .none 0)) #[] else
 .mk (.type "tuple") none (.seq #[]) #[]
def hob9 (i : Nat) (P : Params) : Obj :=
 bif Nat.beq i 84 then .mk (.type "tuple") none (.seq #[.str "self" 311, .str "choice" 312, .str "bench" 313, .str "day" 314]) #[] else
 bif Nat.beq i 85 then .mk (.type "tuple") none (.seq #[]) #[] else
 bif Nat.beq i 87 then .mk (.type "code") none (.fields #[.str "used_by" 308, .str "Facts.used_by" 309, .str "/claim/cut.py" 310, .int 43 0, .int 4 0, .int 0 0, .int 0 0, .int 3 0, .ref 82, .bool Bool.true, .int 181 0, .ref 83, .none, .ref 84, .ref 85, .ref 86, .int 315 0, .int 43 0, .str "/claim/cut.py" 316]) #[] else
 bif Nat.beq i 88 then .mk (.type "function") none (.func (.mk "used_by" "Facts.used_by" (Arguments.mk [] [Arg.mk "self" none (Pos.mk 43 16 43 20), Arg.mk "choice" none (Pos.mk 43 22 43 28), Arg.mk "bench" none (Pos.mk 43 30 43 35), Arg.mk "day" none (Pos.mk 43 37 43 40)] none [] [] none []) (.stmts [Stmt.If (Expr.Compare (Expr.Subscript (Expr.Name "choice" (Pos.mk 44 11 44 17)) (Expr.Constant (Const.int 2) 0 (Pos.mk 44 18 44 19)) (Pos.mk 44 11 44 20)) [CmpOp.LtE, CmpOp.Lt] [Expr.Name "day" (Pos.mk 44 24 44 27), Expr.Call (Expr.Attribute (Expr.Name "self" (Pos.mk 44 30 44 34)) "end_of" (Pos.mk 44 30 44 41)) [Expr.Name "choice" (Pos.mk 44 42 44 48)] [] (Pos.mk 44 30 44 49)] (Pos.mk 44 11 44 49)) [Stmt.Return (Option.some (Expr.Call (Expr.Attribute (Expr.Name "self" (Pos.mk 45 19 45 23)) "many" (Pos.mk 45 19 45 28)) [Expr.Constant (Const.str "uses") 0 (Pos.mk 45 29 45 35), Expr.Name "choice" (Pos.mk 45 37 45 43), Expr.Name "bench" (Pos.mk 45 45 45 50)] [] (Pos.mk 45 19 45 51))) (Pos.mk 45 12 45 51)] [] (Pos.mk 44 8 45 51), Stmt.Return (Option.some (Expr.Constant (Const.int 0) 0 (Pos.mk 46 15 46 16))) (Pos.mk 46 8 46 16)]) (Scope.mk ScopeKind.function [(Str.ofString "self", NameKind.local), (Str.ofString "choice", NameKind.local), (Str.ofString "bench", NameKind.local), (Str.ofString "day", NameKind.local)] Bool.false Bool.false []) 3 [] .none .none .none (.str "nonebetter.facts" 237) none (.ref 87) .none 0)) #[] else
 .mk (.type "tuple") none (.seq #[]) #[]
def hob10 (i : Nat) (P : Params) : Obj :=
 bif Nat.beq i 91 then .mk (.type "tuple") none (.seq #[.str "self" 321, .str "choice" 322, .str "store" 323, .str "day" 324, .str "gain" 325]) #[] else
 bif Nat.beq i 92 then .mk (.type "tuple") none (.seq #[]) #[] else
 bif Nat.beq i 94 then .mk (.type "code") none (.fields #[.str "gain_by" 318, .str "Facts.gain_by" 319, .str "/claim/cut.py" 320, .int 48 0, .int 4 0, .int 0 0, .int 0 0, .int 3 0, .ref 89, .bool Bool.true, .int 181 0, .ref 90, .none, .ref 91, .ref 92, .ref 93, .int 326 0, .int 48 0, .str "/claim/cut.py" 327]) #[] else
 bif Nat.beq i 95 then .mk (.type "function") none (.func (.mk "gain_by" "Facts.gain_by" (Arguments.mk [] [Arg.mk "self" none (Pos.mk 48 16 48 20), Arg.mk "choice" none (Pos.mk 48 22 48 28), Arg.mk "store" none (Pos.mk 48 30 48 35), Arg.mk "day" none (Pos.mk 48 37 48 40)] none [] [] none []) (.stmts [Stmt.Assign [Expr.Name "gain" (Pos.mk 49 8 49 12)] (Expr.Constant (Const.int 0) 0 (Pos.mk 49 15 49 16)) (Pos.mk 49 8 49 16), Stmt.If (Expr.Compare (Expr.Subscript (Expr.Name "choice" (Pos.mk 50 11 50 17)) (Expr.Constant (Const.int 2) 0 (Pos.mk 50 18 50 19)) (Pos.mk 50 11 50 20)) [CmpOp.LtE] [Expr.Name "day" (Pos.mk 50 24 50 27)] (Pos.mk 50 11 50 27)) [Stmt.AugAssign (Expr.Name "gain" (Pos.mk 51 12 51 16)) Operator.Sub (Expr.Call (Expr.Attribute (Expr.Name "self" (Pos.mk 51 20 51 24)) "many" (Pos.mk 51 20 51 29)) [Expr.Constant (Const.str "takes") 0 (Pos.mk 51 30 51 37), Expr.Name "choice" (Pos.mk 51 39 51 45), Expr.Name "store" (Pos.mk 51 47 51 52)] [] (Pos.mk 51 20 51 53)) (Pos.mk 51 12 51 53)] [] (Pos.mk 50 8 51 53), Stmt.If (Expr.Compare (Expr.Call (Expr.Attribute (Expr.Name "self" (Pos.mk 52 11 52 15)) "end_of" (Pos.mk 52 11 52 22)) [Expr.Name "choice" (Pos.mk 52 23 52 29)] [] (Pos.mk 52 11 52 30)) [CmpOp.LtE] [Expr.Name "day" (Pos.mk 52 34 52 37)] (Pos.mk 52 11 52 37)) [Stmt.AugAssign (Expr.Name "gain" (Pos.mk 53 12 53 16)) Operator.Add (Expr.Call (Expr.Attribute (Expr.Name "self" (Pos.mk 53 20 53 24)) "many" (Pos.mk 53 20 53 29)) [Expr.Constant (Const.str "gives") 0 (Pos.mk 53 30 53 37), Expr.Name "choice" (Pos.mk 53 39 53 45), Expr.Name "store" (Pos.mk 53 47 53 52)] [] (Pos.mk 53 20 53 53)) (Pos.mk 53 12 53 53)] [] (Pos.mk 52 8 53 53), Stmt.Return (Option.some (Expr.Name "gain" (Pos.mk 54 15 54 19))) (Pos.mk 54 8 54 19)]) (Scope.mk ScopeKind.function [(Str.ofString "self", NameKind.local), (Str.ofString "choice", NameKind.local), (Str.ofString "store", NameKind.local), (Str.ofString "day", NameKind.local), (Str.ofString "gain", NameKind.local)] Bool.false Bool.false []) 3 [] .none .none .none (.str "nonebetter.facts" 237) none (.ref 94) .none 0)) #[] else
 .mk (.type "tuple") none (.seq #[]) #[]
def hob11 (i : Nat) (P : Params) : Obj :=
 bif Nat.beq i 99 then .mk (.type "code") none (.fields #[.str "room_of" 329, .str "Facts.room_of" 330, .str "/claim/cut.py" 331, .int 56 0, .int 3 0, .int 0 0, .int 0 0, .int 3 0, .ref 96, .bool Bool.true, .int 181 0, .ref 97, .none, .none, .none, .ref 98, .int 332 0, .int 56 0, .str "/claim/cut.py" 333]) #[] else
 bif Nat.beq i 100 then .mk (.type "function") none (.func (.mk "room_of" "Facts.room_of" (Arguments.mk [] [Arg.mk "self" none (Pos.mk 56 16 56 20), Arg.mk "bench" none (Pos.mk 56 22 56 27), Arg.mk "day" none (Pos.mk 56 29 56 32)] none [] [] none []) (.stmts [Stmt.If (Expr.Call (Expr.Name "any" (Pos.mk 57 11 57 14)) [Expr.ListComp (Expr.BoolOp BoolOp.And [Expr.Compare (Expr.Name "name" (Pos.mk 57 16 57 20)) [CmpOp.Eq] [Expr.Name "bench" (Pos.mk 57 24 57 29)] (Pos.mk 57 16 57 29), Expr.Compare (Expr.Name "begin" (Pos.mk 57 34 57 39)) [CmpOp.LtE, CmpOp.Lt] [Expr.Name "day" (Pos.mk 57 43 57 46), Expr.Name "end" (Pos.mk 57 49 57 52)] (Pos.mk 57 34 57 52)] (Pos.mk 57 16 57 52)) [Comprehension.mk (Expr.Tuple [Expr.Name "name" (Pos.mk 57 57 57 61), Expr.Name "begin" (Pos.mk 57 63 57 68), Expr.Name "end" (Pos.mk 57 70 57 73)] 0 (Pos.mk 57 57 57 73)) (Expr.Attribute (Expr.Name "self" (Pos.mk 57 77 57 81)) "shuts" (Pos.mk 57 77 57 87)) [] 0] (Scope.mk ScopeKind.function [(Str.ofString ".0", NameKind.local), (Str.ofString "name", NameKind.local), (Str.ofString "begin", NameKind.local), (Str.ofString "end", NameKind.local), (Str.ofString "bench", NameKind.free), (Str.ofString "day", NameKind.free)] Bool.false Bool.false []) (Pos.mk 57 15 57 88)] [] (Pos.mk 57 11 57 89)) [Stmt.Return (Option.some (Expr.Constant (Const.int 0) 0 (Pos.mk 58 19 58 20))) (Pos.mk 58 12 58 20)] [] (Pos.mk 57 8 58 20), Stmt.Return (Option.some (Expr.Subscript (Expr.Subscript (Expr.Attribute (Expr.Name "self" (Pos.mk 59 15 59 19)) "said" (Pos.mk 59 15 59 24)) (Expr.Tuple [Expr.Constant (Const.str "bench") 0 (Pos.mk 59 25 59 32), Expr.Name "bench" (Pos.mk 59 34 59 39)] 0 (Pos.mk 59 25 59 39)) (Pos.mk 59 15 59 40)) (Expr.Constant (Const.int 0) 0 (Pos.mk 59 41 59 42)) (Pos.mk 59 15 59 43))) (Pos.mk 59 8 59 43)]) (Scope.mk ScopeKind.function [(Str.ofString "self", NameKind.local), (Str.ofString "bench", NameKind.cell), (Str.ofString "day", NameKind.cell), (Str.ofString "any", NameKind.globalImplicit)] Bool.false Bool.false [(Str.ofString "fast", Const.str "self"), (Str.ofString "fast", Const.str "bench"), (Str.ofString "fast", Const.str "day"), (Str.ofString "fast", Const.str "name"), (Str.ofString "fast", Const.str "begin"), (Str.ofString "fast", Const.str "end")]) 3 [] .none .none .none (.str "nonebetter.facts" 237) none (.ref 99) .none 0)) #[] else
 bif Nat.beq i 101 then .mk (.type "tuple") none (.seq #[.str "afters" 335, .str "benches" 336, .str "days" 337, .str "said" 338, .str "shuts" 339, .str "stores" 340, .str "works" 341]) #[] else
 bif Nat.beq i 102 then .mk (.type "dict") none (.dict #[.mk (PyData.keyHash P "__module__") (.str "__module__" 246) (.str "nonebetter.facts" 237), .mk (PyData.keyHash P "__firstlineno__") (.str "__firstlineno__" 250) (.int 9 249), .mk (PyData.keyHash P "__init__") (.str "__init__" 256) (.ref 41), .mk (PyData.keyHash P "is_way") (.str "is_way" 265) (.ref 48), .mk (PyData.keyHash P "last_begin") (.str "last_begin" 274) (.ref 55), .mk (PyData.keyHash P "all_choices") (.str "all_choices" 280) (.ref 60), .mk (PyData.keyHash P "end_of") (.str "end_of" 288) (.ref 67), .mk (PyData.keyHash P "price_of") (.str "price_of" 297) (.ref 74), .mk (PyData.keyHash P "many") (.str "many" 307) (.ref 81), .mk (PyData.keyHash P "used_by") (.str "used_by" 317) (.ref 88), .mk (PyData.keyHash P "gain_by") (.str "gain_by" 328) (.ref 95), .mk (PyData.keyHash P "room_of") (.str "room_of" 334) (.ref 100), .mk (PyData.keyHash P "__static_attributes__") (.str "__static_attributes__" 342) (.ref 101), .mk (PyData.keyHash P "__dict__") (.str "__dict__" 344) (.ref 104), .mk (PyData.keyHash P "__weakref__") (.str "__weakref__" 346) (.ref 105), .mk (PyData.keyHash P "__doc__") (.str "__doc__" 347) .none] 4) #[] else
 .mk (.type "type") none (.cls (ClassData.mk "Facts" [.type "object"] [.ref 103, .type "object"] 102 "Facts" Bool.true [] [] Bool.false none Bool.false)) #[none, none, Option.some (.str "Facts" 239), Option.some (.str "Facts" 247), Option.some (.builtin "object.__new__"), Option.some (.bool Bool.true)]
def hob12 (i : Nat) (P : Params) : Obj :=
 bif Nat.beq i 104 then .mk (.type "getset_descriptor") none (.fields #[.str "__dict__" 343, .ref 103, .builtin "function.__dict__", .builtin "function.__dict__#set"]) #[] else
 bif Nat.beq i 105 then .mk (.type "getset_descriptor") none (.fields #[.str "__weakref__" 345, .ref 103, .builtin "ExceptionGroup.__weakref__", .none]) #[] else
 bif Nat.beq i 108 then .mk (.type "tuple") none (.seq #[]) #[] else
 bif Nat.beq i 111 then .mk (.type "code") none (.fields #[.str "negated" 352, .str "negated" 353, .str "/claim/cut.py" 354, .int 61 0, .int 1 0, .int 0 0, .int 0 0, .int 3 0, .ref 108, .bool Bool.true, .int 181 0, .ref 109, .none, .none, .none, .ref 110, .int 355 0, .int 61 0, .str "/claim/cut.py" 356]) #[] else
 .mk (.type "function") (none) (.func (.mk "negated" "negated" (L2.Xd (htop 7)) (.stmts (L2.Xa (htop 7))) (L2.Qi (htop 7)) (3) ([]) (.none) (.none) (.none) (.str "nonebetter.booked" 350) (none) (.ref 111) (.none) (0))) (#[])
def hob13 (i : Nat) (P : Params) : Obj :=
 bif Nat.beq i 113 then .mk (.type "tuple") none (.seq #[]) #[] else
 bif Nat.beq i 116 then .mk (.type "code") none (.fields #[.str "work_rows" 358, .str "work_rows" 359, .str "/claim/cut.py" 360, .int 63 0, .int 2 0, .int 0 0, .int 0 0, .int 3 0, .ref 113, .bool Bool.true, .int 181 0, .ref 114, .none, .none, .none, .ref 115, .int 361 0, .int 63 0, .str "/claim/cut.py" 362]) #[] else
 bif Nat.beq i 117 then .mk (.type "function") (none) (.func (.mk "work_rows" "work_rows" (L2.Xd (htop 8)) (.stmts (L2.Xa (htop 8))) (L2.Qi (htop 8)) (3) ([]) (.none) (.none) (.none) (.str "nonebetter.booked" 350) (none) (.ref 116) (.none) (0))) (#[]) else
 bif Nat.beq i 118 then .mk (.type "tuple") none (.seq #[]) #[] else
 .mk (.type "code") none (.fields #[.str "room_rows" 364, .str "room_rows" 365, .str "/claim/cut.py" 366, .int 70 0, .int 2 0, .int 0 0, .int 0 0, .int 3 0, .ref 118, .bool Bool.true, .int 181 0, .ref 119, .none, .none, .none, .ref 120, .int 367 0, .int 70 0, .str "/claim/cut.py" 368]) #[]
def hob14 (i : Nat) (P : Params) : Obj :=
 bif Nat.beq i 122 then .mk (.type "function") (none) (.func (.mk "room_rows" "room_rows" (L2.Xd (htop 9)) (.stmts (L2.Xa (htop 9))) (L2.Qi (htop 9)) (3) ([]) (.none) (.none) (.none) (.str "nonebetter.booked" 350) (none) (.ref 121) (.none) (0))) (#[]) else
 bif Nat.beq i 123 then .mk (.type "tuple") none (.seq #[]) #[] else
 bif Nat.beq i 126 then .mk (.type "code") none (.fields #[.str "store_rows" 370, .str "store_rows" 371, .str "/claim/cut.py" 372, .int 77 0, .int 2 0, .int 0 0, .int 0 0, .int 3 0, .ref 123, .bool Bool.true, .int 181 0, .ref 124, .none, .none, .none, .ref 125, .int 373 0, .int 77 0, .str "/claim/cut.py" 374]) #[] else
 bif Nat.beq i 127 then .mk (.type "function") (none) (.func (.mk "store_rows" "store_rows" (L2.Xd (htop 10)) (.stmts (L2.Xa (htop 10))) (L2.Qi (htop 10)) (3) ([]) (.none) (.none) (.none) (.str "nonebetter.booked" 350) (none) (.ref 126) (.none) (0))) (#[]) else
 .mk (.type "tuple") none (.seq #[]) #[]
def hob15 (i : Nat) (P : Params) : Obj :=
 bif Nat.beq i 130 then .mk (.type "tuple") none (.seq #[.str "facts" 379, .str "choice" 380, .str "after" 381, .str "day" 382]) #[] else
 bif Nat.beq i 131 then .mk (.type "tuple") none (.seq #[]) #[] else
 bif Nat.beq i 133 then .mk (.type "code") none (.fields #[.str "after_number" 376, .str "after_number" 377, .str "/claim/cut.py" 378, .int 85 0, .int 4 0, .int 0 0, .int 0 0, .int 3 0, .ref 128, .bool Bool.true, .int 181 0, .ref 129, .none, .ref 130, .ref 131, .ref 132, .int 383 0, .int 85 0, .str "/claim/cut.py" 384]) #[] else
 bif Nat.beq i 134 then .mk (.type "function") (none) (.func (.mk "after_number" "after_number" (L2.Xd (htop 11)) (.stmts (L2.Xa (htop 11))) (L2.Qi (htop 11)) (3) ([]) (.none) (.none) (.none) (.str "nonebetter.booked" 350) (none) (.ref 133) (.none) (0))) (#[]) else
 .mk (.type "tuple") none (.seq #[]) #[]
def hob16 (i : Nat) (P : Params) : Obj :=
 bif Nat.beq i 138 then .mk (.type "code") none (.fields #[.str "after_rows" 386, .str "after_rows" 387, .str "/claim/cut.py" 388, .int 89 0, .int 2 0, .int 0 0, .int 0 0, .int 3 0, .ref 135, .bool Bool.true, .int 181 0, .ref 136, .none, .none, .none, .ref 137, .int 389 0, .int 89 0, .str "/claim/cut.py" 390]) #[] else
 bif Nat.beq i 139 then .mk (.type "function") (none) (.func (.mk "after_rows" "after_rows" (L2.Xd (htop 12)) (.stmts (L2.Xa (htop 12))) (L2.Qi (htop 12)) (3) ([]) (.none) (.none) (.none) (.str "nonebetter.booked" 350) (none) (.ref 138) (.none) (0))) (#[]) else
 bif Nat.beq i 140 then .mk (.type "tuple") none (.seq #[]) #[] else
 bif Nat.beq i 142 then .mk (.type "tuple") none (.seq #[.str "book" 395, .str "facts" 396, .str "asked" 397]) #[] else
 .mk (.type "tuple") none (.seq #[]) #[]
def hob17 (i : Nat) (P : Params) : Obj :=
 bif Nat.beq i 145 then .mk (.type "code") none (.fields #[.str "labelled" 392, .str "labelled" 393, .str "/claim/cut.py" 394, .int 96 0, .int 1 0, .int 0 0, .int 0 0, .int 3 0, .ref 140, .bool Bool.true, .int 181 0, .ref 141, .none, .ref 142, .ref 143, .ref 144, .int 398 0, .int 96 0, .str "/claim/cut.py" 399]) #[] else
 bif Nat.beq i 146 then .mk (.type "function") (none) (.func (.mk "labelled" "labelled" (L2.Xd (htop 13)) (.stmts (L2.Xa (htop 13))) (L2.Qi (htop 13)) (3) ([]) (.none) (.none) (.none) (.str "nonebetter.booked" 350) (none) (.ref 145) (.none) (0))) (#[]) else
 bif Nat.beq i 147 then .mk (.type "tuple") none (.seq #[]) #[] else
 bif Nat.beq i 150 then .mk (.type "code") none (.fields #[.str "problem_of" 401, .str "problem_of" 402, .str "/claim/cut.py" 403, .int 100 0, .int 1 0, .int 0 0, .int 0 0, .int 3 0, .ref 147, .bool Bool.true, .int 181 0, .ref 148, .none, .none, .none, .ref 149, .int 404 0, .int 100 0, .str "/claim/cut.py" 405]) #[] else
 .mk (.type "function") (none) (.func (.mk "problem_of" "problem_of" (L2.Xd (htop 14)) (.stmts (L2.Xa (htop 14))) (L2.Qi (htop 14)) (3) ([]) (.none) (.none) (.none) (.str "nonebetter.booked" 350) (none) (.ref 150) (.none) (0))) (#[])
def hob18 (i : Nat) (P : Params) : Obj :=
 bif Nat.beq i 152 then .mk (.type "tuple") none (.seq #[]) #[] else
 bif Nat.beq i 154 then .mk (.type "tuple") none (.seq #[.str "_law_found" 412]) #[] else
 bif Nat.beq i 155 then .mk (.type "tuple") none (.seq #[]) #[] else
 bif Nat.beq i 157 then .mk (.type "code") none (.fields #[.str "_law_whole" 409, .str "_law_whole" 410, .str "/claim/cut.py" 411, .int 105 0, .int 1 0, .int 0 0, .int 0 0, .int 3 0, .ref 152, .bool Bool.true, .int 181 0, .ref 153, .none, .ref 154, .ref 155, .ref 156, .int 413 0, .int 105 0, .str "/claim/cut.py" 414]) #[] else
 .mk (.type "function") (none) (.func (.mk "_law_whole" "_law_whole" (L2.Xd (htop 16)) (.stmts (L2.Xa (htop 16))) (L2.Qi (htop 16)) (3) ([]) (.none) (.none) (.none) (.str "law_nonebetter_k66_rows_of_books" 407) (none) (.ref 157) (.none) (0))) (#[])
def hob19 (i : Nat) (P : Params) : Obj :=
 bif Nat.beq i 159 then .mk (.type "tuple") none (.seq #[]) #[] else
 bif Nat.beq i 161 then .mk (.type "tuple") none (.seq #[.str "_law_script" 419, .str "_law_k" 420, .str "_law_cell" 421, .str "_law_number" 422]) #[] else
 bif Nat.beq i 162 then .mk (.type "tuple") none (.seq #[]) #[] else
 bif Nat.beq i 164 then .mk (.type "code") none (.fields #[.str "_law_mix" 416, .str "_law_mix" 417, .str "/claim/cut.py" 418, .int 107 0, .int 2 0, .int 0 0, .int 0 0, .int 3 0, .ref 159, .bool Bool.true, .int 181 0, .ref 160, .none, .ref 161, .ref 162, .ref 163, .int 423 0, .int 107 0, .str "/claim/cut.py" 424]) #[] else
 .mk (.type "function") (none) (.func (.mk "_law_mix" "_law_mix" (L2.Xd (htop 17)) (.stmts (L2.Xa (htop 17))) (L2.Qi (htop 17)) (3) ([]) (.none) (.none) (.none) (.str "law_nonebetter_k66_rows_of_books" 407) (none) (.ref 164) (.none) (0))) (#[])
def hob20 (i : Nat) (P : Params) : Obj :=
 bif Nat.beq i 166 then .mk (.type "tuple") none (.seq #[]) #[] else
 bif Nat.beq i 168 then .mk (.type "tuple") none (.seq #[.str "_law_script" 429, .str "_law_many_here" 430, .str "_law_found" 431, .str "_law_k" 432, .str "_law_cell" 433]) #[] else
 bif Nat.beq i 169 then .mk (.type "tuple") none (.seq #[]) #[] else
 bif Nat.beq i 171 then .mk (.type "code") none (.fields #[.str "_law_draws" 426, .str "_law_draws" 427, .str "/claim/cut.py" 428, .int 114 0, .int 2 0, .int 0 0, .int 0 0, .int 3 0, .ref 166, .bool Bool.true, .int 181 0, .ref 167, .none, .ref 168, .ref 169, .ref 170, .int 434 0, .int 114 0, .str "/claim/cut.py" 435]) #[] else
 .mk (.type "function") (none) (.func (.mk "_law_draws" "_law_draws" (L2.Xd (htop 18)) (.stmts (L2.Xa (htop 18))) (L2.Qi (htop 18)) (3) ([]) (.none) (.none) (.none) (.str "law_nonebetter_k66_rows_of_books" 407) (none) (.ref 171) (.none) (0))) (#[])
def hob21 (i : Nat) (P : Params) : Obj :=
 bif Nat.beq i 173 then .mk (.type "tuple") none (.seq #[]) #[] else
 bif Nat.beq i 175 then .mk (.type "tuple") none (.seq #[.str "_law_k" 440, .str "_law_number" 441, .str "_law_letters" 442, .str "_law_found" 443, .str "_law_j" 444]) #[] else
 bif Nat.beq i 176 then .mk (.type "tuple") none (.seq #[]) #[] else
 bif Nat.beq i 178 then .mk (.type "code") none (.fields #[.str "_law_name" 437, .str "_law_name" 438, .str "/claim/cut.py" 439, .int 129 0, .int 2 0, .int 0 0, .int 0 0, .int 3 0, .ref 173, .bool Bool.true, .int 181 0, .ref 174, .none, .ref 175, .ref 176, .ref 177, .int 445 0, .int 129 0, .str "/claim/cut.py" 446]) #[] else
 .mk (.type "function") (none) (.func (.mk "_law_name" "_law_name" (L2.Xd (htop 19)) (.stmts (L2.Xa (htop 19))) (L2.Qi (htop 19)) (3) ([]) (.none) (.none) (.none) (.str "law_nonebetter_k66_rows_of_books" 407) (none) (.ref 178) (.none) (0))) (#[])
def hob22 (i : Nat) (P : Params) : Obj :=
 bif Nat.beq i 180 then .mk (.type "tuple") none (.seq #[]) #[] else
 bif Nat.beq i 182 then .mk (.type "tuple") none (.seq #[.str "_law_draws_here" 451, .str "_law_at" 452, .str "_law_days" 453, .str "_law_quays" 454, .str "_law_stocks" 455, .str "_law_found" 456, .str "_law_k" 457, .str "_law_bench_here" 458, .str "_law_number" 459, .str "_law_begin" 460, .str "_law_store_here" 461, .str "_law_full" 462]) #[] else
 bif Nat.beq i 183 then .mk (.type "tuple") none (.seq #[]) #[] else
 bif Nat.beq i 185 then .mk (.type "code") none (.fields #[.str "_law_rooms" 448, .str "_law_rooms" 449, .str "/claim/cut.py" 450, .int 137 0, .int 5 0, .int 0 0, .int 0 0, .int 3 0, .ref 180, .bool Bool.true, .int 181 0, .ref 181, .none, .ref 182, .ref 183, .ref 184, .int 463 0, .int 137 0, .str "/claim/cut.py" 464]) #[] else
 .mk (.type "function") (none) (.func (.mk "_law_rooms" "_law_rooms" (L2.Xd (htop 20)) (.stmts (L2.Xa (htop 20))) (L2.Qi (htop 20)) (3) ([]) (.none) (.none) (.none) (.str "law_nonebetter_k66_rows_of_books" 407) (none) (.ref 185) (.none) (0))) (#[])
def hob23 (i : Nat) (P : Params) : Obj :=
 bif Nat.beq i 187 then .mk (.type "tuple") none (.seq #[]) #[] else
 bif Nat.beq i 190 then .mk (.type "code") none (.fields #[.str "_law_book" 466, .str "_law_book" 467, .str "/claim/cut.py" 468, .int 149 0, .int 4 0, .int 0 0, .int 0 0, .int 3 0, .ref 187, .bool Bool.true, .int 181 0, .ref 188, .none, .none, .none, .ref 189, .int 469 0, .int 149 0, .str "/claim/cut.py" 470]) #[] else
 bif Nat.beq i 191 then .mk (.type "function") (none) (.func (.mk "_law_book" "_law_book" (L2.Xd (htop 21)) (.stmts (L2.Xa (htop 21))) (L2.Qi (htop 21)) (3) ([]) (.none) (.none) (.none) (.str "law_nonebetter_k66_rows_of_books" 407) (none) (.ref 190) (.none) (0))) (#[]) else
 bif Nat.beq i 192 then .mk (.type "tuple") none (.seq #[]) #[] else
 .mk (.type "tuple") none (.seq #[.str "_law_draws_here" 475, .str "_law_at" 476, .str "_law_work" 477, .str "_law_j" 478, .str "_law_days" 479, .str "_law_quays" 480, .str "_law_stocks" 481, .str "_law_way_here" 482, .str "_law_number" 483, .str "_law_found" 484, .str "_law_k" 485, .str "_law_bench_here" 486, .str "_law_uses" 487, .str "_law_store_here" 488]) #[]
def hob24 (i : Nat) (P : Params) : Obj :=
 bif Nat.beq i 195 then .mk (.type "tuple") none (.seq #[]) #[] else
 bif Nat.beq i 197 then .mk (.type "code") none (.fields #[.str "_law_way" 472, .str "_law_way" 473, .str "/claim/cut.py" 474, .int 177 0, .int 7 0, .int 0 0, .int 0 0, .int 3 0, .ref 192, .bool Bool.true, .int 181 0, .ref 193, .none, .ref 194, .ref 195, .ref 196, .int 489 0, .int 177 0, .str "/claim/cut.py" 490]) #[] else
 bif Nat.beq i 198 then .mk (.type "function") (none) (.func (.mk "_law_way" "_law_way" (L2.Xd (htop 22)) (.stmts (L2.Xa (htop 22))) (L2.Qi (htop 22)) (3) ([]) (.none) (.none) (.none) (.str "law_nonebetter_k66_rows_of_books" 407) (none) (.ref 197) (.none) (0))) (#[]) else
 bif Nat.beq i 199 then .mk (.type "tuple") none (.seq #[]) #[] else
 .mk (.type "code") none (.fields #[.str "_law_ways" 492, .str "_law_ways" 493, .str "/claim/cut.py" 494, .int 193 0, .int 2 0, .int 0 0, .int 0 0, .int 3 0, .ref 199, .bool Bool.true, .int 181 0, .ref 200, .none, .none, .none, .ref 201, .int 495 0, .int 193 0, .str "/claim/cut.py" 496]) #[]
def hob25 (i : Nat) (P : Params) : Obj :=
 bif Nat.beq i 203 then .mk (.type "function") (none) (.func (.mk "_law_ways" "_law_ways" (L2.Xd (htop 23)) (.stmts (L2.Xa (htop 23))) (L2.Qi (htop 23)) (3) ([]) (.none) (.none) (.none) (.str "law_nonebetter_k66_rows_of_books" 407) (none) (.ref 202) (.none) (0))) (#[]) else
 bif Nat.beq i 204 then .mk (.type "tuple") none (.seq #[]) #[] else
 bif Nat.beq i 206 then .mk (.type "tuple") none (.seq #[.str "_law_book_here" 501, .str "_law_found" 502, .str "_law_row" 503, .str "_law_way_here" 504, .str "_law_length" 505, .str "_law_cost_here" 506, .str "_law_begin" 507]) #[] else
 bif Nat.beq i 207 then .mk (.type "tuple") none (.seq #[]) #[] else
 .mk (.type "code") none (.fields #[.str "_law_choices" 498, .str "_law_choices" 499, .str "/claim/cut.py" 500, .int 195 0, .int 1 0, .int 0 0, .int 0 0, .int 3 0, .ref 204, .bool Bool.true, .int 181 0, .ref 205, .none, .ref 206, .ref 207, .ref 208, .int 508 0, .int 195 0, .str "/claim/cut.py" 509]) #[]
def hob26 (i : Nat) (P : Params) : Obj :=
 bif Nat.beq i 210 then .mk (.type "function") (none) (.func (.mk "_law_choices" "_law_choices" (L2.Xd (htop 24)) (.stmts (L2.Xa (htop 24))) (L2.Qi (htop 24)) (3) ([]) (.none) (.none) (.none) (.str "law_nonebetter_k66_rows_of_books" 407) (none) (.ref 209) (.none) (0))) (#[]) else
 bif Nat.beq i 218 then .mk (.type "tuple") none (.seq #[]) #[] else
 bif Nat.beq i 221 then .mk (.type "code") none (.fields #[.str "_law_end" 526, .str "_law_end" 527, .str "/claim/cut.py" 528, .int 216 0, .int 3 0, .int 0 0, .int 0 0, .int 3 0, .ref 218, .bool Bool.true, .int 181 0, .ref 219, .none, .none, .none, .ref 220, .int 529 0, .int 216 0, .str "/claim/cut.py" 530]) #[] else
 bif Nat.beq i 222 then .mk (.type "function") (none) (.func (.mk "_law_end" "_law_end" (L2.Xd (htop 26)) (.stmts (L2.Xa (htop 26))) (L2.Qi (htop 26)) (3) ([]) (.none) (.none) (.none) (.str "law_nonebetter_k66_rows_of_books" 407) (none) (.ref 221) (.none) (0))) (#[]) else
 .mk (.type "tuple") none (.seq #[]) #[]
def hob27 (i : Nat) (P : Params) : Obj :=
 bif Nat.beq i 226 then .mk (.type "code") none (.fields #[.str "_law_cost" 532, .str "_law_cost" 533, .str "/claim/cut.py" 534, .int 219 0, .int 2 0, .int 0 0, .int 0 0, .int 3 0, .ref 223, .bool Bool.true, .int 181 0, .ref 224, .none, .none, .none, .ref 225, .int 535 0, .int 219 0, .str "/claim/cut.py" 536]) #[] else
 bif Nat.beq i 227 then .mk (.type "function") (none) (.func (.mk "_law_cost" "_law_cost" (L2.Xd (htop 27)) (.stmts (L2.Xa (htop 27))) (L2.Qi (htop 27)) (3) ([]) (.none) (.none) (.none) (.str "law_nonebetter_k66_rows_of_books" 407) (none) (.ref 226) (.none) (0))) (#[]) else
 bif Nat.beq i 242 then .mk (.type "tuple") none (.seq #[]) #[] else
 bif Nat.beq i 245 then .mk (.type "code") none (.fields #[.str "_law_many" 566, .str "_law_many" 567, .str "/claim/cut.py" 568, .int 257 0, .int 4 0, .int 0 0, .int 0 0, .int 3 0, .ref 242, .bool Bool.true, .int 181 0, .ref 243, .none, .none, .none, .ref 244, .int 569 0, .int 257 0, .str "/claim/cut.py" 570]) #[] else
 .mk (.type "function") (none) (.func (.mk "_law_many" "_law_many" (L2.Xd (htop 30)) (.stmts (L2.Xa (htop 30))) (L2.Qi (htop 30)) (3) ([]) (.none) (.none) (.none) (.str "law_nonebetter_k66_rows_of_books" 407) (none) (.ref 245) (.none) (0))) (#[])
def hob28 (i : Nat) (P : Params) : Obj :=
 bif Nat.beq i 247 then .mk (.type "tuple") none (.seq #[]) #[] else
 bif Nat.beq i 249 then .mk (.type "tuple") none (.seq #[.str "_law_book_here" 575, .str "_law_choice" 576, .str "_law_store_here" 577, .str "_law_day" 578, .str "_law_end_here" 579, .str "_law_found" 580]) #[] else
 bif Nat.beq i 250 then .mk (.type "tuple") none (.seq #[]) #[] else
 bif Nat.beq i 252 then .mk (.type "code") none (.fields #[.str "_law_flow" 572, .str "_law_flow" 573, .str "/claim/cut.py" 574, .int 259 0, .int 4 0, .int 0 0, .int 0 0, .int 3 0, .ref 247, .bool Bool.true, .int 181 0, .ref 248, .none, .ref 249, .ref 250, .ref 251, .int 581 0, .int 259 0, .str "/claim/cut.py" 582]) #[] else
 .mk (.type "function") (none) (.func (.mk "_law_flow" "_law_flow" (L2.Xd (htop 31)) (.stmts (L2.Xa (htop 31))) (L2.Qi (htop 31)) (3) ([]) (.none) (.none) (.none) (.str "law_nonebetter_k66_rows_of_books" 407) (none) (.ref 252) (.none) (0))) (#[])
def hob29 (i : Nat) (P : Params) : Obj :=
 bif Nat.beq i 254 then .mk (.type "tuple") none (.seq #[]) #[] else
 bif Nat.beq i 256 then .mk (.type "tuple") none (.seq #[.str "_law_book_here" 587, .str "_law_bench_here" 588, .str "_law_room_here" 589, .str "_law_day" 590, .str "_law_row" 591]) #[] else
 bif Nat.beq i 257 then .mk (.type "tuple") none (.seq #[]) #[] else
 bif Nat.beq i 259 then .mk (.type "code") none (.fields #[.str "_law_room" 584, .str "_law_room" 585, .str "/claim/cut.py" 586, .int 267 0, .int 4 0, .int 0 0, .int 0 0, .int 3 0, .ref 254, .bool Bool.true, .int 181 0, .ref 255, .none, .ref 256, .ref 257, .ref 258, .int 592 0, .int 267 0, .str "/claim/cut.py" 593]) #[] else
 .mk (.type "function") (none) (.func (.mk "_law_room" "_law_room" (L2.Xd (htop 32)) (.stmts (L2.Xa (htop 32))) (L2.Qi (htop 32)) (3) ([]) (.none) (.none) (.none) (.str "law_nonebetter_k66_rows_of_books" 407) (none) (.ref 259) (.none) (0))) (#[])
def hob30 (i : Nat) (P : Params) : Obj :=
 bif Nat.beq i 261 then .mk (.type "tuple") none (.seq #[]) #[] else
 bif Nat.beq i 263 then .mk (.type "tuple") none (.seq #[.str "_law_book_here" 598, .str "_law_some" 599, .str "_law_row" 600, .str "_law_found" 601, .str "_law_day" 602, .str "_law_numbers" 603, .str "_law_choice" 604, .str "_law_end_here" 605, .str "_law_on" 606]) #[] else
 bif Nat.beq i 264 then .mk (.type "tuple") none (.seq #[]) #[] else
 bif Nat.beq i 266 then .mk (.type "code") none (.fields #[.str "_law_bench" 595, .str "_law_bench" 596, .str "/claim/cut.py" 597, .int 272 0, .int 3 0, .int 0 0, .int 0 0, .int 3 0, .ref 261, .bool Bool.true, .int 181 0, .ref 262, .none, .ref 263, .ref 264, .ref 265, .int 607 0, .int 272 0, .str "/claim/cut.py" 608]) #[] else
 .mk (.type "function") (none) (.func (.mk "_law_bench" "_law_bench" (L2.Xd (htop 33)) (.stmts (L2.Xa (htop 33))) (L2.Qi (htop 33)) (3) ([]) (.none) (.none) (.none) (.str "law_nonebetter_k66_rows_of_books" 407) (none) (.ref 266) (.none) (0))) (#[])
def hob31 (i : Nat) (P : Params) : Obj :=
 bif Nat.beq i 268 then .mk (.type "tuple") none (.seq #[]) #[] else
 bif Nat.beq i 271 then .mk (.type "code") none (.fields #[.str "_law_store" 610, .str "_law_store" 611, .str "/claim/cut.py" 612, .int 282 0, .int 3 0, .int 0 0, .int 0 0, .int 3 0, .ref 268, .bool Bool.true, .int 181 0, .ref 269, .none, .none, .none, .ref 270, .int 613 0, .int 282 0, .str "/claim/cut.py" 614]) #[] else
 bif Nat.beq i 272 then .mk (.type "function") (none) (.func (.mk "_law_store" "_law_store" (L2.Xd (htop 34)) (.stmts (L2.Xa (htop 34))) (L2.Qi (htop 34)) (3) ([]) (.none) (.none) (.none) (.str "law_nonebetter_k66_rows_of_books" 407) (none) (.ref 271) (.none) (0))) (#[]) else
 bif Nat.beq i 273 then .mk (.type "tuple") none (.seq #[]) #[] else
 .mk (.type "tuple") none (.seq #[.str "_law_book_here" 619, .str "_law_some" 620, .str "_law_row" 621, .str "_law_found" 622, .str "_law_day" 623, .str "_law_numbers" 624, .str "_law_choice" 625, .str "_law_end_here" 626, .str "_law_number" 627]) #[]
def hob32 (i : Nat) (P : Params) : Obj :=
 bif Nat.beq i 276 then .mk (.type "tuple") none (.seq #[]) #[] else
 bif Nat.beq i 278 then .mk (.type "code") none (.fields #[.str "_law_after" 616, .str "_law_after" 617, .str "/claim/cut.py" 618, .int 289 0, .int 3 0, .int 0 0, .int 0 0, .int 3 0, .ref 273, .bool Bool.true, .int 181 0, .ref 274, .none, .ref 275, .ref 276, .ref 277, .int 628 0, .int 289 0, .str "/claim/cut.py" 629]) #[] else
 bif Nat.beq i 279 then .mk (.type "function") (none) (.func (.mk "_law_after" "_law_after" (L2.Xd (htop 35)) (.stmts (L2.Xa (htop 35))) (L2.Qi (htop 35)) (3) ([]) (.none) (.none) (.none) (.str "law_nonebetter_k66_rows_of_books" 407) (none) (.ref 278) (.none) (0))) (#[]) else
 bif Nat.beq i 280 then .mk (.type "tuple") none (.seq #[]) #[] else
 .mk (.type "code") none (.fields #[.str "_law_due" 631, .str "_law_due" 632, .str "/claim/cut.py" 633, .int 299 0, .int 2 0, .int 0 0, .int 0 0, .int 3 0, .ref 280, .bool Bool.true, .int 181 0, .ref 281, .none, .none, .none, .ref 282, .int 634 0, .int 299 0, .str "/claim/cut.py" 635]) #[]
def hob33 (i : Nat) (P : Params) : Obj :=
 bif Nat.beq i 284 then .mk (.type "function") (none) (.func (.mk "_law_due" "_law_due" (L2.Xd (htop 36)) (.stmts (L2.Xa (htop 36))) (L2.Qi (htop 36)) (3) ([]) (.none) (.none) (.none) (.str "law_nonebetter_k66_rows_of_books" 407) (none) (.ref 283) (.none) (0))) (#[]) else
 bif Nat.beq i 285 then .mk (.type "tuple") none (.seq #[]) #[] else
 bif Nat.beq i 288 then .mk (.type "code") none (.fields #[.str "law" 637, .str "law" 638, .str "/claim/cut.py" 639, .int 316 0, .int 1 0, .int 0 0, .int 0 0, .int 3 0, .ref 285, .bool Bool.true, .int 181 0, .ref 286, .none, .none, .none, .ref 287, .int 640 0, .int 316 0, .str "/claim/cut.py" 641]) #[] else
 .mk (.type "function") (none) (.func (.mk "law" "law" (L2.Xd (htop 37)) (.stmts (L2.Xa (htop 37))) (L2.Qi (htop 37)) (3) ([]) (.none) (.none) (.none) (.str "law_nonebetter_k66_rows_of_books" 407) (none) (.ref 288) (.none) (0))) (#[])
def hob (i : Nat) (P : Params) : Obj := (bif Nat.ble i 143 then (bif Nat.ble i 75 then (bif Nat.ble i 47 then (bif Nat.ble i 25 then (bif Nat.ble i 18 then hob0 i P else hob1 i P) else (bif Nat.ble i 40 then hob2 i P else hob3 i P)) else (bif Nat.ble i 61 then (bif Nat.ble i 54 then hob4 i P else hob5 i P) else (bif Nat.ble i 68 then hob6 i P else hob7 i P))) else (bif Nat.ble i 103 then (bif Nat.ble i 89 then (bif Nat.ble i 82 then hob8 i P else hob9 i P) else (bif Nat.ble i 96 then hob10 i P else hob11 i P)) else (bif Nat.ble i 121 then (bif Nat.ble i 112 then hob12 i P else hob13 i P) else (bif Nat.ble i 128 then hob14 i P else (bif Nat.ble i 135 then hob15 i P else hob16 i P))))) else (bif Nat.ble i 202 then (bif Nat.ble i 172 then (bif Nat.ble i 158 then (bif Nat.ble i 151 then hob17 i P else hob18 i P) else (bif Nat.ble i 165 then hob19 i P else hob20 i P)) else (bif Nat.ble i 186 then (bif Nat.ble i 179 then hob21 i P else hob22 i P) else (bif Nat.ble i 194 then hob23 i P else hob24 i P))) else (bif Nat.ble i 253 then (bif Nat.ble i 223 then (bif Nat.ble i 209 then hob25 i P else hob26 i P) else (bif Nat.ble i 246 then hob27 i P else hob28 i P)) else (bif Nat.ble i 267 then (bif Nat.ble i 260 then hob29 i P else hob30 i P) else (bif Nat.ble i 275 then hob31 i P else (bif Nat.ble i 283 then hob32 i P else hob33 i P))))))
def heapK : Params → W.Frag := fun P => (nat_lit 2, hob (nat_lit 2) P) :: (nat_lit 3, hob (nat_lit 3) P) :: (nat_lit 15, hob (nat_lit 15) P) :: (nat_lit 17, hob (nat_lit 17) P) :: (nat_lit 18, hob (nat_lit 18) P) :: (nat_lit 20, hob (nat_lit 20) P) :: (nat_lit 21, hob (nat_lit 21) P) :: (nat_lit 22, hob (nat_lit 22) P) :: (nat_lit 23, hob (nat_lit 23) P) :: (nat_lit 25, hob (nat_lit 25) P) :: (nat_lit 26, hob (nat_lit 26) P) :: (nat_lit 28, hob (nat_lit 28) P) :: (nat_lit 29, hob (nat_lit 29) P) :: (nat_lit 37, hob (nat_lit 37) P) :: (nat_lit 40, hob (nat_lit 40) P) :: (nat_lit 41, hob (nat_lit 41) P) :: (nat_lit 42, hob (nat_lit 42) P) :: (nat_lit 44, hob (nat_lit 44) P) :: (nat_lit 45, hob (nat_lit 45) P) :: (nat_lit 47, hob (nat_lit 47) P) :: (nat_lit 48, hob (nat_lit 48) P) :: (nat_lit 49, hob (nat_lit 49) P) :: (nat_lit 51, hob (nat_lit 51) P) :: (nat_lit 52, hob (nat_lit 52) P) :: (nat_lit 54, hob (nat_lit 54) P) :: (nat_lit 55, hob (nat_lit 55) P) :: (nat_lit 56, hob (nat_lit 56) P) :: (nat_lit 59, hob (nat_lit 59) P) :: (nat_lit 60, hob (nat_lit 60) P) :: (nat_lit 61, hob (nat_lit 61) P) :: (nat_lit 63, hob (nat_lit 63) P) :: (nat_lit 64, hob (nat_lit 64) P) :: (nat_lit 66, hob (nat_lit 66) P) :: (nat_lit 67, hob (nat_lit 67) P) :: (nat_lit 68, hob (nat_lit 68) P) :: (nat_lit 70, hob (nat_lit 70) P) :: (nat_lit 71, hob (nat_lit 71) P) :: (nat_lit 73, hob (nat_lit 73) P) :: (nat_lit 74, hob (nat_lit 74) P) :: (nat_lit 75, hob (nat_lit 75) P) :: (nat_lit 77, hob (nat_lit 77) P) :: (nat_lit 78, hob (nat_lit 78) P) :: (nat_lit 80, hob (nat_lit 80) P) :: (nat_lit 81, hob (nat_lit 81) P) :: (nat_lit 82, hob (nat_lit 82) P) :: (nat_lit 84, hob (nat_lit 84) P) :: (nat_lit 85, hob (nat_lit 85) P) :: (nat_lit 87, hob (nat_lit 87) P) :: (nat_lit 88, hob (nat_lit 88) P) :: (nat_lit 89, hob (nat_lit 89) P) :: (nat_lit 91, hob (nat_lit 91) P) :: (nat_lit 92, hob (nat_lit 92) P) :: (nat_lit 94, hob (nat_lit 94) P) :: (nat_lit 95, hob (nat_lit 95) P) :: (nat_lit 96, hob (nat_lit 96) P) :: (nat_lit 99, hob (nat_lit 99) P) :: (nat_lit 100, hob (nat_lit 100) P) :: (nat_lit 101, hob (nat_lit 101) P) :: (nat_lit 102, hob (nat_lit 102) P) :: (nat_lit 103, hob (nat_lit 103) P) :: (nat_lit 104, hob (nat_lit 104) P) :: (nat_lit 105, hob (nat_lit 105) P) :: (nat_lit 108, hob (nat_lit 108) P) :: (nat_lit 111, hob (nat_lit 111) P) :: (nat_lit 112, hob (nat_lit 112) P) :: (nat_lit 113, hob (nat_lit 113) P) :: (nat_lit 116, hob (nat_lit 116) P) :: (nat_lit 117, hob (nat_lit 117) P) :: (nat_lit 118, hob (nat_lit 118) P) :: (nat_lit 121, hob (nat_lit 121) P) :: (nat_lit 122, hob (nat_lit 122) P) :: (nat_lit 123, hob (nat_lit 123) P) :: (nat_lit 126, hob (nat_lit 126) P) :: (nat_lit 127, hob (nat_lit 127) P) :: (nat_lit 128, hob (nat_lit 128) P) :: (nat_lit 130, hob (nat_lit 130) P) :: (nat_lit 131, hob (nat_lit 131) P) :: (nat_lit 133, hob (nat_lit 133) P) :: (nat_lit 134, hob (nat_lit 134) P) :: (nat_lit 135, hob (nat_lit 135) P) :: (nat_lit 138, hob (nat_lit 138) P) :: (nat_lit 139, hob (nat_lit 139) P) :: (nat_lit 140, hob (nat_lit 140) P) :: (nat_lit 142, hob (nat_lit 142) P) :: (nat_lit 143, hob (nat_lit 143) P) :: (nat_lit 145, hob (nat_lit 145) P) :: (nat_lit 146, hob (nat_lit 146) P) :: (nat_lit 147, hob (nat_lit 147) P) :: (nat_lit 150, hob (nat_lit 150) P) :: (nat_lit 151, hob (nat_lit 151) P) :: (nat_lit 152, hob (nat_lit 152) P) :: (nat_lit 154, hob (nat_lit 154) P) :: (nat_lit 155, hob (nat_lit 155) P) :: (nat_lit 157, hob (nat_lit 157) P) :: (nat_lit 158, hob (nat_lit 158) P) :: (nat_lit 159, hob (nat_lit 159) P) :: (nat_lit 161, hob (nat_lit 161) P) :: (nat_lit 162, hob (nat_lit 162) P) :: (nat_lit 164, hob (nat_lit 164) P) :: (nat_lit 165, hob (nat_lit 165) P) :: (nat_lit 166, hob (nat_lit 166) P) :: (nat_lit 168, hob (nat_lit 168) P) :: (nat_lit 169, hob (nat_lit 169) P) :: (nat_lit 171, hob (nat_lit 171) P) :: (nat_lit 172, hob (nat_lit 172) P) :: (nat_lit 173, hob (nat_lit 173) P) :: (nat_lit 175, hob (nat_lit 175) P) :: (nat_lit 176, hob (nat_lit 176) P) :: (nat_lit 178, hob (nat_lit 178) P) :: (nat_lit 179, hob (nat_lit 179) P) :: (nat_lit 180, hob (nat_lit 180) P) :: (nat_lit 182, hob (nat_lit 182) P) :: (nat_lit 183, hob (nat_lit 183) P) :: (nat_lit 185, hob (nat_lit 185) P) :: (nat_lit 186, hob (nat_lit 186) P) :: (nat_lit 187, hob (nat_lit 187) P) :: (nat_lit 190, hob (nat_lit 190) P) :: (nat_lit 191, hob (nat_lit 191) P) :: (nat_lit 192, hob (nat_lit 192) P) :: (nat_lit 194, hob (nat_lit 194) P) :: (nat_lit 195, hob (nat_lit 195) P) :: (nat_lit 197, hob (nat_lit 197) P) :: (nat_lit 198, hob (nat_lit 198) P) :: (nat_lit 199, hob (nat_lit 199) P) :: (nat_lit 202, hob (nat_lit 202) P) :: (nat_lit 203, hob (nat_lit 203) P) :: (nat_lit 204, hob (nat_lit 204) P) :: (nat_lit 206, hob (nat_lit 206) P) :: (nat_lit 207, hob (nat_lit 207) P) :: (nat_lit 209, hob (nat_lit 209) P) :: (nat_lit 210, hob (nat_lit 210) P) :: (nat_lit 218, hob (nat_lit 218) P) :: (nat_lit 221, hob (nat_lit 221) P) :: (nat_lit 222, hob (nat_lit 222) P) :: (nat_lit 223, hob (nat_lit 223) P) :: (nat_lit 226, hob (nat_lit 226) P) :: (nat_lit 227, hob (nat_lit 227) P) :: (nat_lit 242, hob (nat_lit 242) P) :: (nat_lit 245, hob (nat_lit 245) P) :: (nat_lit 246, hob (nat_lit 246) P) :: (nat_lit 247, hob (nat_lit 247) P) :: (nat_lit 249, hob (nat_lit 249) P) :: (nat_lit 250, hob (nat_lit 250) P) :: (nat_lit 252, hob (nat_lit 252) P) :: (nat_lit 253, hob (nat_lit 253) P) :: (nat_lit 254, hob (nat_lit 254) P) :: (nat_lit 256, hob (nat_lit 256) P) :: (nat_lit 257, hob (nat_lit 257) P) :: (nat_lit 259, hob (nat_lit 259) P) :: (nat_lit 260, hob (nat_lit 260) P) :: (nat_lit 261, hob (nat_lit 261) P) :: (nat_lit 263, hob (nat_lit 263) P) :: (nat_lit 264, hob (nat_lit 264) P) :: (nat_lit 266, hob (nat_lit 266) P) :: (nat_lit 267, hob (nat_lit 267) P) :: (nat_lit 268, hob (nat_lit 268) P) :: (nat_lit 271, hob (nat_lit 271) P) :: (nat_lit 272, hob (nat_lit 272) P) :: (nat_lit 273, hob (nat_lit 273) P) :: (nat_lit 275, hob (nat_lit 275) P) :: (nat_lit 276, hob (nat_lit 276) P) :: (nat_lit 278, hob (nat_lit 278) P) :: (nat_lit 279, hob (nat_lit 279) P) :: (nat_lit 280, hob (nat_lit 280) P) :: (nat_lit 283, hob (nat_lit 283) P) :: (nat_lit 284, hob (nat_lit 284) P) :: (nat_lit 285, hob (nat_lit 285) P) :: (nat_lit 288, hob (nat_lit 288) P) :: (nat_lit 289, hob (nat_lit 289) P) :: []
theorem all_ok {P : Program} {w : World} {K : Fg} {mg : Str → Option Value} {base : Heap} (M : Mg mg) {C aN fI fE fL fM fU fG fR fA fP : Addr} {fdI fdE fdL fdM fdU fdG fdR fdA fdP : FuncData} {fN : Str → Option Value} (T : FcTxt K mg C) (TN : Tab w K mg "NAMES" aN fN) (hN : Qaj fN) (mkI : Mk K C fI) (FI : Fun K "__init__" "Facts.__init__" Kg fI fdI) (bI : Binds K fdI ["self", "book"] []) (FE : Fun K "end_of" "Facts.end_of" Qbx fE fdE) (bE : Binds K fdE ["self", "choice"] []) (mE : Meth K C "end_of" fE) (FL : Fun K "last_begin" "Facts.last_begin" Vw fL fdL) (bL : Binds K fdL ["self", "work", "way"] []) (mL : Meth K C "last_begin" fL) (FM : Fun K "many" "Facts.many" Vx fM fdM) (bM : Binds K fdM ["self", "word", "choice", "name"] []) (mM : Meth K C "many" fM) (FU : Fun K "used_by" "Facts.used_by" Vy fU fdU) (bU : Binds K fdU ["self", "choice", "bench", "day"] []) (mU : Meth K C "used_by" fU) (FG : Fun K "gain_by" "Facts.gain_by" Vz fG fdG) (bG : Binds K fdG ["self", "choice", "store", "day"] []) (mG : Meth K C "gain_by" fG) (FR : Fun K "room_of" "Facts.room_of" Wa fR fdR) (bR : Binds K fdR ["self", "bench", "day"] []) (mR : Meth K C "room_of" fR) (FA : Fun K "all_choices" "Facts.all_choices" Wn fA fdA) (bA : Binds K fdA ["self"] []) (mA : Meth K C "all_choices" fA) (FP : Fun K "price_of" "Facts.price_of" Jy fP fdP) (bP : Binds K fdP ["self", "choice"] []) (mP : Meth K C "price_of" fP) (F1 : Fn K mg "_law_whole" Qdr) (F2 : Fn K mg "_law_mix" Qds) (F3 : Fn K mg "_law_draws" Kw) (F4 : Fn K mg "_law_name" Qae) (F5 : Fn K mg "_law_rooms" Kx) (F6 : Fn K mg "_law_way" Qdu) (F7 : Fn K mg "_law_book" Qai) (F8 : Fn K mg "said_by" Qjf) (F9 : Fn K mg "negated" Qdz) (F10 : Fn K mg "after_number" sAfN) (F11 : Fn K mg "work_rows" sWoR) (F12 : Fn K mg "room_rows" sRoR) (F13 : Fn K mg "store_rows" sStR) (F14 : Fn K mg "after_rows" sAfR) (F15 : Fn K mg "labelled" Qjs) (F16 : Fn K mg "problem_of" sPrb) (F17 : Fn K mg "_law_ways" sWys) (F18 : Fn K mg "_law_many" sMny) (F19 : Fn K mg "_law_room" sRm) (F20 : Fn K mg "_law_choices" sChs) (F21 : Fn K mg "_law_end" Qhr) (F22 : Fn K mg "_law_cost" Qcg) (F23 : Fn K mg "_law_flow" Qjx) (F24 : Fn K mg "_law_bench" sBen) (F25 : Fn K mg "_law_store" Qjy) (F26 : Fn K mg "_law_after" Qjz) (F27 : Fn K mg "_law_due" sDue) {f : Addr} {fd : FuncData} (F28 : Fun K "law" "law" sLaw f fd) : FnOk P w K mg base CX0 6 f fd ["_law_script"] (Qip K) := by
 have h_cl_whole := Qlw (P := P) (w := w) (base := base) F1 M
 have h_cl_mix := Qlx (P := P) (w := w) (base := base) F2 M
 have h_cl_draws := Qgu (P := P) (w := w) (base := base) F3 M h_cl_mix
 have h_cl_name := Qja (P := P) (w := w) (base := base) F4 M
 have h_cl_rooms := Qgv (P := P) (w := w) (base := base) F5 M
 have h_cl_way := Qma (P := P) (w := w) (base := base) F6 M h_cl_name
 have h_cl_book := Qjd (P := P) (w := w) (base := base) F7 M h_cl_name h_cl_rooms h_cl_way
 have h_c_said_by := okSaid (P := P) (w := w) (base := base) F8 M TN hN
 have h_c_negated := Qml (P := P) (w := w) (base := base) F9 M
 have h_c_after_number := okAfN (P := P) (w := w) (base := base) F10 M T (Qjl (P := P) (w := w) (base := base) FE T) bE mE
 have h_c_work_rows := okWoR (P := P) (w := w) (base := base) F11 M T h_c_negated
 have h_c_room_rows := okRoR (P := P) (w := w) (base := base) F12 M T (okFcU (P := P) (w := w) (base := base) FU T (Qjl (P := P) (w := w) (base := base) FE T) bE mE (okFcM (P := P) (w := w) (base := base) FM T) bM mM) bU mU (okFcR (P := P) (w := w) (base := base) FR M T) bR mR h_c_negated
 have h_c_store_rows := okStR (P := P) (w := w) (base := base) F13 M T (okFcG (P := P) (w := w) (base := base) FG T (Qjl (P := P) (w := w) (base := base) FE T) bE mE (okFcM (P := P) (w := w) (base := base) FM T) bM mM) bG mG h_c_negated
 have h_c_after_rows := okAfR (P := P) (w := w) (base := base) F14 M T h_c_after_number
 have h_c_labelled := okLabd (P := P) (w := w) (base := base) F15 M T mkI (okFcI (P := P) (w := w) (base := base) FI M T h_c_said_by) bI (okFcA (P := P) (w := w) (base := base) FA M T (okFcL (P := P) (w := w) (base := base) FL T) bL mL) bA mA h_c_work_rows h_c_room_rows h_c_store_rows h_c_after_rows
 have h_c_problem_of := okPrb (P := P) (w := w) (base := base) F16 M T mkI (okFcI (P := P) (w := w) (base := base) FI M T h_c_said_by) bI (okFcA (P := P) (w := w) (base := base) FA M T (okFcL (P := P) (w := w) (base := base) FL T) bL mL) bA mA (okFcP (P := P) (w := w) (base := base) FP M T (Qjl (P := P) (w := w) (base := base) FE T) bE mE) bP mP h_c_labelled
 have h_cl_ways := okWys (P := P) (w := w) (base := base) F17 M
 have h_cl_many := okMny (P := P) (w := w) (base := base) F18 M
 have h_cl_room := okRm (P := P) (w := w) (base := base) F19 M
 have h_cl_choices := okChs (P := P) (w := w) (base := base) F20 M h_cl_ways
 have h_cl_end := okLEnd (P := P) (w := w) (base := base) F21 M h_cl_ways
 have h_cl_cost := Qnh (P := P) (w := w) (base := base) F22 M h_cl_ways h_cl_end
 have h_cl_flow := okFlow (P := P) (w := w) (base := base) F23 M h_cl_end h_cl_many
 have h_cl_bench := okBen (P := P) (w := w) (base := base) F24 M h_cl_end h_cl_many h_cl_room
 have h_cl_store := okLSto (P := P) (w := w) (base := base) F25 M h_cl_flow
 have h_cl_after := okLAft (P := P) (w := w) (base := base) F26 M h_cl_end
 have h_cl_due := okDue (P := P) (w := w) (base := base) F27 M h_cl_bench h_cl_store h_cl_after
 have h_c_law := okLaw (P := P) (w := w) (base := base) F28 M h_cl_whole h_cl_draws h_cl_book h_cl_choices h_cl_due h_cl_cost h_c_labelled h_c_problem_of
 exact h_c_law
theorem walk {l : PySem.W.OpenLaw} {q : Program} {loose : List Str} {XP : (Str → Option Value) → Heap → Prop} {YP : World → Heap → Prop} {d : DefRec} {K : Params → Fg} (hn : l.most = some 63) (hdf : d.params.defaults = [])
  (hY : ∀ (w : World) (h : Heap), YP w h → (K w.params).In h)
  (F : ∀ (w : World) (mg : Str → Option Value) (fa : Addr) (h : Heap), (K w.params).In h → h.Ns mainGlobals mg → mg d.name = some (.ref fa) →
   ∃ fd : FuncData, (∀ (s : Shared) (u : Value), BindsTo s fd ⟨[u], []⟩ [("_law_script", u)]) ∧ ∀ base : Heap, (K w.params).In base → base.Ns mainGlobals mg → FnOk l.prog w (K w.params) mg base CX0 6 fa fd ["_law_script"] (Qip (K w.params))) :
  PySem.W.WalkO q loose XP YP l.row.toRowW d [] (fun f vs => PySem.call f vs) :=
 L2.Qfx (n := 63) (k := 6) (x := "_law_script") (CX := fun _ => CX0) (sp := fun w => Qip (K w.params)) hn (by decide) hdf ⟨rfl, by decide, by decide⟩ hY F (fun _ _ a ns hl hb hS => ⟨a, ns, rfl, hS, hl, fun _ => rfl⟩) fun _ _ _ _ _ z => z
end Nb
def Nb.pwv : PySem.Program := { PySem.Challenge.pw_nonebetter_k66_rows_of_books with main := { PySem.Challenge.pw_nonebetter_k66_rows_of_books.main with body := [Nb.htop 0, Nb.htop 1, Nb.htop 2, Nb.htop 3, Nb.htop 4, Nb.htop 5, Nb.htop 6, Nb.htop 7, Nb.htop 8, Nb.htop 9, Nb.htop 10, Nb.htop 11, Nb.htop 12, Nb.htop 13, Nb.htop 14, Nb.htop 15, Nb.htop 16, Nb.htop 17, Nb.htop 18, Nb.htop 19, Nb.htop 20, Nb.htop 21, Nb.htop 22, Nb.htop 23, Nb.htop 24, Nb.htop 25, Nb.htop 26, Nb.htop 27, Nb.htop 28, Nb.htop 29, Nb.htop 30, Nb.htop 31, Nb.htop 32, Nb.htop 33, Nb.htop 34, Nb.htop 35, Nb.htop 36, Nb.htop 37] } }
def PySem.W.Fast.tw1653918685017820470 : Nat → PySem.Params → PySem.Obj := Nb.hob
theorem PySem.W.Fast.te1653918685017820470 : Nb.hob = PySem.W.Fast.tw1653918685017820470 := rfl
def PySem.W.Fast.tw2312891945681547169 : PySem.Program := PySem.Challenge.pw_nonebetter_k66_rows_of_books
theorem PySem.W.Fast.te2312891945681547169 : PySem.Challenge.pw_nonebetter_k66_rows_of_books = PySem.W.Fast.tw2312891945681547169 := rfl
def PySem.W.Fast.tw9401860820342270615 : PySem.Program := Nb.pwv
theorem PySem.W.Fast.te9401860820342270615 : Nb.pwv = PySem.W.Fast.tw9401860820342270615 := rfl
def PySem.W.Fast.tw11570947652754012800 : Nat → PySem.Stmt := Nb.htop
theorem PySem.W.Fast.te11570947652754012800 : Nb.htop = PySem.W.Fast.tw11570947652754012800 := rfl
namespace PySem.W.Fast
def tw2749528236623661595 := 0
def tw8781128891717039284 := 0
def tw6493849933027718990 := 0
def tw8106072709964582090 := 0
def tw7095663133333624733 := 0
def tw5765680002483529469 := 0
def tw8538981723253247665 := 0
def tw9955890254209373003 := 0
def tw6980111630667642070 := 0
def tw3099171171259351352 := 0
def tw6784797819634769237 := 0
def tw4974919489217585056 := 0
def tw7956738707100047215 := 0
def tw11371022459106613778 := 0
def tw14832389893622926961 := 0
def tw7356824810248740191 := 0
def tw10508794635070253969 := 0
def tw9240001418165900530 := 0
def tw6724422550868649811 := 0
def tw11659739623613171669 := 0
def tw16319555562160974953 := 0
def tw15740322873398293457 := 0
def tw17948373235273363989 := 0
def tw9571377293557384829 := 0
def tw7416961981787950572 := 0
def tw18133617470650625401 := 0
def tw359234326680045485 := 0
def tw5180202289301639705 := 0
def tw5085136876387193670 := 0
def tw18115238760102558829 := 0
def tw7533014752267886146 := 0
def tw18427578297587356195 := 0
def tw4285663085120971717 := 0
def tw9857667682982846014 := 0
def tw4520477910121546625 := 0
def tw13310239431061819876 := 0
def tw17332073306665345918 := 0
def tw675032311235610583 := 0
def tw16848916961184357547 := 0
def tw16261392812887047105 := 0
def tw1204508464663377072 := 0
def tw16088685781139844715 := 0
def tw6736122574765902227 := 0
def tw3722027642316767263 := 0
def tw8596363666058205466 := 0
def tw2843611585294940758 := 0
def tw12172929863417951328 := 0
def tw12935280512835709283 := 0
def tw6128484748689509497 := 0
def tw13011849798246793700 := 0
def tw7549300056236826196 := 0
def tw876153998042999407 := 0
def tw3896300906685851405 := 0
def tw1599412792258237068 := 0
def tw15429836235698581480 := 0
def tw6110890494427477024 := 0
def tw5797781236695886620 := 0
def tw6115423198551619442 := 0
def tw8475882067322359494 := 0
def tw7826885182927659894 := 0
def tw10576340039480519332 := 0
def tw15866068072347544430 := 0
def tw15622707502551727304 := 0
def tw12473779800903548524 := 0
def tw15972457539822305273 := 0
def tw6735844326772034426 := 0
def tw14453291899424516792 := 0
def tw14291508710175255978 := 0
def tw13174443409577098235 := 0
def tw11806577707349324613 := 0
def tw6284610694633219937 := 0
def tw850895159129987632 := 0
def tw16312111521565898276 := 0
def tw15792285697368914528 := 0
def tw10433196025072387884 := 0
def tw8677538884964474711 := 0
def tw13185683230280853926 := 0
def tw3753551507682825981 := 0
def tw3841828751820224708 := 0
def tw17870284695192202705 := 0
def tw8282890347811927486 := 0
end PySem.W.Fast
open PySem PySem.W PyProof.Rows
set_option maxRecDepth 100000 in
set_option maxHeartbeats 0 in
theorem PySem.Challenge.cw_nonebetter_k66_rows_of_books_holds : PySem.Challenge.rw_nonebetter_k66_rows_of_books.Holds := by
 w_on; o_law; show PySem.W.OpenRow.Holds { PySem.Challenge.rw_nonebetter_k66_rows_of_books.row with prog := Nb.pwv }; o_head (PySem.W.kHook Nb.heapK (nat_lit 2 :: nat_lit 3 :: nat_lit 15 :: nat_lit 17 :: nat_lit 18 :: nat_lit 20 :: nat_lit 21 :: nat_lit 22 :: nat_lit 23 :: nat_lit 25 :: nat_lit 26 :: nat_lit 28 :: nat_lit 29 :: nat_lit 37 :: nat_lit 40 :: nat_lit 41 :: nat_lit 42 :: nat_lit 44 :: nat_lit 45 :: nat_lit 47 :: nat_lit 48 :: nat_lit 49 :: nat_lit 51 :: nat_lit 52 :: nat_lit 54 :: nat_lit 55 :: nat_lit 56 :: nat_lit 59 :: nat_lit 60 :: nat_lit 61 :: nat_lit 63 :: nat_lit 64 :: nat_lit 66 :: nat_lit 67 :: nat_lit 68 :: nat_lit 70 :: nat_lit 71 :: nat_lit 73 :: nat_lit 74 :: nat_lit 75 :: nat_lit 77 :: nat_lit 78 :: nat_lit 80 :: nat_lit 81 :: nat_lit 82 :: nat_lit 84 :: nat_lit 85 :: nat_lit 87 :: nat_lit 88 :: nat_lit 89 :: nat_lit 91 :: nat_lit 92 :: nat_lit 94 :: nat_lit 95 :: nat_lit 96 :: nat_lit 99 :: nat_lit 100 :: nat_lit 101 :: nat_lit 102 :: nat_lit 103 :: nat_lit 104 :: nat_lit 105 :: nat_lit 108 :: nat_lit 111 :: nat_lit 112 :: nat_lit 113 :: nat_lit 116 :: nat_lit 117 :: nat_lit 118 :: nat_lit 121 :: nat_lit 122 :: nat_lit 123 :: nat_lit 126 :: nat_lit 127 :: nat_lit 128 :: nat_lit 130 :: nat_lit 131 :: nat_lit 133 :: nat_lit 134 :: nat_lit 135 :: nat_lit 138 :: nat_lit 139 :: nat_lit 140 :: nat_lit 142 :: nat_lit 143 :: nat_lit 145 :: nat_lit 146 :: nat_lit 147 :: nat_lit 150 :: nat_lit 151 :: nat_lit 152 :: nat_lit 154 :: nat_lit 155 :: nat_lit 157 :: nat_lit 158 :: nat_lit 159 :: nat_lit 161 :: nat_lit 162 :: nat_lit 164 :: nat_lit 165 :: nat_lit 166 :: nat_lit 168 :: nat_lit 169 :: nat_lit 171 :: nat_lit 172 :: nat_lit 173 :: nat_lit 175 :: nat_lit 176 :: nat_lit 178 :: nat_lit 179 :: nat_lit 180 :: nat_lit 182 :: nat_lit 183 :: nat_lit 185 :: nat_lit 186 :: nat_lit 187 :: nat_lit 190 :: nat_lit 191 :: nat_lit 192 :: nat_lit 194 :: nat_lit 195 :: nat_lit 197 :: nat_lit 198 :: nat_lit 199 :: nat_lit 202 :: nat_lit 203 :: nat_lit 204 :: nat_lit 206 :: nat_lit 207 :: nat_lit 209 :: nat_lit 210 :: nat_lit 218 :: nat_lit 221 :: nat_lit 222 :: nat_lit 223 :: nat_lit 226 :: nat_lit 227 :: nat_lit 242 :: nat_lit 245 :: nat_lit 246 :: nat_lit 247 :: nat_lit 249 :: nat_lit 250 :: nat_lit 252 :: nat_lit 253 :: nat_lit 254 :: nat_lit 256 :: nat_lit 257 :: nat_lit 259 :: nat_lit 260 :: nat_lit 261 :: nat_lit 263 :: nat_lit 264 :: nat_lit 266 :: nat_lit 267 :: nat_lit 268 :: nat_lit 271 :: nat_lit 272 :: nat_lit 273 :: nat_lit 275 :: nat_lit 276 :: nat_lit 278 :: nat_lit 279 :: nat_lit 280 :: nat_lit 283 :: nat_lit 284 :: nat_lit 285 :: nat_lit 288 :: nat_lit 289 :: []) (fun _ => by kernel_rfl)); (case hw => w_witness2)
 k_fill
 refine Nb.walk (l := PySem.Challenge.rw_nonebetter_k66_rows_of_books) rfl rfl (fun w h Y => PySem.W.kIn_of Y) ?F
 case F =>
  intro w mg fa h KX G hmg
  have F1 : L2.Fn (L2.KOf KX) mg "_law_whole" Nb.Qdr := by
   dsimp only [L2.KOf]
   refine' L2.Yv KX G ?a ?l ?c ?k
   (case a => k_is); (case l => k_is); (case c => k_is); (case k => k_is)
  have F2 : L2.Fn (L2.KOf KX) mg "_law_mix" Nb.Qds := by
   dsimp only [L2.KOf]
   refine' L2.Yv KX G ?a ?l ?c ?k
   (case a => k_is); (case l => k_is); (case c => k_is); (case k => k_is)
  have F3 : L2.Fn (L2.KOf KX) mg "_law_draws" Nb.Kw := by
   dsimp only [L2.KOf]
   refine' L2.Yv KX G ?a ?l ?c ?k
   (case a => k_is); (case l => k_is); (case c => k_is); (case k => k_is)
  have F4 : L2.Fn (L2.KOf KX) mg "_law_name" Nb.Qae := by
   dsimp only [L2.KOf]
   refine' L2.Yv KX G ?a ?l ?c ?k
   (case a => k_is); (case l => k_is); (case c => k_is); (case k => k_is)
  have F5 : L2.Fn (L2.KOf KX) mg "_law_rooms" Nb.Kx := by
   dsimp only [L2.KOf]
   refine' L2.Yv KX G ?a ?l ?c ?k
   (case a => k_is); (case l => k_is); (case c => k_is); (case k => k_is)
  have F6 : L2.Fn (L2.KOf KX) mg "_law_way" Nb.Qdu := by
   dsimp only [L2.KOf]
   refine' L2.Yv KX G ?a ?l ?c ?k
   (case a => k_is); (case l => k_is); (case c => k_is); (case k => k_is)
  have F7 : L2.Fn (L2.KOf KX) mg "_law_book" Nb.Qai := by
   dsimp only [L2.KOf]
   refine' L2.Yv KX G ?a ?l ?c ?k
   (case a => k_is); (case l => k_is); (case c => k_is); (case k => k_is)
  have F8 : L2.Fn (L2.KOf KX) mg "said_by" Nb.Qjf := by
   dsimp only [L2.KOf]
   refine' L2.Yv KX G ?a ?l ?c ?k
   (case a => k_is); (case l => k_is); (case c => k_is); (case k => k_is)
  have F9 : L2.Fn (L2.KOf KX) mg "negated" Nb.Qdz := by
   dsimp only [L2.KOf]
   refine' L2.Yv KX G ?a ?l ?c ?k
   (case a => k_is); (case l => k_is); (case c => k_is); (case k => k_is)
  have F10 : L2.Fn (L2.KOf KX) mg "after_number" Nb.sAfN := by
   dsimp only [L2.KOf]
   refine' L2.Yv KX G ?a ?l ?c ?k
   (case a => k_is); (case l => k_is); (case c => k_is); (case k => k_is)
  have F11 : L2.Fn (L2.KOf KX) mg "work_rows" Nb.sWoR := by
   dsimp only [L2.KOf]
   refine' L2.Yv KX G ?a ?l ?c ?k
   (case a => k_is); (case l => k_is); (case c => k_is); (case k => k_is)
  have F12 : L2.Fn (L2.KOf KX) mg "room_rows" Nb.sRoR := by
   dsimp only [L2.KOf]
   refine' L2.Yv KX G ?a ?l ?c ?k
   (case a => k_is); (case l => k_is); (case c => k_is); (case k => k_is)
  have F13 : L2.Fn (L2.KOf KX) mg "store_rows" Nb.sStR := by
   dsimp only [L2.KOf]
   refine' L2.Yv KX G ?a ?l ?c ?k
   (case a => k_is); (case l => k_is); (case c => k_is); (case k => k_is)
  have F14 : L2.Fn (L2.KOf KX) mg "after_rows" Nb.sAfR := by
   dsimp only [L2.KOf]
   refine' L2.Yv KX G ?a ?l ?c ?k
   (case a => k_is); (case l => k_is); (case c => k_is); (case k => k_is)
  have F15 : L2.Fn (L2.KOf KX) mg "labelled" Nb.Qjs := by
   dsimp only [L2.KOf]
   refine' L2.Yv KX G ?a ?l ?c ?k
   (case a => k_is); (case l => k_is); (case c => k_is); (case k => k_is)
  have F16 : L2.Fn (L2.KOf KX) mg "problem_of" Nb.sPrb := by
   dsimp only [L2.KOf]
   refine' L2.Yv KX G ?a ?l ?c ?k
   (case a => k_is); (case l => k_is); (case c => k_is); (case k => k_is)
  have F17 : L2.Fn (L2.KOf KX) mg "_law_ways" Nb.sWys := by
   dsimp only [L2.KOf]
   refine' L2.Yv KX G ?a ?l ?c ?k
   (case a => k_is); (case l => k_is); (case c => k_is); (case k => k_is)
  have F18 : L2.Fn (L2.KOf KX) mg "_law_many" Nb.sMny := by
   dsimp only [L2.KOf]
   refine' L2.Yv KX G ?a ?l ?c ?k
   (case a => k_is); (case l => k_is); (case c => k_is); (case k => k_is)
  have F19 : L2.Fn (L2.KOf KX) mg "_law_room" Nb.sRm := by
   dsimp only [L2.KOf]
   refine' L2.Yv KX G ?a ?l ?c ?k
   (case a => k_is); (case l => k_is); (case c => k_is); (case k => k_is)
  have F20 : L2.Fn (L2.KOf KX) mg "_law_choices" Nb.sChs := by
   dsimp only [L2.KOf]
   refine' L2.Yv KX G ?a ?l ?c ?k
   (case a => k_is); (case l => k_is); (case c => k_is); (case k => k_is)
  have F21 : L2.Fn (L2.KOf KX) mg "_law_end" Nb.Qhr := by
   dsimp only [L2.KOf]
   refine' L2.Yv KX G ?a ?l ?c ?k
   (case a => k_is); (case l => k_is); (case c => k_is); (case k => k_is)
  have F22 : L2.Fn (L2.KOf KX) mg "_law_cost" Nb.Qcg := by
   dsimp only [L2.KOf]
   refine' L2.Yv KX G ?a ?l ?c ?k
   (case a => k_is); (case l => k_is); (case c => k_is); (case k => k_is)
  have F23 : L2.Fn (L2.KOf KX) mg "_law_flow" Nb.Qjx := by
   dsimp only [L2.KOf]
   refine' L2.Yv KX G ?a ?l ?c ?k
   (case a => k_is); (case l => k_is); (case c => k_is); (case k => k_is)
  have F24 : L2.Fn (L2.KOf KX) mg "_law_bench" Nb.sBen := by
   dsimp only [L2.KOf]
   refine' L2.Yv KX G ?a ?l ?c ?k
   (case a => k_is); (case l => k_is); (case c => k_is); (case k => k_is)
  have F25 : L2.Fn (L2.KOf KX) mg "_law_store" Nb.Qjy := by
   dsimp only [L2.KOf]
   refine' L2.Yv KX G ?a ?l ?c ?k
   (case a => k_is); (case l => k_is); (case c => k_is); (case k => k_is)
  have F26 : L2.Fn (L2.KOf KX) mg "_law_after" Nb.Qjz := by
   dsimp only [L2.KOf]
   refine' L2.Yv KX G ?a ?l ?c ?k
   (case a => k_is); (case l => k_is); (case c => k_is); (case k => k_is)
  have F27 : L2.Fn (L2.KOf KX) mg "_law_due" Nb.sDue := by
   dsimp only [L2.KOf]
   refine' L2.Yv KX G ?a ?l ?c ?k
   (case a => k_is); (case l => k_is); (case c => k_is); (case k => k_is)
  have F28 : L2.Fn (L2.KOf KX) mg "law" Nb.sLaw := by
   dsimp only [L2.KOf]
   refine' L2.Yv KX G ?a ?l ?c ?k
   (case a => k_is); (case l => k_is); (case c => k_is); (case k => k_is)
  have M : Nb.Mg mg := by
   refine' ⟨PySem.W.mg_none_of KX G ?m_len, PySem.W.mg_none_of KX G ?m_min, PySem.W.mg_none_of KX G ?m_max, PySem.W.mg_none_of KX G ?m_sum, PySem.W.mg_none_of KX G ?m_all, PySem.W.mg_none_of KX G ?m_any, PySem.W.mg_none_of KX G ?m_abs, PySem.W.mg_none_of KX G ?m_isinstance, PySem.W.mg_none_of KX G ?m_sorted, PySem.W.mg_none_of KX G ?m_range_, PySem.W.mg_none_of KX G ?m_zip_, PySem.W.mg_none_of KX G ?m_tuple_, PySem.W.mg_none_of KX G ?m_list_, PySem.W.mg_none_of KX G ?m_int_, PySem.W.mg_none_of KX G ?m_bool_, PySem.W.mg_none_of KX G ?m_dict_, PySem.W.mg_none_of KX G ?m_enumerate_, PySem.W.mg_none_of KX G ?m_reversed_, PySem.W.mg_none_of KX G ?m_ValueError_, PySem.W.mg_none_of KX G ?m_set_, PySem.W.mg_none_of KX G ?m_str_⟩
   (case m_len => k_is)
   (case m_min => k_is)
   (case m_max => k_is)
   (case m_sum => k_is)
   (case m_all => k_is)
   (case m_any => k_is)
   (case m_abs => k_is)
   (case m_isinstance => k_is)
   (case m_sorted => k_is)
   (case m_range_ => k_is)
   (case m_zip_ => k_is)
   (case m_tuple_ => k_is)
   (case m_list_ => k_is)
   (case m_int_ => k_is)
   (case m_bool_ => k_is)
   (case m_dict_ => k_is)
   (case m_enumerate_ => k_is)
   (case m_reversed_ => k_is)
   (case m_ValueError_ => k_is)
   (case m_set_ => k_is)
   (case m_str_ => k_is)
  have CL : ∃ (C fI fE fL fM fU fG fR fA fP : Addr) (fdI fdE fdL fdM fdU fdG fdR fdA fdP : FuncData), Nb.FcTxt (L2.KOf KX) mg C ∧ L2.Mk (L2.KOf KX) C fI ∧ L2.Fun (L2.KOf KX) "__init__" "Facts.__init__" Nb.Kg fI fdI ∧ L2.Fun (L2.KOf KX) "end_of" "Facts.end_of" Nb.Qbx fE fdE ∧ L2.Meth (L2.KOf KX) C "end_of" fE ∧ L2.Fun (L2.KOf KX) "last_begin" "Facts.last_begin" Nb.Vw fL fdL ∧ L2.Meth (L2.KOf KX) C "last_begin" fL ∧ L2.Fun (L2.KOf KX) "many" "Facts.many" Nb.Vx fM fdM ∧ L2.Meth (L2.KOf KX) C "many" fM ∧ L2.Fun (L2.KOf KX) "used_by" "Facts.used_by" Nb.Vy fU fdU ∧ L2.Meth (L2.KOf KX) C "used_by" fU ∧ L2.Fun (L2.KOf KX) "gain_by" "Facts.gain_by" Nb.Vz fG fdG ∧ L2.Meth (L2.KOf KX) C "gain_by" fG ∧ L2.Fun (L2.KOf KX) "room_of" "Facts.room_of" Nb.Wa fR fdR ∧ L2.Meth (L2.KOf KX) C "room_of" fR ∧ L2.Fun (L2.KOf KX) "all_choices" "Facts.all_choices" Nb.Wn fA fdA ∧ L2.Meth (L2.KOf KX) C "all_choices" fA ∧ L2.Fun (L2.KOf KX) "price_of" "Facts.price_of" Nb.Jy fP fdP ∧ L2.Meth (L2.KOf KX) C "price_of" fP := by
   dsimp only [L2.KOf]
   refine' ⟨_, _, _, _, _, _, _, _, _, _, _, _, _, _, _, _, _, _, _, ⟨⟨?pg, ?hd, ?po, ?sa⟩, ?n1, ?n2, ?n3, ?n4, ?n5, ?n6, ?n7, PySem.W.mg_of KX G ?aC⟩, ⟨?mk, ?a1, ?i1, ?kc⟩, L2.Jm (st := Nb.Kg) ?l1 ?c1 ?k1, L2.Jm (st := Nb.Qbx) ?l2 ?c2 ?k2, ⟨?a2, ?i2, ?m2⟩, L2.Jm (st := Nb.Vw) ?l3 ?c3 ?k3, ⟨?a3, ?i3, ?m3⟩, L2.Jm (st := Nb.Vx) ?l4 ?c4 ?k4, ⟨?a4, ?i4, ?m4⟩, L2.Jm (st := Nb.Vy) ?l5 ?c5 ?k5, ⟨?a5, ?i5, ?m5⟩, L2.Jm (st := Nb.Vz) ?l6 ?c6 ?k6, ⟨?a6, ?i6, ?m6⟩, L2.Jm (st := Nb.Wa) ?l7 ?c7 ?k7, ⟨?a7, ?i7, ?m7⟩, L2.Jm (st := Nb.Wn) ?l8 ?c8 ?k8, ⟨?a8, ?i8, ?m8⟩, L2.Jm (st := Nb.Jy) ?l9 ?c9 ?k9, ⟨?a9, ?i9, ?m9⟩⟩
   (case aC => k_is); (case a1 => k_is); (case i1 => k_is); (case l1 => k_is); (case c1 => k_is); (case k1 => k_is)
   (case a2 => k_is); (case i2 => k_is); (case l2 => k_is); (case c2 => k_is); (case k2 => k_is); (case m2 => k_is)
   (case a3 => k_is); (case i3 => k_is); (case l3 => k_is); (case c3 => k_is); (case k3 => k_is); (case m3 => k_is)
   (case a4 => k_is); (case i4 => k_is); (case l4 => k_is); (case c4 => k_is); (case k4 => k_is); (case m4 => k_is)
   (case a5 => k_is); (case i5 => k_is); (case l5 => k_is); (case c5 => k_is); (case k5 => k_is); (case m5 => k_is)
   (case a6 => k_is); (case i6 => k_is); (case l6 => k_is); (case c6 => k_is); (case k6 => k_is); (case m6 => k_is)
   (case a7 => k_is); (case i7 => k_is); (case l7 => k_is); (case c7 => k_is); (case k7 => k_is); (case m7 => k_is)
   (case a8 => k_is); (case i8 => k_is); (case l8 => k_is); (case c8 => k_is); (case k8 => k_is); (case m8 => k_is)
   (case a9 => k_is); (case i9 => k_is); (case l9 => k_is); (case c9 => k_is); (case k9 => k_is); (case m9 => k_is)
   (case pg => k_is); (case hd => k_is); (case po => k_is); (case sa => k_is); (case mk => k_is); (case kc => k_is)
   (case n1 => unfold L2.NoAttr; k_is); (case n2 => unfold L2.NoAttr; k_is); (case n3 => unfold L2.NoAttr; k_is); (case n4 => unfold L2.NoAttr; k_is); (case n5 => unfold L2.NoAttr; k_is); (case n6 => unfold L2.NoAttr; k_is); (case n7 => unfold L2.NoAttr; k_is)
  obtain ⟨C, fI, fE, fL, fM, fU, fG, fR, fA, fP, fdI, fdE, fdL, fdM, fdU, fdG, fdR, fdA, fdP, T, mkI, FI, FE, mE, FL, mL, FM, mM, FU, mU, FG, mG, FR, mR, FA, mA, FP, mP⟩ := CL
  have TNN : ∃ aN fN, L2.Tab w (L2.KOf KX) mg "NAMES" aN fN ∧ Nb.Qaj fN := by
   dsimp only [L2.KOf]
   refine' ⟨_, Nb.Qhz (PySem.W.mg_of KX G ?b1) ?l1 ?k1 ?o1 ?e1⟩
   (case b1 => k_is); (case l1 => k_is); (case k1 => k_keys); (case o1 => decide); (case e1 => exact rfl)
  obtain ⟨aN, fN, TN, hN⟩ := TNN
  have bI := FI.binds (ps := ["self", "book"]) fun _ _ _ _ _ _ us hl => match us, hl with | [_, _], _ => rfl
  have bE := FE.binds (ps := ["self", "choice"]) fun _ _ _ _ _ _ us hl => match us, hl with | [_, _], _ => rfl
  have bL := FL.binds (ps := ["self", "work", "way"]) fun _ _ _ _ _ _ us hl => match us, hl with | [_, _, _], _ => rfl
  have bM := FM.binds (ps := ["self", "word", "choice", "name"]) fun _ _ _ _ _ _ us hl => match us, hl with | [_, _, _, _], _ => rfl
  have bU := FU.binds (ps := ["self", "choice", "bench", "day"]) fun _ _ _ _ _ _ us hl => match us, hl with | [_, _, _, _], _ => rfl
  have bG := FG.binds (ps := ["self", "choice", "store", "day"]) fun _ _ _ _ _ _ us hl => match us, hl with | [_, _, _, _], _ => rfl
  have bR := FR.binds (ps := ["self", "bench", "day"]) fun _ _ _ _ _ _ us hl => match us, hl with | [_, _, _], _ => rfl
  have bA := FA.binds (ps := ["self"]) fun _ _ _ _ _ _ us hl => match us, hl with | [_], _ => rfl
  have bP := FP.binds (ps := ["self", "choice"]) fun _ _ _ _ _ _ us hl => match us, hl with | [_, _], _ => rfl
  obtain ⟨f, fd, FF, hm⟩ := F28
  have e0 := hmg.symm.trans hm
  cases e0
  refine' ⟨fd, ?b, fun base kb nb => Nb.all_ok M T TN hN mkI FI bI FE bE mE FL bL mL FM bM mM FU bU mU FG bG mG FR bR mR FA bA mA FP bP mP F1 F2 F3 F4 F5 F6 F7 F8 F9 F10 F11 F12 F13 F14 F15 F16 F17 F18 F19 F20 F21 F22 F23 F24 F25 F26 F27 FF⟩
  obtain ⟨oc, od, kV, doc, pm, an, cdv, ct, osl, rfl, lk, hcd⟩ := FF.ex
  exact fun s u => .of_eq rfl

