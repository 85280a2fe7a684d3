import PyProof.Rows.All
import Wide.All
import OpenK.AllK
import Wide.FinOn
import Lean
import PyProof.EqAt
import PyProof.EqKinds
import PyProof.TupleCall
import KE.KDictOf
import KE.KRevIter
import KE.KEqDict
import KE.KMinKey
import KE.KTryDeep
import KE.KIsAll
import KE.KSortTup
import OpenK.KTop
import PyProof.FString5
import KE.KIntText
import KE.KPairComp
import PyProof.NeKinds
import KE.KDictSum
import PyProof.Rows.SortStr
import PyProof.Rows.SortShellK
import KE.KDictList
import PyProof.StrLawsNeg
import PyProof.StrLawsTight
import PySem.Challenge.RW_nonebetter_k50_books_looked_at
noncomputable section
abbrev Fg := PySem.W.Frag
section
open PySem PySem.Spec PySem.W PyProof.Rows
abbrev jQ := @List.mem_singleton
abbrev jX := @wpAny_bind
abbrev jY := @List.mem_cons_self
abbrev jZ := @List.mem_cons
abbrev jJ := @List.size_toArray
abbrev jK := @Heap.get?_push_of_some
abbrev jV := @List.length_append
abbrev jW := @List.length_map
abbrev kQ := @List.mem_append
abbrev kX := @List.mem_cons_of_mem
abbrev kY := @List.getElem?_eq_some_iff
abbrev kZ := @List.mem_append_right
abbrev kJ := @Heap.lt_size
abbrev kK := @Nat.le_refl
abbrev kW := @wpAny_pure
abbrev yQ := @Bool.false_ne_true
abbrev yX := @List.mem_of_getElem?
abbrev yY := @of_decide_eq_true
abbrev yZ := @List.length_cons
abbrev yJ := @List.mem_append_left
abbrev yK := @decide_eq_true
abbrev yV := @Heap.get?_push_size
abbrev yW := @Nat.lt_of_lt_of_le
abbrev zQ := @Nat.ne_of_lt
abbrev zX := @Nat.add_le_add_left
abbrev zY := @Bool.and_eq_true
abbrev zZ := @List.length_take
abbrev zJ := @Int.emod_lt_of_pos
abbrev zK := @List.getElem?_map
abbrev zV := @Nat.lt_of_le_of_lt
abbrev zW := @decide_eq_false
abbrev xQ := @List.map_cons
abbrev xX := @Nat.min_eq_left
abbrev xY := @Int.emod_nonneg
abbrev xZ := @List.mem_map
abbrev xJ := @List.lookup_cons
abbrev xK := @List.all_eq_true
abbrev xV := @List.mem_nil_iff
abbrev xW := @Nat.le_trans
abbrev wQ := @Nat.zero_le
abbrev wX := @List.isEmpty_map
abbrev wY := @List.getElem?_append_left
abbrev wZ := @Array.length_toList
abbrev wJ := @List.mem_iff_getElem?
abbrev wK := @List.pairwise_append
abbrev wV := @List.take_length
abbrev wW := @List.getD_eq_getElem?_getD
abbrev jQa := @List.getElem_mem
abbrev jQb := @List.length_eq_zero_iff
abbrev jQc := @List.append_assoc
abbrev jQd := @Heap.get?_update_other
abbrev jQe := @Option.map_eq_some_iff
abbrev jQf := @Nat.lt_irrefl
abbrev jXa := @List.length_drop
abbrev jXb := @List.isEmpty_iff
abbrev jXc := @List.mem_filterMap
abbrev jXd := @Bool.eq_iff_iff
abbrev jXe := @List.map_append
abbrev jXf := @Bool.not_eq_true'
abbrev jYa := @Bool.eq_false_iff
abbrev jYb := @List.mem_of_mem_take
abbrev jYc := @List.getElem?_take_of_lt
abbrev jYd := @List.mem_map_of_mem
abbrev jYe := @List.pairwise_singleton
abbrev jYf := @List.eq_nil_of_length_eq_zero
abbrev jZa := @List.getElem?_set_self
abbrev jZb := @List.take_of_length_le
abbrev jZc := @List.append_nil
abbrev jZd := @List.find?_cons
abbrev jZe := @Bool.true_and
abbrev jZf := @Heap.get?_update_self
abbrev jJa := @Heap.size_push
abbrev jJb := @Array.getElem?_eq_some_iff
abbrev jJc := @List.length_pos_iff
abbrev jJd := @Option.isSome_iff_exists
abbrev jJe := @List.pairwise_cons
abbrev jJf := @List.contains_cons
abbrev jKa := @List.map_id
abbrev jKb := @Nat.ne_of_gt
abbrev jKc := @Bool.false_and
abbrev jKd := @List.getElem?_eq_none
abbrev jKe := @List.take_append_drop
abbrev jKf := @Nat.le_of_ble_eq_true
abbrev kQa := @Nat.le_add_right
abbrev kQb := @List.map_take
abbrev kQc := @List.mem_filter
abbrev kQd := @List.length_set
abbrev kQe := @List.map_map
abbrev kQf := @List.mem_range
abbrev kXa := @List.getElem?_append_right
abbrev kXb := @List.getElem?_eq_none_iff
abbrev kXc := @List.mem_or_eq_of_mem_set
abbrev kXd := @Int.toNat_natCast
abbrev kXe := @List.any_cons
abbrev kXf := @List.cons_ne_nil
abbrev kYa := @List.filter_eq_nil_iff
abbrev kYb := @List.nodup_cons
abbrev kYc := @Bool.or_eq_true
abbrev kYd := @Option.map_some
abbrev kYe := @Nat.not_lt_zero
abbrev kYf := @List.take_left'
abbrev kZa := @List.filter_map
abbrev kZb := @Array.getElem?_setIfInBounds_self_of_lt
abbrev kZc := @Heap.get?_none_of_le
abbrev kZd := @List.getElem?_set_ne
abbrev kZe := @List.take_zero
abbrev kZf := @List.filterMap_cons
end
abbrev gE := @List.getElem?_eq_getElem
set_option Elab.async false
set_option linter.all false
set_option maxRecDepth 100000
set_option maxHeartbeats 4000000
set_option bootstrap.genMatcherCode false
set_option genSizeOfSpec false
set_option compiler.extract_closed false
namespace L2
theorem aRfl (h : True := by rfl) : True := h
theorem aDec (h : True := by decide) : True := h
theorem aFst (h : True := by first | exact .inl rfl | exact .inr rfl | assumption) : True := h
theorem aIrf (h : True := by intro _; rfl) : True := h
end L2
namespace L2
open PySem PySem.Spec PyProof.Rows
abbrev Key := Sum Int Str
def Qfw : Key → Value → Bool
 | .inl k, v => Value.isInt k v
 | .inr x, v => Value.isStrOf x v
def keyH (w : World) : Key → Int
 | .inl k => hashInt k
 | .inr x => hashStr w x
theorem Xs : ∀ {k : Key} {v : Value}, Qfw k v = true → (∃ i t, k = Sum.inl i ∧ v = Value.int i t) ∨ (∃ x t, k = Sum.inr x ∧ v = Value.str x t)
 | .inl i, v, h => by
  obtain ⟨t, e⟩ := Value.isInt_shape (k := i) (v := v) h
  exact .inl ⟨i, t, rfl, e⟩
 | .inr x, v, h => by
  obtain ⟨t, e⟩ := Value.isStrOf_shape (x := x) (v := v) h
  exact .inr ⟨x, t, rfl, e⟩
theorem Qhf (i : Int) (t : Tok) : Qfw (.inl i) (.int i t) = true := by simp [Qfw, Value.isInt]
theorem Qhg (x : Str) (t : Tok) : Qfw (.inr x) (.str x t) = true := by simp [Qfw, Value.isStrOf]
theorem key_ll (a b : Int) : decide ((Sum.inl a : Key) = Sum.inl b) = (a == b) := by
 by_cases e : a = b
 ·subst e; simp
 ·have h : ¬ (Sum.inl a : Key) = Sum.inl b := fun q => e (Sum.inl.inj q)
  rw [zW h]
  exact (beq_eq_false_iff_ne.mpr e).symm
theorem key_rr (a b : Str) : decide ((Sum.inr a : Key) = Sum.inr b) = decide (a = b) := by
 by_cases e : a = b
 ·subst e; simp
 ·have h : ¬ (Sum.inr a : Key) = Sum.inr b := fun q => e (Sum.inr.inj q)
  rw [zW h, zW e]
theorem key_lr (a : Int) (b : Str) : decide ((Sum.inl a : Key) = Sum.inr b) = false := zW (fun q => nomatch q)
theorem key_rl (a : Str) (b : Int) : decide ((Sum.inr a : Key) = Sum.inl b) = false := zW (fun q => nomatch q)
def Yk (prog : Program) (w : World) : PySem.KeyKind prog w Key where
 is := Qfw
 hash := keyH w
 inj := fun v a b ha hb => by
  rcases Xs ha with ⟨i, t, rfl, rfl⟩ | ⟨x, t, rfl, rfl⟩
  ·rcases Xs hb with ⟨j, u, rfl, e⟩ | ⟨y, u, rfl, e⟩
   ·injection e with e1 _; rw [e1]
   ·exact nomatch e
  ·rcases Xs hb with ⟨j, u, rfl, e⟩ | ⟨y, u, rfl, e⟩
   ·exact nomatch e
   ·injection e with e1 _; rw [e1]
 byValue := fun k v h => by
  rcases Xs h with ⟨i, t, rfl, rfl⟩ | ⟨x, t, rfl, rfl⟩ <;> rfl
 pyHash := fun hv h => by
  rcases Xs hv with ⟨i, t, rfl, rfl⟩ | ⟨x, t, rfl, rfl⟩
  ·exact wpAny_pyHash_int h
  ·exact wpAny_pyHash_str h
 eqBool := fun hu hv h => by
  rcases Xs hu with ⟨i, t, rfl, rfl⟩ | ⟨x, t, rfl, rfl⟩
  ·rcases Xs hv with ⟨j, u, rfl, rfl⟩ | ⟨y, u, rfl, rfl⟩
   ·rw [key_ll] at h; exact wpAny_eqBool_int h
   ·rw [key_lr] at h; exact SeqAt.EqAt.int_str i t y u _ _ _ _ h
  ·rcases Xs hv with ⟨j, u, rfl, rfl⟩ | ⟨y, u, rfl, rfl⟩
   ·rw [key_rl] at h; exact SeqAt.EqAt.str_int x t j u _ _ _ _ h
   ·rw [key_rr] at h; exact wpAny_eqBool_str h
 «strs» := fun k x t v h => by
  rcases Xs h with ⟨i, u, rfl, e⟩ | ⟨y, u, rfl, e⟩
  ·exact nomatch e
  ·injection e with e1 _
   subst e1
   cases v <;> rfl
theorem Qdd (prog : Program) (w : World) (i : Int) (t : Tok) : (Yk prog w).is (.inl i) (.int i t) = true := Qhf i t
theorem Qde (prog : Program) (w : World) (x : Str) (t : Tok) : (Yk prog w).is (.inr x) (.str x t) = true := Qhg x t
inductive V where
 | non | bl (b : Bool) | int (i : Int) | str (x : Str) | byt (b : Array UInt8) | flt (b : UInt64) | ref (a : Addr) | ty (n : String)
 deriving DecidableEq
def RelV : V → Value → Prop
 | .non, u => u = Value.none
 | .bl b, u => u = Value.bool b
 | .int i, u => ∃ t, u = Value.int i t
 | .str x, u => ∃ t, u = Value.str x t
 | .byt b, u => ∃ t, u = Value.bytes b t
 | .flt b, u => ∃ t, u = Value.float b t
 | .ref a, u => u = Value.ref a
 | .ty n, u => u = Value.type n
abbrev Vals : List V → List Value → Prop := Paired RelV
theorem Vals.length {xs : List V} {us : List Value} (r : Vals xs us) : xs.length = us.length := Paired.length r
theorem Vals.get : ∀ {xs : List V} {us : List Value} {i : Nat} {x : V}, Vals xs us → xs[i]? = some x → ∃ u, us[i]? = some u ∧ RelV x u
 | _, _, _, _, .nil, e => by simp at e
 | _, _, 0, _, .cons r _, e => by simp at e; subst e; exact ⟨_, rfl, r⟩
 | _, _, i + 1, x, .cons _ t, e => by
  obtain ⟨u, h1, h2⟩ := Vals.get (i := i) (x := x) t (by simpa using e)
  exact ⟨u, by simpa using h1, h2⟩
theorem Vals.set {x : V} {u : Value} (r : RelV x u) : ∀ {xs : List V} {us : List Value} (i : Nat), Vals xs us → Vals (xs.set i x) (us.set i u)
 | _, _, _, .nil => .nil
 | _, _, 0, .cons _ t => .cons r t
 | _, _, i + 1, .cons q t => .cons q (Vals.set r i t)
theorem Vals.append {xs ys : List V} {us ws : List Value} (h : Vals xs us) (g : Vals ys ws) : Vals (xs ++ ys) (us ++ ws) := by
 induction h with
 | nil => exact g
 | cons r t ih => exact .cons r ih
theorem Vals.take : ∀ {xs : List V} {us : List Value} (n : Nat), Vals xs us → Vals (xs.take n) (us.take n)
 | _, _, 0, _ => .nil
 | _, _, _ + 1, .nil => .nil
 | _, _, n + 1, .cons r t => .cons r (Vals.take n t)
theorem Vals.drop : ∀ {xs : List V} {us : List Value} (n : Nat), Vals xs us → Vals (xs.drop n) (us.drop n)
 | _, _, 0, r => r
 | _, _, _ + 1, .nil => .nil
 | _, _, n + 1, .cons _ t => Vals.drop n t
def RelO : Option V → Option Value → Prop
 | some v, some u => RelV v u
 | none, none => True
 | _, _ => False
def KV {κ : Type} : List (κ × V) → List (κ × Value) → Prop := Paired fun (p : κ × V) (q : κ × Value) => p.1 = q.1 ∧ RelV p.2 q.2
def kV : Key → V
 | .inl i => .int i
 | .inr x => .str x
inductive HO where
 /-- a list -/
 | lst (xs : List V)
 /-- a tuple (never changes) -/
 | tup (xs : List V)
 /-- a dict whose keys are ints and texts; one whose keys are tuples of ints and texts (the empty one is both) -/
 | dK (kvs : List (Key × V)) | dT (kvs : List (List Key × V))
 /-- a set of ints: its members, its size -/
 | set (S : Int → Bool) (n : Nat)
 /-- an instance of the class at C, its dict at dx, its attributes -/
 | ins (C dx : Addr) (fs : List (Str × V))
 /-- the dict of the instance at x -/
 | own (x : Addr)
 /-- the dict of an exception -/
 | xd (fs : List (Str × V))
 /-- a bound method, f of x -/
 | met (f x : Addr)
 /-- a range object lo, lo + 1, .. below hi -/
 | rng (lo hi : Int)
 /-- a thing that is known to the object (the script; a dict while a loop walks it): read, never written while it is so -/
 | frz (o : Obj) (u : HO)
 /-- a code object's table -/
 | tbl (ps : Array Value)
 /-- any other thing, by what is true of its one object (a def of one's own: SetO a S n := HO.ext fun h => ..) -/
 | ext (φ : Heap → Prop)
abbrev Hp := Addr → Option HO
def upd (H : Hp) (a : Addr) (o : HO) : Hp := fun b => if b = a then some o else H b
theorem Qe {H : Hp} {a : Addr} {o : HO} : upd H a o a = some o := by unfold upd; rw [if_pos rfl]
theorem Qq {H : Hp} {a b : Addr} {o : HO} (h : b ≠ a) : upd H a o b = H b := by unfold upd; rw [if_neg h]
theorem Qnx {H : Hp} {a : Addr} {o u : HO} : upd (upd H a o) a u = upd H a u := by
 funext b; unfold upd; split <;> rfl
theorem Qky {H : Hp} {a b : Addr} {o u : HO} (h : H a = some o) (h' : H b = some u) (d : o ≠ u) : a ≠ b := by
 intro e; subst e; rw [h] at h'; exact d (Option.some.inj h')
theorem Qr {H : Hp} {a b : Addr} {o : HO} (h : H a = some o) (h' : H b = none) : a ≠ b := by
 intro e; subst e; rw [h] at h'; cases h'
section
variable (P : Program) (w : World)
def ObjOk (H : Hp) (h : Heap) (a : Addr) : HO → Prop
 | .lst xs => xs.length ≤ sizeLine ∧ ∃ (its : List Value) (n : Nat), Vals xs its ∧ h.get? a = some { cls := .type "list", data := .seq its.toArray n }
 | .tup xs => xs.length ≤ sizeLine ∧ ∃ its : List Value, Vals xs its ∧ IsTup h a its.toArray
 | .dK kvs => kvs.length ≤ sizeLine ∧ (a == sysModules) = false ∧ ∃ vs, KV kvs vs ∧ h.DictOf (Yk P w) a vs
 | .dT kvs => kvs.length ≤ sizeLine ∧ (a == sysModules) = false ∧ ∃ xs : List (List Key × Addr × Value),
   Paired (fun (p : List Key × V) (q : List Key × Addr × Value) => p.1 = q.1 ∧ H q.2.1 = some (.tup (p.1.map kV)) ∧ RelV p.2 q.2.2) kvs xs ∧
   ∃ o es ep, h.get? a = some o ∧ o.ExactDict ∧ o.data = .dict es ep ∧ es.toList = xs.map (entryOfKey (tupleKind (Yk P w))) ∧ (xs.map (·.1)).Nodup
 | .set S n => h.SetOf (intKind P w) a S n
 | .ins C dx fs => H dx = some (.own a) ∧ fs.length ≤ 1000 ∧ dx ≠ a ∧ h.get? a = some (PySem.W.instObj C dx) ∧
   ∃ mA, h.Ns1 dx mA ∧ (∀ f, RelO (fs.lookup f) (mA f)) ∧ PySem.Within mA (fs.map (·.1))
 | .own _ => ∃ o, h.get? a = some o
 | .xd fs => ∃ mA, h.Ns1 a mA ∧ ∀ f, RelO (fs.lookup f) (mA f)
 | .rng lo hi => ∃ t u v, h.get? a = some { cls := .type "range", data := .fields #[.int lo t, .int hi u, .int 1 v] }
 | .frz o u => h.get? a = some o ∧ ObjOk H h a u
 | .tbl ps => h.get? a = some { cls := .none, data := .fields ps }
 | .met f x => h.get? a = some (PySem.W.methodObj (.ref f) (.ref x))
 | .ext φ => φ h ∧ (∃ o, h.get? a = some o) ∧ ∀ h1 h2 : Heap, φ h1 → (∀ o, h1.get? a = some o → h2.get? a = some o) → φ h2
def HOk (H : Hp) (h : Heap) : Prop := ∀ a o, H a = some o → ObjOk P w H h a o
end
section
variable {P : Program} {w : World} {H H' : Hp} {h h' : Heap} {a : Addr} {o : HO}
theorem ObjOk.lt (x : ObjOk P w H h a o) : a < h.objs.size := by
 cases o with
 | lst xs => obtain ⟨_, _, _, _, e⟩ := x; exact kJ e
 | tup xs => obtain ⟨_, _, _, p⟩ := x; exact p.lt
 | dK kvs => obtain ⟨_, _, _, _, o, _, _, e, _⟩ := x; exact kJ e
 | dT kvs => obtain ⟨_, _, _, _, o, _, _, e, _⟩ := x; exact kJ e
 | set S n => obtain ⟨o, _, _, _, e, _⟩ := x; exact kJ e
 | ins C dx fs => obtain ⟨_, _, _, e, _⟩ := x; exact kJ e
 | own y => obtain ⟨_, e⟩ := x; exact kJ e
 | xd fs => obtain ⟨_, ⟨_, _, _, e, _⟩, _⟩ := x; exact kJ e
 | rng lo hi => obtain ⟨_, _, _, e⟩ := x; exact kJ e
 | frz ob u => obtain ⟨e, _⟩ := x; exact kJ e
 | tbl ps => exact kJ (show h.get? a = some _ from x)
 | met f y => exact kJ (show h.get? a = some _ from x)
 | ext φ => obtain ⟨_, ⟨_, e⟩, _⟩ := x; exact kJ e
theorem Paired.mapP {α β : Type} {F G : α → β → Prop} {l₁ : List α} {l₂ : List β} (h : Paired F l₁ l₂) (f : ∀ a b, F a b → G a b) : Paired G l₁ l₂ := by
 induction h with
 | nil => exact .nil
 | cons r t ih => exact .cons (f _ _ r) ih
theorem ObjOk.stay (x : ObjOk P w H h a o) (k : ∀ b u, (b = a ∨ H b = some (.own a)) → h.get? b = some u → h'.get? b = some u)
  (ho : ∀ b, H b = some (.own a) → H' b = some (.own a)) (ht : ∀ b xs, H b = some (.tup xs) → H' b = some (.tup xs)) : ObjOk P w H' h' a o := by
 induction o with
 | lst xs => obtain ⟨z, its, n, r, e⟩ := x; exact ⟨z, its, n, r, k _ _ (.inl rfl) e⟩
 | tup xs => obtain ⟨z, its, r, ob, e, c⟩ := x; exact ⟨z, its, r, ob, k _ _ (.inl rfl) e, c⟩
 | dK kvs => obtain ⟨z, y, vs, r, ob, es, ep, e, c⟩ := x; exact ⟨z, y, vs, r, ob, es, ep, k _ _ (.inl rfl) e, c⟩
 | dT kvs =>
  obtain ⟨z, y, xs, r, ob, es, ep, e, c⟩ := x
  exact ⟨z, y, xs, Paired.mapP r fun p q z => ⟨z.1, ht _ _ z.2.1, z.2.2⟩, ob, es, ep, k _ _ (.inl rfl) e, c⟩
 | set S n => obtain ⟨ob, es, ep, t, e, c⟩ := x; exact ⟨ob, es, ep, t, k _ _ (.inl rfl) e, c⟩
 | ins C dx fs =>
  obtain ⟨d, z, ne, e, mA, ⟨od, es, ep, e2, c⟩, r⟩ := x
  exact ⟨ho _ d, z, ne, k _ _ (.inl rfl) e, mA, ⟨od, es, ep, k _ _ (.inr d) e2, c⟩, r⟩
 | own y => obtain ⟨ob, e⟩ := x; exact ⟨ob, k _ _ (.inl rfl) e⟩
 | xd fs => obtain ⟨mA, ⟨od, es, ep, e, c⟩, r⟩ := x; exact ⟨mA, ⟨od, es, ep, k _ _ (.inl rfl) e, c⟩, r⟩
 | rng lo hi => obtain ⟨t, u, v, e⟩ := x; exact ⟨t, u, v, k _ _ (.inl rfl) e⟩
 | frz ob u ih => obtain ⟨e, q⟩ := x; exact ⟨k _ _ (.inl rfl) e, ih q⟩
 | tbl ps =>
  have e : h.get? a = some { cls := .none, data := .fields ps } := x
  show h'.get? a = some { cls := .none, data := .fields ps }
  exact k a _ (.inl rfl) e
 | met f y =>
  have e : h.get? a = some (PySem.W.methodObj (.ref f) (.ref y)) := x
  show h'.get? a = some (PySem.W.methodObj (.ref f) (.ref y))
  exact k a _ (.inl rfl) e
 | ext φ => obtain ⟨p, ⟨o, e⟩, st⟩ := x; exact ⟨st _ _ p fun o q => k _ _ (.inl rfl) q, ⟨o, k _ _ (.inl rfl) e⟩, st⟩
theorem HOk.lt (x : HOk P w H h) (e : H a = some o) : a < h.objs.size := (x a o e).lt
theorem HOk.fresh (x : HOk P w H h) (e : h.objs.size ≤ a) : H a = none := by
 cases q : H a with
 | none => rfl
 | some u => exact absurd (yW (x.lt q) e) (jQf _)
theorem HOk.kept (x : HOk P w H h) (k : ∀ b u, h.get? b = some u → h'.get? b = some u) : HOk P w H h' := fun a o e =>
 (x a o e).stay (fun b u _ q => k b u q) (fun _ q => q) fun _ _ q => q
theorem HOk.laid (x : HOk P w H h) (k : ∀ b u, h.get? b = some u → h'.get? b = some u) (hp : h.objs.size ≤ a) (new : ObjOk P w (upd H a o) h' a o) : HOk P w (upd H a o) h' := fun b u e => by
 have hn := x.fresh hp
 by_cases hb : b = a
 ·subst hb; rw [Qe] at e; cases e; exact new
 ·rw [Qq hb] at e
  exact (x b u e).stay (fun c v _ q => k c v q) (fun c q => by rw [Qq (Qr q hn)]; exact q) fun c xs q => by rw [Qq (Qr q hn)]; exact q
end
def Rd (H : Hp) (a : Addr) (u : HO) : Prop := H a = some u ∨ ∃ o, H a = some (.frz o u)
theorem Rd.ok {P : Program} {w : World} {H : Hp} {h : Heap} {a : Addr} {u : HO} (r : Rd H a u) (x : HOk P w H h) : ObjOk P w H h a u := by
 rcases r with r | ⟨o, r⟩
 ·exact x a u r
 ·obtain ⟨_, q⟩ := x a _ r
  exact q
def Mut : Option HO → Prop
 | some (.lst _) => True
 | some (.dK _) => True
 | some (.dT _) => True
 | some (.set _ _) => True
 | some (.ins _ _ _) => True
 | some (.ext _) => True
 | _ => False
section
variable {P : Program} {w : World} {H : Hp} {h h' : Heap} {x e : Addr} {o' : HO}
theorem HOk.write (ok : HOk P w H h) (mu : Mut (H x)) (he : e = x ∨ H e = some (.own x)) (k : ∀ b u, b ≠ e → h.get? b = some u → h'.get? b = some u) (heo : ∃ u, h'.get? e = some u)
  (new : ObjOk P w (upd H x o') h' x o') : HOk P w (upd H x o') h' := fun b u q => by
 have nown : ∀ c y, H c = some (.own y) → c ≠ x := fun c y r z => by subst z; rw [r] at mu; exact mu
 have ntup : ∀ c xs, H c = some (.tup xs) → c ≠ x := fun c xs r z => by subst z; rw [r] at mu; exact mu
 by_cases hb : b = x
 ·subst hb; rw [Qe] at q; cases q; exact new
 ·rw [Qq hb] at q
  by_cases hbe : b = e
  ·have q' : H b = some (.own x) := by
    rcases he with z | z
    ·exact absurd (hbe.trans z) hb
    ·rw [hbe]; exact z
   rw [q] at q'; cases q'
   obtain ⟨v, hv⟩ := heo
   exact ⟨v, by rw [hbe]; exact hv⟩
  ·refine (ok b u q).stay (fun c v hc r => k c v ?_ r) (fun c r => by rw [Qq (nown c b r)]; exact r) fun c xs r => by rw [Qq (ntup c xs r)]; exact r
   rcases hc with rfl | hc
   ·exact hbe
   ·rintro rfl
    rcases he with z | z
    ·exact nown c b hc z
    ·rw [hc] at z; cases z; exact hb rfl
end
structure Un (fs ex : List Addr) (H H' : Hp) (h h' : Heap) : Prop where
 keep : ∀ b o, h.get? b = some o → H b = none → b ∉ fs → b ∉ ex → h'.get? b = some o
 slot : ∀ b o, h.get? b = some o → H b = none → b ∈ fs → b ∉ ex → ∃ sl, h'.get? b = some { o with slots := sl }
 free : ∀ b o, h.get? b = some o → H b = none → b ∉ ex → H' b = none
 there : ∀ b o, h.get? b = some o → b ∉ ex → ∃ o', h'.get? b = some o'
 tups : ∀ b xs, H b = some (.tup xs) → H' b = some (.tup xs)
 frzs : ∀ b o u, H b = some (.frz o u) → H' b = some (.frz o u)
 tbls : ∀ b ps, H b = some (.tbl ps) → ∃ more, H' b = some (.tbl (ps ++ more))
section
variable {fs fs' ex ex' : List Addr} {H H1 H2 : Hp} {h h1 h2 h' : Heap} {a x e : Addr} {o : HO}
theorem Un.any (u : Un fs ex H H1 h h1) {b : Addr} {ob : Obj} (q : h.get? b = some ob) (n : H b = none) (hx : b ∉ ex) : ∃ sl, h1.get? b = some { ob with slots := sl } := by
 by_cases hb : b ∈ fs
 ·exact u.slot b ob q n hb hx
 ·exact ⟨ob.slots, u.keep b ob q n hb hx⟩
theorem Un.kept (k : ∀ b u, h.get? b = some u → h'.get? b = some u) : Un fs ex H H h h' :=
 ⟨fun b ob q _ _ _ => k b ob q, fun b ob q _ _ _ => ⟨ob.slots, k b ob q⟩, fun _ _ _ n _ => n, fun b ob q _ => ⟨ob, k b ob q⟩, fun _ _ q => q, fun _ _ _ q => q, fun _ ps q => ⟨#[], by rw [q]; simp⟩⟩
theorem Un.refl : Un fs ex H H h h := Un.kept fun _ _ q => q
theorem Un.laid (k : ∀ b u, h.get? b = some u → h'.get? b = some u) (hp : h.objs.size ≤ a) (hn : H a = none) : Un fs ex H (upd H a o) h h' where
 keep := fun b u q _ _ _ => k b u q
 slot := fun b u q _ _ _ => ⟨u.slots, k b u q⟩
 free := fun b u q n _ => by rw [Qq (zQ (yW (kJ q) hp))]; exact n
 there := fun b u q _ => ⟨u, k b u q⟩
 tups := fun b xs q => by rw [Qq (Qr q hn)]; exact q
 frzs := fun b u xs q => by rw [Qq (Qr q hn)]; exact q
 tbls := fun b ps q => ⟨#[], by rw [Qq (Qr q hn), q]; simp⟩
theorem Un.write (mu : Mut (H x)) (he : e = x ∨ H e = some (.own x)) (k : ∀ b u, b ≠ e → h.get? b = some u → h'.get? b = some u) (heo : ∃ u, h'.get? e = some u) : Un fs ex H (upd H x o) h h' := by
 have hx : ∀ b, H b = none → b ≠ x := fun b n z => by subst z; rw [n] at mu; exact mu
 have hb : ∀ b, H b = none → b ≠ e := fun b n z => by
  subst z
  rcases he with r | r
  ·exact hx b n r
  ·rw [n] at r; cases r
 have hm : ∀ b u, H b = some u → ¬ Mut (some u) → b ≠ x := fun b u q nm z => by subst z; rw [q] at mu; exact nm mu
 refine ⟨fun b u q n _ _ => k b u (hb b n) q, fun b u q n _ _ => ⟨u.slots, k b u (hb b n) q⟩, fun b u q n _ => by rw [Qq (hx b n)]; exact n, fun b u q _ => ?_,
  fun b xs q => by rw [Qq (hm b _ q fun z => z)]; exact q, fun b u xs q => by rw [Qq (hm b _ q fun z => z)]; exact q, fun b ps q => ⟨#[], by rw [Qq (hm b _ q fun z => z), q]; simp⟩⟩
 by_cases hbe : b = e
 ·subst hbe; exact heo
 ·exact ⟨u, k b u hbe q⟩
end
def trk (h : Heap) (H : Hp) : List Addr := (List.range h.objs.size).filter fun a => (H a).isSome
def hidT (h : Heap) (H : Hp) : Heap := PySem.W.hideAll h (trk h H)
theorem Qhh (h : Heap) (H : Hp) : (hidT h H).objs.size = h.objs.size := PySem.W.hideAll_size _ _
theorem Qkz {h : Heap} {H : Hp} {b : Addr} {o : Obj} (e : h.get? b = some o) (n : H b = none) : (hidT h H).get? b = some o :=
 PySem.W.hideAll_get _ e fun hm => by
  have q : (H b).isSome = true := (kQc.mp hm).2
  rw [n] at q; simp at q
theorem Qny {h : Heap} {H : Hp} {b : Addr} {o : Obj} (e : (hidT h H).get? b = some o) : h.get? b = some o ∧ H b = none := by
 have e' : h.get? b = some o := PySem.W.of_hideAll (trk h H) e
 refine ⟨e', ?_⟩
 cases q : H b with
 | none => rfl
 | some x =>
  have hm : b ∈ trk h H := kQc.mpr ⟨kQf.mpr (kJ e'), by simp [q]⟩
  have z : (hidT h H).get? b = none := PySem.W.hideAll_none (trk h H) hm
  rw [z] at e; cases e
structure Mod (K : Fg) (mg : Str → Option Value) (base : Heap) : Prop where
 kin : K.In base
 glob : base.Ns mainGlobals mg
 blt : ∃ mb, base.Ns builtinsNs mb ∧ ∀ x : Str, x ≠ "__name__" → mb x = bootBuiltins x
 nolimit : base.NoLimit
set_option genInjectivity false in
set_option genInjectivity false in
structure Cx where
 prog : Program
 w : World
 K : Fg
 mg : Str → Option Value
 base : Heap
 A : Around
 N : List Str
 s₀ : Shared
 H₀ : Hp
 env : Env
 outer : List Env
 stack : List Env
 ex : List Addr
 fn : Str → Bool
 calm : Bool
 pn : List (Addr × Obj)
 xe : Value → Shared → Prop
def frs (l : List Env) : List Addr := l.filterMap (·.frame)
abbrev Cx.fs (X : Cx) : List Addr := frs X.outer
def Vis (sc : Scope) (x : Str) : Prop := sc.names.lookup x = some .local ∨ sc.names.lookup x = some .cell ∨ sc.names.lookup x = some .free
def Loc (sc : Scope) (x : Str) : Prop := sc.names.lookup x = some .local ∨ sc.names.lookup x = some .cell
def Look (env : Env) (h : Heap) (m : Str → Option Value) (x : Str) (u : Value) : Prop :=
 (env.kindOf x = some .local ∧ m x = some u) ∨ ((env.kindOf x = some .cell ∨ env.kindOf x = some .free) ∧ ∃ c, env.cells.lookup x = some c ∧ h.IsCell c (some u))
structure Cx.Ok (X : Cx) : Prop where
 mod : Mod X.K X.mg X.base
 kind : X.env.scope.kind = .function
 glob : X.env.globals = mainGlobals
 blt : X.env.builtins = builtinsNs
 above : X.s₀.heap.objs.size ≤ X.env.locals
 inj : ∀ x y c, X.env.cells.lookup x = some c → X.env.cells.lookup y = some c → x = y
 has : ∀ x, (X.env.kindOf x = some .cell ∨ X.env.kindOf x = some .free) → ∃ c, X.env.cells.lookup x = some c
 cab : ∀ x c, X.fn x = true → X.env.cells.lookup x = some c → X.s₀.heap.objs.size ≤ c
 hd : X.calm = true → X.A.handled = none
 frames : X.A.frames = some X.stack
 stk : X.stack = X.outer ∨ (X.stack = X.env :: X.outer ∧ X.env.frame = some X.env.locals)
 exf : ∀ b ∈ X.ex, b ≠ X.env.locals ∧ ∀ x c, X.env.cells.lookup x = some c → c ≠ b
 bs : ∀ b o, X.base.get? b = some o → X.s₀.heap.get? b = some o ∧ X.H₀ b = none
 bsz : X.base.objs.size ≤ X.s₀.heap.objs.size
 noex : ∀ b o, X.base.get? b = some o → b ∉ X.ex
 exfs : ∀ b ∈ X.ex, b ∉ X.fs
 funs : X.s₀.heap.FunFrames X.base X.outer
 frf : ∀ b ∈ X.fs, X.H₀ b = none
structure Inv (X : Cx) (pins : List (Addr × Obj)) (σ : List (Option V)) (H : Hp) (s : Shared) : Prop where
 ok : X.Ok
 os : s.os = X.s₀.os
 bare : AllBare s.gens
 base : Un X.fs X.ex X.H₀ H X.s₀.heap s.heap
 loc : ∃ m, s.heap.Ns X.env.locals m ∧ ∀ (i : Nat) (x : Str) (v : V), X.N[i]? = some x → σ[i]? = some (some v) → Vis X.env.scope x → ∃ u, RelV v u ∧ Look X.env s.heap m x u
 cell : ∀ x c, X.env.cells.lookup x = some c → ∃ v, s.heap.IsCell c v
 free : H X.env.locals = none
 freeC : ∀ x c, X.env.cells.lookup x = some c → H c = none
 pin : ∀ p ∈ X.pn ++ pins, s.heap.get? p.1 = some p.2 ∧ H p.1 = none ∧ p.1 ≠ X.env.locals ∧ p.1 ∉ X.fs ∧ ∀ v, p.2.data ≠ .cell v
 hok : HOk X.prog X.w H s.heap
 len : σ.length = X.N.length
section
variable {X : Cx} {pins : List (Addr × Obj)} {σ : List (Option V)} {H H' : Hp} {s : Shared} {h' : Heap}
theorem Cx.Ok.nofr (ok : X.Ok) {b : Addr} {o : Obj} (e : X.base.get? b = some o) : b ∉ X.fs := fun hb => by
 have := (ok.funs.mem hb).1
 rw [e] at this; cases this
theorem Inv.bs (I : Inv X pins σ H s) : ∀ b o, X.base.get? b = some o → s.heap.get? b = some o ∧ H b = none := fun b o e =>
 ⟨I.base.keep b o (I.ok.bs b o e).1 (I.ok.bs b o e).2 (I.ok.nofr e) (I.ok.noex b o e), I.base.free b o (I.ok.bs b o e).1 (I.ok.bs b o e).2 (I.ok.noex b o e)⟩
theorem Inv.bk (I : Inv X pins σ H s) : ∀ b o, X.base.get? b = some o → s.heap.get? b = some o := fun b o e => (I.bs b o e).1
theorem Inv.mod (I : Inv X pins σ H s) : Mod X.K X.mg X.base := I.ok.mod
theorem Inv.kIn (I : Inv X pins σ H s) : X.K.In s.heap := I.ok.mod.kin.keeps I.bk
theorem Inv.lt (I : Inv X pins σ H s) : X.env.locals < s.heap.objs.size := by obtain ⟨_, hn, _⟩ := I.loc; exact hn.lt
theorem Inv.sz (I : Inv X pins σ H s) : X.s₀.heap.objs.size ≤ s.heap.objs.size := xW I.ok.above (Nat.le_of_lt I.lt)
theorem Inv.nofs (I : Inv X pins σ H s) {a : Addr} (h : s.heap.objs.size ≤ a) : a ∉ X.fs := fun hb => by
 obtain ⟨_, o, ho, _⟩ := I.ok.funs.mem hb
 exact absurd (yW (kJ ho) (xW I.sz h)) (jQf _)
theorem Inv.cne (I : Inv X pins σ H s) : ∀ x c, X.env.cells.lookup x = some c → c ≠ X.env.locals := fun x c e z => by
 obtain ⟨v, o, ho, hd⟩ := I.cell x c e
 obtain ⟨m, ⟨o', es, ep, ho', hd', _⟩, _⟩ := I.loc
 rw [z, ho'] at ho; cases ho; rw [hd'] at hd; cases hd
theorem Inv.funs (I : Inv X pins σ H s) : s.heap.FunFrames X.base X.outer := by
 have all : ∀ (l : List Env), (∀ b ∈ frs l, b ∈ X.fs) → X.s₀.heap.FunFrames X.base l → s.heap.FunFrames X.base l := by
  intro l
  induction l with
  | nil => intro _ _; trivial
  | cons env r ih =>
   intro hs hl
   obtain ⟨hk, ⟨L, o, hf, hn, ho, hd⟩, hr⟩ := hl
   have hL : L ∈ X.fs := hs L (by unfold frs; rw [kZf, hf]; exact jY)
   obtain ⟨sl, e⟩ := I.base.slot L o ho (I.ok.frf L hL) hL fun z => I.ok.exfs L z hL
   exact ⟨hk, ⟨L, _, hf, hn, e, hd⟩, ih (fun b hb => hs b (by unfold frs; rw [kZf, hf]; exact kX _ hb)) hr⟩
 exact all X.outer (fun _ hb => hb) I.ok.funs
theorem Inv.stack (I : Inv X pins σ H s) : s.heap.FunFrames X.base X.stack := by
 rcases I.ok.stk with e | ⟨e, hf⟩
 ·rw [e]; exact I.funs
 ·rw [e]
  obtain ⟨m, hn, _⟩ := I.loc
  refine .cons (by rw [I.ok.kind]; decide) hf hn ?_ I.funs
  exact kZc (xW I.ok.bsz I.ok.above)
theorem Inv.stkSub (I : Inv X pins σ H s) : ∀ b ∈ frs X.stack, b ∈ X.env.locals :: X.fs := fun b hb => by
 rcases I.ok.stk with e | ⟨e, hf⟩
 ·rw [e] at hb; exact kX _ hb
 ·rw [e] at hb
  unfold frs at hb
  rw [kZf, hf] at hb
  exact hb
theorem Inv.stkFree (I : Inv X pins σ H s) : ∀ b ∈ frs X.stack, H b = none := fun b hb => by
 rcases jZ.mp (I.stkSub b hb) with e | hb
 ·rw [e]; exact I.free
 ·obtain ⟨_, o, ho, _⟩ := I.ok.funs.mem hb
  exact I.base.free b o ho (I.ok.frf b hb) fun z => I.ok.exfs b z hb
theorem Inv.step {g' : Array GenState} {t' : Nat} {d' : Drawn} {ch : List Addr} (I : Inv X pins σ H s)
  (hch : ∀ b ∈ ch, (b ∈ X.ex ∨ X.s₀.heap.objs.size ≤ b) ∧ b ≠ X.env.locals ∧ (∀ x c, X.env.cells.lookup x = some c → c ≠ b) ∧ ∀ p ∈ X.pn ++ pins, p.1 ≠ b)
  (keep : ∀ b o, b ≠ X.env.locals → b ∉ X.fs → b ∉ ch → s.heap.get? b = some o → H b = none → h'.get? b = some o)
  (slot : ∀ b o, b ≠ X.env.locals → b ∈ X.fs → b ∉ ch → s.heap.get? b = some o → H b = none → ∃ sl, h'.get? b = some { o with slots := sl }) (free : ∀ b o, b ∉ ch → s.heap.get? b = some o → H b = none → H' b = none)
  (there : ∀ b o, b ∉ ch → s.heap.get? b = some o → ∃ o', h'.get? b = some o')
  (tups : ∀ b xs, H b = some (.tup xs) → H' b = some (.tup xs)) (frzs : ∀ b o u, H b = some (.frz o u) → H' b = some (.frz o u)) (tbls : ∀ b ps, H b = some (.tbl ps) → ∃ more, H' b = some (.tbl (ps ++ more)))
  (ns : ∀ m, s.heap.Ns X.env.locals m → h'.Ns X.env.locals m) (hok : HOk X.prog X.w H' h') (hg : AllBare g') :
  Inv X pins σ H' { s with heap := h', gens := g', drawn := d', toks := t' } := by
 have neL : ∀ b o, X.s₀.heap.get? b = some o → b ≠ X.env.locals := fun b o e => zQ (yW (kJ e) I.ok.above)
 have neC : ∀ b o, X.s₀.heap.get? b = some o → b ∉ X.ex → b ∉ ch := fun b o e hx hb => by
  rcases (hch b hb).1 with z | z
  ·exact hx z
  ·exact absurd (yW (kJ e) z) (jQf _)
 have cellK : ∀ x c, X.env.cells.lookup x = some c → ∀ v, s.heap.IsCell c v → h'.IsCell c v := fun x c e v ⟨o, ho, hd⟩ => by
  have nch : c ∉ ch := fun z => (hch c z).2.2.1 x c e rfl
  by_cases hc : c ∈ X.fs
  ·obtain ⟨sl, q⟩ := slot c o (I.cne x c e) hc nch ho (I.freeC x c e)
   exact ⟨_, q, hd⟩
  ·exact ⟨o, keep c o (I.cne x c e) hc nch ho (I.freeC x c e), hd⟩
 refine ⟨I.ok, I.os, hg, ⟨fun b o e n hb hx => ?_, fun b o e n hb hx => ?_, fun b o e n hx => ?_, fun b o e hx => ?_, fun b xs e => tups b xs (I.base.tups b xs e), fun b o xs e => frzs b o xs (I.base.frzs b o xs e), fun b ps e => ?_⟩, ?_, fun x c e => ?_, ?_, fun x c e => ?_, fun p hp => ?_, hok, I.len⟩
 ·exact keep b o (neL b o e) hb (neC b o e hx) (I.base.keep b o e n hb hx) (I.base.free b o e n hx)
 ·obtain ⟨sl, e1⟩ := I.base.slot b o e n hb hx
  obtain ⟨sl', e2⟩ := slot b _ (neL b o e) hb (neC b o e hx) e1 (I.base.free b o e n hx)
  exact ⟨sl', e2⟩
 ·obtain ⟨o', e1⟩ := I.base.there b o e hx
  exact free b o' (neC b o e hx) e1 (I.base.free b o e n hx)
 ·obtain ⟨o', e1⟩ := I.base.there b o e hx
  exact there b o' (neC b o e hx) e1
 ·obtain ⟨m1, e1⟩ := I.base.tbls b ps e
  obtain ⟨m2, e2⟩ := tbls b _ e1
  exact ⟨m1 ++ m2, by rw [e2, Array.append_assoc]⟩
 ·obtain ⟨m, hn, hl⟩ := I.loc
  refine ⟨m, ns m hn, fun i x v e1 e2 e3 => ?_⟩
  obtain ⟨u, r, l⟩ := hl i x v e1 e2 e3
  refine ⟨u, r, ?_⟩
  rcases l with l | ⟨k, c, e, z⟩
  ·exact .inl l
  ·exact .inr ⟨k, c, e, cellK x c e _ z⟩
 ·obtain ⟨v, z⟩ := I.cell x c e
  exact ⟨v, cellK x c e v z⟩
 ·obtain ⟨m, ⟨o, _, _, ho, _⟩, _⟩ := I.loc
  exact free _ o (fun z => (hch _ z).2.1 rfl) ho I.free
 ·obtain ⟨v, o, ho, hd⟩ := I.cell x c e
  exact free c o (fun z => (hch c z).2.2.1 x c e rfl) ho (I.freeC x c e)
 ·obtain ⟨e, n, ne, nf, d⟩ := I.pin p hp
  have nch : p.1 ∉ ch := fun z => (hch p.1 z).2.2.2 p hp rfl
  exact ⟨keep p.1 p.2 ne nf nch e n, free p.1 p.2 nch e n, ne, nf, d⟩
theorem Inv.un {t' : Nat} (I : Inv X pins σ H s) (u : Un X.fs [] H H' s.heap h') (hok : HOk X.prog X.w H' h') : Inv X pins σ H' { s with heap := h', toks := t' } := by
 obtain ⟨m, ⟨o, es, ep, ho, r⟩, _⟩ := id I.loc
 obtain ⟨sl, hL⟩ := u.any ho I.free (by simp)
 exact I.step (g' := s.gens) (d' := s.drawn) (ch := []) (fun _ z => nomatch z) (fun b o _ hb _ e n => u.keep b o e n hb (by simp)) (fun b o _ hb _ e n => u.slot b o e n hb (by simp)) (fun b o _ e n => u.free b o e n (by simp)) (fun b o _ e => u.there b o e (by simp)) u.tups u.frzs u.tbls (fun m' hm => by
  obtain ⟨o', es', ep', ho', r'⟩ := hm
  rw [ho] at ho'; cases ho'
  exact ⟨_, es', ep', hL, r'⟩) hok I.bare
theorem Inv.call {g' : Array GenState} {t' : Nat} {d' : Drawn} {ch : List Addr} (I : Inv X pins σ H s) (u : Un (frs X.stack) ch H H' s.heap h') (hok : HOk X.prog X.w H' h') (hg : AllBare g')
  (hch : ∀ b ∈ ch, (b ∈ X.ex ∨ X.s₀.heap.objs.size ≤ b) ∧ b ≠ X.env.locals ∧ (∀ x c, X.env.cells.lookup x = some c → c ≠ b) ∧ ∀ p ∈ X.pn ++ pins, p.1 ≠ b) :
  Inv X pins σ H' { s with heap := h', gens := g', drawn := d', toks := t' } := by
 obtain ⟨m, ⟨o, es, ep, ho, r⟩, _⟩ := id I.loc
 obtain ⟨sl, hL⟩ := u.any ho I.free fun z => (hch _ z).2.1 rfl
 exact I.step (ch := ch) hch (fun b o hL hb hc e n => u.keep b o e n (fun z => (jZ.mp (I.stkSub b z)).elim hL hb) hc) (fun b o _ _ hc e n => u.any e n hc) (fun b o hc e n => u.free b o e n hc) (fun b o hc e => u.there b o e hc) u.tups u.frzs u.tbls (fun m' hm => by
  obtain ⟨o', es', ep', ho', r'⟩ := hm
  rw [ho] at ho'; cases ho'
  exact ⟨_, es', ep', hL, r'⟩) hok hg
theorem Inv.turned {t' : Nat} {it : Addr} (I : Inv X pins σ H s) (k : ∀ b o, b ≠ it → s.heap.get? b = some o → h'.get? b = some o) (hn : H it = none) (hL : it ≠ X.env.locals)
  (h1 : it ∈ X.ex ∨ X.s₀.heap.objs.size ≤ it) (h2 : ∀ x c, X.env.cells.lookup x = some c → c ≠ it) (h3 : ∀ p ∈ X.pn ++ pins, p.1 ≠ it) : Inv X pins σ H { s with heap := h', toks := t' } := by
 have nit : ∀ b u, H b = some u → b ≠ it := fun b u e z => by rw [z, hn] at e; cases e
 refine I.step (g' := s.gens) (d' := s.drawn) (ch := [it]) (fun b hb => ?_) (fun b o _ _ hc e _ => k b o (fun z => hc (by simp [z])) e) (fun b o _ _ hc e _ => ⟨o.slots, k b o (fun z => hc (by simp [z])) e⟩) (fun _ _ _ _ n => n)
  (fun b o hc e => ⟨o, k b o (fun z => hc (by simp [z])) e⟩) (fun _ _ e => e) (fun _ _ _ e => e) (fun b ps e => ⟨#[], by rw [e]; simp⟩) (fun m hm => ?_) (fun b u e => ?_) I.bare
 ·have e : b = it := by simpa using hb
  subst e
  exact ⟨h1, hL, h2, h3⟩
 ·obtain ⟨o, es, ep, ho, r⟩ := hm
  exact ⟨o, es, ep, k _ o (Ne.symm hL) ho, r⟩
 ·refine (I.hok b u e).stay (fun c v hc q => k c v ?_ q) (fun _ q => q) fun _ _ q => q
  rcases hc with z | z
  ·rw [z]; exact nit b u e
  ·exact nit c _ z
theorem Inv.tok (I : Inv X pins σ H s) (t : Nat) : Inv X pins σ H { s with toks := t } := I.un (h' := s.heap) (t' := t) Un.refl I.hok
theorem Inv.kept {t' : Nat} (I : Inv X pins σ H s) (k : ∀ b u, s.heap.get? b = some u → h'.get? b = some u) : Inv X pins σ H { s with heap := h', toks := t' } := I.un (Un.kept k) (I.hok.kept k)
theorem Inv.laid {a : Addr} {o : HO} {t' : Nat} (I : Inv X pins σ H s) (k : ∀ b u, s.heap.get? b = some u → h'.get? b = some u) (hp : s.heap.objs.size ≤ a) (new : ObjOk X.prog X.w (upd H a o) h' a o) :
  Inv X pins σ (upd H a o) { s with heap := h', toks := t' } := I.un (Un.laid k hp (I.hok.fresh hp)) (I.hok.laid k hp new)
theorem Inv.write {x e : Addr} {o : HO} {t' : Nat} (I : Inv X pins σ H s) (mu : Mut (H x)) (he : e = x ∨ H e = some (.own x)) (k : ∀ b u, b ≠ e → s.heap.get? b = some u → h'.get? b = some u) (heo : ∃ u, h'.get? e = some u)
  (new : ObjOk X.prog X.w (upd H x o) h' x o) : Inv X pins σ (upd H x o) { s with heap := h', toks := t' } := I.un (Un.write mu he k heo) (I.hok.write mu he k heo new)
theorem Inv.pins_of {pins' : List (Addr × Obj)} (I : Inv X pins σ H s) (h : ∀ p ∈ pins', s.heap.get? p.1 = some p.2 ∧ H p.1 = none ∧ p.1 ≠ X.env.locals ∧ p.1 ∉ X.fs ∧ ∀ v, p.2.data ≠ .cell v) : Inv X pins' σ H s :=
 ⟨I.ok, I.os, I.bare, I.base, I.loc, I.cell, I.free, I.freeC, fun p hp => (kQ.mp hp).elim (fun z => I.pin p (yJ _ z)) (h p), I.hok, I.len⟩
theorem Qaj {N : List Str} (hN : N.Nodup) {i j : Nat} {x : Str} (a : N[i]? = some x) (b : N[j]? = some x) : i = j := by
 obtain ⟨h1, e1⟩ := kY.mp a
 obtain ⟨h2, e2⟩ := kY.mp b
 exact (List.getElem_inj hN).mp (e1.trans e2.symm)
theorem Qbp {M : Model} {A : Around} {E : Value → Shared → Prop} {i : Nat} {x : Str} {v : V} {u : Value} {Q : Unit → Shared → Prop} (I : Inv X pins σ H s) (hN : X.N.Nodup) (hi : X.N[i]? = some x) (hx : Loc X.env.scope x) (r : RelV v u)
  (h : ∀ s', Inv X pins (σ.set i (some v)) H s' → (∃ a, Heap.SameBut a s.heap s'.heap ∧ (a = X.env.locals ∨ X.env.cells.lookup x = some a)) → Q () s') (hf : autoParam (X.fn x = true ∨ X.env.scope.names.lookup x = some .local) L2.aFst._auto_1) : wpAny M A (storeName X.env x u) Q E s := by
 obtain ⟨m, hn, hl⟩ := id I.loc
 have hcls : (X.env.scope.kind == .class || (X.env.scope.kind == .module && X.env.locals != X.env.globals)) = false := by rw [I.ok.kind]; rfl
 have hiσ : i < σ.length := by rw [I.len]; exact (kY.mp hi).1
 have cne := I.cne
 have tracked : ∀ {a : Addr} {h' : Heap}, (∃ o, s.heap.get? a = some o ∧ H a = none) → Heap.SameBut a s.heap h' → HOk X.prog X.w H h' := fun {a h'} ha hs b ob e => by
  obtain ⟨_, _, hfree⟩ := ha
  refine (I.hok b ob e).stay (fun c w' hc q => (hs.2 c ?_).trans q) (fun _ q => q) fun _ _ q => q
  rintro rfl
  rcases hc with rfl | hc
  ·rw [hfree] at e; cases e
  ·rw [hfree] at hc; cases hc
 rcases hx with hk | hk
 ·refine wpAny_storeName_local hk hn (fun h' hn' hs => ?_) hcls
  obtain ⟨oL, _, _, hoL, _⟩ := id hn
  refine h _ ⟨I.ok, I.os, I.bare, ⟨fun b o e n hb hx => ?_, fun b o e n hb hx => ?_, I.base.free, fun b o e hx => ?_, I.base.tups, I.base.frzs, I.base.tbls⟩, ⟨_, hn', fun j y v' e1 e2 e3 => ?_⟩, fun y c e => ?_, I.free, I.freeC, fun p hp => ?_, tracked ⟨oL, hoL, I.free⟩ hs, by simpa using I.len⟩ ⟨_, hs, .inl rfl⟩
  ·exact (hs.2 b (zQ (yW (kJ e) I.ok.above))).trans (I.base.keep b o e n hb hx)
  ·obtain ⟨sl, e1⟩ := I.base.slot b o e n hb hx
   exact ⟨sl, (hs.2 b (zQ (yW (kJ e) I.ok.above))).trans e1⟩
  ·obtain ⟨o', e1⟩ := I.base.there b o e hx
   exact ⟨o', (hs.2 b (zQ (yW (kJ e) I.ok.above))).trans e1⟩
  ·by_cases hj : j = i
   ·subst hj
    rw [hi] at e1; cases e1
    rw [jZa hiσ] at e2
    cases e2
    exact ⟨u, r, .inl ⟨hk, by simp⟩⟩
   ·rw [kZd (Ne.symm hj)] at e2
    obtain ⟨u', r', q⟩ := hl j y v' e1 e2 e3
    refine ⟨u', r', ?_⟩
    rcases q with ⟨k, e⟩ | ⟨k, c, e, z⟩
    ·refine .inl ⟨k, ?_⟩
     have : y ≠ x := fun e => hj (Qaj hN e1 (e ▸ hi))
     simp [this, e]
    ·exact .inr ⟨k, c, e, z.sameBut hs (cne y c e)⟩
  ·obtain ⟨w', z⟩ := I.cell y c e
   exact ⟨w', z.sameBut hs (cne y c e)⟩
  ·obtain ⟨e, n, ne, nf, d⟩ := I.pin p hp
   exact ⟨(hs.2 p.1 ne).trans e, n, ne, nf, d⟩
 ·have hfn : X.fn x = true := by
   rcases hf with z | z
   ·exact z
   ·rw [z] at hk; cases hk
  obtain ⟨c, hc⟩ := I.ok.has x (.inl hk)
  obtain ⟨w', z⟩ := I.cell x c hc
  refine wpAny_storeName_cell I.ok.kind hk hc z (fun h' hc' hs => ?_)
  obtain ⟨oc, hoc, hocd⟩ := id z
  refine h { s with heap := h' } ⟨I.ok, I.os, I.bare, ⟨fun b o e n hb hx => ?_, fun b o e n hb hx => ?_, I.base.free, fun b o e hx => ?_, I.base.tups, I.base.frzs, I.base.tbls⟩, ⟨m, hn.sameBut hs (Ne.symm (cne x c hc)), fun j y v' e1 e2 e3 => ?_⟩, fun y c' e => ?_, I.free, I.freeC, fun p hp => ?_, tracked ⟨oc, hoc, I.freeC x c hc⟩ hs, by simpa using I.len⟩ ⟨c, hs, .inr hc⟩
  ·exact (hs.2 b (zQ (yW (kJ e) (I.ok.cab x c hfn hc)))).trans (I.base.keep b o e n hb hx)
  ·obtain ⟨sl, e1⟩ := I.base.slot b o e n hb hx
   exact ⟨sl, (hs.2 b (zQ (yW (kJ e) (I.ok.cab x c hfn hc)))).trans e1⟩
  ·obtain ⟨o', e1⟩ := I.base.there b o e hx
   exact ⟨o', (hs.2 b (zQ (yW (kJ e) (I.ok.cab x c hfn hc)))).trans e1⟩
  ·by_cases hj : j = i
   ·subst hj
    rw [hi] at e1; cases e1
    rw [jZa hiσ] at e2
    cases e2
    exact ⟨u, r, .inr ⟨.inl hk, c, hc, hc'⟩⟩
   ·rw [kZd (Ne.symm hj)] at e2
    obtain ⟨u', r', q⟩ := hl j y v' e1 e2 e3
    refine ⟨u', r', ?_⟩
    rcases q with q | ⟨k, c', e, z'⟩
    ·exact .inl q
    ·refine .inr ⟨k, c', e, z'.sameBut hs ?_⟩
     rintro rfl
     exact hj (Qaj hN e1 (I.ok.inj _ _ _ e hc ▸ hi))
  ·by_cases hcc : c' = c
   ·subst hcc; exact ⟨_, hc'⟩
   ·obtain ⟨w2, z2⟩ := I.cell y c' e
    exact ⟨w2, z2.sameBut hs hcc⟩
  ·obtain ⟨e, n, ne, nf, d⟩ := I.pin p hp
   refine ⟨(hs.2 p.1 ?_).trans e, n, ne, nf, d⟩
   intro q
   rw [q, hoc] at e
   have q' : oc = p.2 := Option.some.inj e
   exact d w' (by rw [← q']; exact hocd)
theorem Vc {M : Model} {A : Around} {E : Value → Shared → Prop} {i : Nat} {x : Str} {v : V} {u : Value} {Q : Unit → Shared → Prop} (I : Inv X pins σ H s) (hN : X.N.Nodup) (hi : X.N[i]? = some x) (hx : Loc X.env.scope x) (r : RelV v u)
  (h : ∀ s', Inv X pins (σ.set i (some v)) H s' → Q () s') (hf : autoParam (X.fn x = true ∨ X.env.scope.names.lookup x = some .local) L2.aFst._auto_1) : wpAny M A (storeName X.env x u) Q E s :=
 Qbp I hN hi hx r (fun s' I' _ => h s' I') hf
theorem Inv.call' {s' : Shared} {ch : List Addr} (I : Inv X pins σ H s) (ho : s'.os = s.os) (u : Un (frs X.stack) ch H H' s.heap s'.heap) (hok : HOk X.prog X.w H' s'.heap) (hg : AllBare s'.gens)
  (hch : ∀ b ∈ ch, (b ∈ X.ex ∨ X.s₀.heap.objs.size ≤ b) ∧ b ≠ X.env.locals ∧ (∀ x c, X.env.cells.lookup x = some c → c ≠ b) ∧ ∀ p ∈ X.pn ++ pins, p.1 ≠ b) : Inv X pins σ H' s' := by
 obtain ⟨h', g', d', t', o'⟩ := s'
 have e : o' = s.os := ho
 subst e
 exact I.call (g' := g') (t' := t') (d' := d') u hok hg hch
end
abbrev XK := Value → Option Addr → Hp → Prop
abbrev St := List (Option V)
abbrev VK := V → Hp → Prop
abbrev TE := St → Hp → VK → Prop
abbrev TT := St → Hp → (Bool → Hp → Prop) → Prop
abbrev TA := St → Hp → (List V → Hp → Prop) → Prop
set_option genInjectivity false in
set_option genInjectivity false in
structure Ends where
 nx : St → Hp → Prop
 rt : VK
 bk : St → Hp → Prop := fun _ _ => False
 ct : St → Hp → Prop := fun _ _ => False
abbrev TS := Ends → St → Hp → Prop
def EP (X : Cx) (pins : List (Addr × Obj)) (σ : St) (Q : VK) (u : Value) (s' : Shared) : Prop := ∃ v H', Inv X pins σ H' s' ∧ RelV v u ∧ Q v H'
def TP (X : Cx) (pins : List (Addr × Obj)) (σ : St) (Q : Bool → Hp → Prop) (b : Bool) (s' : Shared) : Prop := ∃ H', Inv X pins σ H' s' ∧ Q b H'
def AP (X : Cx) (pins : List (Addr × Obj)) (σ : St) (Q : List V → Hp → Prop) (us : List Value) (s' : Shared) : Prop := ∃ vs H', Inv X pins σ H' s' ∧ Vals vs us ∧ Q vs H'
def SP (X : Cx) (pins : List (Addr × Obj)) (D : Ends) (f : Flow) (s' : Shared) : Prop :=
 match f with
 | .next => ∃ σ' H', Inv X pins σ' H' s' ∧ D.nx σ' H'
 | .brk => ∃ σ' H', Inv X pins σ' H' s' ∧ D.bk σ' H'
 | .cont => ∃ σ' H', Inv X pins σ' H' s' ∧ D.ct σ' H'
 | .ret u => ∃ v σ' H', Inv X pins σ' H' s' ∧ RelV v u ∧ D.rt v H'
def PE (X : Cx) (e : Expr) (t : TE) : Prop :=
 ∀ (pins : List (Addr × Obj)) (s : Shared) (σ : St) (H : Hp) (Q : VK), Inv X pins σ H s → t σ H Q → wpAny (model X.prog X.w) X.A (eval e X.env) (EP X pins σ Q) X.xe s
def PT (X : Cx) (e : Expr) (t : TT) : Prop :=
 ∀ (pins : List (Addr × Obj)) (s : Shared) (σ : St) (H : Hp) (Q : Bool → Hp → Prop), Inv X pins σ H s → t σ H Q → wpAny (model X.prog X.w) X.A (isTrue e X.env (eval e X.env)) (TP X pins σ Q) X.xe s
def PW (X : Cx) (e : Expr) (t : TT) : Prop :=
 ∀ (whole : Sem Value) (pins : List (Addr × Obj)) (s : Shared) (σ : St) (H : Hp) (Q : Bool → Hp → Prop), Inv X pins σ H s → t σ H Q → wpAny (model X.prog X.w) X.A (isTrue e X.env whole) (TP X pins σ Q) X.xe s
theorem PW.pt {X : Cx} {e : Expr} {t : TT} (h : PW X e t) : PT X e t := h _
def PA (X : Cx) (es : List Expr) (t : TA) : Prop :=
 ∀ (pos : Pos) (pins : List (Addr × Obj)) (s : Shared) (σ : St) (H : Hp) (Q : List V → Hp → Prop), Inv X pins σ H s → t σ H Q → wpAny (model X.prog X.w) X.A (spliced (backTo pos (starEach es X.env))) (AP X pins σ Q) X.xe s
def PS (X : Cx) (st : Stmt) (t : TS) : Prop :=
 ∀ (pins : List (Addr × Obj)) (s : Shared) (σ : St) (H : Hp) (D : Ends), Inv X pins σ H s → t D σ H → wpAny (model X.prog X.w) X.A (exec st X.env) (SP X pins D) X.xe s
def PSs (X : Cx) (st : List Stmt) (t : TS) : Prop :=
 ∀ (pins : List (Addr × Obj)) (s : Shared) (σ : St) (H : Hp) (D : Ends), Inv X pins σ H s → t D σ H → wpAny (model X.prog X.w) X.A (execs st X.env) (SP X pins D) X.xe s
theorem thn {α : Type} {t : Sem α} {Q Q' : α → Shared → Prop} {M : Model} {A : Around} {E : Value → Shared → Prop} {s : Shared} (h : wpAny M A t Q E s) (hQ : ∀ a s, Q a s → Q' a s) : wpAny M A t Q' E s := wpAny_mono h hQ fun _ _ x => x
section
variable {X : Cx}
def tVar (i : Nat) : TE := fun σ H Q => ∃ v, σ[i]? = some (some v) ∧ Q v H
def tC (v : V) : TE := fun _ H Q => Q v H
theorem Qmx {i : Nat} {x : Str} {pos : Pos} (hN : X.N[i]? = some x) (hv : Vis X.env.scope x) (hd : autoParam ((x == ("__debug__" : Str)) = false) L2.aDec._auto_1) (hcd : autoParam ((x == ("__classdict__" : Str)) = false) L2.aDec._auto_1) : PE X (.Name x pos) (tVar i) := by
 intro pins s σ H Q I h
 obtain ⟨v, e, h⟩ := h
 obtain ⟨m, hn, hl⟩ := I.loc
 obtain ⟨u, r, l⟩ := hl i x v hN e hv
 have fin : EP X pins σ Q u s := ⟨v, H, I, r, h⟩
 rcases l with ⟨hk, hm⟩ | ⟨hk, c, hc, hcell⟩
 ·exact wpAny_Name (wpAny_loadName_local I.ok.kind hk hn hm fin) hd
 ·rcases hk with hk | hk
  ·exact wpAny_Name (wpAny_loadName_cell I.ok.kind hk hc hcell fin) hd
  ·exact wpAny_Name (wpAny_loadName_free I.ok.kind hk hc hcell fin hcd) hd
theorem Qc {i j pos} : PE X (.Constant (.int i) j pos) (tC (.int i)) := fun _ _ _ H _ I h => wpAny_Constant_int ⟨.int i, H, I.tok _, ⟨_, rfl⟩, h⟩
theorem Zm {b j pos} : PE X (.Constant (.bool b) j pos) (tC (.bl b)) := fun _ _ _ H _ I h => Constant_bool ⟨.bl b, H, I, rfl, h⟩
theorem Jv {j pos} : PE X (.Constant .none j pos) (tC .non) := fun _ _ _ H _ I h => Constant_none ⟨.non, H, I, rfl, h⟩
theorem Qp {x j pos} : PE X (.Constant (.str x) j pos) (tC (.str x)) := fun _ _ _ H _ I h => Calls.Constant_str ⟨.str x, H, I.tok _, ⟨_, rfl⟩, h⟩
def Gl (X : Cx) (x : Str) : Prop := X.env.kindOf x = some .globalImplicit
theorem Kn {E : Value → Shared → Prop} {pins : List (Addr × Obj)} {s : Shared} {σ : St} {H : Hp} {x : Str} {u : Value} {pos : Pos} {Q : Value → Shared → Prop} (I : Inv X pins σ H s) (hg : Gl X x) (hm : X.mg x = some u) (h : Q u s)
  (hd : autoParam ((x == ("__debug__" : Str)) = false) L2.aDec._auto_1) : wpAny (model X.prog X.w) X.A (eval (.Name x pos) X.env) Q E s :=
 Calls.Name_function_global I.ok.kind hg (Calls.loadGlobal_global (by rw [I.ok.glob]; exact I.mod.glob.keeps I.bk) hm h) hd
theorem Wv {E : Value → Shared → Prop} {pins : List (Addr × Obj)} {s : Shared} {σ : St} {H : Hp} {x : Str} {u : Value} {pos : Pos} {Q : Value → Shared → Prop} (I : Inv X pins σ H s) (hg : Gl X x) (hm : X.mg x = none) (hv : bootBuiltins x = some u) (h : Q u s)
  (hn : autoParam (x ≠ "__name__") L2.aDec._auto_1) (hd : autoParam ((x == ("__debug__" : Str)) = false) L2.aDec._auto_1) : wpAny (model X.prog X.w) X.A (eval (.Name x pos) X.env) Q E s := by
 obtain ⟨mb, h1, h2⟩ := I.mod.blt
 exact Calls.Name_function_global I.ok.kind hg (Calls.loadGlobal_builtin (by rw [I.ok.glob]; exact I.mod.glob.keeps I.bk) hm (by rw [I.ok.blt]; exact h1.keeps I.bk) ((h2 x hn).trans hv) h) hd
theorem Zh {x : Str} {v : V} {u : Value} {pos : Pos} (hg : Gl X x) (hm : X.mg x = some u) (r : RelV v u) (hd : autoParam ((x == ("__debug__" : Str)) = false) L2.aDec._auto_1) : PE X (.Name x pos) (tC v) :=
 fun _ _ _ H _ I h => Kn I hg hm ⟨v, H, I, r, h⟩ hd
theorem Qnz {x : Str} {v : V} {u : Value} {pos : Pos} (hg : Gl X x) (hm : X.mg x = none) (hv : bootBuiltins x = some u) (r : RelV v u) (hn : autoParam (x ≠ "__name__") L2.aDec._auto_1) (hd : autoParam ((x == ("__debug__" : Str)) = false) L2.aDec._auto_1) : PE X (.Name x pos) (tC v) :=
 fun _ _ _ H _ I h => Wv I hg hm hv ⟨v, H, I, r, h⟩ hn hd
variable {a b : Expr} {ta tb : TE} {pos : Pos}
def PC (X : Cx) (op : CmpOp) (a b : Expr) (t : TE) : Prop :=
 ∀ (pins : List (Addr × Obj)) (s : Shared) (σ : St) (H : Hp) (Q : VK), Inv X pins σ H s → t σ H Q →
  wpAny (model X.prog X.w) X.A (eval a X.env) (fun v s₁ => wpAny (model X.prog X.w) X.A (eval b X.env) (fun u s₂ => wpAny (model X.prog X.w) X.A (compareOp op v u) (EP X pins σ Q) X.xe s₂) X.xe s₁) X.xe s
def tB (t : TE) : TT := fun σ H Q => t σ H fun x H1 => ∃ c, x = .bl c ∧ Q c H1
theorem pe_cmp {op : CmpOp} {t : TE} (h : PC X op a b t) (h1 : behindInMarks op b = false := by first | exact nobehind _ (by decide) (by decide) | rfl) : PE X (.Compare a [op] [b] pos) t := fun pins s σ H Q I hw => wpAny_Compare1 (h pins s σ H Q I hw) h1
theorem Qmy {op : CmpOp} {t : TE} (h : PC X op a b t) (h1 : behindInMarks op b = false := by first | exact nobehind _ (by decide) (by decide) | rfl) : PT X (.Compare a [op] [b] pos) (tB t) := by
 intro pins s σ H Q I hw
 refine wpAny_isTrue_Compare1 (thn (h pins s σ H _ I hw) fun v s1 h1 => thn h1 fun u s2 h2 => thn h2 fun c s3 hqP => ?_) h1
 obtain ⟨x, H1, I1, r1, q1⟩ := hqP
 obtain ⟨d, rfl, q⟩ := q1
 cases r1
 exact wpAny_truthy_bool ⟨H1, I1, q⟩
theorem Yn {e : Expr} {t : TE} (h : PE X e t) (he : autoParam (∀ whole, isTrue e X.env whole = (do let v ← whole; standAt e.pos; holding [v] (truthy v))) L2.aIrf._auto_1) : PT X e (tB t) := by
 intro pins s σ H Q I hw
 refine isTrue_plain (thn (h pins s σ H _ I hw) fun v s1 hqP => ?_) (he _)
 obtain ⟨x, H1, I1, r1, q1⟩ := hqP
 obtain ⟨d, rfl, q⟩ := q1
 cases r1
 exact wpAny_truthy_bool ⟨H1, I1, q⟩
variable {tA tB' : TT} {rest : List Expr}
def tAnd (t u : TT) : TT := fun σ H Q => t σ H fun c H1 => if c = true then u σ H1 Q else Q false H1
def tOr (t u : TT) : TT := fun σ H Q => t σ H fun c H1 => if c = true then Q true H1 else u σ H1 Q
def tNot (t : TT) : TT := fun σ H Q => t σ H fun c H1 => Q (!c) H1
theorem Yu (ha : PT X a tA) : PW X (.BoolOp .And [a] pos) tA := by
 intro wh pins s σ H Q I h
 refine isTrue_and (thn (ha pins s σ H Q I h) fun c s1 e => ?_)
 cases c with
 | true => exact isTrue_and_nil e
 | false => exact e
theorem Ja (ha : PT X a tA) : PW X (.BoolOp .Or [a] pos) tA := by
 intro wh pins s σ H Q I h
 refine isTrue_or (thn (ha pins s σ H Q I h) fun c s1 e => ?_)
 cases c with
 | false => exact isTrue_or_nil e
 | true => exact e
theorem Zi (ha : PT X a tA) (hb : PW X (.BoolOp .And (b :: rest) pos) tB') : PW X (.BoolOp .And (a :: b :: rest) pos) (tAnd tA tB') := by
 intro wh pins s σ H Q I h
 refine isTrue_and (thn (ha pins s σ H _ I h) fun c s1 hqP => ?_)
 obtain ⟨H1, I1, q1⟩ := hqP
 cases c with
 | true => exact hb wh pins s1 σ H1 Q I1 q1
 | false => exact ⟨H1, I1, q1⟩
theorem Jb (ha : PT X a tA) (hb : PW X (.BoolOp .Or (b :: rest) pos) tB') : PW X (.BoolOp .Or (a :: b :: rest) pos) (tOr tA tB') := by
 intro wh pins s σ H Q I h
 refine isTrue_or (thn (ha pins s σ H _ I h) fun c s1 hqP => ?_)
 obtain ⟨H1, I1, q1⟩ := hqP
 cases c with
 | true => exact ⟨H1, I1, q1⟩
 | false => exact hb wh pins s1 σ H1 Q I1 q1
theorem Zj (ha : PT X a tA) : PT X (.UnaryOp .Not a pos) (tNot tA) := by
 intro pins s σ H Q I h
 exact isTrue_not (ha pins s σ H (fun c H1 => Q (!c) H1) I h)
def tAndV (ta tb : TE) : TE := fun σ H Q => ta σ H fun x H1 => ∃ c, x = .bl c ∧ if c = true then tb σ H1 Q else Q (.bl false) H1
def tOrV (ta tb : TE) : TE := fun σ H Q => ta σ H fun x H1 => ∃ c, x = .bl c ∧ if c = true then Q (.bl true) H1 else tb σ H1 Q
def tNotV (ta : TE) : TE := fun σ H Q => ta σ H fun x H1 => ∃ c, x = .bl c ∧ Q (.bl (!c)) H1
theorem Zd {op} {t : TE} (h : PE X a t) : PE X (.BoolOp op [a] pos) t := fun pins s σ H Q I hw => BoolOp_one (h pins s σ H Q I hw)
theorem Yo (ha : PE X a ta) (hb : PE X (.BoolOp .And (b :: rest) pos) tb) : PE X (.BoolOp .And (a :: b :: rest) pos) (tAndV ta tb) := by
 intro pins s σ H Q I h
 refine BoolOp_and (thn (ha pins s σ H _ I h) fun v s1 hqP => ?_)
 obtain ⟨x, H1, I1, r1, q1⟩ := hqP
 obtain ⟨c, rfl, q1⟩ := q1
 cases r1
 refine wpAny_truthy_bool ?_
 cases c with
 | true => exact hb pins s1 σ H1 Q I1 q1
 | false => exact ⟨.bl false, H1, I1, rfl, q1⟩
theorem pe_or (ha : PE X a ta) (hb : PE X (.BoolOp .Or (b :: rest) pos) tb) : PE X (.BoolOp .Or (a :: b :: rest) pos) (tOrV ta tb) := by
 intro pins s σ H Q I h
 refine BoolOp_or (thn (ha pins s σ H _ I h) fun v s1 hqP => ?_)
 obtain ⟨x, H1, I1, r1, q1⟩ := hqP
 obtain ⟨c, rfl, q1⟩ := q1
 cases r1
 refine wpAny_truthy_bool ?_
 cases c with
 | false => exact hb pins s1 σ H1 Q I1 q1
 | true => exact ⟨.bl true, H1, I1, rfl, q1⟩
theorem Qmz (ha : PE X a ta) : PE X (.UnaryOp .Not a pos) (tNotV ta) := by
 intro pins s σ H Q I h
 refine UnaryOp_ (thn (ha pins s σ H _ I h) fun v s1 hqP => ?_)
 obtain ⟨x, H1, I1, r1, q1⟩ := hqP
 obtain ⟨c, rfl, q1⟩ := q1
 cases r1
 exact not_of (wpAny_truthy_bool ⟨.bl (!c), H1, I1, rfl, q1⟩)
def tIf (t : TT) (ta tb : TE) : TE := fun σ H Q => t σ H fun c H1 => if c = true then ta σ H1 Q else tb σ H1 Q
theorem Qla {c : Expr} (hc : PT X c tA) (ha : PE X a ta) (hb : PE X b tb) : PE X (.IfExp c a b pos) (tIf tA ta tb) := by
 intro pins s σ H Q I h
 refine wpAny_IfExp (thn (hc pins s σ H _ I h) fun d s1 hqP => ?_)
 obtain ⟨H1, I1, q1⟩ := hqP
 cases d with
 | true => exact ha pins s1 σ H1 Q I1 q1
 | false => exact hb pins s1 σ H1 Q I1 q1
end
def SqL (K : Fg) (H : Hp) (a : Addr) (xs : List V) : Prop :=
 Rd H a (.lst xs) ∨
  ∃ (o : Obj) (its : Array Value) (n : Nat), K.lookup a = some o ∧ o.cls = .type "list" ∧ o.dict = none ∧ o.data = .seq its n ∧ its.size ≤ sizeLine ∧ Vals xs its.toList
def SqT (K : Fg) (H : Hp) (a : Addr) (xs : List V) : Prop :=
 Rd H a (.tup xs) ∨
  ∃ (o : Obj) (its : Array Value) (n : Nat), K.lookup a = some o ∧ o.cls = .type "tuple" ∧ o.data = .seq its n ∧ its.size ≤ sizeLine ∧ Vals xs its.toList
def absV : Value → Option V
 | .none => some .non
 | .bool b => some (.bl b)
 | .int i _ => some (.int i)
 | .str x _ => some (.str x)
 | .bytes b _ => some (.byt b)
 | .float b _ => some (.flt b)
 | .ref a => some (.ref a)
 | .type n => some (.ty n)
 | _ => none
theorem RelV.abs {x : V} {u : Value} (r : RelV x u) : absV u = some x := by
 cases x with
 | non => cases r; rfl
 | bl _ => cases r; rfl
 | int _ => obtain ⟨t, rfl⟩ := r; rfl
 | str _ => obtain ⟨t, rfl⟩ := r; rfl
 | byt _ => obtain ⟨t, rfl⟩ := r; rfl
 | flt _ => obtain ⟨t, rfl⟩ := r; rfl
 | ref _ => cases r; rfl
 | ty _ => cases r; rfl
theorem RelV.inj {x y : V} {u : Value} (r : RelV x u) (q : RelV y u) : x = y := Option.some.inj (r.abs.symm.trans q.abs)
theorem Vals.inj {xs ys : List V} {us : List Value} (h : Vals xs us) (g : Vals ys us) : xs = ys := by
 induction h generalizing ys with
 | nil => cases g; rfl
 | cons r t ih =>
  cases g with
  | cons r' t' => rw [r.inj r', ih t']
section
variable {X : Cx} {pins : List (Addr × Obj)} {σ : St} {H : Hp} {s : Shared} {a : Addr} {xs ys : List V}
theorem Inv.list (I : Inv X pins σ H s) (h : SqL X.K H a xs) : ∃ its : List Value, Vals xs its ∧ PlainL s.heap a its.toArray ∧ xs.length ≤ sizeLine := by
 rcases h with h | ⟨o, its, n, hk, hc, hd, hs, hz, r⟩
 ·obtain ⟨z, its, n, r, e⟩ := h.ok I.hok
  exact ⟨its, r, ⟨_, n, e, rfl, rfl, rfl⟩, z⟩
 ·refine ⟨its.toList, r, ⟨o, n, I.kIn a o hk, hc, hd, by simpa using hs⟩, ?_⟩
  have e := r.length
  simp only [wZ] at e
  omega
theorem Inv.tuple (I : Inv X pins σ H s) (h : SqT X.K H a xs) : ∃ its : List Value, Vals xs its ∧ IsTup s.heap a its.toArray ∧ xs.length ≤ sizeLine := by
 rcases h with h | ⟨o, its, n, hk, hc, hs, hz, r⟩
 ·obtain ⟨z, its, r, p⟩ := h.ok I.hok
  exact ⟨its, r, p, z⟩
 ·refine ⟨its.toList, r, ⟨o, I.kIn a o hk, hc, n, by simpa using hs⟩, ?_⟩
  have e := r.length
  simp only [wZ] at e
  omega
theorem Inv.list_inj (I : Inv X pins σ H s) (h : SqL X.K H a xs) (h' : SqL X.K H a ys) : xs = ys := by
 obtain ⟨its, r, ⟨o, n, e, _, _, d⟩, _⟩ := I.list h
 obtain ⟨its', r', ⟨o', n', e', _, _, d'⟩, _⟩ := I.list h'
 rw [e] at e'; cases e'
 rw [d] at d'
 injection d' with d1 _
 have : its = its' := by simpa using congrArg Array.toList d1
 subst this
 exact r.inj r'
theorem Inv.tuple_inj (I : Inv X pins σ H s) (h : SqT X.K H a xs) (h' : SqT X.K H a ys) : xs = ys := by
 obtain ⟨its, r, ⟨o, e, _, n, d⟩, _⟩ := I.tuple h
 obtain ⟨its', r', ⟨o', e', _, n', d'⟩, _⟩ := I.tuple h'
 rw [e] at e'; cases e'
 rw [d] at d'
 injection d' with d1 _
 have : its = its' := by simpa using congrArg Array.toList d1
 subst this
 exact r.inj r'
end
abbrev Cx.wish (X : Cx) (E : Value → Shared → Prop) : Cx := { X with xe := E }
abbrev Cx.nox (X : Cx) : Cx := X.wish fun _ _ => False
theorem Cx.Ok.wish {X : Cx} (ok : X.Ok) (E : Value → Shared → Prop) : (X.wish E).Ok :=
 ⟨ok.mod, ok.kind, ok.glob, ok.blt, ok.above, ok.inj, ok.has, ok.cab, ok.hd, ok.frames, ok.stk, ok.exf, ok.bs, ok.bsz, ok.noex, ok.exfs, ok.funs, ok.frf⟩
theorem Cx.Ok.unwish {X : Cx} {E : Value → Shared → Prop} (ok : (X.wish E).Ok) : X.Ok :=
 ⟨ok.mod, ok.kind, ok.glob, ok.blt, ok.above, ok.inj, ok.has, ok.cab, ok.hd, ok.frames, ok.stk, ok.exf, ok.bs, ok.bsz, ok.noex, ok.exfs, ok.funs, ok.frf⟩
section
variable {X : Cx} {pins : List (Addr × Obj)} {σ : St} {H : Hp} {s : Shared} {E : Value → Shared → Prop}
theorem Inv.wish (I : Inv X pins σ H s) (E : Value → Shared → Prop) : Inv (X.wish E) pins σ H s := ⟨I.ok.wish E, I.os, I.bare, I.base, I.loc, I.cell, I.free, I.freeC, I.pin, I.hok, I.len⟩
theorem Inv.unwish (I : Inv (X.wish E) pins σ H s) : Inv X pins σ H s := ⟨I.ok.unwish, I.os, I.bare, I.base, I.loc, I.cell, I.free, I.freeC, I.pin, I.hok, I.len⟩
theorem SP.unwish {D : Ends} {f : Flow} {s' : Shared} (h : SP (X.wish E) pins D f s') : SP X pins D f s' := by
 cases f with
 | next => obtain ⟨σ', H', I, q⟩ := h; exact ⟨σ', H', I.unwish, q⟩
 | brk => obtain ⟨σ', H', I, q⟩ := h; exact ⟨σ', H', I.unwish, q⟩
 | cont => obtain ⟨σ', H', I, q⟩ := h; exact ⟨σ', H', I.unwish, q⟩
 | ret u => obtain ⟨v, σ', H', I, r, q⟩ := h; exact ⟨v, σ', H', I.unwish, r, q⟩
theorem PSs.nox {st : List Stmt} {t : TS} (h : PSs X.nox st t) : PSs X st t := fun pins s σ H D I hw =>
 wpAny_mono (h pins s σ H D (I.wish _) hw) (fun _ _ q => q.unwish) fun _ _ z => False.elim z
end
section
variable {X : Cx} {st : Stmt} {rest : List Stmt} {t u : TS} {e : Expr} {te : TE} {pos : Pos}
def tNext : TS := fun D σ H => D.nx σ H
def tSeq (t u : TS) : TS := fun D σ H => t { D with nx := u D } σ H
theorem Qu : PSs X [] tNext := fun _ _ σ H _ I h => wpAny_execs_nil ⟨σ, H, I, h⟩
theorem Qg (h1 : PS X st t) (h2 : PSs X rest u) : PSs X (st :: rest) (tSeq t u) := by
 intro pins s σ H D I h
 refine wpAny_execs_cons (thn (h1 pins s σ H { D with nx := u D } I h) fun f s1 q => ?_)
 cases f with
 | next =>
  obtain ⟨σ', H', I', q⟩ := q
  exact h2 pins s1 σ' H' D I' q
 | ret v => exact q
 | brk => exact q
 | cont => exact q
theorem Qi (h1 : PS X st t) : PSs X [st] t := by
 intro pins s σ H D I h
 refine wpAny_execs_cons (thn (h1 pins s σ H D I h) fun f s1 q => ?_)
 cases f with
 | next => exact wpAny_execs_nil q
 | ret v => exact q
 | brk => exact q
 | cont => exact q
theorem Inv.quiet {pins : List (Addr × Obj)} {σ : St} {H : Hp} {s : Shared} (I : Inv X pins σ H s) : interactive X.env = false := by simp [interactive, I.ok.kind]
def tDrop (te : TE) : TS := fun D σ H => te σ H fun _ H1 => D.nx σ H1
theorem Yp (he : PE X e te) (hs : autoParam (swapsWith e none pos.line X.env = pure false) L2.aRfl._auto_1) : PS X (.Expr e pos) (tDrop te) := by
 intro pins s σ H D I h
 exact wpAny_Expr_any (thn (he pins s σ H _ I h) fun v s1 ⟨x, H1, I1, r1, q1⟩ => ⟨σ, H1, I1, q1⟩) I.quiet hs
def tRet (te : TE) : TS := fun D σ H => te σ H D.rt
theorem Qv (he : PE X e te) : PS X (.Return (some e) pos) (tRet te) := by
 intro pins s σ H D I h
 exact wpAny_Return_some (thn (he pins s σ H _ I h) fun v s1 ⟨x, H1, I1, r1, q1⟩ => ⟨x, σ, H1, I1, r1, q1⟩)
def tIfS (c : TT) (t u : TS) : TS := fun D σ H => c σ H fun b H1 => if b = true then t D σ H1 else u D σ H1
theorem Xi {c : Expr} {a b : List Stmt} {tc : TT} (hc : PT X c tc) (ha : PSs X a t) (hb : PSs X b u) : PS X (.If c a b pos) (tIfS tc t u) := by
 intro pins s σ H D I h
 refine wpAny_If (thn (hc pins s σ H _ I h) fun d s1 hqP => ?_)
 obtain ⟨H1, I1, q1⟩ := hqP
 cases d with
 | true => exact ha pins s1 σ H1 D I1 q1
 | false => exact hb pins s1 σ H1 D I1 q1
end
abbrev TG := V → St → Hp → (St → Hp → Prop) → Prop
abbrev TGs := List V → St → Hp → (St → Hp → Prop) → Prop
def PG (X : Cx) (target : Expr) (t : TG) : Prop :=
 ∀ (pins : List (Addr × Obj)) (s : Shared) (σ : St) (H : Hp) (v : V) (u : Value) (Q : St → Hp → Prop), Inv X pins σ H s → RelV v u → t v σ H Q →
  wpAny (model X.prog X.w) X.A (assign target X.env u) (fun _ s' => ∃ σ' H', Inv X pins σ' H' s' ∧ Q σ' H') X.xe s
def PGs (X : Cx) (ts : List Expr) (t : TGs) : Prop :=
 ∀ (pins : List (Addr × Obj)) (s : Shared) (σ : St) (H : Hp) (vs : List V) (us : List Value) (Q : St → Hp → Prop), Inv X pins σ H s → Vals vs us → t vs σ H Q →
  wpAny (model X.prog X.w) X.A (assignInOrder ((assignEach ts X.env).map (·.2)) us) (fun _ s' => ∃ σ' H', Inv X pins σ' H' s' ∧ Q σ' H') X.xe s
abbrev TSet := V → V → V → Hp → (Hp → Prop) → Prop
def PSet (X : Cx) (t : TSet) : Prop :=
 ∀ (pins : List (Addr × Obj)) (s : Shared) (σ : St) (H : Hp) (o i v : V) (ov iv u : Value) (Q : Hp → Prop), Inv X pins σ H s → RelV o ov → RelV i iv → RelV v u → t o i v H Q →
  wpAny (model X.prog X.w) X.A (setItem ov iv u) (fun _ s' => ∃ H', Inv X pins σ H' s' ∧ Q H') X.xe s
section
variable {X : Cx} {pos : Pos}
def Wr (i : Nat) : TG := fun v σ H Q => Q (σ.set i (some v)) H
theorem Xf {i : Nat} {x : Str} (hN : X.N.Nodup) (hi : X.N[i]? = some x) (hx : Loc X.env.scope x) (hf : autoParam (X.fn x = true ∨ X.env.scope.names.lookup x = some .local) L2.aFst._auto_1) : PG X (.Name x pos) (Wr i) := by
 intro pins s σ H v u Q I r h
 exact wpAny_assign_Name (Vc I hN hi hx r (fun s' I' => ⟨_, H, I', h⟩) hf)
def gNil : TGs := fun vs σ H Q => vs = [] ∧ Q σ H
def Qoa (t : TG) (u : TGs) : TGs := fun vs σ H Q => ∃ v r, vs = v :: r ∧ t v σ H fun σ' H' => u r σ' H' Q
theorem Qob : PGs X [] gNil := by
 intro pins s σ H vs us Q I r h
 obtain ⟨e, h⟩ := h
 subst e
 cases r
 exact assignInOrder_nil ⟨σ, H, I, h⟩
theorem Qeg {e : Expr} {es : List Expr} {t : TG} {u : TGs} (h1 : PG X e t) (h2 : PGs X es u)
  (hs : autoParam ((assignEach (e :: es) X.env).map (·.2) = assign e X.env :: (assignEach es X.env).map (·.2)) L2.aRfl._auto_1) : PGs X (e :: es) (Qoa t u) := by
 intro pins s σ H vs us Q I r h
 obtain ⟨v, vr, e1, h⟩ := h
 subst e1
 cases r with
 | cons r rr =>
  rw [hs]
  refine assignInOrder_cons (thn (h1 pins s σ H _ _ _ I r h) fun _ s1 hqP => ?_)
  obtain ⟨σ1, H1, I1, q1⟩ := hqP
  exact h2 pins s1 σ1 H1 _ _ Q I1 rr q1
def gTup (K : Fg) (n : Nat) (t : TGs) : TG := fun v σ H Q => ∃ a xs, v = .ref a ∧ SqT K H a xs ∧ xs.length = n ∧ t xs σ H Q
theorem pg_tup {es : List Expr} {k : Nat} {t : TGs} {n : Nat} (hc : X.calm = true) (h : PGs X es t)
  (hn : autoParam ((assignEach es X.env).length = n) L2.aRfl._auto_1) (hst : autoParam ((assignEach es X.env).findIdx? (·.1) = none) L2.aRfl._auto_1) : PG X (.Tuple es k pos) (gTup X.K n t) := by
 intro pins s σ H v u Q I r hw
 obtain ⟨a, xs, e1, hq, hl, hw⟩ := hw
 subst e1
 cases r
 obtain ⟨its, rv, ht, hz⟩ := I.tuple hq
 refine assign_Tuple_tuple (I.ok.hd hc) ht (by simp [hn, ← hl, rv.length]) hst fun h' hx => ?_
 have I1 : Inv X pins σ H { s with heap := h' } := I.kept (t' := s.toks) fun b o e => hx b o (zQ (kJ e)) e
 exact h pins _ σ H xs _ Q I1 (by simpa using rv) hw
def gSub (to ti : TE) (t : TSet) : TG := fun v σ H Q => to σ H fun o H1 => ti σ H1 fun i H2 => t o i v H2 fun H3 => Q σ H3
theorem Qhi {o i : Expr} {to ti : TE} {t : TSet} (ho : PE X o to) (hi : PE X i ti) (hs : PSet X t)
  (ha : ∀ v, assign (.Subscript o i pos) X.env v = (do
   let ov ← holding [v] (eval o X.env)
   let iv ← holding [v, ov] (eval i X.env)
   standAt pos
   holding [v, ov, iv] (setItem ov iv v)
   release [v, ov, iv] []) := by intro _; rfl) : PG X (.Subscript o i pos) (gSub to ti t) := by
 intro pins s σ H v u Q I r h
 rw [ha]
 refine jX (wpAny_holding (thn (ho pins s σ H _ I h) fun ov s1 hqP => ?_))
 obtain ⟨x, H1, I1, r1, q1⟩ := hqP
 refine jX (wpAny_holding (thn (hi pins s1 σ H1 _ I1 q1) fun iv s2 hqP => ?_))
 obtain ⟨y, H2, I2, r2, q2⟩ := hqP
 refine jX (wpAny_standAt (jX (wpAny_holding (thn (hs pins s2 σ H2 x y v ov iv u _ I2 r1 r2 r q2) fun _ s3 hqP => ?_))))
 obtain ⟨H3, I3, q3⟩ := hqP
 exact wpAny_release ⟨σ, H3, I3, q3⟩
def tAsg (te : TE) (g : TG) : TS := fun D σ H => te σ H fun x H1 => g x σ H1 D.nx
theorem Qhj {tg e : Expr} {te : TE} {g : TG} (he : PE X e te) (hg : PG X tg g) (hs : autoParam (swapsWithSole [tg] e pos.line X.env = pure false) L2.aRfl._auto_1) (hw : autoParam (swappedStores [tg] e X.env = pure none) L2.aRfl._auto_1)
  (h1 : autoParam ((assignEach [tg] X.env).map (·.2) = [assign tg X.env]) L2.aRfl._auto_1) : PS X (.Assign [tg] e pos) (tAsg te g) := by
 intro pins s σ H D I h
 refine wpAny_Assign_stores (thn (he pins s σ H _ I h) fun v s1 hqP => ?_) hs hw
 obtain ⟨x, H1, I1, r1, q1⟩ := hqP
 rw [h1]
 exact thn (hg pins s1 σ H1 x v _ I1 r1 q1) fun _ s2 q => q
theorem Qs {i : Nat} {x : Str} {e : Expr} {te : TE} {pos' : Pos} (hN : X.N.Nodup) (hi : X.N[i]? = some x) (hx : Loc X.env.scope x) (he : PE X e te) (hs : autoParam (swapsWith e (some (.Name x pos')) pos.line X.env = pure false) L2.aRfl._auto_1) (hf : autoParam (X.fn x = true ∨ X.env.scope.names.lookup x = some .local) L2.aFst._auto_1) :
  PS X (.Assign [.Name x pos'] e pos) (tAsg te (Wr i)) := by
 intro pins s σ H D I h
 refine wpAny_Assign_Name (thn (he pins s σ H _ I h) fun v s1 hqP => ?_) hs
 obtain ⟨y, H1, I1, r1, q1⟩ := hqP
 exact Vc I1 hN hi hx r1 (fun s2 I2 => ⟨_, H1, I2, q1⟩) hf
end
section
variable {X : Cx} {pos : Pos}
end
set_option genInjectivity false in
set_option genInjectivity false in
structure It where
 go : Nat → Hp → Prop
 yld : Nat → Hp → V → Hp → Prop
 stop : Nat → Hp → Prop
def FpOk (X : Cx) (pins : List (Addr × Obj)) (H : Hp) (b : Addr) : Prop :=
 H b = none ∧ b ≠ X.env.locals ∧ b ∉ X.fs ∧ (b ∈ X.ex ∨ X.s₀.heap.objs.size ≤ b) ∧ (∀ x c, X.env.cells.lookup x = some c → c ≠ b) ∧ ∀ p ∈ X.pn ++ pins, p.1 ≠ b
theorem Inv.fpOk {X : Cx} {pins : List (Addr × Obj)} {σ : St} {H H' : Hp} {s : Shared} {b : Addr} (I : Inv X pins σ H s) (hb : s.heap.objs.size ≤ b) (hn : H' b = none) : FpOk X pins H' b := by
 refine ⟨hn, jKb (yW I.lt hb), I.nofs hb, .inr (xW I.sz hb), fun x c e z => ?_, fun p hp z => ?_⟩
 ·obtain ⟨v, q⟩ := I.cell x c e
  exact absurd (yW q.lt (by rw [z]; exact hb)) (jQf _)
 ·exact absurd (yW (kJ (I.pin p hp).1) (by rw [z]; exact hb)) (jQf _)
structure Turn (P : Program) (w : World) (K : Fg) (tg : Expr) (J : It) (fp : List Addr) (it : Addr) (tn : Nat → Heap → Prop) : Prop where
 mem : it ∈ fp
 obj : ∀ i h, tn i h → ∀ b ∈ fp, ∃ o, h.get? b = some o ∧ ∀ v, o.data ≠ .cell v
 keep : ∀ i h h', tn i h → (∀ b ∈ fp, ∀ o, h.get? b = some o → h'.get? b = some o) → tn i h'
 item : ∀ (X : Cx), X.prog = P → X.w = w → X.K = K → X.calm = true → ∀ (i : Nat) (pins : List (Addr × Obj)) (s : Shared) (σ : St) (H : Hp) (E : Value → Shared → Prop), Inv X pins σ H s → (∀ b ∈ fp, FpOk X pins H b) → tn i s.heap → J.go i H →
  wpAny (model P w) X.A (pyNext (.ref it)) (fun r s1 => ∃ u, r = some u ∧
   wpAny (model P w) X.A (letOwnedTupleGo tg (.ref it) u) (fun _ s2 => ∃ x H', Inv X pins σ H' s2 ∧ RelV x u ∧ J.yld i H x H' ∧ tn (i + 1) s2.heap ∧ ∀ b ∈ fp, H' b = none) E s1) E s
 done : ∀ (X : Cx), X.prog = P → X.w = w → X.K = K → X.calm = true → ∀ (i : Nat) (pins : List (Addr × Obj)) (s : Shared) (σ : St) (H : Hp) (E : Value → Shared → Prop), Inv X pins σ H s → (∀ b ∈ fp, FpOk X pins H b) → tn i s.heap → J.stop i H →
  wpAny (model P w) X.A (pyNext (.ref it)) (fun r s1 => r = none ∧ Inv X pins σ H s1) E s
 self : ∀ (A : Around) (i : Nat) (s : Shared) (Q : Value → Shared → Prop) (E : Value → Shared → Prop), tn i s.heap → Q (.ref it) s → wpAny (model P w) A (pyIter (.ref it)) Q E s
abbrev TI := St → Hp → (It → Hp → Prop) → Prop
def PIE (X : Cx) (pins : List (Addr × Obj)) (σ : St) (tg : Expr) (R : It → Hp → Prop) (itv : Value) (s2 : Shared) : Prop :=
 ∃ (it : Addr) (fp : List Addr) (tn : Nat → Heap → Prop) (J : It) (H' : Hp), itv = .ref it ∧ Inv X pins σ H' s2 ∧ Turn X.prog X.w X.K tg J fp it tn ∧ tn 0 s2.heap ∧ (∀ b ∈ fp, FpOk X pins H' b) ∧ R J H'
def PI (X : Cx) (tg iter : Expr) (wi : TI) : Prop :=
 ∀ (pins : List (Addr × Obj)) (s : Shared) (σ : St) (H : Hp) (R : It → Hp → Prop), Inv X pins σ H s → wi σ H R →
  wpAny (model X.prog X.w) X.A (eval iter X.env) (fun v s1 => wpAny (model X.prog X.w) X.A (pyIter v) (PIE X pins σ tg R) X.xe s1) X.xe s
theorem Qlb {M : Model} {A : Around} {E : Value → Shared → Prop} {s : Shared} {tg : Expr} {it : Addr} {u : Value} {o : Obj} {n : String} {vs : Array Value} {Q : Unit → Shared → Prop} (ho : s.heap.get? it = some o) (hc : o.cls = .type n) (hd : o.data = .fields vs)
    (hn : ["enumerate", "zip", "dict_itemiterator", "dict_reverseitemiterator", "odict_iterator", "itertools.zip_longest", "itertools.pairwise"].contains n = false) (hQ : Q () s) : wpAny M A (letOwnedTupleGo tg (.ref it) u) Q E s := by
  unfold letOwnedTupleGo
  cases tg <;> first
    | exact kW hQ
    | (cases u <;> first
        | exact kW hQ
        | (refine jX (wpAny_load ho ?_)
           rw [hc, hd]
           show wpAny M A (if (["enumerate", "zip", "dict_itemiterator", "dict_reverseitemiterator", "odict_iterator", "itertools.zip_longest", "itertools.pairwise"].contains n && vs[0]? == some (rawInt _)) = true then _ else _) Q E s
           rw [if_neg (by intro h; rw [hn, jKc] at h; cases h)]
           exact kW hQ))
def Itl (K : Fg) (a : Addr) : It :=
 ⟨fun i H => ∃ xs x, SqL K H a xs ∧ xs[i]? = some x, fun i H x H' => H' = H ∧ ∀ xs, SqL K H a xs → xs[i]? = some x, fun i H => ∃ xs, SqL K H a xs ∧ xs.length ≤ i⟩
def Itt (K : Fg) (a : Addr) : It :=
 ⟨fun i H => ∃ xs x, SqT K H a xs ∧ xs[i]? = some x, fun i H x H' => H' = H ∧ ∀ xs, SqT K H a xs → xs[i]? = some x, fun i H => ∃ xs, SqT K H a xs ∧ xs.length ≤ i⟩
def Itr (lo : Int) (n : Nat) : It := ⟨fun i _ => i < n, fun i H x H' => H' = H ∧ x = .int (lo + i), fun i _ => n ≤ i⟩
theorem Qhk {P : Program} {w : World} {K : Fg} {tg : Expr} (a it : Addr) : Turn P w K tg (Itl K a) [it] it (fun i h => h.IsListIter it a i) where
 mem := by simp
 obj := fun i h st b hb => by
  have e : b = it := by simpa using hb
  subst e
  obtain ⟨o, e, c, d⟩ := st
  exact ⟨o, e, fun v z => by rw [d] at z; cases z⟩
 keep := fun i h h' st k => st.at fun o e => k it (by simp) o e
 item := by
  intro X hP hw hK hc i pins s σ H E I hf st hg
  subst hP hw hK
  obtain ⟨xs, x, hq, hx⟩ := hg
  obtain ⟨its, rv, p, hz⟩ := I.list hq
  obtain ⟨u, hu, ru⟩ := rv.get hx
  obtain ⟨f0, f1, f2, f3, f4, f5⟩ := hf it (by simp)
  refine wpAny_pyNext_list_item st p.isList (x := u) (by simpa using hu) fun h' st' sb => ?_
  have I1 : Inv X pins σ H { s with heap := h' } := I.turned (t' := s.toks) (fun b o hb e => (sb.2 b hb).trans e) f0 f1 f3 f4 f5
  obtain ⟨o, e, c, d⟩ := id st'
  exact ⟨u, rfl, Qlb (s := { s with heap := h' }) e c d (by decide) ⟨x, H, I1, ru, ⟨rfl, fun ys hy => by rw [I.list_inj hy hq]; exact hx⟩, st', fun b hb => (hf b hb).1⟩⟩
 done := by
  intro X hP hw hK hc i pins s σ H E I hf st hg
  subst hP hw hK
  obtain ⟨xs, hq, hx⟩ := hg
  obtain ⟨its, rv, p, hz⟩ := I.list hq
  obtain ⟨f0, f1, f2, f3, f4, f5⟩ := hf it (by simp)
  have hl := rv.length
  exact wpAny_pyNext_list_end (I.ok.hd hc) st p.isList (by simp; omega) fun h' eb => ⟨rfl, I.turned (t' := s.toks) (fun b o hb e => eb b o hb e) f0 f1 f3 f4 f5⟩
 self := fun _ _ _ _ _ st h => wpAny_pyIter_listiter st h
theorem Qfx {P : Program} {w : World} {K : Fg} {tg : Expr} (a it : Addr) : Turn P w K tg (Itt K a) [it] it (fun i h => h.IsTupleIter it a i) where
 mem := by simp
 obj := fun i h st b hb => by
  have e : b = it := by simpa using hb
  subst e
  obtain ⟨o, e, c, d⟩ := st
  exact ⟨o, e, fun v z => by rw [d] at z; cases z⟩
 keep := fun i h h' st k => st.at fun o e => k it (by simp) o e
 item := by
  intro X hP hw hK hc i pins s σ H E I hf st hg
  subst hP hw hK
  obtain ⟨xs, x, hq, hx⟩ := hg
  obtain ⟨its, rv, p, hz⟩ := I.tuple hq
  obtain ⟨u, hu, ru⟩ := rv.get hx
  obtain ⟨f0, f1, f2, f3, f4, f5⟩ := hf it (by simp)
  refine wpAny_pyNext_tuple_item st (show s.heap.IsTuple a its.toArray from p) (x := u) (by simpa using hu) fun h' st' sb => ?_
  have I1 : Inv X pins σ H { s with heap := h' } := I.turned (t' := s.toks) (fun b o hb e => (sb.2 b hb).trans e) f0 f1 f3 f4 f5
  obtain ⟨o, e, c, d⟩ := id st'
  exact ⟨u, rfl, Qlb (s := { s with heap := h' }) e c d (by decide) ⟨x, H, I1, ru, ⟨rfl, fun ys hy => by rw [I.tuple_inj hy hq]; exact hx⟩, st', fun b hb => (hf b hb).1⟩⟩
 done := by
  intro X hP hw hK hc i pins s σ H E I hf st hg
  subst hP hw hK
  obtain ⟨xs, hq, hx⟩ := hg
  obtain ⟨its, rv, p, hz⟩ := I.tuple hq
  obtain ⟨f0, f1, f2, f3, f4, f5⟩ := hf it (by simp)
  have hl := rv.length
  exact wpAny_pyNext_tuple_end (I.ok.hd hc) st (show s.heap.IsTuple a its.toArray from p) (by simp; omega) fun h' eb => ⟨rfl, I.turned (t' := s.toks) (fun b o hb e => eb b o hb e) f0 f1 f3 f4 f5⟩
 self := fun _ _ _ _ _ st h => wpAny_pyIter_tupleiter st h
theorem Qfy {P : Program} {w : World} {K : Fg} {tg : Expr} (it : Addr) (lo : Int) (n : Nat) : Turn P w K tg (Itr lo n) [it] it (fun i h => IsRangeIter h it (lo + (i : Nat) * 1) ((n : Int) - (i : Nat)) 1) where
 mem := by simp
 obj := fun i h st b hb => by
  have e : b = it := by simpa using hb
  subst e
  exact ⟨_, st, fun v z => by
   have z' : Data.fields _ = Data.cell v := z
   cases z'⟩
 keep := fun i h h' st k => k it (by simp) _ st
 item := by
  intro X hP hw hK hc i pins s σ H E I hf st hg
  subst hP hw hK
  obtain ⟨f0, f1, f2, f3, f4, f5⟩ := hf it (by simp)
  have W := Walks.range (prog := X.prog) (w := X.w) (I.ok.hd hc) it lo 1 n
  refine W.item i s _ _ hg st fun v h' tk hv st' kk => ?_
  obtain ⟨t, rfl⟩ := hv
  have I1 : Inv X pins σ H { s with heap := h', toks := tk } := I.turned (fun b o hb e => kk b o (by simpa using hb) e) f0 f1 f3 f4 f5
  refine ⟨_, rfl, Qlb (s := { s with heap := h', toks := tk }) (n := "range_iterator") st' rfl rfl (by decide) ⟨.int (lo + i), H, I1, ⟨t, ?_⟩, ⟨rfl, rfl⟩, st', fun b hb => (hf b hb).1⟩⟩
  rw [Int.mul_one]
 done := by
  intro X hP hw hK hc i pins s σ H E I hf st hg
  subst hP hw hK
  obtain ⟨f0, f1, f2, f3, f4, f5⟩ := hf it (by simp)
  exact wpAny_pyNext_range_end (I.ok.hd hc) st (by have : n ≤ i := hg; omega) fun h' eb => ⟨rfl, I.turned (t' := s.toks) (fun b o hb e => eb b o hb e) f0 f1 f3 f4 f5⟩
 self := fun _ _ _ _ _ st h => wpAny_pyIter_rangeiter st h
section
variable {X : Cx} {tg : Expr}
def iList (K : Fg) (tl : TE) : TI := fun σ H R => tl σ H fun x H1 => ∃ a, x = .ref a ∧ (∃ xs, SqL K H1 a xs) ∧ R (Itl K a) H1
def iTup (K : Fg) (tl : TE) : TI := fun σ H R => tl σ H fun x H1 => ∃ a, x = .ref a ∧ (∃ xs, SqT K H1 a xs) ∧ R (Itt K a) H1
theorem Yv {l : Expr} {tl : TE} (hl : PE X l tl) : PI X tg l (iList X.K tl) := by
 intro pins s σ H R I h
 refine thn (hl pins s σ H _ I h) fun v s1 hqP => ?_
 obtain ⟨x, H1, I1, r1, q1⟩ := hqP
 obtain ⟨a, e, ⟨xs, hq⟩, q⟩ := q1
 subst e
 cases r1
 obtain ⟨its, rv, p, hz⟩ := I1.list hq
 refine wpAny_pyIter_list p.isList ?_
 refine ⟨s1.heap.objs.size, [s1.heap.objs.size], _, _, H1, rfl, I1.kept (t' := s1.toks) fun b o e => jK _ e, Qhk a _, ⟨_, yV _ rfl, rfl, rfl⟩, fun b hb => ?_, q⟩
 have e : b = s1.heap.objs.size := by simpa using hb
 subst e
 exact I1.fpOk (kK _) (I1.hok.fresh (kK _))
theorem Qna {l : Expr} {tl : TE} (hl : PE X l tl) : PI X tg l (iTup X.K tl) := by
 intro pins s σ H R I h
 refine thn (hl pins s σ H _ I h) fun v s1 hqP => ?_
 obtain ⟨x, H1, I1, r1, q1⟩ := hqP
 obtain ⟨a, e, ⟨xs, hq⟩, q⟩ := q1
 subst e
 cases r1
 obtain ⟨its, rv, p, hz⟩ := I1.tuple hq
 refine wpAny_pyIter_tuple (show s1.heap.IsTuple a its.toArray from p) ?_
 refine ⟨s1.heap.objs.size, [s1.heap.objs.size], _, _, H1, rfl, I1.kept (t' := s1.toks) fun b o e => jK _ e, Qfx a _, ⟨_, yV _ rfl, rfl, rfl⟩, fun b hb => ?_, q⟩
 have e : b = s1.heap.objs.size := by simpa using hb
 subst e
 exact I1.fpOk (kK _) (I1.hok.fresh (kK _))
theorem Qlc {pins : List (Addr × Obj)} {σ : St} {H : Hp} {s : Shared} {R : It → Hp → Prop} {E : Value → Shared → Prop} {lo hi : Int} {t u v : Tok} {tk : Nat} (I : Inv X pins σ H s) (h1 : -(2 ^ 62) ≤ lo) (h2 : lo < 2 ^ 62) (h3 : -(2 ^ 62) ≤ hi) (h4 : hi < 2 ^ 62)
  (q : R (Itr lo (hi - lo).toNat) H) : wpAny (model X.prog X.w) X.A (pyIter (.ref s.heap.objs.size)) (PIE X pins σ tg R) E { s with heap := s.heap.push { cls := .type "range", data := .fields #[.int lo t, .int hi u, .int 1 v] }, toks := tk } := by
 refine wpAny_pyIter_range (IsRange.new ..) (small_one h1 h2 h3 h4) ?_
 have I1 : Inv X pins σ H { s with heap := s.heap.push { cls := .type "range", data := .fields #[.int lo t, .int hi u, .int 1 v] }, toks := tk } := I.kept fun b o e => jK _ e
 refine ⟨(s.heap.push { cls := .type "range", data := .fields #[.int lo t, .int hi u, .int 1 v] }).objs.size, [(s.heap.push { cls := .type "range", data := .fields #[.int lo t, .int hi u, .int 1 v] }).objs.size], _, _, H, rfl,
  I1.kept (t' := tk) fun b o e => jK _ e, Qfy _ lo (hi - lo).toNat, ?_, fun b hb => ?_, q⟩
 ·have e1 : lo + ((0 : Nat) : Int) * 1 = lo := by simp
  have e2 : (((hi - lo).toNat : Nat) : Int) - ((0 : Nat) : Int) = Builtin.Range.rangeSize lo hi 1 := by rw [rangeSize_one]; split <;> omega
  show IsRangeIter _ _ (lo + ((0 : Nat) : Int) * 1) ((((hi - lo).toNat : Nat) : Int) - ((0 : Nat) : Int)) 1
  rw [e1, e2]
  exact yV _ rfl
 ·have e : b = (s.heap.push { cls := .type "range", data := .fields #[.int lo t, .int hi u, .int 1 v] }).objs.size := by simpa using hb
  subst e
  exact I1.fpOk (kK _) (I1.hok.fresh (kK _))
def iRng1 (ta : TA) : TI := fun σ H R => ta σ H fun vs H1 => ∃ j : Int, vs = [.int j] ∧ -(2 ^ 62) ≤ j ∧ j < 2 ^ 62 ∧ R (Itr 0 j.toNat) H1
theorem Yf {a : Expr} {ta : TA} {p pos : Pos} (hg : Gl X "range") (hm : X.mg "range" = none) (ha : PA X [a] ta) (hs : autoParam (starEach [a] X.env = [(false, eval a X.env)]) L2.aRfl._auto_1) : PI X tg (.Call (.Name "range" p) [a] [] pos) (iRng1 ta) := by
 intro pins s σ H R I h
 refine Call_ (Wv I hg hm boot_range (PyProof.Rows.callWith_type1 (thn (ha pos pins s σ H _ I h) fun us s1 hqP => ?_) hs rfl))
 obtain ⟨vs, H1, I1, r1, q1⟩ := hqP
 obtain ⟨j, e, q1, q2, q⟩ := q1
 subst e
 cases r1 with
 | cons r rr =>
  cases rr
  obtain ⟨t, rfl⟩ := r
  exact call_range_1 (Qlc I1 (by omega) (by omega) q1 q2 (by simpa using q))
def tFor (wi : TI) (g : TG) (tb : TS) : TS := fun D σ H => wi σ H fun J H1 => ∃ W : Nat → Nat → St → Hp → Prop, (∃ m, W 0 m σ H1) ∧ ∀ i m σ H, W i m σ H →
 (J.stop i H ∧ D.nx σ H) ∨ (J.go i H ∧ ∃ N : St → Hp → Prop, (∀ σ' H', N σ' H' → ∃ m', m' < m ∧ W (i + 1) m' σ' H') ∧ ∀ x H', J.yld i H x H' → g x σ H' fun σ2 H2 => tb { D with nx := N, ct := N, bk := D.nx } σ2 H2)
def Qbq (fp : List Addr) (h : Heap) : List (Addr × Obj) := fp.filterMap fun b => (h.get? b).map fun o => (b, o)
theorem Jh {fp : List Addr} {h : Heap} {b : Addr} {o : Obj} (hb : b ∈ fp) (e : h.get? b = some o) : (b, o) ∈ Qbq fp h := jXc.mpr ⟨b, hb, by rw [e]; rfl⟩
theorem Qhl {fp : List Addr} {h : Heap} {p : Addr × Obj} (hp : p ∈ Qbq fp h) : p.1 ∈ fp ∧ h.get? p.1 = some p.2 := by
 obtain ⟨b, hb, e⟩ := jXc.mp hp
 cases q : h.get? b with
 | none => rw [q] at e; cases e
 | some o =>
  rw [q] at e
  have e' : (b, o) = p := Option.some.inj e
  subst e'
  exact ⟨hb, q⟩
theorem Inv.pinned {pins : List (Addr × Obj)} {σ : St} {H : Hp} {s : Shared} {fp : List Addr} (I : Inv X pins σ H s) (hf : ∀ b ∈ fp, FpOk X pins H b) (ho : ∀ b ∈ fp, ∃ o, s.heap.get? b = some o ∧ ∀ v, o.data ≠ .cell v) : Inv X (pins ++ Qbq fp s.heap) σ H s :=
 I.pins_of fun p hp => (kQ.mp hp).elim (fun z => I.pin p (kZ _ z)) fun z => by
  obtain ⟨hb, e⟩ := Qhl z
  obtain ⟨f0, f1, f2, _⟩ := hf p.1 hb
  obtain ⟨o, e', d⟩ := ho p.1 hb
  rw [e] at e'; cases e'
  exact ⟨e, f0, f1, f2, d⟩
theorem Inv.unpinned {pins pl : List (Addr × Obj)} {σ : St} {H : Hp} {s : Shared} (I : Inv X (pins ++ pl) σ H s) : Inv X pins σ H s := I.pins_of fun p hp => I.pin p (kZ _ (yJ _ hp))
theorem Ze {iter : Expr} {body : List Stmt} {wi : TI} {g : TG} {tb : TS} {pos : Pos} (hp : PassesOwn (model X.prog X.w) X.A X.env X.xe) (hc : X.calm = true) (hi : PI X tg iter wi) (hg : PG X tg g) (hb : PSs X body tb)
  (hs : autoParam (∀ x, foldedSetIterable iter X.env x = pure x) L2.aIrf._auto_1) : PS X (.For tg iter body [] pos) (tFor wi g tb) := by
 intro pins s σ H D I h
 refine wpAny_For (thn (hi pins s σ H _ I h) fun v s1 h1 => thn h1 fun itv s2 h2 => ?_) hs
 obtain ⟨it, fp, tn, J, H2, e, I2, T, st2, f2, W, ⟨m0, w0⟩, turn⟩ := h2
 subst e
 -- what stays true of the iterator's objects through the loop
 have stat : ∀ {H' : Hp}, (∀ b ∈ fp, H' b = none) → ∀ b ∈ fp, FpOk X pins H' b := fun hn b hb => ⟨hn b hb, (f2 b hb).2⟩
 refine codeAny_forLoop_any (fun n s' => ∃ i σ' H', Inv X pins σ' H' s' ∧ tn i s'.heap ∧ (∀ b ∈ fp, H' b = none) ∧ W i n σ' H') ?_ m0 ⟨0, σ, H2, I2, st2, fun b hb => (f2 b hb).1, w0⟩
 rintro n s3 ⟨i, σ3, H3, I3, st3, fr3, w3⟩
 rcases turn i n σ3 H3 w3 with ⟨stop, qn⟩ | ⟨go, N, hN, step⟩
 ·refine wpAny_passesOwn hp (thn (T.done X rfl rfl rfl hc i pins s3 σ3 H3 X.xe I3 (stat fr3) st3 stop) fun r s4 hqP => ?_)
  obtain ⟨hr, I4⟩ := hqP
  subst hr
  exact wpAny_execs_nil ⟨σ3, H3, I4, qn⟩
 ·refine wpAny_passesOwn hp (thn (T.item X rfl rfl rfl hc i pins s3 σ3 H3 X.xe I3 (stat fr3) st3 go) fun r s4 hqP => ?_)
  obtain ⟨u, hr, h4⟩ := hqP
  subst hr
  refine wpAny_passesOwn hp (thn h4 fun _ s5 hqP => ?_)
  obtain ⟨x, H5, I5, r5, y5, st5, fr5⟩ := hqP
  have I5' := I5.pinned (stat fr5) (T.obj _ _ st5)
  refine wpAny_passesOwn hp (thn (hg _ s5 σ3 H5 x u _ I5' r5 (step x H5 y5)) fun _ s6 hqP => ?_)
  obtain ⟨σ6, H6, I6, q6⟩ := hqP
  refine wpAny_passesOwn hp (thn (hb _ s6 σ6 H6 _ I6 q6) fun f s7 q7 => ?_)
  have again : ∀ {σ7 : St} {H7 : Hp}, Inv X (pins ++ Qbq fp s5.heap) σ7 H7 s7 → N σ7 H7 → ∃ m, m < n ∧ ∃ i σ' H', Inv X pins σ' H' s7 ∧ tn i s7.heap ∧ (∀ b ∈ fp, H' b = none) ∧ W i m σ' H' := fun {σ7 H7} I7 n7 => by
   obtain ⟨m', hm, w7⟩ := hN σ7 H7 n7
   refine ⟨m', hm, i + 1, σ7, H7, I7.unpinned, T.keep _ _ _ st5 fun b hb o e => (I7.pin (b, o) (kZ _ (kZ _ (Jh hb e)))).1, fun b hb => ?_, w7⟩
   obtain ⟨o, e, d⟩ := T.obj _ _ st5 b hb
   exact (I7.pin (b, o) (kZ _ (kZ _ (Jh hb e)))).2.1
  cases f with
  | next => obtain ⟨σ7, H7, I7, n7⟩ := q7; exact again I7 n7
  | cont => obtain ⟨σ7, H7, I7, n7⟩ := q7; exact again I7 n7
  | brk => obtain ⟨σ7, H7, I7, q7⟩ := q7; exact ⟨σ7, H7, I7.unpinned, q7⟩
  | ret v => obtain ⟨x7, σ7, H7, I7, r7, q7⟩ := q7; exact ⟨x7, σ7, H7, I7.unpinned, r7, q7⟩
end
theorem Qak {K : Fg} {a : Addr} {xs : List V} {g : TG} {tb : TS} {D : Ends} {σ : St} {H : Hp} (Pv : Nat → St → Hp → Prop) (h0 : Pv 0 σ H) (hl : ∀ i σ H, i ≤ xs.length → Pv i σ H → SqL K H a xs)
  (hs : ∀ i x σ H, xs[i]? = some x → Pv i σ H → g x σ H fun σ2 H2 => tb { D with nx := Pv (i + 1), ct := Pv (i + 1), bk := D.nx } σ2 H2) (hd : ∀ σ H, Pv xs.length σ H → D.nx σ H) :
  ∃ W : Nat → Nat → St → Hp → Prop, (∃ m, W 0 m σ H) ∧ ∀ i m σ H, W i m σ H →
   ((Itl K a).stop i H ∧ D.nx σ H) ∨ ((Itl K a).go i H ∧ ∃ N : St → Hp → Prop, (∀ σ' H', N σ' H' → ∃ m', m' < m ∧ W (i + 1) m' σ' H') ∧ ∀ x H', (Itl K a).yld i H x H' → g x σ H' fun σ2 H2 => tb { D with nx := N, ct := N, bk := D.nx } σ2 H2) := by
 refine ⟨fun i m σ H => m = xs.length - i ∧ i ≤ xs.length ∧ Pv i σ H, ⟨xs.length, by simp, wQ _, h0⟩, ?_⟩
 rintro i m σ H ⟨rfl, hi, p⟩
 have q := hl i σ H hi p
 by_cases hlt : i < xs.length
 ·refine .inr ⟨⟨xs, xs[i], q, by simp [hlt]⟩, Pv (i + 1), fun σ' H' p' => ⟨xs.length - (i + 1), by omega, rfl, hlt, p'⟩, fun x H' y => ?_⟩
  obtain ⟨e, y⟩ := y
  subst e
  exact hs i x σ _ (y xs q) p
 ·have e : i = xs.length := by omega
  subst e
  exact .inl ⟨⟨xs, q, kK _⟩, hd σ H p⟩
theorem Xx {lo : Int} {n : Nat} {g : TG} {tb : TS} {D : Ends} {σ : St} {H : Hp} (Pv : Nat → St → Hp → Prop) (h0 : Pv 0 σ H)
  (hs : ∀ i σ H, i < n → Pv i σ H → g (.int (lo + i)) σ H fun σ2 H2 => tb { D with nx := Pv (i + 1), ct := Pv (i + 1), bk := D.nx } σ2 H2) (hd : ∀ σ H, Pv n σ H → D.nx σ H) :
  ∃ W : Nat → Nat → St → Hp → Prop, (∃ m, W 0 m σ H) ∧ ∀ i m σ H, W i m σ H →
   ((Itr lo n).stop i H ∧ D.nx σ H) ∨ ((Itr lo n).go i H ∧ ∃ N : St → Hp → Prop, (∀ σ' H', N σ' H' → ∃ m', m' < m ∧ W (i + 1) m' σ' H') ∧ ∀ x H', (Itr lo n).yld i H x H' → g x σ H' fun σ2 H2 => tb { D with nx := N, ct := N, bk := D.nx } σ2 H2) := by
 refine ⟨fun i m σ H => m = n - i ∧ i ≤ n ∧ Pv i σ H, ⟨n, by simp, wQ _, h0⟩, ?_⟩
 rintro i m σ H ⟨rfl, hi, p⟩
 by_cases hlt : i < n
 ·refine .inr ⟨hlt, Pv (i + 1), fun σ' H' p' => ⟨n - (i + 1), by omega, rfl, hlt, p'⟩, fun x H' y => ?_⟩
  obtain ⟨e, y⟩ := y
  subst e y
  exact hs i σ _ hlt p
 ·have e : i = n := by omega
  subst e
  exact .inl ⟨kK _, hd σ H p⟩
abbrev R2 := V → V → Hp → VK → Prop
def OpR (X : Cx) (f : Value → Value → Sem Value) (r : R2) : Prop :=
 ∀ (pins : List (Addr × Obj)) (s : Shared) (σ : St) (H : Hp) (x y : V) (v u : Value) (Q : VK), Inv X pins σ H s → RelV x v → RelV y u → r x y H Q →
  wpAny (model X.prog X.w) X.A (f v u) (EP X pins σ Q) X.xe s
def UnR (X : Cx) (f : Value → Sem Value) (r : V → Hp → VK → Prop) : Prop :=
 ∀ (pins : List (Addr × Obj)) (s : Shared) (σ : St) (H : Hp) (x : V) (v : Value) (Q : VK), Inv X pins σ H s → RelV x v → r x H Q →
  wpAny (model X.prog X.w) X.A (f v) (EP X pins σ Q) X.xe s
def CallR (X : Cx) (f : Value) (r : List V → Hp → VK → Prop) : Prop :=
 ∀ (pins : List (Addr × Obj)) (s : Shared) (σ : St) (H : Hp) (xs : List V) (us : List Value) (Q : VK), Inv X pins σ H s → Vals xs us → r xs H Q →
  wpAny (model X.prog X.w) X.A (call f us) (EP X pins σ Q) X.xe s
def tOp (r : R2) (ta tb : TE) : TE := fun σ H Q => ta σ H fun x H1 => tb σ H1 fun y H2 => r x y H2 Q
def tUn (r : V → Hp → VK → Prop) (ta : TE) : TE := fun σ H Q => ta σ H fun x H1 => r x H1 Q
def rI (C : Int → Int → Prop) (g : Int → Int → V) : R2 := fun x y H Q => ∃ i j, x = .int i ∧ y = .int j ∧ C i j ∧ Q (g i j) H
def rI0 (g : Int → Int → V) : R2 := fun x y H Q => ∃ i j, x = .int i ∧ y = .int j ∧ Q (g i j) H
def rU (g : Int → V) : V → Hp → VK → Prop := fun x H Q => ∃ i, x = .int i ∧ Q (g i) H
section
variable {X : Cx} {a b c : Expr} {ta tb tc : TE} {pos : Pos}
theorem binT (ha : PE X a ta) (hb : PE X b tb) {pins : List (Addr × Obj)} {s : Shared} {σ : St} {H : Hp} {R : V → V → Hp → Prop} (I : Inv X pins σ H s)
  (h : ta σ H fun x H1 => tb σ H1 fun y H2 => R x y H2) {Q : Value → Shared → Prop} {f : Value → Value → Sem Value}
  (hf : ∀ v u s2 x y H2, Inv X pins σ H2 s2 → RelV x v → RelV y u → R x y H2 → wpAny (model X.prog X.w) X.A (f v u) Q X.xe s2) :
  wpAny (model X.prog X.w) X.A (eval a X.env) (fun v s₁ => wpAny (model X.prog X.w) X.A (eval b X.env) (fun u s₂ => wpAny (model X.prog X.w) X.A (f v u) Q X.xe s₂) X.xe s₁) X.xe s := by
 refine thn (ha pins s σ H _ I h) fun v s1 hqP => ?_
 obtain ⟨x, H1, I1, r1, q1⟩ := hqP
 refine thn (hb pins s1 σ H1 _ I1 q1) fun u s2 hqP => ?_
 obtain ⟨y, H2, I2, r2, q2⟩ := hqP
 exact hf v u s2 x y H2 I2 r1 r2 q2
theorem Qk {op : Operator} {r : R2} (ho : OpR X (binaryOp op) r) (ha : PE X a ta) (hb : PE X b tb) : PE X (.BinOp a op b pos) (tOp r ta tb) := by
 intro pins s σ H Q I h
 exact wpAny_BinOp (binT ha hb I h fun v u s2 x y H2 I2 rx ry q => ho pins s2 σ H2 x y v u Q I2 rx ry q)
theorem pe_un {op : UnaryOp} {r : V → Hp → VK → Prop} (ho : UnR X (unaryOp op) r) (ha : PE X a ta) : PE X (.UnaryOp op a pos) (tUn r ta) := by
 intro pins s σ H Q I h
 exact UnaryOp_ (thn (ha pins s σ H _ I h) fun v s1 ⟨x, H1, I1, r1, q1⟩ => ho pins s1 σ H1 x v Q I1 r1 q1)
theorem opI {f : Value → Value → Sem Value} {C : Int → Int → Prop} {g : Int → Int → Int}
  (rule : ∀ (i j : Int) (t u : Tok) (s : Shared) (Q : Value → Shared → Prop) (E : Value → Shared → Prop), C i j → Q (.int (g i j) s.toks) { s with toks := s.toks + 1 } → wpAny (model X.prog X.w) X.A (f (.int i t) (.int j u)) Q E s) :
  OpR X f (rI C fun i j => .int (g i j)) := by
 intro pins s σ H x y v u Q I rx ry h
 obtain ⟨i, j, rfl, rfl, hc, q⟩ := h
 obtain ⟨t, rfl⟩ := rx
 obtain ⟨t', rfl⟩ := ry
 exact rule i j t t' s _ _ hc ⟨.int (g i j), H, I.tok _, ⟨_, rfl⟩, q⟩
theorem opI0 {f : Value → Value → Sem Value} {g : Int → Int → Int}
  (rule : ∀ (i j : Int) (t u : Tok) (s : Shared) (Q : Value → Shared → Prop) (E : Value → Shared → Prop), Q (.int (g i j) s.toks) { s with toks := s.toks + 1 } → wpAny (model X.prog X.w) X.A (f (.int i t) (.int j u)) Q E s) :
  OpR X f (rI0 fun i j => .int (g i j)) := by
 intro pins s σ H x y v u Q I rx ry h
 obtain ⟨i, j, rfl, rfl, q⟩ := h
 obtain ⟨t, rfl⟩ := rx
 obtain ⟨t', rfl⟩ := ry
 exact rule i j t t' s _ _ ⟨.int (g i j), H, I.tok _, ⟨_, rfl⟩, q⟩
theorem opB0 {f : Value → Value → Sem Value} {g : Int → Int → Bool}
  (rule : ∀ (i j : Int) (t u : Tok) (s : Shared) (Q : Value → Shared → Prop) (E : Value → Shared → Prop), Q (.bool (g i j)) s → wpAny (model X.prog X.w) X.A (f (.int i t) (.int j u)) Q E s) :
  OpR X f (rI0 fun i j => .bl (g i j)) := by
 intro pins s σ H x y v u Q I rx ry h
 obtain ⟨i, j, rfl, rfl, q⟩ := h
 obtain ⟨t, rfl⟩ := rx
 obtain ⟨t', rfl⟩ := ry
 exact rule i j t t' s _ _ ⟨.bl (g i j), H, I, rfl, q⟩
def CDiv (i j : Int) : Prop := 0 < j ∧ j < 1073741824
def CPow (i j : Int) : Prop := 0 ≤ j ∧ j ≤ 1000000 ∧ i.natAbs < 2 ^ 64
def CMul (i j : Int) : Prop := (-(2 ^ 64) < i ∧ i < 2 ^ 64) ∨ (-(2 ^ 64) < j ∧ j < 2 ^ 64)
theorem CMul.ok {i j : Int} (h : CMul i j) : IntMulOk i j := by
 rcases h with ⟨h1, h2⟩ | ⟨h1, h2⟩
 ·exact .of_left (intBits_le_64 h1 h2)
 ·exact .of_right (intBits_le_64 h1 h2)
theorem Qw : OpR X (binaryOp .Add) (rI0 fun i j => .int (i + j)) := opI0 fun _ _ _ _ _ _ _ q => add_int q
theorem Qeh : OpR X (binaryOp .Sub) (rI0 fun i j => .int (i - j)) := opI0 fun _ _ _ _ _ _ _ q => sub_int q
theorem Zk : OpR X (binaryOp .Mult) (rI CMul fun i j => .int (i * j)) := opI fun _ _ _ _ _ _ _ hc q => mul_int q hc.ok
theorem Xh : OpR X (binaryOp .FloorDiv) (rI CDiv fun i j => .int (i / j)) := opI fun i j _ _ _ _ _ hc q => by
 have h1 : (0 : Int) < j := hc.1
 have h2 : j < 1073741824 := hc.2
 exact floordiv_int (by omega) (by rw [Int.fdiv_eq_ediv_of_nonneg i (by omega)]; exact q) (.inl (PyProof.noPylong_small (by omega)))
theorem Qy : OpR X (binaryOp .Mod) (rI (fun _ j => 0 < j) fun i j => .int (i % j)) := opI fun i j _ _ _ _ _ hc q => by
 have h1 : (0 : Int) < j := hc
 exact mod_int' (by omega) (by rw [Int.fmod_eq_emod_of_nonneg i (by omega)]; exact q)
theorem Qhm : OpR X (binaryOp .Pow) (rI CPow fun i j => .int (i ^ j.toNat)) := opI fun _ _ _ _ _ _ _ hc q => pow_int_small hc.1 hc.2.1 hc.2.2 q
theorem unI {f : Value → Sem Value} {g : Int → Int}
  (rule : ∀ (i : Int) (t : Tok) (s : Shared) (Q : Value → Shared → Prop) (E : Value → Shared → Prop), Q (.int (g i) s.toks) { s with toks := s.toks + 1 } → wpAny (model X.prog X.w) X.A (f (.int i t)) Q E s) :
  UnR X f (rU fun i => .int (g i)) := by
 intro pins s σ H x v Q I rx h
 obtain ⟨i, rfl, q⟩ := h
 obtain ⟨t, rfl⟩ := rx
 exact rule i t s _ _ ⟨.int (g i), H, I.tok _, ⟨_, rfl⟩, q⟩
theorem Qnb : UnR X (unaryOp .USub) (rU fun i => .int (-i)) := unI fun _ _ _ _ _ q => neg_int q
end
def scal : V → V → Bool
 | .non, .non => true | .non, .int _ => true | .int _, .non => true | .non, .bl _ => true | .bl _, .non => true | .non, .str _ => true | .str _, .non => true
 | .int _, .int _ => true | .bl _, .bl _ => true | .str _, .str _ => true | .byt _, .byt _ => true
 | .int _, .str _ => true | .str _, .int _ => true | .bl _, .str _ => true | .str _, .bl _ => true
 | _, _ => false
def rEq : R2 := fun x y H Q => scal x y = true ∧ Q (.bl (decide (x = y))) H
def rNe : R2 := fun x y H Q => scal x y = true ∧ Q (.bl (!decide (x = y))) H
theorem Qhn {i j : Int} : decide (V.int i = V.int j) = (i == j) := by
 rw [jXd]
 simp
theorem Qnc {i j : Bool} : decide (V.bl i = V.bl j) = (i == j) := by
 rw [jXd]
 simp
theorem Qho {i j : Str} : decide (V.str i = V.str j) = (i == j) := by
 rw [jXd]
 simp
theorem Qhp {i j : Array UInt8} : decide (V.byt i = V.byt j) = (i.toList == j.toList) := by
 rw [jXd]
 cases i
 cases j
 simp
section
variable {X : Cx} {a b c : Expr} {ta tb tc : TE} {pos : Pos}
theorem Xj {pins : List (Addr × Obj)} {σ : St} {H : Hp} {s : Shared} {Q : VK} {k k' : Bool} (I : Inv X pins σ H s) (q : Q (.bl k) H) (e : k = k') : EP X pins σ Q (.bool k') s := by
 subst e
 exact ⟨.bl k, H, I, rfl, q⟩
theorem Xy : OpR X (compareOp .Eq) rEq := by
 intro pins s σ H x y v u Q I rx ry h
 obtain ⟨hs, q⟩ := h
 cases x with
 | non =>
  cases rx
  cases y with
  | non => cases ry; exact PySem.EqNone.eq_none_none (Xj I q (by simp))
  | bl j => cases ry; exact PySem.EqNone.eq_none_bool (Xj I q (by simp))
  | int j => obtain ⟨t', rfl⟩ := ry; exact PySem.EqNone.eq_none_int (Xj I q (by simp))
  | str j => obtain ⟨t', rfl⟩ := ry; exact PySem.EqNone.eq_none_str (Xj I q (by simp))
  | _ => exact absurd (show false = true from hs) yQ
 | bl i =>
  cases rx
  cases y with
  | non => cases ry; exact PySem.EqNone.eq_bool_none (Xj I q (by simp))
  | bl j => cases ry; exact eq_bool (Xj I q Qnc)
  | str j => obtain ⟨t', rfl⟩ := ry; exact PySem.EqMixed.eq_bool_str (Xj I q (by simp))
  | _ => exact absurd (show false = true from hs) yQ
 | int i =>
  obtain ⟨t, rfl⟩ := rx
  cases y with
  | non => cases ry; exact PySem.EqNone.eq_int_none (Xj I q (by simp))
  | int j => obtain ⟨t', rfl⟩ := ry; exact eq_int (Xj I q Qhn)
  | str j => obtain ⟨t', rfl⟩ := ry; exact PySem.EqMixed.eq_int_str (Xj I q (by simp))
  | _ => exact absurd (show false = true from hs) yQ
 | str i =>
  obtain ⟨t, rfl⟩ := rx
  cases y with
  | non => cases ry; exact PySem.EqNone.eq_str_none (Xj I q (by simp))
  | bl j => cases ry; exact PySem.EqMixed.eq_str_bool (Xj I q (by simp))
  | int j => obtain ⟨t', rfl⟩ := ry; exact PySem.EqMixed.eq_str_int (Xj I q (by simp))
  | str j => obtain ⟨t', rfl⟩ := ry; exact eq_str (Xj I q Qho)
  | _ => exact absurd (show false = true from hs) yQ
 | byt i =>
  obtain ⟨t, rfl⟩ := rx
  cases y with
  | byt j => obtain ⟨t', rfl⟩ := ry; exact PySem.W.eq_bytes (Xj I q Qhp)
  | _ => exact absurd (show false = true from hs) yQ
 | _ => cases y <;> exact absurd (show false = true from hs) yQ
theorem Qal : OpR X (compareOp .NotEq) rNe := by
 intro pins s σ H x y v u Q I rx ry h
 obtain ⟨hs, q⟩ := h
 cases x with
 | non =>
  cases rx
  cases y with
  | non => cases ry; exact PySem.EqNone.ne_none_none (Xj I q (by simp))
  | bl j => cases ry; exact PySem.EqNone.ne_none_bool (Xj I q (by simp))
  | int j => obtain ⟨t', rfl⟩ := ry; exact PySem.EqNone.ne_none_int (Xj I q (by simp))
  | str j => obtain ⟨t', rfl⟩ := ry; exact PySem.EqNone.ne_none_str (Xj I q (by simp))
  | _ => exact absurd (show false = true from hs) yQ
 | bl i =>
  cases rx
  cases y with
  | non => cases ry; exact PySem.EqNone.ne_bool_none (Xj I q (by simp))
  | bl j => cases ry; exact ne_bool (Xj I q (congrArg not Qnc))
  | str j => obtain ⟨t', rfl⟩ := ry; exact PySem.EqMixed.ne_bool_str (Xj I q (by simp))
  | _ => exact absurd (show false = true from hs) yQ
 | int i =>
  obtain ⟨t, rfl⟩ := rx
  cases y with
  | non => cases ry; exact PySem.EqNone.ne_int_none (Xj I q (by simp))
  | int j => obtain ⟨t', rfl⟩ := ry; exact ne_int (Xj I q (congrArg not Qhn))
  | str j => obtain ⟨t', rfl⟩ := ry; exact PySem.EqMixed.ne_int_str (Xj I q (by simp))
  | _ => exact absurd (show false = true from hs) yQ
 | str i =>
  obtain ⟨t, rfl⟩ := rx
  cases y with
  | non => cases ry; exact PySem.EqNone.ne_str_none (Xj I q (by simp))
  | bl j => cases ry; exact PySem.EqMixed.ne_str_bool (Xj I q (by simp))
  | int j => obtain ⟨t', rfl⟩ := ry; exact PySem.EqMixed.ne_str_int (Xj I q (by simp))
  | str j => obtain ⟨t', rfl⟩ := ry; exact ne_str (Xj I q (congrArg not Qho))
  | _ => exact absurd (show false = true from hs) yQ
 | byt i =>
  obtain ⟨t, rfl⟩ := rx
  cases y with
  | byt j => obtain ⟨t', rfl⟩ := ry; exact PySem.W.ne_bytes (Xj I q (congrArg not Qhp))
  | _ => exact absurd (show false = true from hs) yQ
 | _ => cases y <;> exact absurd (show false = true from hs) yQ
theorem Qld : OpR X (compareOp .Lt) (rI0 fun i j => .bl (decide (i < j))) := opB0 fun _ _ _ _ _ _ _ q => lt_int q
theorem Qbr : OpR X (compareOp .LtE) (rI0 fun i j => .bl (decide (i ≤ j))) := opB0 fun _ _ _ _ _ _ _ q => le_int q
theorem Vj : OpR X (compareOp .Gt) (rI0 fun i j => .bl (decide (j < i))) := opB0 fun _ _ _ _ _ _ _ q => gt_int q
theorem Qbs : OpR X (compareOp .Is) (fun x y H Q => y = .non ∧ Q (.bl (decide (x = .non))) H) := by
 intro pins s σ H x y v u Q I rx ry h
 obtain ⟨rfl, q⟩ := h
 cases ry
 refine is_none_gen (Xj I q ?_)
 cases x <;> first
  | (cases rx; rfl)
  | (obtain ⟨t, rfl⟩ := rx; rfl)
theorem Qbt : OpR X (compareOp .NotIn) (fun x y H Q => ∃ i j, x = .str i ∧ y = .str j ∧ Q (.bl (!(!(Builtin.Str.occurrences j i 0 j.length 1).isEmpty))) H) := by
 intro pins s σ H x y v u Q I rx ry h
 obtain ⟨i, j, rfl, rfl, q⟩ := h
 obtain ⟨t, rfl⟩ := rx
 obtain ⟨t', rfl⟩ := ry
 exact notIn_str (Xj I q rfl)
theorem Qm (b : Expr) {op : CmpOp} (h : autoParam (op ≠ .In) L2.aDec._auto_1) (h2 : autoParam (op ≠ .NotIn) L2.aDec._auto_1) : behindInMarks op b = false := by
 have e1 : (op == CmpOp.In) = false := by cases op <;> first | rfl | exact absurd rfl h
 have e2 : (op == CmpOp.NotIn) = false := by cases op <;> first | rfl | exact absurd rfl h2
 cases b <;> simp [behindInMarks, e1, e2]
theorem Xn {op : CmpOp} {r : R2} (ho : OpR X (compareOp op) r) (ha : PE X a ta) (hb : PE X b tb) (hm : behindInMarks op b = false) : PE X (.Compare a [op] [b] pos) (tOp r ta tb) := by
 intro pins s σ H Q I h
 exact wpAny_Compare1 (binT ha hb I h fun v u s2 x y H2 I2 rx ry q => ho pins s2 σ H2 x y v u Q I2 rx ry q) hm
def tTest (t : TE) : TT := fun σ H Q => t σ H fun x H' => ∃ k, x = .bl k ∧ Q k H'
theorem Ql {op : CmpOp} {r : R2} (ho : OpR X (compareOp op) r) (ha : PE X a ta) (hb : PE X b tb) (hm : behindInMarks op b = false) : PT X (.Compare a [op] [b] pos) (tTest (tOp r ta tb)) := by
 intro pins s σ H Q I h
 refine wpAny_isTrue_Compare1 (thn (ha pins s σ H _ I h) fun v s1 ⟨x, H1, I1, r1, q1⟩ => thn (hb pins s1 σ H1 _ I1 q1) fun u s2 ⟨y, H2, I2, r2, q2⟩ =>
  thn (ho pins s2 σ H2 x y v u _ I2 r1 r2 q2) fun c s3 ⟨z, H3, I3, r3, k, e, q3⟩ => ?_) hm
 subst e
 cases r3
 exact wpAny_truthy_bool ⟨H3, I3, q3⟩
def Qnd (r r' : R2) (ta tb tc : TE) : TE := fun σ H Q => ta σ H fun x H1 => tb σ H1 fun y H2 => r x y H2 fun z H3 => ∃ k, z = .bl k ∧
 (if k = true then tc σ H3 fun w' H4 => r' y w' H4 Q else Q (.bl false) H3)
theorem Qei {op op' : CmpOp} {r r' : R2} (ho : OpR X (compareOp op) r) (ho' : OpR X (compareOp op') r') (ha : PE X a ta) (hb : PE X b tb) (hc : PE X c tc)
  (hm : lastMarks [op, op'] [b, c] = false := by with_unfolding_all rfl) : PE X (.Compare a [op, op'] [b, c] pos) (Qnd r r' ta tb tc) := by
 intro pins s σ H Q I h
 refine Compare_chain (thn (ha pins s σ H _ I h) fun v s1 ⟨x, H1, I1, r1, q1⟩ => chain_link (thn (hb pins s1 σ H1 _ I1 q1) fun u s2 ⟨y, H2, I2, r2, q2⟩ =>
  thn (ho pins s2 σ H2 x y v u _ I2 r1 r2 q2) fun d s3 ⟨z, H3, I3, r3, k, e, q3⟩ => ?_)) hm
 subst e
 cases r3
 refine wpAny_truthy_bool ?_
 cases k with
 | false => exact ite_ff ⟨.bl false, H3, I3, rfl, q3⟩
 | true => exact ite_tt (chain_last (thn (hc pins s3 σ H3 _ I3 q3) fun w' s4 ⟨z', H4, I4, r4, q4⟩ => ho' pins s4 σ H4 y z' u w' Q I4 r2 r4 q4))
theorem Qle {op op' : CmpOp} {r r' : R2} (ho : OpR X (compareOp op) r) (ho' : OpR X (compareOp op') r') (ha : PE X a ta) (hb : PE X b tb) (hc : PE X c tc)
  (hm : lastMarks [op, op'] [b, c] = false := by with_unfolding_all rfl) : PT X (.Compare a [op, op'] [b, c] pos) (tTest (Qnd r r' ta tb tc)) := by
 intro pins s σ H Q I h
 refine isTrue_chain (thn (ha pins s σ H _ I h) fun v s1 ⟨x, H1, I1, r1, q1⟩ => test_link (thn (hb pins s1 σ H1 _ I1 q1) fun u s2 ⟨y, H2, I2, r2, q2⟩ =>
  thn (ho pins s2 σ H2 x y v u _ I2 r1 r2 q2) fun d s3 ⟨z, H3, I3, r3, k, e, q3⟩ => ?_)) hm
 subst e
 cases r3
 refine wpAny_truthy_bool ?_
 cases k with
 | false =>
  obtain ⟨k', e', q'⟩ := q3
  cases e'
  exact ite_ff ⟨H3, I3, q'⟩
 | true =>
  refine ite_tt (test_last (thn (hc pins s3 σ H3 _ I3 q3) fun w' s4 ⟨z', H4, I4, r4, q4⟩ => thn (ho' pins s4 σ H4 y z' u w' _ I4 r2 r4 q4) fun d' s5 hqP => ?_))
  obtain ⟨z2, H5, I5, r5, k2, e2, q5⟩ := hqP
  subst e2
  cases r5
  exact wpAny_truthy_bool ⟨H5, I5, q5⟩
theorem Ww : (sizeLine : Nat) < 2 ^ 63 := by rw [sizeLine_eq]; decide
theorem Qfz : OpR X (binaryOp .Add) (fun x y H Q => ∃ i j, x = .str i ∧ y = .str j ∧ i.length + j.length ≤ sizeLine ∧ Q (.str (i ++ j)) H) := by
 intro pins s σ H x y v u Q I rx ry h
 obtain ⟨i, j, rfl, rfl, hz, q⟩ := h
 obtain ⟨t, rfl⟩ := rx
 obtain ⟨t', rfl⟩ := ry
 exact add_str (fun t' tk => ⟨.str (i ++ j), H, I.tok _, ⟨_, rfl⟩, q⟩) hz
theorem vals1 {x : V} {us : List Value} (r : Vals [x] us) : ∃ u, us = [u] ∧ RelV x u := by
 cases r with
 | cons r1 r2 => cases r2; exact ⟨_, rfl, r1⟩
theorem vals2 {x y : V} {us : List Value} (r : Vals [x, y] us) : ∃ u w', us = [u, w'] ∧ RelV x u ∧ RelV y w' := by
 cases r with
 | cons r1 r2 =>
  cases r2 with
  | cons r3 r4 => cases r4; exact ⟨_, _, rfl, r1, r3⟩
theorem Vk (hc : X.calm = true) : CallR X (.builtin "min") (fun xs H Q => ∃ i j, xs = [.int i, .int j] ∧ Q (.int (if j < i then j else i)) H) := by
 intro pins s σ H xs us Q I r h
 obtain ⟨i, j, rfl, q⟩ := h
 obtain ⟨u, w', rfl, ⟨t, rfl⟩, ⟨t', rfl⟩⟩ := vals2 r
 refine min_two_ints (I.ok.hd hc) fun h' tk k => ⟨_, H, I.kept k, ?_, q⟩
 by_cases hj : j < i
 ·rw [if_pos hj, if_pos hj]; exact ⟨_, rfl⟩
 ·rw [if_neg hj, if_neg hj]; exact ⟨_, rfl⟩
theorem Qbu : CallR X (.type "int") (fun xs H Q => (∃ i, xs = [.int i] ∧ Q (.int i) H) ∨ ∃ k, xs = [.bl k] ∧ Q (.int (if k then 1 else 0)) H) := by
 intro pins s σ H xs us Q I r h
 rcases h with ⟨i, rfl, q⟩ | ⟨k, rfl, q⟩
 ·obtain ⟨u, rfl, t, rfl⟩ := vals1 r
  exact call_int_int ⟨.int i, H, I, ⟨_, rfl⟩, q⟩
 ·obtain ⟨u, rfl, r1⟩ := vals1 r
  cases r1
  exact call_int_bool ⟨.int (if k then 1 else 0), H, I.tok _, ⟨_, rfl⟩, q⟩
end
section
variable {prog : Program} {w : World} {A : Around} {E : Value → Shared → Prop} {s : Shared} {K : Fg} {x dx C f : Addr} {mA : Str → Option Value} {name : Str} {v : Value}
end
theorem RelO.some_of {v : V} {o : Option Value} (r : RelO (some v) o) : ∃ u, o = some u ∧ RelV v u := by
 cases o with
 | none => exact (show False from r).elim
 | some u => exact ⟨u, rfl, r⟩
theorem Qbv {v : V} {u : Value} (r : RelV v u) : PySem.W.handedIn u = true := by
 cases v with
 | non => cases (show u = Value.none from r); rfl
 | bl b => cases (show u = Value.bool b from r); rfl
 | int i => obtain ⟨t, e⟩ := (show ∃ t, u = Value.int i t from r); cases e; rfl
 | str x => obtain ⟨t, e⟩ := (show ∃ t, u = Value.str x t from r); cases e; rfl
 | byt b => obtain ⟨t, e⟩ := (show ∃ t, u = Value.bytes b t from r); cases e; rfl
 | flt b => obtain ⟨t, e⟩ := (show ∃ t, u = Value.float b t from r); cases e; rfl
 | ref a => cases (show u = Value.ref a from r); rfl
 | ty n => cases (show u = Value.type n from r); rfl
section
variable {P : Program} {w : World} {H H' : Hp} {h h' : Heap} {a C dx : Addr} {fs fs' : List (Str × V)}
end
section
variable {X : Cx} {pins : List (Addr × Obj)} {σ : St} {H : Hp} {s : Shared} {a C dx : Addr} {fs : List (Str × V)} {f : Str} {v : V} {A : Around} {E : Value → Shared → Prop}
theorem Qhq {prog : Program} {w : World} {env : Env} {e : Expr} {f : Str} {pos : Pos} {s : Shared} {Q : Value → Shared → Prop} (hb : attributeBase e f env (eval e env) = eval e env)
  (h : wpAny (model prog w) A (eval e env) (fun o s₁ => wpAny (model prog w) A (getAttr o f true) Q E s₁) E s) : wpAny (model prog w) A (eval (.Attribute e f pos) env) Q E s :=
 Attribute_any_ h (by rw [arm_eval_Attribute, hb])
end
section
variable {X : Cx} {o e value : Expr} {f : Str} {pos pos' tpos : Pos} {ta tv : TE}
end
section
variable {X : Cx} {pins : List (Addr × Obj)} {σ : St} {H : Hp} {s : Shared} {A : Around} {E : Value → Shared → Prop} {Q : Value → Shared → Prop} {c : Value} {b : Bool}
end
structure Room (k : Nat) (A : Around) : Prop where
 hd : A.handled = none
 dp : A.depth + 3 * k + 5 < recursionLimit
 un : A.units + 16 * k + 200 < cLine
theorem Room.mono {j k : Nat} {A : Around} (r : Room k A) (h : j ≤ k) : Room j A := ⟨r.hd, by have := r.dp; omega, by have := r.un; omega⟩
theorem Room.deeper {k : Nat} {A : Around} (r : Room (k + 1) A) (env : Env) : Room k (A.deeper env) :=
 ⟨r.hd, by have := r.dp; show A.depth + 1 + 3 * k + 5 < _; omega, by have := r.un; show A.units + 3 + 16 * k + 200 < _; omega⟩
theorem Qga {A : Around} {C : Addr} {us : List Value} {kw : List (Str × Value)} : (A.under (.builtin "type.__call__" ⟨.ref C :: us, kw⟩)).depth = A.depth + 1 := by
 first | rfl | simp [Around.under, Code.weight, Code.isCreation, Code.isGuard, Code.isCaller, Code.frames, Code.isFrame, guardIds]
theorem Qgb {A : Around} {C : Addr} {us : List Value} {kw : List (Str × Value)} : (A.under (.builtin "type.__call__" ⟨.ref C :: us, kw⟩)).units = A.units + 1 := by
 first | rfl | simp [Around.under, Code.cUnits, Code.frames, Code.isFrame]
theorem Room.make {k : Nat} {A : Around} (r : Room (k + 1) A) (C : Addr) (us : List Value) (kw : List (Str × Value)) : Room k (A.under (.builtin "type.__call__" ⟨.ref C :: us, kw⟩)) :=
 ⟨r.hd, by have := r.dp; rw [Qga]; omega, by have := r.un; rw [Qgb]; omega⟩
theorem Room.depth {k : Nat} {A : Around} (r : Room k A) : A.depth < recursionLimit := by have := r.dp; omega
def tNil : TA := fun _ H Q => Q [] H
def Qam (ta : TE) (tr : TA) : TA := fun σ H Q => ta σ H fun x H1 => tr σ H1 fun xs H2 => Q (x :: xs) H2
section
variable {X : Cx} {e : Expr} {es : List Expr} {te : TE} {t : TA} {pos : Pos}
theorem Qf : PA X [] tNil := fun _ _ _ _ H Q I h => Calls.spliced_nil ⟨[], H, I, .nil, h⟩
theorem Qa (ha : PE X e te) (hr : PA X es t) (hs : autoParam (starEach (e :: es) X.env = (false, eval e X.env) :: starEach es X.env) L2.aRfl._auto_1) : PA X (e :: es) (Qam te t) := by
 intro pos pins s σ H Q I h
 rw [hs]
 show wpAny _ _ (spliced ((false, eval e X.env) :: backTo pos (starEach es X.env))) _ _ s
 refine Calls.spliced_cons (thn (ha pins s σ H _ I h) fun u s1 hqP => ?_)
 obtain ⟨x, H1, I1, r1, q1⟩ := hqP
 exact thn (hr pos pins s1 σ H1 _ I1 q1) fun us s2 ⟨xs, H2, I2, r2, q2⟩ => ⟨x :: xs, H2, I2, .cons r1 r2, q2⟩
def tTup (t : TA) : TE := fun σ H Q => t σ H fun xs H1 => xs.length ≤ sizeLine ∧ ∀ p, H1 p = none → Q (.ref p) (upd H1 p (.tup xs))
def tLst (t : TA) : TE := fun σ H Q => t σ H fun xs H1 => xs.length ≤ sizeLine ∧ ∀ p, H1 p = none → Q (.ref p) (upd H1 p (.lst xs))
theorem Qej {x1} (h : PA X es t) : PE X (.Tuple es x1 pos) (tTup t) := by
 intro pins s σ H Q I hq
 refine wpAny_Tuple_spliced (thn (h pos pins s σ H _ I hq) fun us s1 ⟨xs, H1, I1, r, z, q⟩ => ⟨by rw [← r.length]; exact z, ?_⟩)
 have hf : H1 s1.heap.objs.size = none := I1.hok.fresh (kK _)
 refine ⟨.ref s1.heap.objs.size, upd H1 s1.heap.objs.size (.tup xs), I1.laid (t' := s1.toks) (fun b u e => jK _ e) (kK _) ?_, rfl, q _ hf⟩
 exact ⟨z, us, r, ⟨_, yV _ rfl, rfl, _, rfl⟩⟩
theorem Xa (h : PA X es t) : PE X (.List es pos) (tLst t) := by
 intro pins s σ H Q I hq
 refine wpAny_List_spliced (thn (h pos pins s σ H _ I hq) fun us s1 ⟨xs, H1, I1, r, z, q⟩ => ⟨by rw [← r.length]; exact z, ?_⟩)
 have hf : H1 s1.heap.objs.size = none := I1.hok.fresh (kK _)
 refine ⟨.ref s1.heap.objs.size, upd H1 s1.heap.objs.size (.lst xs), I1.laid (t' := s1.toks) (fun b u e => jK _ e) (kK _) ?_, rfl, q _ hf⟩
 exact ⟨z, us, 0, r, yV _ rfl⟩
end
abbrev Sp := List V → Hp → VK → XK → Prop
abbrev CXT := List Env → Hp → Shared → XK → Value → Shared → Prop
structure Env0 (P : Program) (w : World) (K : Fg) (mg : Str → Option Value) (base : Heap) (A : Around) (outer : List Env) (s : Shared) (H : Hp) : Prop where
 frames : A.frames = some outer
 mod : Mod K mg base
 bs : ∀ b o, base.get? b = some o → s.heap.get? b = some o ∧ H b = none
 bsz : base.objs.size ≤ s.heap.objs.size
 funs : s.heap.FunFrames base outer
 frf : ∀ b ∈ frs outer, H b = none
 hok : HOk P w H s.heap
 bare : AllBare s.gens
def CE (outer : List Env) (P : Program) (w : World) (H : Hp) (s : Shared) (Q : VK) (u : Value) (s' : Shared) : Prop :=
 ∃ v H', s'.os = s.os ∧ AllBare s'.gens ∧ Un (frs outer) [] H H' s.heap s'.heap ∧ HOk P w H' s'.heap ∧ RelV v u ∧ Q v H'
def CR (CX : CXT) (outer : List Env) (P : Program) (w : World) (H : Hp) (s : Shared) (Q : VK) (E : XK) (r : Result) (s' : Shared) : Prop :=
 match r with
 | .ok (.ret u) => CE outer P w H s Q u s'
 | .ok _ => False
 | .error e => CX outer H s E e s'
structure FnOk (P : Program) (w : World) (K : Fg) (mg : Str → Option Value) (base : Heap) (CX : CXT) (k : Nat) (f : Addr) (fd : FuncData) (ps : List Str) (sp : Sp) : Prop where
 len : ∀ vs H Q E, sp vs H Q E → vs.length = ps.length
 run : ∀ (A : Around) (outer : List Env) (s : Shared) (H : Hp) (args : Args) (us : List Value) (vs : List V) (Q : VK) (E : XK), Room k A → Env0 P w K mg base A outer s H → BindsTo s fd args (ps.zip us) → Vals vs us → sp vs H Q E →
  codeAny (model P w) A (.call (.ref f) args) (CR CX outer P w H s Q E) s
theorem Env0.make {P : Program} {w : World} {K : Fg} {mg : Str → Option Value} {base : Heap} {A : Around} {outer : List Env} {s : Shared} {H : Hp} (e : Env0 P w K mg base A outer s H) (C : Addr) (us : List Value) (kw : List (Str × Value)) :
  Env0 P w K mg base (A.under (.builtin "type.__call__" ⟨.ref C :: us, kw⟩)) outer s H := ⟨by first | exact e.frames | (simpa [Around.under, Code.envs, Code.isFrame, pushEnvs] using e.frames), e.mod, e.bs, e.bsz, e.funs, e.frf, e.hok, e.bare⟩
section
variable {X : Cx} {pins : List (Addr × Obj)} {σ : St} {H : Hp} {s s' : Shared}
theorem Inv.env0 (I : Inv X pins σ H s) : Env0 X.prog X.w X.K X.mg X.base X.A X.stack s H :=
 ⟨I.ok.frames, I.ok.mod, I.bs, xW I.ok.bsz I.sz, I.stack, I.stkFree, I.hok, I.bare⟩
theorem Inv.after {Q : VK} {u : Value} (I : Inv X pins σ H s) (h : CE X.stack X.prog X.w H s Q u s') : EP X pins σ Q u s' := by
 obtain ⟨v, H', os, bare, un, hok, r, q⟩ := h
 obtain ⟨hh, g, d, t, os'⟩ := s'
 obtain rfl : os' = s.os := os
 exact ⟨v, H', I.call (h' := hh) (g' := g) (d' := d) (t' := t) (ch := []) un hok bare (fun b z => absurd z (by simp)), r, q⟩
end
def tCall (sp : Sp) (dvs : List V) (E : XK) (t : TA) : TE := fun σ H Q => t σ H fun vs H1 => sp (vs ++ dvs) H1 Q E
def Binds (K : Fg) (fd : FuncData) (ps : List Str) (ds : List Value) : Prop :=
 ∀ (s : Shared) (us : List Value), K.In s.heap → (us ++ ds).length = ps.length → BindsTo s fd ⟨us, []⟩ (ps.zip (us ++ ds))
theorem Binds.all {K : Fg} {fd : FuncData} {ps : List Str} (h : ∀ us : List Value, us.length = ps.length → bindArgs fd ⟨us, []⟩ = pure (ps.zip us)) : Binds K fd ps [] := fun s us _ hl => by
 rw [jZc] at hl ⊢
 exact .of_eq (h us hl)
def Qhr (CX : CXT) (X : Cx) (E : XK) : Prop := ∀ (pins : List (Addr × Obj)) (σ : St) (H : Hp) (s : Shared) (e : Value) (s' : Shared), Inv X pins σ H s → CX X.stack H s E e s' → X.xe e s'
section
variable {X : Cx} {CX : CXT} {k : Nat} {f C : Addr} {fd : FuncData} {ps : List Str} {sp : Sp} {dvs : List V} {ds : List Value} {E : XK} {x m : Str} {p pos apos : Pos} {e o : Expr} {es : List Expr} {ta : TE} {t : TA}
theorem run_fn {pins : List (Addr × Obj)} {σ : St} {H : Hp} {s : Shared} {Q : VK} {us : List Value} {vs : List V} (F : FnOk X.prog X.w X.K X.mg X.base CX k f fd ps sp) (hr : Room k X.A) (hb : Binds X.K fd ps ds) (hd : Vals dvs ds) (hx : Qhr CX X E)
  (I : Inv X pins σ H s) (r : Vals vs us) (h : sp (vs ++ dvs) H Q E) : wpAny (model X.prog X.w) X.A (call (.ref f) us) (EP X pins σ Q) X.xe s := by
 have r2 : Vals (vs ++ dvs) (us ++ ds) := r.append hd
 have hl : (us ++ ds).length = ps.length := by rw [← r2.length]; exact F.len _ _ _ _ h
 refine wpAny_call (codeAny_mono (F.run X.A X.stack s H ⟨us, []⟩ (us ++ ds) (vs ++ dvs) Q E hr I.env0 (hb s us I.kIn hl) r2 h) fun r s' hq => ?_)
 cases r with
 | error e => exact hx pins σ H s e s' I hq
 | ok fl =>
  cases fl with
  | ret u => exact I.after hq
  | next => exact False.elim hq
  | brk => exact False.elim hq
  | cont => exact False.elim hq
theorem Qoc (F : FnOk X.prog X.w X.K X.mg X.base CX k f fd ps sp) (hr : Room k X.A) (hg : Gl X x) (hm : X.mg x = some (.ref f)) (hk : PySem.W.keepIn X.K (.ref f) = true) (hb : Binds X.K fd ps ds) (hd : Vals dvs ds) (hx : Qhr CX X E)
  (ha : PA X (e :: es) t) (hdb : autoParam ((x == ("__debug__" : Str)) = false) L2.aDec._auto_1) (he : autoParam (starEach (e :: es) X.env = (false, eval e X.env) :: starEach es X.env) L2.aRfl._auto_1) (hpl : autoParam ((backTo pos (starEach es X.env)).any (·.1) = false) L2.aRfl._auto_1) :
  PE X (.Call (.Name x p) (e :: es) [] pos) (tCall sp dvs E t) := by
 intro pins s σ H Q I h
 refine wpAny_Call_Name_kw (Kn I hg hm ?_ hdb)
 refine PySem.W.callWith_K (h₀ := X.base) I.ok.mod.kin hk (thn (ha pos pins s σ H _ I h) fun us s1 ⟨vs, H1, I1, r, q⟩ => ⟨I1.kIn, ?_⟩) he hpl
 exact run_fn F hr hb hd hx I1 r q
end
section
variable {X : Cx} {CX : CXT} {k : Nat} {f C : Addr} {fd : FuncData} {ps ks : List Str} {sp : Sp} {E : XK} {x m : Str} {p pos apos kpos : Pos} {e o : Expr} {es : List Expr} {kws : List Keyword} {te ta : TE} {t tk : TA} {nm : Option Str}
variable {g : List Value → List Value → List Value} {gV : List V → List V → List V}
end
structure FnScope (N P : List Str) (sc : Scope) : Prop where
 kind : sc.kind = .function
 co : sc.isCoroutine = false
 gen : sc.isGenerator = false
 nd : N.Nodup
 pre : N.take P.length = P
 par : ∀ x ∈ P, sc.names.lookup x = some .local ∨ sc.names.lookup x = some .cell
 nofree : ∀ y ∈ sc.names, y.2 ≠ .free
theorem Qbw {kindOf : Str → Option NameKind} {x : Str} : ∀ {binds : List (Str × Value)} {m : Str → Option Value}, (∀ v, (x, v) ∉ binds) → bindL kindOf binds m x = m x
 | [], _, _ => rfl
 | (n, v) :: r, m, h => by
  unfold bindL
  rw [Qbw fun w hw => h w (kX _ hw)]
  split
  ·have : x ≠ n := by rintro rfl; exact h v jY
   simp [this]
  ·rfl
theorem Qbx {kindOf : Str → Option NameKind} {x : Str} : ∀ {binds : List (Str × Value)} {m : Str → Option Value}, (∀ v, (x, v) ∉ binds) → bindC kindOf binds m x = m x
 | [], _, _ => rfl
 | (n, v) :: r, m, h => by
  unfold bindC
  rw [Qbx fun w hw => h w (kX _ hw)]
  split
  ·rfl
  ·have : x ≠ n := by rintro rfl; exact h v jY
   simp [this]
theorem Qby {kindOf : Str → Option NameKind} {x : Str} {v : Value} : ∀ {P : List Str} {vs : List Value} {i : Nat} {m : Str → Option Value}, P.Nodup → P[i]? = some x → vs[i]? = some v → kindOf x = some .local →
  bindL kindOf (P.zip vs) m x = some v
 | [], _, _, _, _, h, _, _ => by simp at h
 | _ :: _, [], _, _, _, _, h, _ => by simp at h
 | p :: P, w :: vs, 0, m, nd, h1, h2, hk => by
  simp at h1 h2; subst h1; subst h2
  show bindL kindOf ((p, w) :: P.zip vs) m p = _
  unfold bindL
  rw [Qbw fun v hv => (kYb.mp nd).1 (List.of_mem_zip hv).1, if_pos hk]
  simp
 | p :: P, w :: vs, i + 1, m, nd, h1, h2, hk => by
  show bindL kindOf ((p, w) :: P.zip vs) m x = _
  unfold bindL
  exact Qby (i := i) (kYb.mp nd).2 (by simpa using h1) (by simpa using h2) hk
theorem Qbz {kindOf : Str → Option NameKind} {x : Str} {v : Value} : ∀ {P : List Str} {vs : List Value} {i : Nat} {m : Str → Option Value}, P.Nodup → P[i]? = some x → vs[i]? = some v → kindOf x ≠ some .local →
  bindC kindOf (P.zip vs) m x = some v
 | [], _, _, _, _, h, _, _ => by simp at h
 | _ :: _, [], _, _, _, _, h, _ => by simp at h
 | p :: P, w :: vs, 0, m, nd, h1, h2, hk => by
  simp at h1 h2; subst h1; subst h2
  show bindC kindOf ((p, w) :: P.zip vs) m p = _
  unfold bindC
  rw [Qbx fun v hv => (kYb.mp nd).1 (List.of_mem_zip hv).1, if_neg hk]
  simp
 | p :: P, w :: vs, i + 1, m, nd, h1, h2, hk => by
  show bindC kindOf ((p, w) :: P.zip vs) m x = _
  unfold bindC
  exact Qbz (i := i) (kYb.mp nd).2 (by simpa using h1) (by simpa using h2) hk
def start (N : List Str) (vs : List V) : St := vs.map some ++ List.replicate (N.length - vs.length) none
def cxOf (CX : CXT) (P : Program) (w : World) (K : Fg) (mg : Str → Option Value) (base : Heap) (N : List Str) (qual : Str) (scope : Scope) (f : Addr) (cd : Value) (A : Around) (outer : List Env) (s : Shared) (H : Hp) (E : XK) : Cx where
 prog := P
 w := w
 K := K
 mg := mg
 base := base
 A := A.deeper (envOfC qual scope s.heap.objs.size f cd)
 N := N
 s₀ := s
 H₀ := H
 env := envOfC qual scope s.heap.objs.size f cd
 outer := outer
 stack := envOfC qual scope s.heap.objs.size f cd :: outer
 ex := []
 calm := true
 fn := fun _ => true
 pn := []
 xe := fun e s' => wpAny (model P w) (A.deeper (envOfC qual scope s.heap.objs.size f cd)) (leaving (envOfC qual scope s.heap.objs.size f cd) e) (fun _ s'' => CX outer H s E e s'') (fun e' s'' => CX outer H s E e' s'') s'
theorem Qek {sc : Scope} {n : Nat} {x : Str} (h : sc.names.lookup x = some .cell) : ∃ c, (cellsFrom n sc.names []).lookup x = some c := by
 have q := PySem.W.cellsFrom_some sc.names n [] (.inl h)
 exact jJd.mp q
theorem Qhs {CX : CXT} {P : Program} {w : World} {K : Fg} {mg : Str → Option Value} {base : Heap} {N ps : List Str} {qual : Str} {scope : Scope} {f : Addr} {cd : Value} {A : Around} {outer : List Env} {s s1 : Shared} {H : Hp} {E : XK} {us : List Value} {vs : List V}
  (S : FnScope N ps scope) (hd : A.handled = none) (e0 : Env0 P w K mg base A outer s H) (hl : vs.length = ps.length) (r : Vals vs us)
  (x : InCallC s s.heap.objs.size (bindL (envOfC qual scope s.heap.objs.size f cd).kindOf (ps.zip us) fun _ => none) (cellsFrom (s.heap.objs.size + 1) scope.names []) (bindC (envOfC qual scope s.heap.objs.size f cd).kindOf (ps.zip us) fun _ => none) s1) :
  Inv (cxOf CX P w K mg base N qual scope f cd A outer s H E) [] (start N vs) H s1 := by
 have hpl : ps.length ≤ N.length := by have := congrArg List.length S.pre; rw [zZ] at this; omega
 obtain ⟨h1, tk, rfl, hk⟩ := x.done
 have noA : ∀ b : Addr, b ∉ (cxOf CX P w K mg base N qual scope f cd A outer s H E).ex := fun b z => absurd (show b ∈ ([] : List Addr) from z) (by simp)
 refine ⟨⟨e0.mod, S.kind, rfl, rfl, kK _, fun y z c h1 h2 => ?_, fun y hy => ?_, fun y c _ h => ?_, fun _ => hd, Around.frames_deeper e0.frames, .inr ⟨rfl, rfl⟩, fun b z => absurd z (noA b), e0.bs, e0.bsz, fun b _ _ => noA b, fun b z => absurd z (noA b), e0.funs, e0.frf⟩,
  rfl, e0.bare, Un.kept hk, ⟨_, x.toInCall.ns, fun i y v h1 h2 h3 => ?_⟩, fun y c h => ⟨_, x.cell y c h⟩, e0.hok.fresh (kK _), fun y c h => ?_, fun p hp => absurd (show p ∈ ([] : List (Addr × Obj)) from hp) (by simp), e0.hok.kept hk, ?_⟩
 ·exact name_of_addr x.apart (PySem.mem_of_lookup h1) (PySem.mem_of_lookup h2)
 ·have hy : scope.names.lookup y = some .cell ∨ scope.names.lookup y = some .free := hy
  rcases hy with hy | hy
  ·exact Qek hy
  ·exact absurd rfl (S.nofree _ (PySem.mem_of_lookup hy))
 ·exact Nat.le_of_lt (x.above y c (PySem.mem_of_lookup h))
 ·have hi : i < vs.length := by
   unfold start at h2
   by_cases hi : i < vs.length
   ·exact hi
   ·rw [kXa (by simpa using hi)] at h2
    rw [List.getElem?_replicate] at h2
    split at h2 <;> cases h2
  have ha : vs[i]? = some v := by
   unfold start at h2
   rw [wY (by simpa using hi), zK] at h2
   cases e : vs[i]? with
   | none => rw [e] at h2; cases h2
   | some a => rw [e] at h2; cases h2; rfl
  obtain ⟨u, hu, rv⟩ := r.get ha
  have hp : ps[i]? = some y := by
   rw [← S.pre, jYc (by omega)]; exact h1
  have ndP : ps.Nodup := by rw [← S.pre]; exact S.nd.sublist (List.take_sublist _ _)
  refine ⟨u, rv, ?_⟩
  rcases S.par y (yX hp) with k | k
  ·exact .inl ⟨k, Qby ndP hp hu k⟩
  ·obtain ⟨c, e⟩ := Qek (n := s.heap.objs.size + 1) k
   refine .inr ⟨.inl k, c, e, ?_⟩
   have q := x.cell y c e
   rw [Qbz ndP hp hu (by show scope.names.lookup y ≠ _; rw [k]; decide)] at q
   exact q
 ·exact e0.hok.fresh (Nat.le_of_lt (x.above y c (PySem.mem_of_lookup h)))
 ·unfold start
  show _ = N.length
  rw [jV, jW, List.length_replicate]
  omega
theorem fn_of {CX : CXT} {P : Program} {w : World} {K : Fg} {mg : Str → Option Value} {base : Heap} {k : Nat} {f : Addr} {name qual : Str} {params : Arguments} {body : List Stmt} {scope : Scope} {dV kV doc pm cdv ct oc : Value} {an od : Option Addr}
  {osl : Array (Option Value)} {N ps : List Str} {sp : Sp} (lk : K.lookup f = some ⟨oc, od, .func (PySem.W.fnOf name qual params body scope dV kV doc pm an cdv ct), osl⟩) (hcd : PySem.W.codeIn K cdv qual = true) (S : FnScope N ps scope)
  (len : ∀ vs H Q E, sp vs H Q E → vs.length = ps.length)
  (hbody : ∀ (A : Around) (outer : List Env) (s : Shared) (H : Hp) (vs : List V) (Q : VK) (E : XK), Room k (A.deeper (envOfC qual scope s.heap.objs.size f cdv)) → sp vs H Q E →
   ∃ t, PSs (cxOf CX P w K mg base N qual scope f cdv A outer s H E) body t ∧ t { nx := fun _ H' => Q .non H', rt := Q } (start N vs) H) :
  FnOk P w K mg base CX (k + 1) f (PySem.W.fnOf name qual params body scope dV kV doc pm an cdv ct) ps sp := by
 refine ⟨len, fun A outer s H args us vs Q E hr e0 hb r hsp => ?_⟩
 have hl := len _ _ _ _ hsp
 have KX : K.In s.heap := e0.mod.kin.keeps fun b o e => (e0.bs b o e).1
 have lim : s.heap.NoLimit := e0.mod.nolimit.keeps fun b o e => (e0.bs b o e).1
 have hkind : ∀ y ∈ ps.zip us, scope.names.lookup y.1 = some .local ∨ (scope.names.lookup y.1 = some .cell ∧ ((cellsFrom (s.heap.objs.size + 1) scope.names []).lookup y.1).isSome = true) := fun ⟨n, v⟩ hy => by
  rcases S.par n (List.of_mem_zip hy).1 with q | q
  ·exact .inl q
  ·exact .inr ⟨q, PySem.W.cellsFrom_some _ _ _ (.inl q)⟩
 refine codeAny_call_function hr.depth (KX _ _ lk) rfl S.co S.gen rfl (PySem.W.codeRec_of KX hcd) (hb _ _ _ _ ?_)
 refine wpAny_newFunctionEnv_cells S.kind hkind fun env he s1 x => ?_
 subst he
 refine ⟨lim.keeps x.toInCall.keep, codeAny_func ?_⟩
 obtain ⟨t, ht, hq⟩ := hbody A outer s H vs Q E (hr.deeper _) hsp
 have I : Inv (cxOf CX P w K mg base N qual scope f cdv A outer s H E) [] (start N vs) H s1 := Qhs S hr.hd e0 hl r x
 refine wpAny_mono (ht [] s1 (start N vs) H _ I hq) (fun fl s' hs => ?_) fun e s' hs => hs
 have fin : ∀ {σ' : St} {H' : Hp} {v : V} {u : Value}, Inv (cxOf CX P w K mg base N qual scope f cdv A outer s H E) [] σ' H' s' → RelV v u → Q v H' → CE outer P w H s Q u s' :=
  fun {σ' H' v u} J rv q => ⟨v, H', J.os, J.bare, J.base, J.hok, rv, q⟩
 cases fl with
 | ret u =>
  obtain ⟨v, σ', H', J, rv, q⟩ := hs
  exact fin J rv q
 | next =>
  obtain ⟨σ', H', J, q⟩ := hs
  exact fin (v := V.non) (u := Value.none) J rfl q
 | brk =>
  obtain ⟨_, _, _, q⟩ := hs
  exact False.elim q
 | cont =>
  obtain ⟨_, _, _, q⟩ := hs
  exact False.elim q
section
variable {X : Cx} {x : Str} {p pos : Pos} {e : Expr} {es : List Expr} {t : TA} {id T : String} {r : List V → Hp → VK → Prop}
def tCB (r : List V → Hp → VK → Prop) (t : TA) : TE := fun σ H Q => t σ H fun vs H1 => r vs H1 Q
theorem Qo (hc : CallR X (.builtin id) r) (hg : Gl X x) (hm : X.mg x = none) (hv : bootBuiltins x = some (.builtin id)) (ha : PA X (e :: es) t) (hn : autoParam (x ≠ "__name__") L2.aDec._auto_1) (hdb : autoParam ((x == ("__debug__" : Str)) = false) L2.aDec._auto_1)
  (he : autoParam (starEach (e :: es) X.env = (false, eval e X.env) :: starEach es X.env) L2.aRfl._auto_1) (hpl : autoParam ((backTo pos (starEach es X.env)).any (·.1) = false) L2.aRfl._auto_1) : PE X (.Call (.Name x p) (e :: es) [] pos) (tCB r t) := by
 intro pins s σ H Q I h
 refine wpAny_Call_Name_kw (Wv I hg hm hv ?_ hn hdb)
 exact PyProof.Rows.callWith_builtin1 (thn (ha pos pins s σ H _ I h) fun us s1 ⟨vs, H1, I1, r1, q1⟩ => hc pins s1 σ H1 vs us Q I1 r1 q1) he hpl
theorem Zl (hc : CallR X (.type T) r) (hg : Gl X x) (hm : X.mg x = none) (hv : bootBuiltins x = some (.type T)) (ha : PA X (e :: es) t) (hn : autoParam (x ≠ "__name__") L2.aDec._auto_1) (hdb : autoParam ((x == ("__debug__" : Str)) = false) L2.aDec._auto_1)
  (he : autoParam (starEach (e :: es) X.env = (false, eval e X.env) :: starEach es X.env) L2.aRfl._auto_1) (hpl : autoParam ((backTo pos (starEach es X.env)).any (·.1) = false) L2.aRfl._auto_1) : PE X (.Call (.Name x p) (e :: es) [] pos) (tCB r t) := by
 intro pins s σ H Q I h
 refine wpAny_Call_Name_kw (Wv I hg hm hv ?_ hn hdb)
 exact PyProof.Rows.callWith_type1 (thn (ha pos pins s σ H _ I h) fun us s1 ⟨vs, H1, I1, r1, q1⟩ => hc pins s1 σ H1 vs us Q I1 r1 q1) he hpl
end
end L2
namespace HT
open PySem PyProof.Rows
section
open PySem.SeqAt
open PySem.AutoSeq1 (wpAny_loadPart')
open PySem.MeetsSeq PySem.MeetsSeq2 PySem.MeetsSeq3
end
section
variable {prog : Program} {w : World} {A : Around} {E : Value → Shared → Prop} {s : Shared}
theorem cat_tup {t b : Addr} {vs ws : List Value} {Q : Value → Shared → Prop} (ht : IsTup s.heap t vs.toArray) (hb : IsTup s.heap b ws.toArray) (hv : vs ≠ [])
  (h1 : ws = [] → Q (.ref t) s) (h2 : ws ≠ [] → Q (.ref s.heap.objs.size) { s with heap := s.heap.push { cls := .type "tuple", data := .seq (vs ++ ws).toArray } })
  (hsz : vs.length + ws.length ≤ sizeLine) : wpAny (model prog w) A (binaryOp .Add (.ref t) (.ref b)) Q E s := by
 obtain ⟨⟨cls, dd, data, sl⟩, ho, hc, n, hd⟩ := id ht
 obtain ⟨⟨cls2, dd2, data2, sl2⟩, ho2, hc2, n2, hd2⟩ := id hb
 simp only at hc hd hc2 hd2
 subst hc hd hc2 hd2
 have e : vs.toArray ++ ws.toArray = (vs ++ ws).toArray := by simp
 by_cases hw : ws = []
 ·exact concat_meets ⟨_, ho, rfl⟩ ⟨_, ho2, rfl⟩ noFill_tuple_add seq_tuple_add PySem.F.slot_tuple_add PySem.F.entry_tuple_add (PySem.F.args_tuple_add_2 _ _)
   (tuple_addW1 t b vs.toArray ws.toArray n n2 dd dd2 sl sl2 (by simpa using hv) (by simp [hw])) ⟨ho, ho2, h1 hw⟩
 ·refine concat_meets ⟨_, ho, rfl⟩ ⟨_, ho2, rfl⟩ noFill_tuple_add seq_tuple_add PySem.F.slot_tuple_add PySem.F.entry_tuple_add (PySem.F.args_tuple_add_2 _ _)
   (tuple_addW2 t b vs.toArray ws.toArray n n2 dd dd2 sl sl2 (by simpa using hv) (by simpa using hw) (by rw [jJ, jJ]; exact hsz)) ⟨ho, ho2, ?_⟩
  rw [e]
  exact h2 hw
def sIx (n d : Nat) : Option Int → Nat
 | none => d
 | some v => if v < 0 then (v + (n : Int)).toNat else min v.toNat n
theorem sIx_none (n d : Nat) : sIx n d none = d := rfl
theorem sIx_nat (n d k : Nat) : sIx n d (some (k : Int)) = min k n := by
 show (if (k : Int) < 0 then ((k : Int) + (n : Int)).toNat else min (k : Int).toNat n) = min k n
 rw [if_neg (by omega), kXd]
theorem sIx_le (n d : Nat) (hd : d ≤ n) (o : Option Int) : sIx n d o ≤ n := by
 cases o with
 | none => exact hd
 | some v =>
  show (if v < 0 then (v + (n : Int)).toNat else min v.toNat n) ≤ n
  by_cases hv : v < 0
  ·rw [if_pos hv]; omega
  ·rw [if_neg hv]; exact Nat.min_le_right _ _
theorem min_cast (v : Int) (n : Nat) (h : ¬ v < 0) : min v (n : Int) = ((min v.toNat n : Nat) : Int) := by
 obtain ⟨k, rfl⟩ := Int.eq_ofNat_of_zero_le (Int.not_lt.mp h)
 rw [kXd]
 rcases Nat.le_total k n with h | h
 ·rw [xX h, Int.min_eq_left (Int.ofNat_le.mpr h)]
 ·rw [Nat.min_eq_right h, Int.min_eq_right (Int.ofNat_le.mpr h)]
theorem clip_eq (v : Int) (n d : Nat) : (if v < 0 then max (v + (n : Int)) 0 else min v (n : Int)) = ((sIx n d (some v) : Nat) : Int) := by
 show (if v < 0 then max (v + (n : Int)) 0 else min v (n : Int)) = (((if v < 0 then (v + (n : Int)).toNat else min v.toNat n) : Nat) : Int)
 by_cases hv : v < 0
 ·rw [if_pos hv, if_pos hv]; exact (Int.ofNat_toNat _).symm
 ·rw [if_neg hv, if_neg hv]; exact min_cast v n hv
theorem Qgc (lo hi : Option Int) (n : Nat) : Builtin.Slice.sliceAdjust lo hi 1 (n : Int) = (((sIx n 0 lo : Nat) : Int), ((sIx n n hi : Nat) : Int)) := by
 have h1 : ¬ ((1 : Int) < 0) := by omega
 unfold Builtin.Slice.sliceAdjust
 simp only [h1, if_false]
 refine Prod.ext ?_ ?_
 ·cases lo with
  | none => rfl
  | some v => exact clip_eq v n 0
 ·cases hi with
  | none => rfl
  | some v => exact clip_eq v n n
theorem Qgd (i j : Nat) : Builtin.Slice.slicePlaces (i : Int) (j : Int) 1 = j - i := by
 unfold Builtin.Slice.slicePlaces
 have h1 : (1 : Int) > 0 := by omega
 simp only [h1, if_true, Int.ediv_one]
 split <;> omega
theorem Wx {v : Value} {o : Option Int} {Q : Option Int → Shared → Prop} (p : IsPart v o) (h : Q o s) : wpAny (model prog w) A (Builtin.Slice.slicePartIndex v) Q E s := by
 cases p with
 | none => exact slicePart_none h
 | int i t => exact slicePart_int h
theorem Va {sl : Addr} {vl vu : Value} {lo hi : Option Int} {n : Nat} {Q : Int × Int × Nat → Shared → Prop} (hs : s.heap.IsSliceOf sl vl vu .none) (pl : IsPart vl lo) (pu : IsPart vu hi)
  (h : Q (((sIx n 0 lo : Nat) : Int), 1, sIx n n hi - sIx n 0 lo) s) : wpAny (model prog w) A (Builtin.Slice.sliceApplied (.ref sl) (pure (n : Int))) Q E s := by
 obtain ⟨os, hos, hcs, hds⟩ := id hs
 unfold Builtin.Slice.sliceApplied Builtin.Slice.sliceFields
 refine jX (jX (wpAny_field hos hds (x := vl) rfl (jX (wpAny_field hos hds (x := vu) rfl (jX (wpAny_field hos hds (x := .none) rfl (kW ?_)))))))
 refine jX (slicePart_none ?_)
 show wpAny _ _ (if ((1 : Int) == 0) = true then _ else _) _ _ s
 rw [if_neg (by decide)]
 refine jX (Wx pl (jX (Wx pu (jX (kW ?_)))))
 show wpAny _ _ (match Builtin.Slice.sliceAdjust lo hi 1 (n : Int) with | (lo, hi) => pure (lo, (1 : Int), Builtin.Slice.slicePlaces lo hi 1)) _ _ s
 rw [Qgc lo hi n]
 show wpAny _ _ (pure (((sIx n 0 lo : Nat) : Int), (1 : Int), Builtin.Slice.slicePlaces ((sIx n 0 lo : Nat) : Int) ((sIx n n hi : Nat) : Int) 1)) _ _ s
 rw [Qgd]
 exact kW h
theorem Qlf (xs : Array Value) (i k : Nat) : ((List.range k).filterMap fun (m : Nat) => xs[((i : Int) + (m : Int) * 1).toNat]?).toArray = ((xs.toList.drop i).take k).toArray := by
 have e : (fun (m : Nat) => xs[((i : Int) + (m : Int) * 1).toNat]?) = fun m => xs[i + m]? := by
  funext m
  have : ((i : Int) + (m : Int) * 1).toNat = i + m := by omega
  rw [this]
 rw [e]
 have := pick_run xs i k
 rw [List.filterMap_map] at this
 have e2 : ((fun x => xs[x]?) ∘ fun x => i + x) = fun m => xs[i + m]? := rfl
 rw [e2] at this
 rw [this]
theorem getItem_tuple_cut {t sl : Addr} {items : Array Value} {vl vu : Value} {lo hi : Option Int} {Q : Value → Shared → Prop} (ht : IsTup s.heap t items) (hs : s.heap.IsSliceOf sl vl vu .none) (pl : IsPart vl lo) (pu : IsPart vu hi)
  (hw : ¬ (sIx items.size 0 lo = 0 ∧ sIx items.size items.size hi = items.size))
  (h : Q (.ref s.heap.objs.size) { s with heap := s.heap.push { cls := .type "tuple", data := .seq ((items.toList.drop (sIx items.size 0 lo)).take (sIx items.size items.size hi - sIx items.size 0 lo)).toArray } })
  (hsz : items.size ≤ sizeLine) : wpAny (model prog w) A (getItem (.ref t) (.ref sl)) Q E s := by
 have htake : sizeOk (.seq ((items.toList.drop (sIx items.size 0 lo)).take (sIx items.size items.size hi - sIx items.size 0 lo)).toArray) := by
  show ((items.toList.drop (sIx items.size 0 lo)).take (sIx items.size items.size hi - sIx items.size 0 lo)).toArray.size ≤ sizeLine
  rw [jJ, zZ, jXa, wZ]
  omega
 have hj : sIx items.size items.size hi ≤ items.size := sIx_le _ _ (kK _) hi
 obtain ⟨os, hos, hcs, hds⟩ := id hs
 have hTs : s.TypeIs (.ref sl) "slice" := ⟨os, hos, hcs⟩
 unfold getItem
 try with_reducible refine wpAny_holding ?_
 first | refine jX (kW ?_) | skip
 refine jX (wpAny_sequenceKey ht.typeIs (by decide) ?_)
 refine jX (wpAny_callSpecial?_slot (name := Str.ofString "__getitem__") ht.typeIs PyProof.Rows.slot_tuple_getitem
  (wpAny_call_entry PyProof.Rows.slot_tuple_getitem ht.typeIs entry_tuple_getitem ?_ (args_tuple_getitem _ _)))
 show wpAny _ _ (Builtin.Tuple.tupleItemsOf (.ref t) >>= _) _ _ s
 refine jX (tupleItemsOf_ ht ?_)
 refine jX (wpAny_typeOf hTs ?_)
 rw [if_pos (by decide)]
 refine jX (Va hs pl pu ?_)
 have hno : ¬ ((((sIx items.size 0 lo : Nat) : Int) == 0 && (1 : Int) == 1 && (sIx items.size items.size hi - sIx items.size 0 lo) == items.size) = true) := by
  intro q
  rw [zY, zY] at q
  have q1 : ((sIx items.size 0 lo : Nat) : Int) = 0 := eq_of_beq q.1.1
  have q2 : sIx items.size items.size hi - sIx items.size 0 lo = items.size := eq_of_beq q.2
  exact hw ⟨by omega, by omega⟩
 show wpAny _ _ (if (((sIx items.size 0 lo : Nat) : Int) == 0 && (1 : Int) == 1 && (sIx items.size items.size hi - sIx items.size 0 lo) == items.size) = true then _ else _) _ _ s
 rw [if_neg hno, Qlf]
 first
  | exact jX (m := Builtin.Tuple.tupleExact _) (wpAny_newObj_type (kW ⟨_, rfl, kW h⟩) htake)
  | exact jX (m := Builtin.Tuple.tupleExact _) (wpAny_newObj_type (jX (kW (kW ⟨_, rfl, kW h⟩))) htake)
  | exact jX (jX (m := Builtin.Tuple.tupleExact _) (wpAny_newObj_type (kW (kW ⟨_, rfl, kW h⟩)) htake))
  | exact jX (jX (m := Builtin.Tuple.tupleExact _) (wpAny_newObj_type (kW ⟨_, rfl, kW h⟩) htake))
end
end HT
namespace L2
open PySem PySem.Spec PyProof.Rows
abbrev TO := St → Hp → (Option Int → Hp → Prop) → Prop
def PO (X : Cx) (e : Option Expr) (t : TO) : Prop :=
 ∀ (pins : List (Addr × Obj)) (s : Shared) (σ : St) (H : Hp) (Q : Option Int → Hp → Prop), Inv X pins σ H s → t σ H Q →
  wpAny (model X.prog X.w) X.A (evalPart e X.env) (fun u s' => ∃ o H', Inv X pins σ H' s' ∧ IsPart u o ∧ Q o H') X.xe s
def Qod : TO := fun _ H Q => Q none H
def tPart (t : TE) : TO := fun σ H Q => t σ H fun x H1 => ∃ i, x = .int i ∧ Q (some i) H1
section
variable {X : Cx} {e : Expr} {te : TE} {lo hi : Option Expr} {tl th : TO} {pos p2 : Pos}
theorem Xm : PO X none Qod := by
 intro pins s σ H Q I h
 rw [evalPart_none]
 exact kW ⟨none, H, I, .none, h⟩
theorem Xg (h : PE X e te) : PO X (some e) (tPart te) := by
 intro pins s σ H Q I hw
 rw [evalPart_some]
 refine thn (h pins s σ H _ I hw) fun u s1 hqP => ?_
 obtain ⟨x, H1, I1, r1, q1⟩ := hqP
 obtain ⟨i, rfl, q⟩ := q1
 obtain ⟨t, rfl⟩ := r1
 exact ⟨some i, H1, I1, .int i t, q⟩
def SlR (X : Cx) (r : V → Option Int → Option Int → Hp → VK → Prop) : Prop :=
 ∀ (pins : List (Addr × Obj)) (s : Shared) (σ : St) (H : Hp) (x : V) (v vl vu : Value) (lo hi : Option Int) (sl : Addr) (Q : VK), Inv X pins σ H s → RelV x v → s.heap.IsSliceOf sl vl vu .none → IsPart vl lo → IsPart vu hi → r x lo hi H Q →
  ∃ T id, typeLookup (.type T) "__getitem__" = pure (some (.builtin id)) ∧ s.TypeIs v T ∧ wpAny (model X.prog X.w) X.A (getItem v (.ref sl)) (EP X pins σ Q) X.xe s
def tSl (r : V → Option Int → Option Int → Hp → VK → Prop) (te : TE) (tl th : TO) : TE := fun σ H Q => te σ H fun x H1 => tl σ H1 fun l H2 => th σ H2 fun u H3 => r x l u H3 Q
theorem Xe {r : V → Option Int → Option Int → Hp → VK → Prop} (hr : SlR X r) (he : PE X e te) (hl : PO X lo tl) (hu : PO X hi th) : PE X (.Subscript e (.Slice lo hi none p2) pos) (tSl r te tl th) := by
 intro pins s σ H Q I h
 refine Subscript_ (thn (he pins s σ H _ I h) fun v s1 hqP => ?_)
 obtain ⟨x, H1, I1, r1, q1⟩ := hqP
 refine wpAny_Slice (thn (hl pins s1 σ H1 _ I1 q1) fun vl s2 ⟨l, H2, I2, pl, q2⟩ => thn (hu pins s2 σ H2 _ I2 q2) fun vu s3 hqP => ?_)
 obtain ⟨u, H3, I3, pu, q3⟩ := hqP
 rw [evalPart_none]
 refine kW ?_
 have I4 : Inv X pins σ H3 { s3 with heap := s3.heap.push { cls := .type "slice", data := .fields #[vl, vu, .none] } } := I3.kept (t' := s3.toks) fun b ob q => jK _ q
 obtain ⟨T, id, hT, ht, hg⟩ := hr pins { s3 with heap := s3.heap.push { cls := .type "slice", data := .fields #[vl, vu, .none] } } σ H3 x v vl vu l u s3.heap.objs.size Q I4 r1 (Heap.IsSliceOf.new ..) pl pu q3
 show wpAny (model X.prog X.w) X.A (subscriptTail e (.Slice lo hi none p2) v (.ref s3.heap.objs.size)) (EP X pins σ Q) X.xe { s3 with heap := s3.heap.push { cls := .type "slice", data := .fields #[vl, vu, .none] } }
 exact tail_any (ops := [.ref s3.heap.objs.size, v]) ht hT hg (by with_unfolding_all rfl)
def cutV (xs : List V) (lo hi : Option Int) : List V := (xs.drop (HT.sIx xs.length 0 lo)).take (HT.sIx xs.length xs.length hi - HT.sIx xs.length 0 lo)
theorem Vl (xs : List V) (lo hi : Option Int) : (cutV xs lo hi).length ≤ xs.length := by
 unfold cutV
 rw [zZ, jXa]
 omega
def rSlT (K : Fg) : V → Option Int → Option Int → Hp → VK → Prop := fun x lo hi H Q => ∃ a xs, x = .ref a ∧ SqT K H a xs ∧
 ¬ (HT.sIx xs.length 0 lo = 0 ∧ HT.sIx xs.length xs.length hi = xs.length) ∧ ∀ p, H p = none → Q (.ref p) (upd H p (.tup (cutV xs lo hi)))
theorem sl_tup : SlR X (rSlT X.K) := by
 intro pins s σ H x v vl vu lo hi sl Q I rx hs pl pu h
 obtain ⟨a, xs, rfl, hx, hw, q⟩ := h
 cases rx
 obtain ⟨its, r, ht, hz⟩ := I.tuple hx
 have hlen : its.toArray.size = xs.length := by rw [jJ]; exact r.length.symm
 refine ⟨"tuple", _, PyProof.Rows.slot_tuple_getitem.lookup, ht.typeIs, ?_⟩
 refine HT.getItem_tuple_cut ht hs pl pu (by rw [hlen]; exact hw) ?_ (by rw [hlen]; exact hz)
 rw [hlen]
 refine ⟨.ref s.heap.objs.size, _, I.laid (t' := s.toks) (o := .tup (cutV xs lo hi)) (fun b ob q => jK _ q) (kK _) ?_, rfl, q _ (I.hok.fresh (kK _))⟩
 exact ⟨xW (Vl xs lo hi) hz, _, (r.drop (HT.sIx xs.length 0 lo)).take (HT.sIx xs.length xs.length hi - HT.sIx xs.length 0 lo), IsTup.new _ _⟩
def rCatT (K : Fg) : R2 := fun x y H Q => ∃ a b xs ys, x = .ref a ∧ y = .ref b ∧ SqT K H a xs ∧ SqT K H b ys ∧ xs ≠ [] ∧ xs.length + ys.length ≤ sizeLine ∧
 (ys = [] → Q (.ref a) H) ∧ (ys ≠ [] → ∀ p, H p = none → Q (.ref p) (upd H p (.tup (xs ++ ys))))
theorem Vals.nil_iff {xs : List V} {us : List Value} (r : Vals xs us) : us = [] ↔ xs = [] := by
 cases r with
 | nil => simp
 | cons _ _ => simp
theorem Qoe : OpR X (binaryOp .Add) (rCatT X.K) := by
 intro pins s σ H x y v u Q I rx ry h
 obtain ⟨a, b, xs, ys, rfl, rfl, ha, hb, hx, hz, q1, q2⟩ := h
 cases rx
 cases ry
 obtain ⟨its, r1, p1, _⟩ := I.tuple ha
 obtain ⟨its2, r2, p2, _⟩ := I.tuple hb
 refine HT.cat_tup p1 p2 (fun z => hx (r1.nil_iff.mp z)) (fun z => ⟨.ref a, H, I, rfl, q1 (r2.nil_iff.mp z)⟩) (fun z => ?_) (by rw [← r1.length, ← r2.length]; exact hz)
 refine ⟨.ref s.heap.objs.size, _, I.laid (t' := s.toks) (o := .tup (xs ++ ys)) (fun b ob q => jK _ q) (kK _) ?_, rfl, q2 (fun w => z (r2.nil_iff.mpr w)) _ (I.hok.fresh (kK _))⟩
 exact ⟨by rw [jV]; exact hz, _, r1.append r2, IsTup.new _ _⟩
end
def ixN (n : Nat) (i : Int) : Option Nat := if 0 ≤ i then (if i < n then some i.toNat else none) else if -(n : Int) ≤ i then some (i + n).toNat else none
def atI {α : Type} (xs : List α) (i : Int) : Option α := (ixN xs.length i).bind fun j => xs[j]?
theorem Qht {n : Nat} {i : Int} {j : Nat} (h : ixN n i = some j) : seqIndex? i n = some j ∧ j < n ∧ -(n : Int) ≤ i ∧ i < n := by
 unfold ixN at h
 by_cases h0 : 0 ≤ i
 ·rw [if_pos h0] at h
  by_cases h1 : i < n
  ·rw [if_pos h1] at h
   have e : i.toNat = j := Option.some.inj h
   exact ⟨by rw [seqIndex_of h0 h1, e], by omega, by omega, h1⟩
  ·rw [if_neg h1] at h; cases h
 ·rw [if_neg h0] at h
  by_cases h1 : -(n : Int) ≤ i
  ·rw [if_pos h1] at h
   have e : (i + n).toNat = j := Option.some.inj h
   exact ⟨by rw [seqIndex_neg (by omega) h1, e], by omega, h1, by omega⟩
  ·rw [if_neg h1] at h; cases h
theorem Qan {α : Type} {xs : List α} {i : Int} {v : α} (h : atI xs i = some v) : ∃ j, seqIndex? i xs.length = some j ∧ xs[j]? = some v ∧ j < xs.length ∧ -(xs.length : Int) ≤ i ∧ i < xs.length := by
 unfold atI at h
 cases e : ixN xs.length i with
 | none => rw [e] at h; cases h
 | some j =>
  rw [e] at h
  obtain ⟨h1, h2, h3, h4⟩ := Qht e
  exact ⟨j, h1, h, h2, h3, h4⟩
theorem Qdf {α : Type} {xs : List α} {j : Nat} {v : α} (h : xs[j]? = some v) : atI xs (j : Int) = some v := by
 have hj : j < xs.length := (kY.mp h).1
 have e : ixN xs.length (j : Int) = some j := by
  unfold ixN
  rw [if_pos (by omega), if_pos (by omega)]; simp
 unfold atI; rw [e]; exact h
def Qof (b : Expr) : Prop := ∀ o i, subscripted b false o i = operate [o, i] (getItem o i)
def IxR (X : Cx) (r : R2) : Prop :=
 ∀ (value slice : Expr) (pins : List (Addr × Obj)) (s : Shared) (σ : St) (H : Hp) (x y : V) (v u : Value) (Q : VK), Inv X pins σ H s → RelV x v → RelV y u → r x y H Q →
  subscripted slice false v u = operate [v, u] (getItem v u) → wpAny (model X.prog X.w) X.A (subscriptTail value slice v u) (EP X pins σ Q) X.xe s
def MtR (X : Cx) (id : String) (r : V → List V → Hp → VK → Prop) : Prop :=
 ∀ (pins : List (Addr × Obj)) (s : Shared) (σ : St) (H : Hp) (x : V) (xs : List V) (v : Value) (us : List Value) (Q : VK), Inv X pins σ H s → RelV x v → Vals xs us → r x xs H Q →
  wpAny (model X.prog X.w) X.A (call (.builtin id) (v :: us)) (EP X pins σ Q) X.xe s
section
variable {X : Cx} {a b : Expr} {ta tb : TE} {pos : Pos}
theorem Qn {r : R2} (hr : IxR X r) (ha : PE X a ta) (hb : PE X b tb) (hs : Qof b) : PE X (.Subscript a b pos) (tOp r ta tb) := by
 intro pins s σ H Q I h
 exact Subscript_ (binT ha hb I h fun v u s2 x y H2 I2 rx ry q => hr a b pins s2 σ H2 x y v u Q I2 rx ry q (hs _ _))
def rIxL (K : Fg) : R2 := fun x y H Q => ∃ p xs i v, x = .ref p ∧ y = .int i ∧ SqL K H p xs ∧ atI xs i = some v ∧ Q v H
def rIxT (K : Fg) : R2 := fun x y H Q => ∃ p xs i v, x = .ref p ∧ y = .int i ∧ SqT K H p xs ∧ atI xs i = some v ∧ Q v H
def rIxS : R2 := fun x y H Q => ∃ z i c, x = .str z ∧ y = .int i ∧ z.length ≤ sizeLine ∧ atI z.cps.toList i = some c ∧ Q (.str ⟨#[c]⟩) H
theorem Qj : IxR X (rIxL X.K) := by
 intro value slice pins s σ H x y v u Q I rx ry h hs
 obtain ⟨p, xs, i, z, rfl, rfl, hq, he, q⟩ := h
 cases rx
 obtain ⟨t, rfl⟩ := ry
 obtain ⟨its, r, pl, hz⟩ := I.list hq
 obtain ⟨j, h1, h2, h3, h4, h5⟩ := Qan he
 obtain ⟨w, ew, rw'⟩ := r.get h2
 have hl := r.length
 have hn := Ww
 have fin : EP X pins σ Q w s := ⟨z, H, I, rw', q⟩
 by_cases h0 : 0 ≤ i
 ·have hj : i.toNat = j := by
   rw [seqIndex_of h0 h5] at h1
   exact Option.some.inj h1
  exact item_listR pl.isList h0 (by omega) (by rw [hj]; simpa using ew) fin hs
 ·have hj : (i + (its.toArray.size : Int)).toNat = j := by
   rw [seqIndex_neg (by omega) h4] at h1
   rw [jJ, ← hl]
   exact Option.some.inj h1
  exact subscriptTail_builtinR (x := w) pl.isList.typeIs slot_list_getitem.lookup
   (wpAny_getItem_list_neg (Q := fun r s' => r = w ∧ EP X pins σ Q r s') pl.isList (by omega) (by rw [jJ] <;> omega) (by omega) (by rw [hj]; simpa using ew) ⟨rfl, fin⟩) hs
theorem Qel : IxR X (rIxT X.K) := by
 intro value slice pins s σ H x y v u Q I rx ry h hs
 obtain ⟨p, xs, i, z, rfl, rfl, hq, he, q⟩ := h
 cases rx
 obtain ⟨t, rfl⟩ := ry
 obtain ⟨its, r, pl, hz⟩ := I.tuple hq
 obtain ⟨j, h1, h2, h3, h4, h5⟩ := Qan he
 obtain ⟨w, ew, rw'⟩ := r.get h2
 have hl := r.length
 have hn := Ww
 have fin : EP X pins σ Q w s := ⟨z, H, I, rw', q⟩
 exact subscriptTail_builtinR (x := w) pl.typeIs slot_tuple_getitem.lookup
  (getItem_tuple (j := j) (Q := fun r s' => r = w ∧ EP X pins σ Q r s') pl (by omega) (by omega) (by rw [jJ, ← hl]; exact h1) (by simpa using ew) ⟨rfl, fin⟩) hs
theorem Qne : IxR X rIxS := by
 intro value slice pins s σ H x y v u Q I rx ry h hs
 obtain ⟨z, i, c, rfl, rfl, hz, he, q⟩ := h
 obtain ⟨t, rfl⟩ := rx
 obtain ⟨t', rfl⟩ := ry
 obtain ⟨j, h1, h2, h3, h4, h5⟩ := Qan he
 have hl : z.cps.toList.length = z.length := by simp [Str.length]
 rw [hl] at h1 h4 h5
 have hn := Ww
 exact tail_any (typeIs_str s z t) slot_str_getitem.lookup (getItem_str (c := c) (by
  have e1 : decide (i < -(2 ^ 63 : Int)) = false := zW (by omega)
  have e2 : decide (i ≥ 2 ^ 63) = false := zW (by omega)
  rw [e1, e2, Bool.or_false]) (by rw [h1]; simpa using h2) ⟨.str ⟨#[c]⟩, H, I.tok _, ⟨_, rfl⟩, q⟩) hs
theorem Qge (its : List Value) (n j : Nat) (u : Value) : Obj.mapSeq (·.setIfInBounds j u) { cls := .type "list", data := .seq its.toArray n } = { cls := .type "list", data := .seq (its.set j u).toArray n } := by
 simp [Obj.mapSeq]
theorem Inv.lst {pins : List (Addr × Obj)} {σ : St} {H : Hp} {s : Shared} {p : Addr} {xs : List V} (I : Inv X pins σ H s) (h : H p = some (.lst xs)) :
  ∃ (its : List Value) (n : Nat), Vals xs its ∧ s.heap.get? p = some { cls := .type "list", data := .seq its.toArray n } ∧ xs.length ≤ sizeLine := by
 obtain ⟨z, its, n, r, e⟩ := I.hok p _ h
 exact ⟨its, n, r, e, z⟩
theorem Inv.lstUpd {pins : List (Addr × Obj)} {σ : St} {H : Hp} {s : Shared} {p : Addr} {xs ys : List V} {its its' : List Value} {n n' : Nat} {f : Obj → Obj} (I : Inv X pins σ H s) (h : H p = some (.lst xs))
  (ho : s.heap.get? p = some { cls := .type "list", data := .seq its.toArray n }) (hf : f { cls := .type "list", data := .seq its.toArray n } = { cls := .type "list", data := .seq its'.toArray n' }) (r : Vals ys its') (hz : ys.length ≤ sizeLine) (t : Nat) :
  Inv X pins σ (upd H p (.lst ys)) { s with heap := s.heap.update p f, toks := t } := by
 have e : (s.heap.update p f).get? p = some { cls := .type "list", data := .seq its'.toArray n' } := by
  rw [jZf f ho (by rw [hf] <;> rfl), hf]
 refine I.write (x := p) (e := p) (by rw [h]; trivial) (.inl rfl) (fun b u hb q => (jQd _ _ (Ne.symm hb)).trans q) ⟨_, e⟩ ?_
 exact ⟨hz, its', n', r, e⟩
def rSetL : V → V → V → Hp → (Hp → Prop) → Prop := fun o i v H Q => ∃ p xs k j, o = .ref p ∧ i = .int k ∧ H p = some (.lst xs) ∧ ixN xs.length k = some j ∧ Q (upd H p (.lst (xs.set j v)))
theorem set_list : PSet X rSetL := by
 intro pins s σ H o i v ov iv u Q I ro ri rv h
 obtain ⟨p, xs, k, j, rfl, rfl, hp, hj, q⟩ := h
 cases ro
 obtain ⟨t, rfl⟩ := ri
 obtain ⟨its, n, r, ho, hz⟩ := I.lst hp
 obtain ⟨h1, h2, h3, h4⟩ := Qht hj
 have hl := r.length
 have hn := Ww
 have I' : Inv X pins σ (upd H p (.lst (xs.set j v))) { s with heap := s.heap.update p (Obj.mapSeq (·.setIfInBounds j u)) } :=
  I.lstUpd hp ho (Qge its n j u) (r.set rv j) (by rw [kQd]; exact hz) s.toks
 by_cases h0 : 0 ≤ k
 ·have hk : k.toNat = j := by
   rw [seqIndex_of h0 h4] at h1
   exact Option.some.inj h1
  exact PySem.W.ki_setAt ho h0 (by omega) (by rw [jJ, ← hl]; exact h4) (by rw [hk]; exact ⟨_, I', q⟩)
 ·have hk : (k + (its.toArray.size : Int)).toNat = j := by
   rw [seqIndex_neg (by omega) h3] at h1
   rw [jJ, ← hl]
   exact Option.some.inj h1
  exact PySem.W.ki_setBack ho (by omega) (by rw [jJ, ← hl]; exact h3) (by omega) (by rw [hk]; exact ⟨_, I', q⟩)
theorem Vm (i : Int) (n d : Nat) : max 0 (min (if i < 0 then i + (n : Int) else i) (n : Int)) = ((HT.sIx n d (some i) : Nat) : Int) := by
 rw [← HT.clip_eq]
 by_cases h : i < 0
 ·rw [if_pos h, if_pos h, Int.min_eq_left (by have := Int.add_le_add_right (Int.le_of_lt h) (n : Int); rwa [Int.zero_add] at this), Int.max_comm]
 ·rw [if_neg h, if_neg h, HT.min_cast i n h, Int.max_eq_right (Int.natCast_nonneg _)]
theorem Qca (lo hi : Option Int) (n : Nat) : (sliceBounds lo hi none n).1 = ((HT.sIx n 0 lo : Nat) : Int) ∧ (sliceBounds lo hi none n).2.1 = ((HT.sIx n n hi : Nat) : Int) ∧ (sliceBounds lo hi none n).2.2 = 1 := by
 refine ⟨?_, ?_, rfl⟩
 ·cases lo with
  | none => rfl
  | some i => exact Vm i n 0
 ·cases hi with
  | none => rfl
  | some i => exact Vm i n n
theorem Qao (its : List Value) (lo hi : Option Int) : slicePick its.toArray lo hi none = ((its.drop (HT.sIx its.length 0 lo)).take (HT.sIx its.length its.length hi - HT.sIx its.length 0 lo)).toArray := by
 obtain ⟨h1, h2, h3⟩ := Qca lo hi its.toArray.size
 unfold slicePick
 rw [h1, h2, h3]
 simp only [sliceRange_one, pick_run, jJ] <;> rfl
def rSlL (K : Fg) : V → Option Int → Option Int → Hp → VK → Prop := fun x lo hi H Q => ∃ a xs, x = .ref a ∧ SqL K H a xs ∧ ∀ p, H p = none → Q (.ref p) (upd H p (.lst (cutV xs lo hi)))
theorem Xl : SlR X (rSlL X.K) := by
 intro pins s σ H x v vl vu lo hi sl Q I rx hs pl pu h
 obtain ⟨a, xs, rfl, hx, q⟩ := h
 cases rx
 obtain ⟨its, r, ht, hz⟩ := I.list hx
 have hlen := r.length
 refine ⟨"list", _, slot_list_getitem.lookup, ht.isList.typeIs, ?_⟩
 refine wpAny_getItem_list_slice ht.isList hs pl pu .none (by simp) ?_ (by rw [jJ] <;> omega)
 rw [Qao, ← hlen]
 refine ⟨.ref s.heap.objs.size, _, I.laid (t' := s.toks) (o := .lst (cutV xs lo hi)) (fun b ob q => jK _ q) (kK _) ?_, rfl, q _ (I.hok.fresh (kK _))⟩
 exact ⟨xW (Vl xs lo hi) hz, _, 0, (r.drop (HT.sIx xs.length 0 lo)).take (HT.sIx xs.length xs.length hi - HT.sIx xs.length 0 lo), yV _ rfl⟩
def Yd : V → Bool
 | .non => true
 | .bl _ => true
 | .int _ => true
 | .str _ => true
 | _ => false
def eqV : V → V → Bool
 | .non, .non => true
 | .bl a, .bl b => a == b
 | .bl a, .int b => (if a then 1 else 0) == b
 | .int a, .bl b => a == (if b then 1 else 0)
 | .int a, .int b => a == b
 | .str a, .str b => a == b
 | _, _ => false
theorem Vn {A : Around} {s : Shared} {y x : V} {u v : Value} (ry : RelV y u) (rx : RelV x v) (fy : Yd y = true) (fx : Yd x = true) : SeqAt.EqAt A s u v (eqV y x) := by
 cases y with
 | non =>
  cases ry
  cases x with
  | non => cases rx; exact SeqAt.EqAt.same _
  | bl b => cases rx; exact SeqAt.EqAt.none_bool b
  | int b => obtain ⟨t, rfl⟩ := rx; exact SeqAt.EqAt.none_int b t
  | str b => obtain ⟨t, rfl⟩ := rx; exact SeqAt.EqAt.none_str b t
  | _ => exact absurd (show false = true from fx) yQ
 | bl a =>
  cases ry
  cases x with
  | non => cases rx; exact SeqAt.EqAt.bool_none a
  | bl b => cases rx; exact SeqAt.EqAt.bool_bool a b
  | int b => obtain ⟨t, rfl⟩ := rx; exact SeqAt.EqAt.bool_int a b t
  | str b => obtain ⟨t, rfl⟩ := rx; exact SeqAt.EqAt.bool_str a b t
  | _ => exact absurd (show false = true from fx) yQ
 | int a =>
  obtain ⟨t', rfl⟩ := ry
  cases x with
  | non => cases rx; exact SeqAt.EqAt.int_none a t'
  | bl b => cases rx; exact SeqAt.EqAt.int_bool a t' b
  | int b => obtain ⟨t, rfl⟩ := rx; exact SeqAt.EqAt.int_int a t' b t
  | str b => obtain ⟨t, rfl⟩ := rx; exact SeqAt.EqAt.int_str a t' b t
  | _ => exact absurd (show false = true from fx) yQ
 | str a =>
  obtain ⟨t', rfl⟩ := ry
  cases x with
  | non => cases rx; exact SeqAt.EqAt.str_none a t'
  | bl b => cases rx; exact SeqAt.EqAt.str_bool a t' b
  | int b => obtain ⟨t, rfl⟩ := rx; exact SeqAt.EqAt.str_int a t' b t
  | str b => obtain ⟨t, rfl⟩ := rx; exact SeqAt.EqAt.str_str a t' b t
  | _ => exact absurd (show false = true from fx) yQ
 | _ => exact absurd (show false = true from fy) yQ
def eqU (x : V) (u : Value) : Bool := match u with
 | .none => eqV .non x
 | .bool b => eqV (.bl b) x
 | .int i _ => eqV (.int i) x
 | .str z _ => eqV (.str z) x
 | _ => false
theorem Qhu {x y : V} {u : Value} (r : RelV y u) (f : Yd y = true) : eqU x u = eqV y x := by
 cases y with
 | non => cases r; rfl
 | bl b => cases r; rfl
 | int i => obtain ⟨t, rfl⟩ := r; rfl
 | str z => obtain ⟨t, rfl⟩ := r; rfl
 | _ => exact absurd (show false = true from f) yQ
theorem Vo {x : V} : ∀ {xs : List V} {us : List Value}, Vals xs us → xs.all Yd = true → us.any (eqU x) = xs.any fun y => eqV y x
 | _, _, .nil, _ => rfl
 | y :: xs, u :: us, .cons r t, f => by
  rw [List.all_cons, zY] at f
  rw [kXe, kXe, Qhu r f.1, Vo t f.2]
theorem Qap {A : Around} {s : Shared} {x : V} {v : Value} (rx : RelV x v) (fx : Yd x = true) : ∀ {xs : List V} {us : List Value}, Vals xs us → xs.all Yd = true → ∀ u ∈ us, SeqAt.EqAt A s u v (eqU x u)
 | _, _, .nil, _ => fun u hu => by cases hu
 | y :: xs, u :: us, .cons r t, f => fun u' hu => by
  rw [List.all_cons, zY] at f
  rcases jZ.mp hu with rfl | hu
  ·rw [Qhu r f.1]; exact Vn r rx f.1 fx
  ·exact Qap rx fx t f.2 u' hu
def inV (x : V) (xs : List V) : Bool := xs.any fun y => eqV y x
def rIn (K : Fg) (neg : Bool) : R2 := fun x y H Q => ∃ p xs, y = .ref p ∧ (SqL K H p xs ∨ SqT K H p xs) ∧ Yd x = true ∧ xs.all Yd = true ∧ Q (.bl (if neg then !inV x xs else inV x xs)) H
theorem Jw : OpR X (compareOp .In) (rIn X.K false) := by
 intro pins s σ H x y v u Q I rx ry h
 obtain ⟨p, xs, rfl, hq, fx, fs, q⟩ := h
 cases ry
 rcases hq with hq | hq
 ·obtain ⟨its, r, pl, hz⟩ := I.list hq
  refine SeqAt.in_listAt (eqU x) pl.isList (fun w hw => Qap rx fx r fs w (by simpa using hw)) ⟨.bl _, H, I, rfl, ?_⟩
  rw [show its.toArray.any (eqU x) = its.any (eqU x) by simp, Vo r fs]
  exact q
 ·obtain ⟨its, r, pl, hz⟩ := I.tuple hq
  refine SeqAt.in_tupleAt (eqU x) pl (fun w hw => Qap rx fx r fs w (by simpa using hw)) ⟨.bl _, H, I, rfl, ?_⟩
  rw [show its.toArray.any (eqU x) = its.any (eqU x) by simp, Vo r fs]
  exact q
theorem Qt : CallR X (.builtin "len") (fun xs H Q => ∃ p ys, xs = [.ref p] ∧ (SqL X.K H p ys ∨ SqT X.K H p ys) ∧ Q (.int ys.length) H) := by
 intro pins s σ H xs us Q I r h
 obtain ⟨p, ys, rfl, hq, q⟩ := h
 obtain ⟨u, rfl, rx⟩ := vals1 r
 cases rx
 have hn := Ww
 rcases hq with hq | hq
 ·obtain ⟨its, r', pl, hz⟩ := I.list hq
  have hlen := r'.length
  exact Calls.call_len_list pl.isList (by simp only [jJ] <;> omega) ⟨.int ys.length, H, I.tok _, ⟨s.toks + 1, by rw [jJ, hlen]⟩, q⟩
 ·obtain ⟨its, r', pl, hz⟩ := I.tuple hq
  have hlen := r'.length
  exact len_tuple pl (by simp only [jJ] <;> omega) ⟨.int ys.length, H, I.tok _, ⟨s.toks + 1, by rw [jJ, hlen]⟩, q⟩
theorem Jc : CallR X (.builtin "len") (fun xs H Q => ∃ z, xs = [.str z] ∧ z.length ≤ sizeLine ∧ Q (.int z.length) H) := by
 intro pins s σ H xs us Q I r h
 obtain ⟨z, rfl, hz, q⟩ := h
 obtain ⟨u, rfl, t, rfl⟩ := vals1 r
 have hn := Ww
 exact len_str (by omega) ⟨.int z.length, H, I.tok _, ⟨_, rfl⟩, q⟩
theorem CallR.or {f : Value} {r r' : List V → Hp → VK → Prop} (h : CallR X f r) (h' : CallR X f r') : CallR X f (fun xs H Q => r xs H Q ∨ r' xs H Q) := by
 intro pins s σ H xs us Q I rs q
 rcases q with q | q
 ·exact h pins s σ H xs us Q I rs q
 ·exact h' pins s σ H xs us Q I rs q
theorem Jd : CallR X (.type "list") (fun xs H Q => ∃ p ys, xs = [.ref p] ∧ (SqL X.K H p ys ∨ SqT X.K H p ys) ∧ ∀ l, H l = none → Q (.ref l) (upd H l (.lst ys))) := by
 intro pins s σ H xs us Q I r h
 obtain ⟨p, ys, rfl, hq, q⟩ := h
 obtain ⟨u, rfl, rx⟩ := vals1 r
 cases rx
 have fin : ∀ (its : List Value), Vals ys its → ys.length ≤ sizeLine → ∀ (h' : Heap) (c' : Nat), (∀ b o', s.heap.get? b = some o' → h'.get? b = some o') →
   h'.get? s.heap.objs.size = some { cls := .type "list", dict := none, data := .seq its.toArray c', slots := #[] } → EP X pins σ Q (.ref s.heap.objs.size) { s with heap := h' } := fun its r' hz h' c' kp e =>
  ⟨.ref s.heap.objs.size, _, I.laid (t' := s.toks) kp (kK _) (show ObjOk X.prog X.w _ h' _ (.lst ys) from ⟨hz, its, c', r', e⟩), rfl, q _ (I.hok.fresh (kK _))⟩
 rcases hq with hq | hq
 ·obtain ⟨its, r', pl, hz⟩ := I.list hq
  have hlen := r'.length
  obtain ⟨o, ho, hc, n, hd⟩ := pl.isList
  exact call_list_seq p (.inl rfl) ho hc hd (fun h' c' kp e => fin its r' hz h' c' kp e) (by simp only [jJ] <;> omega)
 ·obtain ⟨its, r', pl, hz⟩ := I.tuple hq
  have hlen := r'.length
  obtain ⟨o, ho, hc, n, hd⟩ := pl
  exact call_list_seq p (.inr rfl) ho hc hd (fun h' c' kp e => fin its r' hz h' c' kp e) (by simp only [jJ] <;> omega)
theorem Jx : CallR X (.type "tuple") (fun xs H Q => ∃ p ys, xs = [.ref p] ∧ ((SqL X.K H p ys ∧ ∀ l, H l = none → Q (.ref l) (upd H l (.tup ys))) ∨ (SqT X.K H p ys ∧ Q (.ref p) H))) := by
 intro pins s σ H xs us Q I r h
 obtain ⟨p, ys, rfl, h⟩ := h
 obtain ⟨u, rfl, rx⟩ := vals1 r
 cases rx
 rcases h with ⟨hq, q⟩ | ⟨hq, q⟩
 ·obtain ⟨its, r', pl, hz⟩ := I.list hq
  have hlen := r'.length
  refine call_tuple_list pl.isList (fun h' kp => ?_) (by simp only [jJ] <;> omega)
  have I1 : Inv X pins σ H { s with heap := h' } := I.kept (t' := s.toks) kp
  have I2 : Inv X pins σ (upd H h'.objs.size (.tup ys)) { s with heap := h'.push { cls := .type "tuple", data := .seq its.toArray } } :=
   I1.laid (t' := s.toks) (fun b o e => jK _ e) (kK _) (show ObjOk X.prog X.w _ _ _ (.tup ys) from ⟨hz, its, r', IsTup.new _ _⟩)
  exact ⟨.ref h'.objs.size, _, I2, rfl, q _ (I1.hok.fresh (kK _))⟩
 ·obtain ⟨its, r', pl, hz⟩ := I.tuple hq
  exact call_tuple_same pl ⟨.ref p, H, I, rfl, q⟩
def tyV (K : Fg) (T : String) (x : V) (H : Hp) : Prop := match x with
 | .str _ => T = "str"
 | .int _ => T = "int"
 | .ref p => (T = "list" ∧ ∃ xs, SqL K H p xs) ∨ (T = "tuple" ∧ ∃ o, K.lookup p = some o ∧ o.cls = .type "tuple" ∧ o.dict = none) ∨
   (T = "dict" ∧ ((∃ kvs, H p = some (.dK kvs)) ∨ ∃ kvs, H p = some (.dT kvs))) ∨ (T = "set" ∧ ∃ S n, H p = some (.set S n))
 | _ => False
theorem Qnf {pins : List (Addr × Obj)} {σ : St} {H : Hp} {s : Shared} {T : String} {x : V} {v : Value} (I : Inv X pins σ H s) (r : RelV x v) (ty : tyV X.K T x H) :
  s.TypeIs v T ∧ ∀ a, v = .ref a → ∃ ob, s.heap.get? a = some ob ∧ ob.dict = none := by
 cases x with
 | str z =>
  obtain ⟨t, rfl⟩ := r
  cases (show T = "str" from ty)
  exact ⟨typeIs_str s z t, fun _ e => nomatch e⟩
 | int i =>
  obtain ⟨t, rfl⟩ := r
  cases (show T = "int" from ty)
  exact ⟨typeIs_int s i t, fun _ e => nomatch e⟩
 | ref p =>
  cases r
  rcases ty with ⟨rfl, xs, hq⟩ | ⟨rfl, o, hk, hc, hd⟩ | ⟨rfl, hk⟩ | ⟨rfl, S, n, hk⟩
  ·obtain ⟨its, _, pl, _⟩ := I.list hq
   refine ⟨pl.isList.typeIs, fun a e => ?_⟩
   cases e
   obtain ⟨o, n, e, c, hd, _⟩ := pl
   exact ⟨o, e, hd⟩
  ·refine ⟨⟨o, I.kIn p o hk, hc⟩, fun a e => ?_⟩
   cases e
   exact ⟨o, I.kIn _ o hk, hd⟩
  ·have z : ∃ o, s.heap.get? p = some o ∧ o.ExactDict := by
    rcases hk with ⟨kvs, hk⟩ | ⟨kvs, hk⟩
    ·obtain ⟨_, _, _, _, o, _, _, e, ex, _⟩ := I.hok p _ hk
     exact ⟨o, e, ex⟩
    ·obtain ⟨_, _, _, _, o, _, _, e, ex, _⟩ := I.hok p _ hk
     exact ⟨o, e, ex⟩
   obtain ⟨o, e, ex⟩ := z
   refine ⟨⟨o, e, ex.1⟩, fun a e2 => ?_⟩
   cases e2
   exact ⟨o, e, ex.2.1⟩
  ·obtain ⟨o, _, _, _, e, ex, _⟩ := I.hok p _ hk
   refine ⟨⟨o, e, ex.1⟩, fun a e2 => ?_⟩
   cases e2
   exact ⟨o, e, ex.2.1⟩
 | _ => exact False.elim ty
def tBM0 (K : Fg) (T : String) (r : V → List V → Hp → VK → Prop) (to : TE) : TE := fun σ H Q => to σ H fun x H1 => tyV K T x H1 ∧ r x [] H1 Q
def tBM (K : Fg) (T : String) (r : V → List V → Hp → VK → Prop) (to : TE) (t : TA) : TE := fun σ H Q => to σ H fun x H1 => tyV K T x H1 ∧ t σ H1 fun xs H2 => r x xs H2 Q
variable {o e : Expr} {es : List Expr} {to : TE} {t : TA} {name : Str} {apos cpos : Pos} {T id : String} {r : V → List V → Hp → VK → Prop}
theorem pe_bm0 (pa : PlainAttrs T) (slot : Slot T name id) (hty : typeOf (.builtin id) = pure (.type "method_descriptor")) (hm : MtR X id r) (ho : PE X o to)
  (hbase : autoParam (attributeBase o name X.env (eval o X.env) = eval o X.env) L2.aRfl._auto_1) (hline : autoParam ((apos.endLine == cpos.line) = true) L2.aRfl._auto_1) : PE X (.Call (.Attribute o name apos) [] [] cpos) (tBM0 X.K T r to) := by
 intro pins s σ H Q I h
 refine wpAny_Call_method0_late hbase hline (thn (ho pins s σ H _ I h) fun v s1 hqP => ?_)
 obtain ⟨x, H1, I1, r1, ty, q1⟩ := hqP
 obtain ⟨h1, h2⟩ := Qnf I1 r1 ty
 exact ⟨T, id, pa, slot, hty, h1, h2, Calls.callWith_builtin rfl (PySem.evalArgs_none (hm pins s1 σ H1 x [] v [] Q I1 r1 .nil q1))⟩
theorem Zz (pa : PlainAttrs T) (slot : Slot T name id) (hty : typeOf (.builtin id) = pure (.type "method_descriptor")) (hm : MtR X id r) (ho : PE X o to) (ha : PA X (e :: es) t)
  (hbase : autoParam (attributeBase o name X.env (eval o X.env) = eval o X.env) L2.aRfl._auto_1)
  (hfew : ((backTo cpos (starEach (e :: es) X.env)).all (fun x => !x.1) && (backToKw cpos (keywordEach [] X.env)).all (fun x => x.1.isSome)
   && decide ((e :: es).length + ([] : List Keyword).length + (if ([] : List Keyword).isEmpty then 0 else 1) < 30)) = true := by rfl)
  (hline : autoParam ((apos.endLine == cpos.line) = true) L2.aRfl._auto_1) (hs : autoParam (starEach (e :: es) X.env = (false, eval e X.env) :: starEach es X.env) L2.aRfl._auto_1) (hplain : autoParam ((backTo cpos (starEach es X.env)).any (·.1) = false) L2.aRfl._auto_1) :
  PE X (.Call (.Attribute o name apos) (e :: es) [] cpos) (tBM X.K T r to t) := by
 intro pins s σ H Q I h
 refine wpAny_Call_method_late hbase hfew hline rfl (thn (ho pins s σ H _ I h) fun v s1 hqP => ?_)
 obtain ⟨x, H1, I1, r1, ty, q1⟩ := hqP
 obtain ⟨h1, h2⟩ := Qnf I1 r1 ty
 refine ⟨T, id, pa, slot, hty, h1, h2, ?_⟩
 have hA := ha cpos pins s1 σ H1 _ I1 q1
 rw [hs] at hA ⊢
 refine Calls.callWith_builtin (by show (false || (backTo cpos (starEach es X.env)).any (·.1)) = false; rw [hplain] <;> rfl) (Calls.evalArgs_plain ?_)
 exact thn hA fun us s2 ⟨vs, H2, I2, r2, q2⟩ => hm pins s2 σ H2 x vs v us Q I2 r1 r2 q2
/- xs.append(e), list.index on a module's tuple .. are MtR facts of 06m -/
end
def MtM (X : Cx) (id : String) (r : V → List V → Hp → VK → Prop) : Prop :=
 ∀ (pins : List (Addr × Obj)) (s : Shared) (σ : St) (H : Hp) (x : V) (xs : List V) (v : Value) (us : List Value) (Q : VK), Inv X pins σ H s → RelV x v → Vals xs us → r x xs H Q →
  wpAny (model X.prog X.w) X.A (call (.builtin id) (v :: us)) (EP X pins σ Q) X.xe s
theorem Vals.one {x : V} {us : List Value} (h : Vals [x] us) : ∃ u, us = [u] ∧ RelV x u := by
 cases h with
 | cons r t => cases t; exact ⟨_, rfl, r⟩
theorem Vals.two {x y : V} {us : List Value} (h : Vals [x, y] us) : ∃ u v, us = [u, v] ∧ RelV x u ∧ RelV y v := by
 cases h with
 | cons r t =>
  cases t with
  | cons q t => cases t; exact ⟨_, _, rfl, r, q⟩
theorem Vals.zero : ∀ {us : List Value}, Vals [] us → us = []
 | _, .nil => rfl
theorem Vals.reverse {xs : List V} {us : List Value} (h : Vals xs us) : Vals xs.reverse us.reverse := by
 induction h with
 | nil => exact .nil
 | cons r t ih => rw [List.reverse_cons, List.reverse_cons]; exact Vals.append ih (.cons r .nil)
section
variable {X : Cx} {pins : List (Addr × Obj)} {σ : St} {H : Hp} {s : Shared} {l b : Addr} {xs ys zs : List V}
theorem Inv.lset {its its' : List Value} {n : Nat} {f : Array Value → Array Value} {t' : Nat} (I : Inv X pins σ H s) (hH : H l = some (.lst xs))
  (e : s.heap.get? l = some { cls := .type "list", data := .seq its.toArray n }) (hf : f its.toArray = its'.toArray) (hv : Vals ys its') (hz : ys.length ≤ sizeLine) :
  Inv X pins σ (upd H l (.lst ys)) { s with heap := s.heap.update l (Obj.mapSeq f), toks := t' } := by
 have q := PySem.IsL.update e f
 rw [hf] at q
 refine I.write (x := l) (e := l) (by rw [hH]; exact trivial) (.inl rfl) (fun b' u hb hu => (jQd s.heap (Obj.mapSeq f) (Ne.symm hb)).trans hu) ⟨_, q⟩ ?_
 exact ⟨hz, its', _, hv, q⟩
theorem Inv.lnew {its : List Value} {t' : Nat} (I : Inv X pins σ H s) (hv : Vals ys its) (hz : ys.length ≤ sizeLine) :
  Inv X pins σ (upd H s.heap.objs.size (.lst ys)) { s with heap := s.heap.push { cls := .type "list", data := .seq its.toArray }, toks := t' } :=
 I.laid (fun _ _ q => jK _ q) (kK _) ⟨hz, its, 0, hv, yV _ rfl⟩
theorem Inv.fresh (I : Inv X pins σ H s) : H s.heap.objs.size = none := I.hok.fresh (kK _)
theorem Inv.lstM (I : Inv X pins σ H s) (hH : H l = some (.lst xs)) : xs.length ≤ sizeLine ∧ ∃ (its : List Value) (n : Nat), Vals xs its ∧ xs.length = its.length ∧ s.heap.get? l = some { cls := .type "list", data := .seq its.toArray n } := by
 obtain ⟨z, its, n, r, e⟩ := I.hok l _ hH
 exact ⟨z, its, n, r, r.length, e⟩
end
section
variable {X : Cx}
def Qog : V → List V → Hp → VK → Prop := fun x vs H Q => ∃ l xs y, x = .ref l ∧ vs = [y] ∧ H l = some (.lst xs) ∧ xs.length < sizeLine ∧ Q .non (upd H l (.lst (xs ++ [y])))
theorem Xp : MtM X "list.append" Qog := by
 intro pins s σ H x vs v us Q I rx rv h
 obtain ⟨l, xs, y, rfl, rfl, hH, hz, q⟩ := h
 cases rx
 obtain ⟨u, rfl, ru⟩ := rv.one
 obtain ⟨z, its, n, r, hl, e⟩ := I.lstM hH
 refine call_meets F.slot_list_append ⟨_, e, rfl⟩ F.entry_list_append (F.args_list_append_2 _ _) (PySem.list_append l its.toArray n u (by rw [jJ]; omega)) ⟨e, ?_⟩
 refine ⟨.non, _, I.lset (its' := its ++ [u]) hH e (by simp) (r.append (.cons ru .nil)) ?_, rfl, q⟩
 rw [jV, List.length_singleton]
 omega
def Qlg : V → List V → Hp → VK → Prop := fun x vs H Q => ∃ l xs, x = .ref l ∧ vs = [] ∧ H l = some (.lst xs) ∧ Q .non (upd H l (.lst xs.reverse))
theorem Qgf : MtM X "list.reverse" Qlg := by
 intro pins s σ H x vs v us Q I rx rv h
 obtain ⟨l, xs, rfl, rfl, hH, q⟩ := h
 cases rx
 have hus := rv.zero
 subst hus
 obtain ⟨z, its, n, r, hl, e⟩ := I.lstM hH
 refine call_meets F.slot_list_reverse ⟨_, e, rfl⟩ F.entry_list_reverse (F.args_list_reverse_1 _) (AutoSeq1.list_reverse_list_0 l its.toArray n (by rw [jJ]; omega)) ⟨e, ?_⟩
 refine ⟨.non, _, I.lset (its' := its.reverse) hH e (by simp) r.reverse ?_, rfl, q⟩
 rw [List.length_reverse]
 omega
def rCat : R2 := fun x y H Q => ∃ l b xs zs, x = .ref l ∧ y = .ref b ∧ H l = some (.lst xs) ∧ H b = some (.lst zs) ∧ xs.length + zs.length ≤ sizeLine ∧ ∀ p, H p = none → Q (.ref p) (upd H p (.lst (xs ++ zs)))
theorem Yt : OpR X (binaryOp .Add) rCat := by
 intro pins s σ H x y v u Q I rx ry h
 obtain ⟨l, b, xs, zs, rfl, rfl, hH, hB, hz, q⟩ := h
 cases rx
 cases ry
 obtain ⟨z, its, n, r, hl, e⟩ := I.lstM hH
 obtain ⟨z2, its2, n2, r2, hl2, e2⟩ := I.lstM hB
 refine PySem.P.add_list e e2 ?_ (by rw [jJ, jJ]; omega)
 have ea : its.toArray ++ its2.toArray = (its ++ its2).toArray := by simp
 rw [ea]
 exact ⟨.ref _, _, I.lnew (t' := s.toks) (r.append r2) (by rw [jV]; omega), rfl, q _ I.fresh⟩
end
section
variable {prog : Program} {w : World} {A : Around} {E : Value → Shared → Prop} {s : Shared}
end
section
variable {X : Cx}
end
end L2
namespace Att
open PySem PySem.W PySem.Calls PyProof.Rows
theorem Vp {P : Params} {h : Heap} : ∀ (ns : List Int) (vs : List Value), WellAll P h vs (ns.map WData.int) → IntsAre vs ns := by
 intro ns
 induction ns with
 | nil =>
  intro vs w
  rw [List.map_nil] at w
  cases w
  exact .nil
 | cons n ns ih =>
  intro vs w
  rw [xQ] at w
  cases w with
  | cons a b =>
   cases a
   exact .cons _ _ (ih _ b)
theorem Qhv {l : OpenLaw} {n : Nat} (hn : l.most = some n) {P : Params} {h : Heap} {args : List WData} {vals : List Value}
  (hpre : l.row.toRowW.claim.pre args = true) (hwl : WellAll P h vals args) :
  ∃ a vs ns, vals = [Value.ref a] ∧ args = [WData.list (ns.map WData.int)] ∧ h.get? a = some { cls := .type "list", data := .seq vs.toArray } ∧ IntsAre vs ns ∧ ns.length ≤ n := by
 have hsh : WShape.hasAll [] args [.list .int] = true := (pre_splitW hpre).1
 have hc : l.pre.holds [] { args := args } = true := (pre_splitW hpre).2
 obtain ⟨d, r, rfl, h1, h2⟩ := hasAllW_cons hsh
 obtain rfl := hasAllW_nil h2
 obtain ⟨xs, rfl, h3⟩ := hasW_list h1
 obtain ⟨ns, rfl⟩ := items_int h3
 have hlen : ns.length ≤ n := by
  unfold OpenLaw.pre at hc
  have h4 : (WTm.not (.lt (.lit (.int (n : Int))) (.len (.arg 0)))).holds [] { args := [.list (ns.map .int)] } = true := by
   have h4 := (holds_andW hc).1
   rw [hn] at h4
   exact h4
  have h5 := condW_of h4 (w_not (w_lt w_lit (w_len_list (w_arg rfl))))
  rw [jW] at h5
  refine Nat.le_of_not_lt fun q => ?_
  have q' : (n : Int) < ((ns.length : Nat) : Int) := by omega
  first
   | (rw [yK q'] at h5; exact absurd h5 (by decide))
   | (simp at h5; omega)
 cases hwl with
 | cons w1 w2 =>
  cases w2
  cases w1 with
  | list ho hall => exact ⟨_, _, ns, rfl, rfl, ho, Vp ns _ hall, hlen⟩
theorem Qhw (l : OpenLaw) (args : List WData) : l.row.toRowW.claim.post args (.bool true) args = true :=
 postW_of (r := l.row.toRowW) (X := (true == true))
  (show WShape.has [] (.bool true) .bool = true by first | rfl | decide | simp [WShape.has, WShape.arms, WShape.armsAll])
  (show (WTm.eq .res (.lit (.bool true))).value [] { args := args, res := some (.bool true), after := args } = some (.bool (true == true)) from w_eq_bool (w_res rfl) w_lit) rfl
theorem attach_call {l : OpenLaw} {n : Nat} {q : Program} {loose : List Str} {XP : (Str → Option Value) → Heap → Prop} {YP : World → Heap → Prop} {d : DefRec}
  (hn : l.most = some n) (hdf : d.params.defaults = [])
  (call : ∀ (w : World) (s₀ s₁ : Shared) (mg mb : Str → Option Value) (fa : Addr) (o : Obj) (pm cd doc : Value) (a : Addr) (vs : List Value) (ns : List Int),
   Ground q loose [] XP w s₀ mg mb s₁.heap → YP w s₁.heap →
   s₁.heap.get? fa = some o → o.data = .func (docDef d.name d.params d.body d.scope pm cd doc) → s₁.heap.CodeRec cd d.name → mg d.name = some (.ref fa) →
   s₁.heap.get? a = some { cls := .type "list", data := .seq vs.toArray } → IntsAre vs ns → ns.length ≤ n → s₁.gens = #[] →
   codeAny (model l.prog w) callerA (.call (.ref fa) ⟨[.ref a], []⟩) (fun r s' => r = .ok (.ret (.bool true)) ∧ OldK s₁.heap s'.heap ∧ s'.os = s₁.os ∧ AllBare s'.gens) s₁) :
  WalkO q loose XP YP l.row.toRowW d [] (fun f vs => PySem.call f vs) := by
 intro w s₀ s₁ mg mb G Y fa o pm cd doc dV kV ho hd hcd hD hmg hg args vals as hpre hlay hrd hwl hlo
 obtain rfl : dV = .none := Dflts.none hD hdf
 obtain rfl : kV = .none := Dflts.noKw hD
 obtain ⟨a, vs, ns, rfl, rfl, hobj, hints, hlen⟩ := Qhv hn hpre hwl
 refine enter_call (codeAny_mono (call w s₀ s₁ mg mb fa o pm cd doc a vs ns G Y ho (fd_plain hd) hcd hmg hobj hints hlen hg) fun r s' hq => ?_)
 obtain ⟨rfl, h2, h3, h4⟩ := hq
 exact ⟨.inl ⟨.bool true, .bool true, [], rfl, fun _ => rfl, .bool true, Qhw l _, fun _ => ⟨List.Pairwise.nil, fun _ hm => (nomatch hm)⟩⟩, h2, h3, h4⟩
section
variable {prog : Program} {w : World} {A : Around} {E : Value → Shared → Prop} {s : Shared} {K : Frag}
end
end Att
namespace L2
open PySem PySem.Spec PyProof.Rows
theorem Qcb : ∀ {vs : List Value} {ns : List Int}, IntsAre vs ns → Vals (ns.map V.int) vs
 | _, _, .nil => .nil
 | _, _, .cons n t h => .cons ⟨t, rfl⟩ (Qcb h)
def Only (H : Hp) : Prop := ∀ b, H b = none ∨ ∃ o xs, H b = some (.frz o (.lst xs))
theorem Qlh {P : Program} {w : World} {K : Fg} {mg mb : Str → Option Value} {CX : CXT} {k : Nat} {fa a : Addr} {fd : FuncData} {x : Str} {sp : Sp} {s₁ : Shared} {vs : List Value} {ns : List Int}
  (KX : K.In s₁.heap) (hns : s₁.heap.Ns mainGlobals mg) (hb : s₁.heap.Ns builtinsNs mb) (hbb : ∀ x : Str, x ≠ "__name__" → mb x = bootBuiltins x) (hlim : s₁.heap.NoLimit) (hg : s₁.gens = #[])
  (ha : s₁.heap.get? a = some { cls := .type "list", data := .seq vs.toArray }) (hi : IntsAre vs ns) (hl : ns.length ≤ sizeLine) (hr : Room k callerA)
  (F : ∀ base : Heap, K.In base → base.Ns mainGlobals mg → FnOk P w K mg base CX k fa fd [x] sp) (hbind : ∀ (s : Shared) (u : Value), BindsTo s fd ⟨[u], []⟩ [(x, u)])
  (hsp : ∀ H : Hp, Only H → SqL K H a (ns.map V.int) → sp [.ref a] H (fun v _ => v = .bl true) fun _ _ _ => False)
  (hCX : ∀ H e s', CX [] H s₁ (fun _ _ _ => False) e s' → False) :
  codeAny (model P w) callerA (.call (.ref fa) ⟨[.ref a], []⟩) (fun r s' => r = .ok (.ret (.bool true)) ∧ OldK s₁.heap s'.heap ∧ s'.os = s₁.os ∧ AllBare s'.gens) s₁ := by
 have rv := Qcb hi
 have lenV := hi.length
 -- from an abstract heap in which nothing but the script may be tracked
 have core : ∀ H : Hp, Only H → SqL K H a (ns.map V.int) → HOk P w H s₁.heap → (∀ b, H b ≠ none → b = a) → (H a ≠ none → K.lookup a = none) →
   codeAny (model P w) callerA (.call (.ref fa) ⟨[.ref a], []⟩) (fun r s' => r = .ok (.ret (.bool true)) ∧ OldK s₁.heap s'.heap ∧ s'.os = s₁.os ∧ AllBare s'.gens) s₁ := by
  intro H hO hS hok hA hK
  have base_of : ∀ {b : Addr} {o : Obj}, s₁.heap.get? b = some o → H b = none → (hidT s₁.heap H).get? b = some o := fun e n => Qkz e n
  have noA : ∀ {b : Addr} {o : Obj} {es : Array DictEntry} {ep : Nat}, s₁.heap.get? b = some o → o.data = .dict es ep → H b = none := fun {b o es ep} e d => by
   cases q : H b with
   | none => rfl
   | some u =>
    have e' : b = a := hA b (by rw [q]; simp)
    subst e'
    rw [ha] at e; cases e
    have d' : Data.seq vs.toArray _ = Data.dict es ep := d
    cases d'
  have nsK : ∀ {b : Addr} {m : Str → Option Value}, s₁.heap.Ns b m → (hidT s₁.heap H).Ns b m := fun {b m} ⟨o, es, ep, e, d, r⟩ => ⟨o, es, ep, base_of e (noA e d), d, r⟩
  have hKb : K.In (hidT s₁.heap H) := fun b o e => base_of (KX b o e) (by
   cases q : H b with
   | none => rfl
   | some u =>
    have e' : b = a := hA b (by rw [q]; simp)
    subst e'
    rw [hK (by rw [q]; simp)] at e; cases e)
  have hM : Mod K mg (hidT s₁.heap H) := ⟨hKb, nsK hns, ⟨mb, nsK hb, hbb⟩, let ⟨mc, h1, h2⟩ := hlim; ⟨mc, nsK h1, h2⟩⟩
  have e0 : Env0 P w K mg (hidT s₁.heap H) callerA [] s₁ H := ⟨rfl, hM, fun b o e => Qny e, Nat.le_of_eq (Qhh _ _), trivial, fun b hb => absurd (show b ∈ ([] : List Addr) from hb) (by simp), hok, .of_eq hg⟩
  refine codeAny_mono ((F _ hKb (nsK hns)).run callerA [] s₁ H ⟨[.ref a], []⟩ [.ref a] [.ref a] _ _ hr e0 (hbind s₁ (.ref a)) (.cons rfl .nil) (hsp H hO hS)) fun r s' h => ?_
  cases r with
  | error e => exact (hCX H e s' h).elim
  | ok fl =>
   cases fl with
   | next => exact False.elim h
   | brk => exact False.elim h
   | cont => exact False.elim h
   | ret u =>
    obtain ⟨v, H', os, bare, un, hok', r', q⟩ := h
    have q' : v = .bl true := q
    subst q'
    obtain rfl : u = Value.bool true := r'
    refine ⟨rfl, OldK.of_keep fun b o e => ?_, os, bare⟩
    cases q : H b with
    | none => exact un.keep b o e q (by intro z; exact absurd (show b ∈ ([] : List Addr) from z) (by simp)) (by simp)
    | some u =>
     rcases hO b with z | ⟨ob, xs, z⟩
     ·rw [q] at z; cases z
     ·have z2 := un.frzs b ob _ z
      obtain ⟨e1, _⟩ := hok b _ z
      obtain ⟨e2, _⟩ := hok' b _ z2
      rw [e] at e1; cases e1
      exact e2
 cases hk : K.lookup a with
 | some o =>
  -- the script is one of the module's own objects
  have e := KX a o hk
  rw [ha] at e
  cases e
  refine core (fun _ => none) (fun _ => .inl rfl) (.inr ⟨_, vs.toArray, _, hk, rfl, rfl, rfl, by rw [jJ, lenV]; exact hl, by simpa using rv⟩) (fun b u z => by have z' : (none : Option HO) = some u := z; cases z') (fun b z => absurd rfl z) fun z => absurd rfl z
 | none =>
  refine core (fun b => if b = a then some (.frz { cls := .type "list", data := .seq vs.toArray } (.lst (ns.map V.int))) else none) (fun b => ?_) (.inl (.inr ⟨{ cls := .type "list", data := .seq vs.toArray }, if_pos rfl⟩)) (fun b u z => ?_) (fun b z => ?_) fun _ => hk
  ·by_cases hb : b = a
   ·exact .inr ⟨_, _, if_pos hb⟩
   ·exact .inl (if_neg hb)
  ·by_cases hb : b = a
   ·have z' := (if_pos hb).symm.trans z
    cases z'
    subst hb
    exact ⟨ha, by rw [jW]; exact hl, vs, _, rv, ha⟩
   ·have z' := (if_neg hb).symm.trans z
    cases z'
  ·by_cases hb : b = a
   ·exact hb
   ·exact absurd (if_neg hb) z
abbrev KOf {K : Fg} {h : Heap} (_ : K.In h) : Fg := K
theorem Qhx {l : PySem.W.OpenLaw} {n k : Nat} {q : Program} {loose : List Str} {XP : (Str → Option Value) → Heap → Prop} {YP : World → Heap → Prop} {d : DefRec} {K : Params → Fg} {CX : World → CXT} {sp : World → Sp} {x : Str}
  (hn : l.most = some n) (hn2 : n ≤ sizeLine) (hdf : d.params.defaults = []) (hr : Room k callerA)
  (hY : ∀ (w : World) (h : Heap), YP w h → (K w.params).In h)
  (F : ∀ (w : World) (mg : Str → Option Value) (fa : Addr) (h : Heap), (K w.params).In h → h.Ns mainGlobals mg → mg d.name = some (.ref fa) →
   ∃ fd : FuncData, (∀ (s : Shared) (u : Value), BindsTo s fd ⟨[u], []⟩ [(x, u)]) ∧
    ∀ base : Heap, (K w.params).In base → base.Ns mainGlobals mg → FnOk l.prog w (K w.params) mg base (CX w) k fa fd [x] (sp w))
  (hsp : ∀ (w : World) (H : Hp) (a : Addr) (ns : List Int), ns.length ≤ n → Only H → SqL (K w.params) H a (ns.map V.int) → sp w [.ref a] H (fun v _ => v = .bl true) fun _ _ _ => False)
  (hCX : ∀ (w : World) (H : Hp) (s : Shared) (e : Value) (s' : Shared), CX w [] H s (fun _ _ _ => False) e s' → False) :
  PySem.W.WalkO q loose XP YP l.row.toRowW d [] (fun f vs => PySem.call f vs) := by
 refine Att.attach_call hn hdf fun w s₀ s₁ mg mb fa o pm cd doc a vs ns G Y ho hd hcd hmg hobj hints hlen hg => ?_
 have KX := hY w _ Y
 obtain ⟨fd, hb, hF⟩ := F w mg fa _ KX G.T.g hmg
 exact Qlh KX G.T.g G.T.b G.T.builtins G.T.nolimit hg hobj hints (xW hlen hn2) hr hF hb (fun H hO hS => hsp w H a ns hlen hO hS) fun H e s' => hCX w H s₁ e s'
end L2
/- THE LAST THEOREM (shape; LID, My.* are yours):
   My.Adr: a structure of the addresses that your layer names (classes, functions); My.Txt K t: a structure (Prop) of the equations over K;
   My.txt_mk : {K} {implicit addresses ..} (e1 : nsIn K mainGlobals "law" = some (some (.ref f))) (e2 : K.lookup f = some ⟨oc, od, .func (fnOf "law" "law" params body scope dV kV doc pm an cdv ct), sl⟩) (e3 : codeIn K cdv "law" = true) .. : ∃ t, My.Txt K t
set_option maxRecDepth 100000 in
set_option maxHeartbeats 0 in
theorem PySem.Challenge.cw_LID_holds : PySem.Challenge.rw_LID.Holds := by
 w_on; o_law; k_head; (case hw => w_witness2)
 k_fill
 refine L2.Qhx (l := PySem.Challenge.rw_LID) (n := 63) (k := 40) (x := "script") (CX := fun w => ..) (sp := fun _ => My.sp_law) rfl (by decide) rfl ⟨rfl, by decide, by decide⟩ (fun w h Y => PySem.W.kIn_of Y) ?F ?S ?C
 case F =>
  intro w mg fa h KX G hmg
  have T : ∃ t, My.Txt (L2.KOf KX) t := by
   dsimp only [L2.KOf]                          -- K must stand as «<heap const> w.params» for k_is
   refine' My.txt_mk ?e1 ?e2 ?e3 ..
   (case e1 => PySem.W.k_is)                    -- in the order: a name -> its address -> its object -> its parts
   (case e2 => PySem.W.k_is)
   ..
  obtain ⟨t, T⟩ := T
  have e0 := hmg.symm.trans (PySem.W.mg_of KX G T.law)
  cases e0                                       -- fa is the law's own address
  exact ⟨_, fun s u => .of_eq rfl, fun base kb nb => My.law_fn T kb nb⟩     -- if «.of_eq rfl» comes too early: refine' ⟨_, ?b, fun base kb nb => My.law_fn T kb nb⟩; exact fun s u => .of_eq rfl
 case S => exact fun w H a ns hl hO hS => ..
 case C => exact ..
(the tactic k_is has no namespace: write k_is) -/
namespace L2
open PySem PySem.Spec PyProof.Rows
def inClass (s : Stmt) (j : Nat) : Stmt := match s with
 | .ClassDef _ _ _ body _ _ _ _ _ _ _ => body.getD j (.Pass ⟨0, 0, 0, 0⟩)
 | _ => .Pass ⟨0, 0, 0, 0⟩
def Xc (s : Stmt) : Arguments := match s with
 | .FunctionDef _ a _ _ _ _ _ _ _ _ => a
 | _ => { posonlyargs := [], args := [], vararg := none, kwonlyargs := [], kw_defaults := [], kwarg := none, defaults := [] }
def Qx (s : Stmt) : List Stmt := match s with
 | .FunctionDef _ _ b _ _ _ _ _ _ _ => b
 | _ => []
def Qh (s : Stmt) : Scope := match s with
 | .FunctionDef _ _ _ _ _ _ sc _ _ _ => sc
 | _ => { kind := .function, names := [], isGenerator := false, isCoroutine := false }
abbrev CX0 : CXT := fun _ _ _ _ _ _ => False
abbrev E0 : XK := fun _ _ _ => False
theorem pass0 {X : Cx} : Qhr CX0 X E0 := fun _ _ _ _ _ _ _ h => h.elim
structure Fun (K : Fg) (x qual : Str) (st : Stmt) (f : Addr) (fd : FuncData) : Prop where
 ex : ∃ (oc : Value) (od : Option Addr) (kV doc pm : Value) (an : Option Addr) (cdv ct : Value) (osl : Array (Option Value)),
  fd = PySem.W.fnOf x qual (Xc st) (Qx st) (Qh st) .none kV doc pm an cdv ct ∧ K.lookup f = some ⟨oc, od, .func fd, osl⟩ ∧ PySem.W.codeIn K cdv qual = true
 kp : PySem.W.keepIn K (.ref f) = true
section
variable {P : Program} {w : World} {K : Fg} {mg : Str → Option Value} {base : Heap}
theorem Fun.ok {x qual : Str} {st : Stmt} {f : Addr} {fd : FuncData} {N ps : List Str} {k : Nat} {sp : Sp} (F : Fun K x qual st f fd) (S : FnScope N ps (Qh st)) (len : ∀ vs H Q E, sp vs H Q E → vs.length = ps.length)
  (hbody : ∀ (cdv : Value) (A : Around) (outer : List Env) (s : Shared) (H : Hp) (vs : List V) (Q : VK) (E : XK), Room k (A.deeper (envOfC qual (Qh st) s.heap.objs.size f cdv)) → sp vs H Q E →
   ∃ t, PSs (cxOf CX0 P w K mg base N qual (Qh st) f cdv A outer s H E).nox (Qx st) t ∧ t { nx := fun _ H' => Q .non H', rt := Q } (start N vs) H) : FnOk P w K mg base CX0 (k + 1) f fd ps sp := by
 obtain ⟨oc, od, kV, doc, pm, an, cdv, ct, osl, rfl, lk, hcd⟩ := F.ex
 refine fn_of lk hcd S len fun A outer s H vs Q E hr hsp => ?_
 obtain ⟨t, h, q⟩ := hbody cdv A outer s H vs Q E hr hsp
 exact ⟨t, h.nox, q⟩
theorem Fun.binds {x qual : Str} {st : Stmt} {f : Addr} {fd : FuncData} {ps : List Str} (F : Fun K x qual st f fd)
  (h : ∀ (kV doc pm : Value) (an : Option Addr) (cdv ct : Value) (us : List Value), us.length = ps.length → bindArgs (PySem.W.fnOf x qual (Xc st) (Qx st) (Qh st) .none kV doc pm an cdv ct) ⟨us, []⟩ = pure (ps.zip us)) : Binds K fd ps [] := by
 obtain ⟨oc, od, kV, doc, pm, an, cdv, ct, osl, rfl, lk, hcd⟩ := F.ex
 exact .all (h kV doc pm an cdv ct)
theorem Qng {x qual : Str} {st : Stmt} {f : Addr} {oc : Value} {od an : Option Addr} {osl : Array (Option Value)} {kV doc pm cdv ct : Value} (l : K.lookup f = some ⟨oc, od, .func (PySem.W.fnOf x qual (Xc st) (Qx st) (Qh st) .none kV doc pm an cdv ct), osl⟩)
  (c : PySem.W.codeIn K cdv qual = true) (k : PySem.W.keepIn K (.ref f) = true) : Fun K x qual st f (PySem.W.fnOf x qual (Xc st) (Qx st) (Qh st) .none kV doc pm an cdv ct) := ⟨⟨oc, od, kV, doc, pm, an, cdv, ct, osl, rfl, l, c⟩, k⟩
end
section
variable {X : Cx}
theorem pv (i : Nat) {x : Str} {pos : Pos} (hN : autoParam (X.N[i]? = some x) L2.aRfl._auto_1) (hv : Vis X.env.scope x := by first | exact Or.inl rfl | exact Or.inr (Or.inl rfl) | exact Or.inr (Or.inr rfl)) (hd : autoParam ((x == ("__debug__" : Str)) = false) L2.aDec._auto_1)
  (hcd : autoParam ((x == ("__classdict__" : Str)) = false) L2.aDec._auto_1) : PE X (.Name x pos) (tVar i) := Qmx hN hv hd hcd
end
theorem iteF {A B : Prop} (h : B) : if false = true then A else B := by
 rw [if_neg yQ]
 exact h
theorem iteT {A B : Prop} (h : A) : if true = true then A else B := by
 rw [if_pos rfl]
 exact h
theorem ite2 {c A B : Prop} [Decidable c] (h1 : c → A) (h2 : ¬ c → B) : if c then A else B := by
 by_cases h : c
 ·rw [if_pos h]
  exact h1 h
 ·rw [if_neg h]
  exact h2 h
def Same (H H' : Hp) : Prop := ∀ b o, H b = some o → H' b = some o
theorem Same.refl (H : Hp) : Same H H := fun _ _ h => h
theorem Same.trans {H H1 H2 : Hp} (a : Same H H1) (b : Same H1 H2) : Same H H2 := fun c o h => b c o (a c o h)
theorem Same.seq {K : Fg} {H H' : Hp} {a : Addr} {xs : List V} (e : Same H H') (h : SqL K H a xs) : SqL K H' a xs := by
 rcases h with (h | ⟨o, h⟩) | h
 ·exact .inl (.inl (e _ _ h))
 ·exact .inl (.inr ⟨o, e _ _ h⟩)
 ·exact .inr h
theorem Qcc {prog : Program} {w : World} {A : Around} {R : Result → Shared → Prop} {s : Shared} {elt target iter : Expr} {ifs : List Expr} {scope : Scope} {pos : Pos} {it acc : Value} {env : Env} (I : Nat → Shared → Prop)
  (turn : ∀ n s, I n s → wpAny (model prog w) A (pyNext it) (fun r s1 => match r with
   | none => R (.ok .next) s1
   | some v => wpAny (model prog w) A (letOwnedTupleGo target it v) (fun _ s1' => wpAny (model prog w) A (assign target env v) (fun _ s2 =>
     wpAny (model prog w) A (forIn ifs true fun c r => if r = true then do let ok ← isTrue c env (eval c env); pure (ForInStep.yield ok) else pure (ForInStep.yield r)) (fun ok s3 =>
      if ok = true then wpAny (model prog w) A (eval elt env) (fun x s4 =>
       wpAny (model prog w) A (call (.builtin "list.append") [acc, x]) (fun _ s5 => ∃ m, m < n ∧ I m s5) (fun _ _ => False) s4) (fun _ _ => False) s3
      else ∃ m, m < n ∧ I m s3) (fun _ _ => False) s2) (fun _ _ => False) s1') (fun _ _ => False) s1) (fun _ _ => False) s)
  (n : Nat) (h : I n s) :
  codeAny (model prog w) A (.compLoop (.ListComp elt [⟨target, iter, ifs, 0⟩] scope pos) 0 it acc env) R s := by
 refine codeAny_loop rfl I (fun n s hI => ?_) n h
 show wpAny _ A ((compTurn (.ListComp elt [⟨target, iter, ifs, 0⟩] scope pos) 0 it acc env).onRaise (fun x => do noteFrame x env; theTreesLotGoes x)) _ _ s
 refine wpAny_noted ?_
 rw [compTurn_list]
 refine jX (wpAny_standAt (jX (wpAny_mono (turn n s hI) (fun r s1 h1 => ?_) fun _ _ h' => h'.elim)))
 cases r with
 | none => exact kW h1
 | some v =>
  refine jX (wpAny_mono h1 (fun _ s1' h1' => ?_) fun _ _ h' => h'.elim)
  refine jX (wpAny_mono h1' (fun _ s2 h2 => jX (wpAny_mono h2 (fun ok s3 h3 => ?_) fun _ _ h' => h'.elim)) fun _ _ h' => h'.elim)
  cases ok with
  | false => exact kW ⟨rfl, h3⟩
  | true =>
   exact jX (jX (wpAny_mono h3 (fun x s4 h4 => jX (wpAny_mono h4 (fun _ s5 h5 => kW (kW ⟨rfl, h5⟩)) fun _ _ h' => h'.elim)) fun _ _ h' => h'.elim))
def freeOk (sc : Scope) : List (Str × NameKind) → Bool
 | [] => true
 | (n, k) :: r => (k != .free || sc.names.lookup n == some .cell || sc.names.lookup n == some .free) && freeOk sc r
def Yw (env : Env) : List (Str × NameKind) → List (Str × Addr) → List (Str × Addr)
 | [], cs => cs
 | (n, k) :: r, cs => Yw env r (if k = .free then (n, (env.cells.lookup n).getD 0) :: cs else cs)
theorem Jp {env : Env} : ∀ (l : List (Str × NameKind)) (cs : List (Str × Addr)), (∀ n, (n, NameKind.free) ∈ l → ∃ c, env.cells.lookup n = some c) → (∀ x c, cs.lookup x = some c → env.cells.lookup x = some c) →
  ∀ x c, (Yw env l cs).lookup x = some c → env.cells.lookup x = some c
 | [], cs, _, h => h
 | (n, k) :: r, cs, hl, h => by
  refine Jp r _ (fun m hm => hl m (kX _ hm)) fun x c e => ?_
  by_cases hk : k = .free
  ·rw [if_pos hk] at e
   subst hk
   obtain ⟨c', hc⟩ := hl n jY
   rw [xJ] at e
   cases hx : x == n with
   | true =>
    rw [hx] at e
    have : x = n := by simpa using hx
    subst this
    rw [hc] at e
    simp at e
    rw [hc, e]
   | false => rw [hx] at e; exact h x c e
  ·rw [if_neg hk] at e
   exact h x c e
theorem Jq {env : Env} : ∀ (l : List (Str × NameKind)) (cs : List (Str × Addr)) (x : Str), ((cs.lookup x).isSome = true ∨ (x, NameKind.free) ∈ l) → ((Yw env l cs).lookup x).isSome = true
 | [], cs, x, h => by
  rcases h with h | h
  ·exact h
  ·exact nomatch h
 | (n, k) :: r, cs, x, h => by
  refine Jq r _ x ?_
  rcases h with h | h
  ·left
   split
   ·rw [xJ]
    split
    ·rfl
    ·exact h
   ·exact h
  ·rcases jZ.mp h with e | e
   ·cases e
    left
    rw [if_pos rfl, xJ]
    simp
   ·exact .inr e
theorem Zy {scope : Scope} {env : Env} (h : ∀ n, (n, NameKind.free) ∈ scope.names → ∃ c, env.cells.lookup n = some c) : closureFor scope env = pure (Yw env scope.names []) := by
 unfold closureFor
 suffices ∀ (l : List (Str × NameKind)) (cs : List (Str × Addr)), (∀ n, (n, NameKind.free) ∈ l → ∃ c, env.cells.lookup n = some c) → (forIn l cs fun x r =>
   if (x.2 == NameKind.free) = true then do let a ← cellOf env x.1; pure (ForInStep.yield ((x.1, a) :: r)) else pure (ForInStep.yield r) : Sem _) = pure (Yw env l cs) by
  have := this scope.names [] h
  simp only at this ⊢
  rw [this]
  rfl
 intro l
 induction l with
 | nil => intro cs _; rfl
 | cons p r ih =>
  intro cs hl
  obtain ⟨n, k⟩ := p
  rw [List.forIn_cons]
  by_cases hk : k = .free
  ·subst hk
   obtain ⟨c, hc⟩ := hl n jY
   have e : cellOf env n = pure c := by unfold cellOf; rw [hc]
   have hb : (NameKind.free == NameKind.free) = true := rfl
   simp only [hb, if_true, e, Yw, hc, Option.getD_some]
   exact ih _ fun m hm => hl m (kX _ hm)
  ·have hb : (k == NameKind.free) = false := by simpa using hk
   simp only [hb, Bool.false_eq_true, if_false, Yw, if_neg hk]
   exact ih _ fun m hm => hl m (kX _ hm)
theorem Zg {sc : Scope} : ∀ {l : List (Str × NameKind)}, freeOk sc l = true → ∀ n, (n, NameKind.free) ∈ l → sc.names.lookup n = some .cell ∨ sc.names.lookup n = some .free
 | [], _, n, h => nomatch h
 | (m, k) :: r, h, n, hm => by
  simp only [freeOk, zY] at h
  rcases jZ.mp hm with e | e
  ·cases e
   have h1 := h.1
   have hb : (NameKind.free != NameKind.free) = false := rfl
   rw [hb] at h1
   simp only [Bool.false_or, kYc, beq_iff_eq] at h1
   exact h1
  ·exact Zg h.2 n e
theorem Yg {env : Env} : ∀ {names : List (Str × NameKind)} {x : Str} {k : NameKind}, (names.map fun (n, k) => if (k == NameKind.free && env.scope.kind == .function && env.kindOf n == some .cell) then (n, NameKind.cell) else (n, k)).lookup x = some k →
  ∃ k0, names.lookup x = some k0 ∧ (k = k0 ∨ (k = .cell ∧ k0 = .free))
 | [], _, _, h => by simp at h
 | (n, k0) :: r, x, k, h => by
  rw [xQ] at h
  by_cases hc : (k0 == NameKind.free && env.scope.kind == .function && env.kindOf n == some .cell) = true
  ·simp only [hc, if_true, xJ] at h
   rw [xJ]
   cases hx : x == n with
   | true =>
    rw [hx] at h
    refine ⟨k0, rfl, .inr ⟨(Option.some.inj h).symm, ?_⟩⟩
    simp only [zY, beq_iff_eq] at hc
    exact hc.1.1
   | false => rw [hx] at h; exact Yg h
  ·simp only [hc, Bool.false_eq_true, if_false, xJ] at h
   rw [xJ]
   cases hx : x == n with
   | true => rw [hx] at h; exact ⟨k0, rfl, .inl (Option.some.inj h).symm⟩
   | false => rw [hx] at h; exact Yg h
theorem lookup_mem {α : Type} : ∀ {l : List (Str × α)} {x : Str} {k : α}, l.lookup x = some k → (x, k) ∈ l
 | [], _, _, h => by simp at h
 | (n, k0) :: r, x, k, h => by
  rw [xJ] at h
  cases hx : x == n with
  | true =>
   rw [hx] at h
   have e1 : x = n := by simpa using hx
   have e2 : k0 = k := Option.some.inj h
   subst e1 e2
   exact jY
  | false => rw [hx] at h; exact kX _ (lookup_mem h)
theorem HOk.but {P : Program} {w : World} {H : Hp} {h h' : Heap} {a : Addr} (x : HOk P w H h) (hn : H a = none) (hs : Heap.SameBut a h h') : HOk P w H h' := fun b ob e => by
 refine (x b ob e).stay (fun c w' hc q => (hs.2 c ?_).trans q) (fun _ q => q) fun _ _ q => q
 rintro rfl
 rcases hc with rfl | hc
 ·rw [hn] at e; cases e
 ·rw [hn] at hc; cases hc
def Vq (cp : List (Option Nat)) (σ : St) : St := cp.map fun (o : Option Nat) => match o with
 | none => none
 | some j => match σ[(j : Nat)]? with
  | some v => v
  | none => none
def Jy (X : Cx) (scope : Scope) : List Str → List (Option Nat) → Bool
 | [], [] => true
 | x :: N, o :: cp => (match o with | none => true | some j => X.N[j]? == some x && scope.names.lookup x == some .free) && Jy X scope N cp
 | _, _ => false
theorem Qcd {X : Cx} {scope : Scope} : ∀ {N : List Str} {cp : List (Option Nat)}, Jy X scope N cp = true → cp.length = N.length
 | [], [], _ => rfl
 | _ :: N, _ :: cp, h => by
  simp only [Jy, zY] at h
  simp [Qcd h.2]
 | [], _ :: _, h => by simp [Jy] at h
 | _ :: _, [], h => by simp [Jy] at h
theorem Qce {X : Cx} {scope : Scope} : ∀ {N : List Str} {cp : List (Option Nat)} {i : Nat} {x : Str} {v : V} {σ : St}, Jy X scope N cp = true → N[i]? = some x → (Vq cp σ)[i]? = some (some v) →
  ∃ j : Nat, X.N[j]? = some x ∧ σ[j]? = some (some v) ∧ scope.names.lookup x = some .free
 | [], [], i, x, v, σ, _, h, _ => by simp at h
 | y :: N, o :: cp, 0, x, v, σ, h, e, e2 => by
  simp only [Jy, zY] at h
  have e' : y = x := by simpa using e
  subst e'
  cases o with
  | none => simp [Vq] at e2
  | some j =>
   have h1 := h.1
   simp only [zY, beq_iff_eq] at h1
   refine ⟨j, h1.1, ?_, h1.2⟩
   simp only [Vq, xQ, List.getElem?_cons_zero, Option.some.injEq] at e2
   cases q : σ[j]? with
   | none => rw [q] at e2; cases e2
   | some z => rw [q] at e2; exact congrArg some e2
 | y :: N, o :: cp, i + 1, x, v, σ, h, e, e2 => by
  simp only [Jy, zY] at h
  exact Qce (i := i) h.2 (by simpa using e) (by simpa [Vq] using e2)
 | [], _ :: _, _, _, _, _, h, _, _ => by simp [Jy] at h
 | _ :: _, [], _, _, _, _, h, _, _ => by simp [Jy] at h
def Xq (X : Cx) (N : List Str) (scope : Scope) (fp : List Addr) (H : Hp) (s : Shared) : Cx :=
 { X with N := N, s₀ := s, H₀ := H, env := compEnvC scope (Yw X.env scope.names []) s.heap.objs.size X.env, outer := X.stack, stack := X.stack, ex := fp, fn := fun _ => false, pn := [], xe := fun _ _ => False }
section
variable {X : Cx}
theorem Wy {l : List (Str × NameKind)} (h : (l.all fun p => p.2 != .cell) = true) : ∀ y ∈ l, y.2 ≠ .cell := fun y hy => by
 have := xK.mp h y hy
 simpa using this
theorem Qgg {pins : List (Addr × Obj)} {σ : St} {H : Hp} {s : Shared} {N : List Str} {scope : Scope} {fp : List Addr} (I : Inv X pins σ H s) (hf : ∀ b ∈ fp, FpOk X pins H b) (hlt : ∀ b ∈ fp, b < s.heap.objs.size) (hk : scope.kind = .function)
  (hcell : (scope.names.all fun p => p.2 != .cell) = true) (hfree : freeOk X.env.scope scope.names = true) : (Xq X N scope fp H s).Ok := by
 have has : ∀ n, (n, NameKind.free) ∈ scope.names → ∃ c, X.env.cells.lookup n = some c := fun n hn => I.ok.has n (Zg hfree n hn)
 have sub : ∀ x c, (Yw X.env scope.names []).lookup x = some c → X.env.cells.lookup x = some c := Jp _ _ has fun x c e => by simp at e
 have fs : ∀ b ∈ fp, b ∉ frs X.stack := fun b hb z => by
  obtain ⟨_, f1, f2, _⟩ := hf b hb
  rcases jZ.mp (I.stkSub b z) with e | e
  ·exact f1 e
  ·exact f2 e
 refine ⟨I.ok.mod, hk, I.ok.glob, I.ok.blt, kK _, fun x y c h1 h2 => I.ok.inj x y c (sub x c h1) (sub y c h2), fun x hx => ?_, (fun x c h => nomatch h), I.ok.hd, I.ok.frames, .inl rfl, fun b hb => ⟨zQ (hlt b hb), fun x c e => (hf b hb).2.2.2.2.1 x c (sub x c e)⟩,
  I.bs, xW I.ok.bsz I.sz, fun b o e hb => ?_, fs, I.stack, I.stkFree⟩
 ·have hx' : (scope.names.map fun (n, k) => if (k == NameKind.free && X.env.scope.kind == .function && X.env.kindOf n == some .cell) then (n, NameKind.cell) else (n, k)).lookup x = some .cell ∨
    (scope.names.map fun (n, k) => if (k == NameKind.free && X.env.scope.kind == .function && X.env.kindOf n == some .cell) then (n, NameKind.cell) else (n, k)).lookup x = some .free := hx
  have fr : (x, NameKind.free) ∈ scope.names := by
   rcases hx' with e | e
   ·obtain ⟨k0, e0, z | z⟩ := Yg e
    ·subst z
     exact absurd rfl (Wy hcell _ (lookup_mem e0))
    ·obtain ⟨_, z⟩ := z
     subst z
     exact lookup_mem e0
   ·obtain ⟨k0, e0, z | z⟩ := Yg e
    ·subst z
     exact lookup_mem e0
    ·exact nomatch z.1
  exact jJd.mp (Jq _ _ x (.inr fr))
 ·obtain ⟨_, _, _, f3, _⟩ := hf b hb
  rcases f3 with z | z
  ·exact I.ok.noex b o e z
  ·exact absurd (yW (kJ (I.ok.bs b o e).1) z) (jQf _)
theorem Qhy {pins : List (Addr × Obj)} {σ : St} {H : Hp} {s : Shared} {N : List Str} {scope : Scope} {fp : List Addr} {cp : List (Option Nat)} {h' : Heap} {m : Str → Option Value} {t' : Nat} (I : Inv X pins σ H s) (hf : ∀ b ∈ fp, FpOk X pins H b) (hlt : ∀ b ∈ fp, b < s.heap.objs.size) (hk : scope.kind = .function)
  (hcell : (scope.names.all fun p => p.2 != .cell) = true) (hfree : freeOk X.env.scope scope.names = true) (hcap : Jy X scope N cp = true)
  (hns : h'.Ns s.heap.objs.size m) (hx : ∀ b o, s.heap.get? b = some o → h'.get? b = some o) : Inv (Xq X N scope fp H s) [] (Vq cp σ) H { s with heap := h', toks := t' } := by
 have has : ∀ n, (n, NameKind.free) ∈ scope.names → ∃ c, X.env.cells.lookup n = some c := fun n hn => I.ok.has n (Zg hfree n hn)
 have sub : ∀ x c, (Yw X.env scope.names []).lookup x = some c → X.env.cells.lookup x = some c := Jp _ _ has fun x c e => by simp at e
 refine ⟨Qgg I hf hlt hk hcell hfree, rfl, I.bare, ⟨fun b o e n _ _ => hx b o e, fun b o e n _ _ => ⟨o.slots, hx b o e⟩, fun b o e n _ => n, fun b o e _ => ⟨o, hx b o e⟩, fun b xs e => e, fun b o xs e => e, fun b ps e => ⟨#[], by rw [Array.append_empty]; exact e⟩⟩, ⟨m, hns, fun i x v e1 e2 e3 => ?_⟩, fun x c e => ?_, I.hok.fresh (kK _), fun x c e => I.freeC x c (sub x c e), (fun p hp => nomatch hp), I.hok.kept hx, ?_⟩
 ·obtain ⟨j, h1, h2, h3⟩ := Qce hcap e1 e2
  obtain ⟨m', _, hl⟩ := I.loc
  have hkx := Zg hfree x (lookup_mem h3)
  obtain ⟨u, r, l⟩ := hl j x v h1 h2 (.inr hkx)
  rcases l with ⟨l, _⟩ | ⟨_, c, hc, hcell'⟩
  ·rcases hkx with z | z
   ·exact nomatch (Option.some.inj (l.symm.trans z))
   ·exact nomatch (Option.some.inj (l.symm.trans z))
  ·obtain ⟨c', hc'⟩ := jJd.mp (Jq (env := X.env) scope.names [] x (.inr (lookup_mem h3)))
   have ec := sub x c' hc'
   rw [hc] at ec
   cases ec
   refine ⟨u, r, .inr ⟨?_, c, hc', ?_⟩⟩
   ·rcases e3 with z | z | z
    ·obtain ⟨k0, e0, y | y⟩ := Yg (show (scope.names.map fun (n, k) => if (k == NameKind.free && X.env.scope.kind == .function && X.env.kindOf n == some .cell) then (n, NameKind.cell) else (n, k)).lookup x = some .local from z)
     ·rw [h3] at e0; cases e0; cases y
     ·exact nomatch y.1
    ·exact .inl z
    ·exact .inr z
   ·obtain ⟨o, ho, hd⟩ := hcell'
    exact ⟨o, hx c o ho, hd⟩
 ·obtain ⟨v, o, ho, hd⟩ := I.cell x c (sub x c e)
  exact ⟨v, o, hx c o ho, hd⟩
 ·show (Vq cp σ).length = N.length
  unfold Vq
  rw [jW]
  exact Qcd hcap
theorem Qdg {pins : List (Addr × Obj)} {σ σ' : St} {H H' : Hp} {s s' : Shared} {N : List Str} {scope : Scope} {fp : List Addr} {pins' : List (Addr × Obj)} (I : Inv X pins σ H s) (hf : ∀ b ∈ fp, FpOk X pins H b)
  (J : Inv (Xq X N scope fp H s) pins' σ' H' s') : Inv X pins σ H' s' :=
 I.call' (ch := fp) J.os J.base J.hok J.bare fun b hb => ⟨(hf b hb).2.2.2.1, (hf b hb).2.1, (hf b hb).2.2.2.2.1, (hf b hb).2.2.2.2.2⟩
def PF (X : Cx) (ifs : List Expr) (t : TT) : Prop :=
 ∀ (pins : List (Addr × Obj)) (s : Shared) (σ : St) (H : Hp) (Q : Bool → Hp → Prop), Inv X pins σ H s → t σ H Q →
  wpAny (model X.prog X.w) X.A (forIn ifs true fun c r => if r = true then do let ok ← isTrue c X.env (eval c X.env); pure (ForInStep.yield ok) else pure (ForInStep.yield r)) (TP X pins σ Q) X.xe s
def tYes : TT := fun _ H Q => Q true H
theorem Vr : PF X [] tYes := fun _ _ _ H _ I h => wpAny_tests_nil ⟨H, I, h⟩
theorem Vs {c : Expr} {t : TT} (hc : PT X c t) : PF X [c] t := fun pins s σ H Q I h => wpAny_tests_one (hc pins s σ H Q I h)
def LcW (J : It) (D : Addr) (τ0 : St) (H : Hp) (g : TG) (tt : TT) (te : TE) (Q : Addr → Hp → Prop) : Prop := ∃ W : Nat → Nat → St → List V → Hp → Prop, (∃ m, W 0 m τ0 [] (upd H D (.lst []))) ∧ ∀ i m τ ys H, W i m τ ys H →
 H D = some (.lst ys) ∧ ((J.stop i H ∧ Q D H) ∨ (J.go i H ∧ ys.length < sizeLine ∧ ∃ (N1 : St → V → Hp → Prop) (N2 : St → Hp → Prop), (∀ τ v H, N1 τ v H → ∃ m', m' < m ∧ W (i + 1) m' τ (ys ++ [v]) (upd H D (.lst (ys ++ [v])))) ∧ (∀ τ H, N2 τ H → ∃ m', m' < m ∧ W (i + 1) m' τ ys H) ∧
  ∀ x H', J.yld i H x H' → g x τ H' fun σ2 H2 => tt σ2 H2 fun ok H3 => if ok = true then te σ2 H3 fun v H4 => H4 D = some (.lst ys) ∧ N1 σ2 v H4 else N2 σ2 H3))
def tLC (cp : List (Option Nat)) (wi : TI) (g : TG) (tt : TT) (te : TE) (σ : St) (H : Hp) (Q : Addr → Hp → Prop) : Prop := wi σ H fun J H1 => ∀ D, H1 D = none → LcW J D (Vq cp σ) H1 g tt te Q
theorem Qem {elt iter target : Expr} {ifs : List Expr} {scope : Scope} {pos : Pos} {N : List Str} {cp : List (Option Nat)} {g : TG} {tt : TT} {te : TE} {pins : List (Addr × Obj)} {σ : St} {H : Hp} {s : Shared} {E : Value → Shared → Prop} {Q : Addr → Hp → Prop}
  {it : Addr} {fp : List Addr} {tn : Nat → Heap → Prop} {J : It} {RR : Value → Addr → Result → Shared → Prop} (hc : X.calm = true) (hk : scope.kind = .function) (hcell : (scope.names.all fun p => p.2 != .cell) = true) (hfree : freeOk X.env.scope scope.names = true) (hcap : Jy X scope N cp = true)
  (hg : ∀ fp H s, PG (Xq X N scope fp H s) target g) (ht : ∀ fp H s, PF (Xq X N scope fp H s) ifs tt) (he : ∀ fp H s, PE (Xq X N scope fp H s) elt te)
  (I : Inv X pins σ H s) (T : Turn X.prog X.w X.K target J fp it tn) (st : tn 0 s.heap) (hf : ∀ b ∈ fp, FpOk X pins H b)
  (h : ∀ D, H D = none → LcW J D (Vq cp σ) H g tt te Q)
  (hRR : ∀ D C s' H' m, Inv X pins σ H' s' → FpOk X pins H' C → s'.heap.Ns C m → Q D H' → RR (.ref D) C (.ok .next) s') :
  wpAny (model X.prog X.w) X.A (newList []) (fun acc s3 => wpAny (model X.prog X.w) X.A (newFunctionEnv scope X.env.globals (Yw X.env scope.names []) [] X.env.qual none .none (some X.env)) (fun cenv s4 =>
   codeAny (model X.prog X.w) X.A (.compStart (.ListComp elt [⟨target, iter, ifs, 0⟩] scope pos) 0 (.ref it) acc { cenv with scope := relabel scope X.env }) (RR acc cenv.locals) s4) E s3) E s := by
 have hlt : ∀ b ∈ fp, b < s.heap.objs.size := fun b hb => by
  obtain ⟨o, e, _⟩ := T.obj _ _ st b hb
  exact kJ e
 refine wpAny_newObj_type (wpAny_newFunctionEnv (Wy hcell) (by intro y hy; simp at hy) (fun h1 hns1 hsb1 => ?_) hk)
 dsimp only at hns1 hsb1 ⊢
 have hD : H s.heap.objs.size = none := I.hok.fresh (kK _)
 have I3 : Inv X pins σ (upd H s.heap.objs.size (.lst [])) { s with heap := s.heap.push { cls := .type "list", dict := none, data := .seq ([] : List Value).toArray } } :=
  I.laid (t' := s.toks) (fun b u e => jK _ e) (kK _) ⟨wQ _, [], 0, .nil, yV _ rfl⟩
 have hf3 : ∀ b ∈ fp, FpOk X pins (upd H s.heap.objs.size (.lst [])) b := fun b hb => ⟨by rw [Qq (zQ (hlt b hb))]; exact (hf b hb).1, (hf b hb).2⟩
 have hlt3 : ∀ b ∈ fp, b < (s.heap.push { cls := .type "list", dict := none, data := .seq ([] : List Value).toArray }).objs.size := fun b hb => by rw [jJa]; exact Nat.lt_succ_of_lt (hlt b hb)
 generalize hH2 : s.heap.push { cls := .type "list", dict := none, data := .seq ([] : List Value).toArray } = H2 at hns1 hsb1 I3 hlt3 ⊢
 generalize hs3 : ({ s with heap := H2 } : Shared) = s3 at I3
 have hs3h : s3.heap = H2 := by rw [← hs3]
 have ext1 : ∀ b o, s3.heap.get? b = some o → h1.get? b = some o := fun b o e => by
  rw [hs3h] at e
  exact hsb1.extBut b o (zQ (kJ e)) (jK _ e)
 have J0 : Inv (Xq X N scope fp (upd H s.heap.objs.size (.lst [])) s3) [] (Vq cp σ) (upd H s.heap.objs.size (.lst [])) { s3 with heap := h1, toks := s.toks + ([] : List (Str × Value)).length } :=
  Qhy I3 hf3 (by rw [hs3h]; exact hlt3) hk hcell hfree hcap (by rw [hs3h]; exact hns1) ext1
 have st1 : tn 0 h1 := T.keep _ _ _ st fun b hb o e => ext1 b o (by rw [hs3h, ← hH2]; exact jK _ e)
 obtain ⟨W, ⟨m0, w0⟩, turn⟩ := h s.heap.objs.size hD
 have stat : ∀ {H' : Hp}, (∀ b ∈ fp, H' b = none) → ∀ b ∈ fp, FpOk (Xq X N scope fp (upd H s.heap.objs.size (.lst [])) s3) [] H' b := fun {H'} hn b hb =>
  ⟨hn b hb, (J0.ok.exf b hb).1, J0.ok.exfs b hb, .inl hb, (J0.ok.exf b hb).2, fun p hp => nomatch hp⟩
 have loop : codeAny (model X.prog X.w) X.A (.compLoop (.ListComp elt [⟨target, iter, ifs, 0⟩] scope pos) 0 (.ref it) (.ref s.heap.objs.size) (compEnvC scope (Yw X.env scope.names []) H2.objs.size X.env))
   (RR (.ref s.heap.objs.size) H2.objs.size) { s3 with heap := h1, toks := s.toks + ([] : List (Str × Value)).length } := by
  have eEnv : compEnvC scope (Yw X.env scope.names []) H2.objs.size X.env = (Xq X N scope fp (upd H s.heap.objs.size (.lst [])) s3).env := by
   rw [← hs3h]; rfl
  rw [eEnv]
  refine Qcc (fun n s' => ∃ i τ ys H', Inv (Xq X N scope fp (upd H s.heap.objs.size (.lst [])) s3) [] τ H' s' ∧ tn i s'.heap ∧ (∀ b ∈ fp, H' b = none) ∧ W i n τ ys H') ?_ m0 ⟨0, Vq cp σ, [], _, J0, st1, fun b hb => (hf3 b hb).1, w0⟩
  rintro n s4 ⟨i, τ, ys, H4, I4, st4, fr4, w4⟩
  obtain ⟨hD4, hh⟩ := turn i n τ ys H4 w4
  rcases hh with ⟨stop, qn⟩ | ⟨go, hlen, N1, N2, hN1, hN2, step⟩
  ·refine thn (T.done (Xq X N scope fp (upd H s.heap.objs.size (.lst [])) s3) rfl rfl rfl hc i [] s4 τ H4 _ I4 (stat fr4) st4 stop) fun r s5 hqP => ?_
   obtain ⟨hr, I5⟩ := hqP
   subst hr
   obtain ⟨m, hm, _⟩ := I5.loc
   have e5 : H2.objs.size = (Xq X N scope fp (upd H s.heap.objs.size (.lst [])) s3).env.locals := by rw [← eEnv]; rfl
   refine hRR _ _ s5 H4 m (Qdg I3 hf3 I5) ?_ (by rw [e5]; exact hm) qn
   exact I3.fpOk (by rw [hs3h]; exact kK _) (by rw [e5]; exact I5.free)
  ·refine thn (T.item (Xq X N scope fp (upd H s.heap.objs.size (.lst [])) s3) rfl rfl rfl hc i [] s4 τ H4 _ I4 (stat fr4) st4 go) fun r s5 hqP => ?_
   obtain ⟨u, hr, h5⟩ := hqP
   subst hr
   refine thn h5 fun _ s6 hqP => ?_
   obtain ⟨x, H6, I6, r6, y6, st6, fr6⟩ := hqP
   have I6' := I6.pinned (stat fr6) (T.obj _ _ st6)
   refine thn (hg fp _ _ _ s6 τ H6 x u _ I6' r6 (step x H6 y6)) fun _ s7 hqP => ?_
   obtain ⟨σ7, H7, I7, q7⟩ := hqP
   refine thn (ht fp _ _ _ s7 σ7 H7 _ I7 q7) fun ok s8 hqP => ?_
   obtain ⟨H8, I8, q8⟩ := hqP
   have back : ∀ {σ' : St} {H' : Hp} {s' : Shared}, Inv (Xq X N scope fp (upd H s.heap.objs.size (.lst [])) s3) ([] ++ Qbq fp s6.heap) σ' H' s' → Inv (Xq X N scope fp (upd H s.heap.objs.size (.lst [])) s3) [] σ' H' s' ∧ tn (i + 1) s'.heap ∧ ∀ b ∈ fp, H' b = none := fun {σ' H' s'} I' => by
    refine ⟨I'.unpinned, T.keep _ _ _ st6 fun b hb o e => (I'.pin (b, o) (kZ _ (kZ _ (Jh hb e)))).1, fun b hb => ?_⟩
    obtain ⟨o, e, d⟩ := T.obj _ _ st6 b hb
    exact (I'.pin (b, o) (kZ _ (kZ _ (Jh hb e)))).2.1
   cases ok with
   | false =>
    rw [if_neg yQ] at q8 ⊢
    obtain ⟨m', hm, w8⟩ := hN2 _ _ q8
    obtain ⟨b1, b2, b3⟩ := back I8
    exact ⟨m', hm, i + 1, σ7, ys, H8, b1, b2, b3, w8⟩
   | true =>
    rw [if_pos rfl] at q8 ⊢
    refine thn (he fp _ _ _ s8 σ7 H8 _ I8 q8) fun y s9 hqP => ?_
    obtain ⟨v, H9, I9, r9, hD9, n9⟩ := hqP
    obtain ⟨m', hm, w9⟩ := hN1 _ _ _ n9
    refine thn (Xp _ s9 σ7 H9 (.ref s.heap.objs.size) [v] (.ref s.heap.objs.size) [y] (fun _ H' => H' = upd H9 s.heap.objs.size (.lst (ys ++ [v]))) I9 rfl (.cons r9 .nil) ⟨_, ys, v, rfl, rfl, hD9, hlen, rfl⟩) fun _ s10 hqP => ?_
    obtain ⟨_, H10, I10, _, e10⟩ := hqP
    subst e10
    obtain ⟨b1, b2, b3⟩ := back I10
    exact ⟨m', hm, i + 1, σ7, _, _, b1, b2, b3, w9⟩
 have e3 : ({ s with heap := h1, toks := s.toks + ([] : List (Str × Value)).length } : Shared) = { s3 with heap := h1, toks := s.toks + ([] : List (Str × Value)).length } := by rw [← hs3]
 rw [e3]
 exact codeAny_compStart_list loop (T.self _ 0 _ _ _ st1 loop)
theorem Ko {elt iter target : Expr} {ifs : List Expr} {scope : Scope} {pos : Pos} (N : List Str) (cp : List (Option Nat)) {wi : TI} {g : TG} {tt : TT} {te : TE} (hc : X.calm = true) (hi : PI X target iter wi)
  (hg : ∀ fp H s, PG (Xq X N scope fp H s) target g) (ht : ∀ fp H s, PF (Xq X N scope fp H s) ifs tt) (he : ∀ fp H s, PE (Xq X N scope fp H s) elt te)
  (hk : autoParam (scope.kind = .function) L2.aRfl._auto_1) (hcell : autoParam ((scope.names.all fun p => p.2 != .cell) = true) L2.aRfl._auto_1) (hfree : autoParam (freeOk X.env.scope scope.names = true) L2.aRfl._auto_1) (hcap : autoParam (Jy X scope N cp = true) L2.aRfl._auto_1)
  (hnames : autoParam ((scope.names.all fun p => p.2 != .local || scope.names.lookup p.1 == some .local) = true) L2.aRfl._auto_1) (hs : autoParam (∀ x, foldedSetIterable iter X.env x = pure x) L2.aIrf._auto_1) :
  PE X (.ListComp elt [⟨target, iter, ifs, 0⟩] scope pos) (fun σ H Q => tLC cp wi g tt te σ H fun D H' => Q (.ref D) H') := by
 intro pins s σ H Q I h
 rw [eval_ListComp]
 have has : ∀ n, (n, NameKind.free) ∈ scope.names → ∃ c, X.env.cells.lookup n = some c := fun n hn => I.ok.has n (Zg hfree n hn)
 refine wpAny_comprehension_free (use := none) rfl hs (Zy has) hk (fun x hx hl => ?_) (thn (hi pins s σ H _ I h) fun xv s1 h1 => thn h1 fun itv s2 h2 => ?_)
 ·have := xK.mp hnames x hx
  simp only [kYc, bne_iff_ne, beq_iff_eq] at this
  exact this.resolve_left fun z => z hl
 ·obtain ⟨it, fp, tn, J, H2, e, I2, T, st2, f2, hW⟩ := h2
  subst e
  refine Qem (N := N) (cp := cp) hc hk hcell hfree hcap hg ht he I2 T st2 f2 hW fun D C s' H' m I' fC hm q => ⟨m, hm, fun h' hsb => ?_⟩
  exact ⟨.ref D, H', I'.turned (t' := s'.toks) (fun b o hb e => hsb.extBut b o hb e) fC.1 fC.2.1 fC.2.2.2.1 fC.2.2.2.2.1 fC.2.2.2.2.2, rfl, q⟩
theorem Qoh {i : Nat} {x : Str} {px : Pos} {elt iter target : Expr} {ifs : List Expr} {scope : Scope} {pos spos : Pos} (N : List Str) (cp : List (Option Nat)) {wi : TI} {g : TG} {tt : TT} {te : TE} (hc : X.calm = true) (hN : X.N.Nodup) (hi' : X.N[i]? = some x) (hx : Loc X.env.scope x) (hi : PI X target iter wi)
  (hg : ∀ fp H s, PG (Xq X N scope fp H s) target g) (ht : ∀ fp H s, PF (Xq X N scope fp H s) ifs tt) (he : ∀ fp H s, PE (Xq X N scope fp H s) elt te)
  (hsw : autoParam (swapsWith (.ListComp elt [⟨target, iter, ifs, 0⟩] scope pos) (some (.Name x px)) spos.line X.env = pure true) L2.aRfl._auto_1)
  (hk : autoParam (scope.kind = .function) L2.aRfl._auto_1) (hcell : autoParam ((scope.names.all fun p => p.2 != .cell) = true) L2.aRfl._auto_1) (hfree : autoParam (freeOk X.env.scope scope.names = true) L2.aRfl._auto_1) (hcap : autoParam (Jy X scope N cp = true) L2.aRfl._auto_1)
  (hnames : autoParam ((scope.names.all fun p => p.2 != .local || scope.names.lookup p.1 == some .local) = true) L2.aRfl._auto_1) (hs : autoParam (∀ x, foldedSetIterable iter X.env x = pure x) L2.aIrf._auto_1)
  (hf : autoParam (X.fn x = true ∨ X.env.scope.names.lookup x = some .local) L2.aFst._auto_1) :
  PS X (.Assign [.Name x px] (.ListComp elt [⟨target, iter, ifs, 0⟩] scope pos) spos) (fun D σ H => tLC cp wi g tt te σ H fun a H' => D.nx (σ.set i (some (.ref a))) H') := by
 intro pins s σ H D I h
 have has : ∀ n, (n, NameKind.free) ∈ scope.names → ∃ c, X.env.cells.lookup n = some c := fun n hn => I.ok.has n (Zg hfree n hn)
 rw [exec_Assign_Name_used _ _ _ _ hsw]
 refine jX (wpAny_standAt (jX ?_))
 show wpAny _ _ (do let _ ← comprehension (.ListComp elt [⟨target, iter, ifs, 0⟩] scope pos) scope X.env _ (newList []) false (eval iter X.env) (some (assign (.Name x px) X.env))) _ _ s
 refine jX (wpAny_mono (wpAny_comprehension_free (use := some (assign (.Name x px) X.env)) (Q := fun _ s' => SP X pins D .next s') rfl hs (Zy has) hk (fun x hx hl => ?_)
  (thn (hi pins s σ H _ I h) fun xv s1 h1 => thn h1 fun itv s2 h2 => ?_)) (fun _ s' hq => kW (kW hq)) fun _ _ e => e)
 ·have := xK.mp hnames x hx
  simp only [kYc, bne_iff_ne, beq_iff_eq] at this
  exact this.resolve_left fun z => z hl
 ·obtain ⟨it, fp, tn, J, H2, e, I2, T, st2, f2, hW⟩ := h2
  subst e
  refine Qem (N := N) (cp := cp) hc hk hcell hfree hcap hg ht he I2 T st2 f2 hW fun D' C s' H' m I' fC hm q => ?_
  show wpAny _ _ (assign (.Name x px) X.env (.ref D')) _ _ _
  refine wpAny_assign_Name (Qbp I' hN hi' hx (v := .ref D') rfl (fun s'' I'' hsb => ?_) hf)
  obtain ⟨a, hsb, ha⟩ := hsb
  have hCa : C ≠ a := by
   rcases ha with e | e
   ·rw [e]; exact fC.2.1
   ·exact fun z => fC.2.2.2.2.1 x a e z.symm
  refine ⟨m, hm.sameBut hsb hCa, fun h' hsb' => ?_⟩
  exact ⟨_, H', I''.turned (t' := s''.toks) (fun b o hb e => hsb'.extBut b o hb e) fC.1 fC.2.1 fC.2.2.2.1 fC.2.2.2.2.1 fC.2.2.2.2.2, q⟩
end
structure Drw (P : Program) (w : World) (it l : Addr) (st : Nat → Heap → Prop) (src : List Value → Heap → Prop) : Prop where
 obj : ∀ i h, st i h → ∃ o, h.get? it = some o ∧ ∀ v, o.data ≠ .cell v
 keep : ∀ i h h', st i h → (∀ o, h.get? it = some o → h'.get? it = some o) → st i h'
 srck : ∀ xs h h', src xs h → (∀ o, h.get? l = some o → h'.get? l = some o) → src xs h'
 item : ∀ (A : Around) (E : Value → Shared → Prop) (s : Shared) (i : Nat) (xs : List Value) (x : Value) (Q : Value → Shared → Prop), st i s.heap → src xs s.heap → xs[i]? = some x →
  (∀ h', st (i + 1) h' → Heap.SameBut it s.heap h' → Q x { s with heap := h' }) → wpAny (model P w) A (Builtin.SmallTypes.nextOf (.ref it)) Q E s
 done : ∀ (A : Around) (E : Value → Shared → Prop) (s : Shared) (i : Nat) (xs : List Value) (Q : Value → Shared → Prop), A.handled = none → st i s.heap → src xs s.heap → xs[i]? = none →
  (∀ h' e, Heap.ExtBut it s.heap h' → (∃ o, h'.get? e = some o ∧ o.cls = .type "StopIteration") → E (.ref e) { s with heap := h' }) → wpAny (model P w) A (Builtin.SmallTypes.nextOf (.ref it)) Q E s
theorem Qli {P : Program} {w : World} (it l : Addr) : Drw P w it l (fun i h => h.IsListIter it l i) (fun xs h => h.IsList l xs.toArray) where
 obj := fun i h st => by
  obtain ⟨o, e, c, d⟩ := st
  exact ⟨o, e, fun v z => by rw [d] at z; cases z⟩
 keep := fun i h h' st k => st.at k
 srck := fun xs h h' sr k => sr.at k
 item := fun A E s i xs x Q st sr hx hQ => wpAny_nextOf_list_item st sr (by simpa using hx) hQ
 done := fun A E s i xs Q hh st sr hx hE => wpAny_nextOf_list_end hh st sr (by simpa using hx) hE
section
variable {P : Program} {w : World} {A : Around} {E : Value → Shared → Prop} {s : Shared}
theorem Vt {it t : Addr} {i : Nat} {xs : Array Value} {x : Value} {Q : Value → Shared → Prop} (hI : s.heap.IsTupleIter it t i) (hT : s.heap.IsTuple t xs) (hx : xs[i]? = some x)
  (hQ : ∀ h', h'.IsTupleIter it t (i + 1) → Heap.SameBut it s.heap h' → Q x { s with heap := h' }) : wpAny (model P w) A (Builtin.SmallTypes.nextOf (.ref it)) Q E s := by
 obtain ⟨oI, gI, cI, dI⟩ := id hI
 obtain ⟨oT, gT, _, nT, dT⟩ := hT
 unfold Builtin.SmallTypes.nextOf
 refine jX (wpAny_callSpecial?_slot (name := Str.ofString "__next__") hI.typeIs F.slot_tuple_iterator_next (wpAny_call_entry F.slot_tuple_iterator_next hI.typeIs F.entry_tuple_iterator_next ?_ (F.args_tuple_iterator_next_1 _)))
 show wpAny _ _ (field (.ref it) 0 >>= _) _ _ s
 refine jX (wpAny_field gI dI (x := .ref t) rfl ?_)
 show wpAny _ _ (if (Value.ref t == Value.none) = true then _ else _) _ _ s
 rw [if_neg (show ¬ ((Value.ref t == Value.none) = true) from yQ)]
 show wpAny _ _ (field (.ref it) 1 >>= _) _ _ s
 refine jX (wpAny_field gI dI (x := .int i 0) rfl ?_)
 show wpAny _ _ (seqItems? (.ref t) >>= _) _ _ s
 refine jX (wpAny_seqItems gT dT ?_)
 simp only [kXd, hx]
 refine jX (wpAny_setField gI dI (by simp) (kW ⟨x, rfl, kW (hQ _ ?_ (Heap.SameBut.update ..))⟩))
 refine ⟨_, jZf _ gI (Obj.isFreed_of_fields (Obj.data_mapFields dI _)), (Obj.cls_mapFields ..).trans cI, ?_⟩
 rw [Obj.data_mapFields dI]; simp [rawInt]
theorem Ws {it t : Addr} {i : Nat} {xs : Array Value} {Q : Value → Shared → Prop} (hh : A.handled = none) (hI : s.heap.IsTupleIter it t i) (hT : s.heap.IsTuple t xs) (hx : xs[i]? = none)
  (hE : ∀ h' e, Heap.ExtBut it s.heap h' → (∃ o, h'.get? e = some o ∧ o.cls = .type "StopIteration") → E (.ref e) { s with heap := h' }) : wpAny (model P w) A (Builtin.SmallTypes.nextOf (.ref it)) Q E s := by
 obtain ⟨oI, gI, cI, dI⟩ := id hI
 obtain ⟨oT, gT, _, nT, dT⟩ := hT
 unfold Builtin.SmallTypes.nextOf
 refine jX (wpAny_callSpecial?_slot (name := Str.ofString "__next__") hI.typeIs F.slot_tuple_iterator_next (wpAny_call_entry F.slot_tuple_iterator_next hI.typeIs F.entry_tuple_iterator_next ?_ (F.args_tuple_iterator_next_1 _)))
 show wpAny _ _ (field (.ref it) 0 >>= _) _ _ s
 refine jX (wpAny_field gI dI (x := .ref t) rfl ?_)
 show wpAny _ _ (if (Value.ref t == Value.none) = true then _ else _) _ _ s
 rw [if_neg (show ¬ ((Value.ref t == Value.none) = true) from yQ)]
 show wpAny _ _ (field (.ref it) 1 >>= _) _ _ s
 refine jX (wpAny_field gI dI (x := .int i 0) rfl ?_)
 show wpAny _ _ (seqItems? (.ref t) >>= _) _ _ s
 refine jX (wpAny_seqItems gT dT ?_)
 simp only [kXd, hx]
 refine jX (wpAny_rule (jX (wpAny_setField gI dI (by simp) ?_)))
 show wpAny _ _ (newExc (.type "StopIteration") [] >>= _) _ _ _
 refine jX ?_
 simp only [newExc, newTuple]
 refine jX (wpAny_newObj_type ?_ (by size_fits))
 refine jX (m := firstArgMember _ _) (wpAny_of_eq (a := Value.none) (by first | rfl | (simp only [firstArgMember]; rfl)) ?_)
 refine wpAny_newObj_type ?_ (by size_fits)
 simp only [raiseNew]
 refine jX (wpAny_handled ?_)
 first | rw [show A.in1.handled = none from hh] | rw [hh]
 exact jX (kW (wpAny_throw (hE _ _ (((Heap.SameBut.update ..).extBut.push _).push _) ⟨_, yV _ rfl, rfl⟩)))
end
theorem Qoi {P : Program} {w : World} (it l : Addr) : Drw P w it l (fun i h => h.IsTupleIter it l i) (fun xs h => h.IsTuple l xs.toArray) where
 obj := fun i h st => by
  obtain ⟨o, e, c, d⟩ := st
  exact ⟨o, e, fun v z => by rw [d] at z; cases z⟩
 keep := fun i h h' st k => st.at k
 srck := fun xs h h' sr k => sr.at k
 item := fun A E s i xs x Q st sr hx hQ => Vt st sr (by simpa using hx) hQ
 done := fun A E s i xs Q hh st sr hx hE => Ws hh st sr (by simpa using hx) hE
section
variable {P : Program} {w : World} {A : Around} {E : Value → Shared → Prop} {s : Shared} {z u o i1 i2 l1 l2 : Addr} {st1 st2 : Nat → Heap → Prop} {src1 src2 : List Value → Heap → Prop} {k1 k2 : Nat} {xs ys : List Value} {a b : Value}
theorem Qcf {x y : Value} {Q : Option Value → Shared → Prop} (d1 : Drw P w i1 l1 st1 src1) (d2 : Drw P w i2 l2 st2 src2) (D : ZipApart z u o i1 i2 l1 l2) (hZ : IsZip s.heap z u o .none) (hU : IsPair s.heap u (.ref i1) (.ref i2)) (hO : IsPair s.heap o a b)
  (h1 : st1 k1 s.heap) (h2 : st2 k2 s.heap) (hl1 : src1 xs s.heap) (hl2 : src2 ys s.heap) (hx : xs[k1]? = some x) (hy : ys[k2]? = some y)
  (hQ : ∀ h', IsZip h' z u o (rawInt s.heap.objs.size) → IsPair h' o x y → st1 (k1 + 1) h' → st2 (k2 + 1) h' → IsPair h' s.heap.objs.size x y → h'.objs.size = s.heap.objs.size + 1 →
   (∀ c q, c ≠ z → c ≠ o → c ≠ i1 → c ≠ i2 → s.heap.get? c = some q → h'.get? c = some q) → Q (some (.ref s.heap.objs.size)) { s with heap := h' }) : wpAny (model P w) A (pyNext (.ref z)) Q E s := by
 have hTy : s.TypeIs (.ref z) "zip" := ⟨_, hZ, rfl⟩
 unfold pyNext
 refine jX (wpAny_attempt (wpAny_callSpecial?_slot (name := Str.ofString "__next__") hTy F.slot_zip_next (wpAny_call_entry F.slot_zip_next hTy F.entry_zip_next ?_ (F.args_zip_next_1 _))))
 show wpAny _ _ (field (.ref z) 2 >>= _) _ _ _
 refine jX (wpAny_field hZ rfl (x := .bool false) rfl ?_)
 show wpAny _ _ (field (.ref z) 3 >>= _) _ _ _
 refine jX (wpAny_field hZ rfl (x := .ref u) rfl (jX (wpAny_seqItems hU rfl ?_)))
 show wpAny _ _ (Builtin.SmallTypes.ownedTupleIsFree (.ref z) >>= _) _ _ _
 refine jX ?_
 unfold Builtin.SmallTypes.ownedTupleIsFree
 refine jX (wpAny_field hZ rfl (x := .none) rfl (kW ?_))
 simp only [if_true]
 refine jX (wpAny_rule (jX (wpAny_field hZ rfl (x := .ref o) rfl (jX (wpAny_setField_rec hZ (by simp) fun g1 hZ1 e1 => ?_)))))
 replace hZ1 : IsZip g1 z u o .ellipsis := hZ1
 refine jX ?_
 simp only [List.zipIdx_cons, List.zipIdx_nil, List.forIn_cons, List.forIn_nil]
 refine jX (jX (wpAny_onRaise ?_))
 show wpAny _ _ (Builtin.SmallTypes.nextOf (.ref i1) >>= _) _ _ _
 refine jX (d1.item _ _ { s with heap := g1 } k1 xs x _ (d1.keep _ _ _ h1 fun q e => e1.extBut _ _ D.i1z e) (d1.srck _ _ _ hl1 fun q e => e1.extBut _ _ D.l1z e) hx fun g2 h1' e2 => kW ?_)
 have hO2 : IsPair g2 o a b := e2.extBut _ _ D.TOi1 (e1.extBut _ _ D.TOz hO)
 refine jX (wpAny_seqItems hO2 rfl (jX (wpAny_updateSeq_pair hO2 fun g3 hO3 e3 => ?_)))
 replace hO3 : IsPair g3 o x b := hO3
 refine jX (wpAny_letGo (kW ?_))
 refine jX (jX (wpAny_onRaise ?_))
 show wpAny _ _ (Builtin.SmallTypes.nextOf (.ref i2) >>= _) _ _ _
 refine jX (d2.item _ _ { s with heap := g3 } k2 ys y _ (d2.keep _ _ _ h2 fun q e => e3.extBut _ _ D.TOi2.symm (e2.extBut _ _ D.i12.symm (e1.extBut _ _ D.i2z e)))
  (d2.srck _ _ _ hl2 fun q e => e3.extBut _ _ D.l2TO (e2.extBut _ _ D.l2i1 (e1.extBut _ _ D.l2z e))) hy fun g4 h2' e4 => kW ?_)
 have hO4 : IsPair g4 o x b := e4.extBut _ _ D.TOi2 hO3
 refine jX (wpAny_seqItems hO4 rfl (jX (wpAny_updateSeq_pair hO4 fun g5 hO5 e5 => ?_)))
 replace hO5 : IsPair g5 o x y := hO5
 refine jX (wpAny_letGo (kW (kW ?_)))
 refine jX (wpAny_seqItems hO5 rfl (jX (wpAny_newTuple ?_)))
 have hsz : g5.objs.size = s.heap.objs.size := by rw [e5.1, e4.1, e3.1, e2.1, e1.1]
 have hZ5 : IsZip g5 z u o .ellipsis := e5.extBut _ _ D.TOz.symm (e4.extBut _ _ D.i2z.symm (e3.extBut _ _ D.TOz.symm (e2.extBut _ _ D.i1z.symm hZ1)))
 have hk5 : ∀ c q, c ≠ z → c ≠ o → c ≠ i1 → c ≠ i2 → s.heap.get? c = some q → g5.get? c = some q := fun c q c1 c2 c3 c4 e =>
  e5.extBut _ _ c2 (e4.extBut _ _ c4 (e3.extBut _ _ c2 (e2.extBut _ _ c3 (e1.extBut _ _ c1 e))))
 have s15 : st1 (k1 + 1) g5 := d1.keep _ _ _ h1' fun q e => e5.extBut _ _ D.TOi1.symm (e4.extBut _ _ D.i12 (e3.extBut _ _ D.TOi1.symm e))
 have s25 : st2 (k2 + 1) g5 := d2.keep _ _ _ h2' fun q e => e5.extBut _ _ D.TOi2.symm e
 have zlt : z < g5.objs.size := kJ hZ5
 show wpAny _ _ (Builtin.SmallTypes.ownedTupleHandOut (.ref z) (.ref g5.objs.size) >>= _) _ _ _
 refine jX ?_
 unfold Builtin.SmallTypes.ownedTupleHandOut
 have hZ6 : IsZip (g5.push { cls := .type "tuple", data := .seq #[x, y] }) z u o .ellipsis := jK _ hZ5
 refine jX (wpAny_setField_rec hZ6 (by simp) fun g7 hZ7 e7 => ?_)
 replace hZ7 : IsZip g7 z u o (rawInt g5.objs.size) := hZ7
 refine wpAny_setField_rec hZ7 (by simp) fun g8 hZ8 e8 => ?_
 replace hZ8 : IsZip g8 z u o (rawInt g5.objs.size) := hZ8
 have up : ∀ c q, c ≠ z → g5.get? c = some q → g8.get? c = some q := fun c q c1 e => e8.extBut _ _ c1 (e7.extBut _ _ c1 (jK _ e))
 have hT8 : IsPair g8 g5.objs.size x y := e8.extBut _ _ (jKb zlt) (e7.extBut _ _ (jKb zlt) (yV _ rfl))
 have hs8 : g8.objs.size = g5.objs.size + 1 := by rw [e8.1, e7.1, jJa]
 rw [hsz] at hZ8 hT8 hs8
 refine kW ⟨_, rfl, kW ?_⟩
 show Q (some (.ref g5.objs.size)) _
 rw [hsz]
 exact hQ g8 hZ8 (up _ _ D.TOz hO5) (d1.keep _ _ _ s15 fun q e => up _ q D.i1z e) (d2.keep _ _ _ s25 fun q e => up _ q D.i2z e) hT8 hs8 fun c q c1 c2 c3 c4 e => up c q c1 (hk5 c q c1 c2 c3 c4 e)
theorem Qdh {Q : Option Value → Shared → Prop} (hh : A.handled = none) (d1 : Drw P w i1 l1 st1 src1) (d2 : Drw P w i2 l2 st2 src2) (D : ZipApart z u o i1 i2 l1 l2) (hZ : IsZip s.heap z u o .none) (hU : IsPair s.heap u (.ref i1) (.ref i2)) (hO : IsPair s.heap o a b)
  (h1 : st1 k1 s.heap) (h2 : st2 k2 s.heap) (hl1 : src1 xs s.heap) (hl2 : src2 ys s.heap) (hend : xs[k1]? = none ∨ ys[k2]? = none)
  (hQ : ∀ h', (∀ c q, c ≠ z → c ≠ o → c ≠ i1 → c ≠ i2 → s.heap.get? c = some q → h'.get? c = some q) → Q none { s with heap := h' }) : wpAny (model P w) A (pyNext (.ref z)) Q E s := by
 have hTy : s.TypeIs (.ref z) "zip" := ⟨_, hZ, rfl⟩
 unfold pyNext
 have fin : ∀ (h' : Heap) (e : Addr), (∀ c q, c ≠ z → c ≠ o → c ≠ i1 → c ≠ i2 → s.heap.get? c = some q → h'.get? c = some q) → (∃ o, h'.get? e = some o ∧ o.cls = .type "StopIteration") →
   wpAny (model P w) A (isInstance (.ref e) (.type "StopIteration") >>= fun b => if b = true then pure none else throw (Value.ref e)) Q E { s with heap := h' } := fun h' e hk he => by
  obtain ⟨q, hq, hc⟩ := he
  exact jX (wpAny_isInstance (T := "StopIteration") (b := true) ⟨q, hq, hc⟩ isSubtype_stop (kW (hQ _ hk)))
 refine jX (wpAny_attempt (wpAny_callSpecial?_slot (name := Str.ofString "__next__") hTy F.slot_zip_next (wpAny_call_entry F.slot_zip_next hTy F.entry_zip_next ?_ (F.args_zip_next_1 _))))
 show wpAny _ _ (field (.ref z) 2 >>= _) _ _ _
 refine jX (wpAny_field hZ rfl (x := .bool false) rfl ?_)
 show wpAny _ _ (field (.ref z) 3 >>= _) _ _ _
 refine jX (wpAny_field hZ rfl (x := .ref u) rfl (jX (wpAny_seqItems hU rfl ?_)))
 show wpAny _ _ (Builtin.SmallTypes.ownedTupleIsFree (.ref z) >>= _) _ _ _
 refine jX ?_
 unfold Builtin.SmallTypes.ownedTupleIsFree
 refine jX (wpAny_field hZ rfl (x := .none) rfl (kW ?_))
 simp only [if_true]
 refine jX (wpAny_rule (jX (wpAny_field hZ rfl (x := .ref o) rfl (jX (wpAny_setField_rec hZ (by simp) fun g1 hZ1 e1 => ?_)))))
 replace hZ1 : IsZip g1 z u o .ellipsis := hZ1
 refine jX ?_
 simp only [List.zipIdx_cons, List.zipIdx_nil, List.forIn_cons, List.forIn_nil]
 refine jX (jX (wpAny_onRaise ?_))
 show wpAny _ _ (Builtin.SmallTypes.nextOf (.ref i1) >>= _) _ _ _
 cases hx : xs[k1]? with
 | none =>
  refine jX (d1.done _ _ { s with heap := g1 } k1 xs _ hh (d1.keep _ _ _ h1 fun q e => e1.extBut _ _ D.i1z e) (d1.srck _ _ _ hl1 fun q e => e1.extBut _ _ D.l1z e) hx fun g2 e e2 he => ?_)
  obtain ⟨qe, ge, ce⟩ := he
  have hZ2 : IsZip g2 z u o .ellipsis := e2 _ _ D.i1z.symm hZ1
  have hez : e ≠ z := fun x => by subst x; rw [hZ2] at ge; cases ge; simp at ce
  refine wpAny_setField_rec hZ2 (by simp) fun g3 _ e3 => ?_
  exact fin g3 e (fun c q c1 _ c3 _ x => e3.extBut _ _ c1 (e2 _ _ c3 (e1.extBut _ _ c1 x))) ⟨qe, e3.extBut _ _ hez ge, ce⟩
 | some x =>
  have hy : ys[k2]? = none := hend.resolve_left fun h => by rw [hx] at h; cases h
  refine jX (d1.item _ _ { s with heap := g1 } k1 xs x _ (d1.keep _ _ _ h1 fun q e => e1.extBut _ _ D.i1z e) (d1.srck _ _ _ hl1 fun q e => e1.extBut _ _ D.l1z e) hx fun g2 h1' e2 => kW ?_)
  have hO2 : IsPair g2 o a b := e2.extBut _ _ D.TOi1 (e1.extBut _ _ D.TOz hO)
  refine jX (wpAny_seqItems hO2 rfl (jX (wpAny_updateSeq_pair hO2 fun g3 hO3 e3 => ?_)))
  refine jX (wpAny_letGo (kW ?_))
  refine jX (jX (wpAny_onRaise ?_))
  show wpAny _ _ (Builtin.SmallTypes.nextOf (.ref i2) >>= _) _ _ _
  refine jX (d2.done _ _ { s with heap := g3 } k2 ys _ hh (d2.keep _ _ _ h2 fun q e => e3.extBut _ _ D.TOi2.symm (e2.extBut _ _ D.i12.symm (e1.extBut _ _ D.i2z e)))
   (d2.srck _ _ _ hl2 fun q e => e3.extBut _ _ D.l2TO (e2.extBut _ _ D.l2i1 (e1.extBut _ _ D.l2z e))) hy fun g4 e e4 he => ?_)
  obtain ⟨qe, ge, ce⟩ := he
  have hZ4 : IsZip g4 z u o .ellipsis := e4 _ _ D.i2z.symm (e3.extBut _ _ D.TOz.symm (e2.extBut _ _ D.i1z.symm hZ1))
  have hez : e ≠ z := fun x => by subst x; rw [hZ4] at ge; cases ge; simp at ce
  refine wpAny_setField_rec hZ4 (by simp) fun g5 _ e5 => ?_
  exact fin g5 e (fun c q c1 c2 c3 c4 x => e5.extBut _ _ c1 (e4 _ _ c4 (e3.extBut _ _ c2 (e2.extBut _ _ c3 (e1.extBut _ _ c1 x))))) ⟨qe, e5.extBut _ _ hez ge, ce⟩
end
def Jn (n : String) (l : Addr) : Obj := { cls := .type n, data := .fields #[.ref l, .int 0 0] }
structure Itr0 (n : String) (l : Addr) (pr : Heap → Prop) : Prop where
 go : ∀ (P : Program) (w : World) (A : Around) (E : Value → Shared → Prop) (s : Shared) (Q : Value → Shared → Prop), pr s.heap → Q (.ref s.heap.objs.size) { s with heap := s.heap.push (Jn n l) } → wpAny (model P w) A (pyIter (.ref l)) Q E s
 push : ∀ h o, pr h → pr (h.push o)
theorem Qhz (l : Addr) (xs : Array Value) : Itr0 "list_iterator" l (fun h => h.IsList l xs) := ⟨fun _ _ _ _ _ _ hl h => wpAny_pyIter_list hl h, fun _ _ hl => hl.push _⟩
theorem Qlj (l : Addr) (xs : Array Value) : Itr0 "tuple_iterator" l (fun h => h.IsTuple l xs) := ⟨fun _ _ _ _ _ _ hl h => wpAny_pyIter_tuple hl h, fun _ _ hl => hl.push _⟩
def zH1 (h : Heap) (n1 : String) (l1 : Addr) : Heap := h.push (Jn n1 l1)
def zH2 (h : Heap) (n1 n2 : String) (l1 l2 : Addr) : Heap := (zH1 h n1 l1).push (Jn n2 l2)
def zH3 (h : Heap) (n1 n2 : String) (l1 l2 : Addr) : Heap := (zH2 h n1 n2 l1 l2).push { cls := .type "tuple", data := .seq #[.ref h.objs.size, .ref (zH1 h n1 l1).objs.size] }
def zH4 (h : Heap) (n1 n2 : String) (l1 l2 : Addr) : Heap := (zH3 h n1 n2 l1 l2).push { cls := .type "tuple", data := .seq #[.none, .none] }
def zH5 (h : Heap) (n1 n2 : String) (l1 l2 : Addr) : Heap := (zH4 h n1 n2 l1 l2).push { cls := .type "zip", data := .fields #[.none, .bool false, .bool false, .ref (zH2 h n1 n2 l1 l2).objs.size, .ref (zH3 h n1 n2 l1 l2).objs.size] }
theorem Qia {n1 n2 : String} {l1 l2 : Addr} {p1 p2 : Heap → Prop} (I1 : Itr0 n1 l1 p1) (I2 : Itr0 n2 l2 p2) :
  Meets (Builtin.«zip.__new__» ⟨[.type "zip", .ref l1, .ref l2], []⟩) (fun _ R s => p1 s.heap ∧ p2 s.heap ∧ R (.ok (.ret (.ref (zH4 s.heap n1 n2 l1 l2).objs.size))) { s with heap := zH5 s.heap n1 n2 l1 l2 }) :=
 .of_wp fun prog w A R s h => by
  obtain ⟨hp, g, d, tk, os⟩ := s
  obtain ⟨q1, q2, h⟩ := h
  have hsub := sub_zip
  have f1 := fun (A : Around) (E : Value → Shared → Prop) (Q : Value → Shared → Prop) => I1.go prog w A E ⟨hp, g, d, tk, os⟩ Q q1
  have f2 := fun (A : Around) (E : Value → Shared → Prop) (Q : Value → Shared → Prop) => I2.go prog w A E ⟨hp.push (Jn n1 l1), g, d, tk, os⟩ Q (I2.push _ _ q2)
  wp_walk using f1 _ _ _, f2 _ _ _
  exact ⟨_, rfl, h⟩
def Sq (K : Fg) (m : Bool) (H : Hp) (a : Addr) (xs : List V) : Prop := if m = true then SqL K H a xs else SqT K H a xs
def itN (m : Bool) : String := if m = true then "list_iterator" else "tuple_iterator"
def itSt (m : Bool) (it l : Addr) (i : Nat) (h : Heap) : Prop := if m = true then h.IsListIter it l i else h.IsTupleIter it l i
def Qgh (m : Bool) (l : Addr) (xs : List Value) (h : Heap) : Prop := if m = true then h.IsList l xs.toArray else h.IsTuple l xs.toArray
theorem Yh {P : Program} {w : World} (m : Bool) (it l : Addr) : Drw P w it l (itSt m it l) (Qgh m l) := by
 cases m
 ·exact Qoi it l
 ·exact Qli it l
theorem Qdi (m : Bool) (l : Addr) (xs : List Value) : Itr0 (itN m) l (Qgh m l xs) := by
 cases m
 ·exact Qlj l xs.toArray
 ·exact Qhz l xs.toArray
theorem Qaq (m : Bool) {h : Heap} {it l : Addr} (e : h.get? it = some (Jn (itN m) l)) : itSt m it l 0 h := by
 cases m
 ·exact ⟨_, e, rfl, rfl⟩
 ·exact ⟨_, e, rfl, rfl⟩
section
variable {X : Cx} {pins : List (Addr × Obj)} {σ : St} {H : Hp} {s : Shared}
theorem Inv.sq {m : Bool} {a : Addr} {xs : List V} (I : Inv X pins σ H s) (h : Sq X.K m H a xs) : ∃ its : List Value, Vals xs its ∧ Qgh m a its s.heap ∧ xs.length ≤ sizeLine := by
 cases m
 ·obtain ⟨its, rv, p, hz⟩ := I.tuple h
  exact ⟨its, rv, p, by first | exact hz | omega⟩
 ·obtain ⟨its, rv, p, hz⟩ := I.list h
  exact ⟨its, rv, p.isList, by first | exact hz | omega⟩
theorem Inv.sq_inj {m : Bool} {a : Addr} {xs ys : List V} (I : Inv X pins σ H s) (h : Sq X.K m H a xs) (h' : Sq X.K m H a ys) : xs = ys := by
 cases m
 ·exact I.tuple_inj h h'
 ·exact I.list_inj h h'
theorem Inv.tupNew {xs : List V} {its : List Value} {h' : Heap} {ch : List Addr} {T : Addr} (I : Inv X pins σ H s) (hT : s.heap.objs.size ≤ T) (r : Vals xs its) (hz : xs.length ≤ sizeLine) (e : h'.get? T = some { cls := .type "tuple", data := .seq its.toArray })
  (hf : ∀ b ∈ ch, FpOk X pins H b) (k : ∀ b o, b ∉ ch → s.heap.get? b = some o → h'.get? b = some o) (th : ∀ b ∈ ch, ∃ o, h'.get? b = some o) : Inv X pins σ (upd H T (.tup xs)) { s with heap := h' } := by
 have hn : H T = none := I.hok.fresh hT
 have tr : ∀ b o, H b = some o → b ∉ ch := fun b o e z => by rw [(hf b z).1] at e; cases e
 refine I.step (g' := s.gens) (t' := s.toks) (d' := s.drawn) (ch := ch) (fun b hb => ⟨(hf b hb).2.2.2.1, (hf b hb).2.1, (hf b hb).2.2.2.2.1, (hf b hb).2.2.2.2.2⟩) (fun b o _ _ hc q _ => k b o hc q) (fun b o _ _ hc q _ => ⟨o.slots, k b o hc q⟩) (fun b o _ q n => ?_) (fun b o hc q => ⟨o, k b o hc q⟩)
  (fun b xs q => ?_) (fun b o u q => ?_) (fun b ps q => ⟨#[], ?_⟩) (fun m hm => ?_) (fun b ob q => ?_) I.bare
 ·rw [Qq (zQ (yW (kJ q) hT))]; exact n
 ·rw [Qq (Qr q hn)]; exact q
 ·rw [Qq (Qr q hn)]; exact q
 ·rw [Qq (Qr q hn), Array.append_empty]; exact q
 ·obtain ⟨o, es, ep, q, d, r⟩ := hm
  exact ⟨o, es, ep, k _ o (fun z => (hf _ z).2.1 rfl) q, d, r⟩
 ·by_cases hb : b = T
  ·subst hb
   rw [Qe] at q; cases q
   exact ⟨hz, its, r, _, e, rfl, _, rfl⟩
  ·rw [Qq hb] at q
   refine (I.hok b ob q).stay (fun c v hc r => k c v ?_ r) (fun c r => by rw [Qq (Qr r hn)]; exact r) fun c xs r => by rw [Qq (Qr r hn)]; exact r
   rcases hc with rfl | hc
   ·exact tr _ _ q
   ·exact tr _ _ hc
end
def Itz (K : Fg) (m1 m2 : Bool) (a b : Addr) : It :=
  ⟨fun i H => ∃ xs ys x y, Sq K m1 H a xs ∧ Sq K m2 H b ys ∧ xs[i]? = some x ∧ ys[i]? = some y,
   fun i H v H' => ∃ T x y, v = .ref T ∧ H T = none ∧ H' = upd H T (.tup [x, y]) ∧ (∀ xs, Sq K m1 H a xs → xs[i]? = some x) ∧ ∀ ys, Sq K m2 H b ys → ys[i]? = some y,
   fun i H => ∃ xs ys, Sq K m1 H a xs ∧ Sq K m2 H b ys ∧ (xs.length ≤ i ∨ ys.length ≤ i)⟩
def zTn (m1 m2 : Bool) (z u o i1 i2 a b : Addr) (i : Nat) (h : Heap) : Prop := IsZip h z u o .none ∧ IsPair h u (.ref i1) (.ref i2) ∧ (∃ p q, IsPair h o p q) ∧ itSt m1 i1 a i h ∧ itSt m2 i2 b i h
theorem Qlk {P : Program} {w : World} {K : Fg} {es : List Expr} {kk : Nat} {tp : Pos} {m1 m2 : Bool} {z u o i1 i2 a b : Addr} (D : ZipApart z u o i1 i2 a b) :
  Turn P w K (.Tuple es kk tp) (Itz K m1 m2 a b) [z, u, o, i1, i2] z (zTn m1 m2 z u o i1 i2 a b) where
 mem := by simp
 obj := fun i h st c hc => by
  obtain ⟨h1, h2, ⟨p, q, h3⟩, h4, h5⟩ := st
  simp only [jZ, xV, or_false] at hc
  rcases hc with rfl | rfl | rfl | rfl | rfl
  ·exact ⟨_, h1, fun v z => by cases z⟩
  ·exact ⟨_, h2, fun v z => by cases z⟩
  ·exact ⟨_, h3, fun v z => by cases z⟩
  ·exact (Yh (P := P) (w := w) m1 c a).obj i h h4
  ·exact (Yh (P := P) (w := w) m2 c b).obj i h h5
 keep := fun i h h' st k => by
  obtain ⟨h1, h2, ⟨p, q, h3⟩, h4, h5⟩ := st
  exact ⟨k z (by simp) _ h1, k u (by simp) _ h2, ⟨p, q, k o (by simp) _ h3⟩, (Yh (P := P) (w := w) m1 i1 a).keep i h h' h4 (k i1 (by simp)), (Yh (P := P) (w := w) m2 i2 b).keep i h h' h5 (k i2 (by simp))⟩
 item := by
  intro X hP hw hK hc i pins s σ H E I hf st hg
  subst hP hw hK
  obtain ⟨xs, ys, x, y, q1, q2, hx, hy⟩ := hg
  obtain ⟨is1, r1, p1, z1⟩ := I.sq q1
  obtain ⟨is2, r2, p2, z2⟩ := I.sq q2
  obtain ⟨v1, e1, rv1⟩ := r1.get hx
  obtain ⟨v2, e2, rv2⟩ := r2.get hy
  obtain ⟨hZ, hU, ⟨p, q, hO⟩, s1, s2⟩ := st
  refine Qcf (Yh m1 i1 a) (Yh m2 i2 b) D hZ hU hO s1 s2 p1 p2 e1 e2 fun h' a1 a2 a3 a4 a5 a6 a7 => ⟨_, rfl, ?_⟩
  have hf' : ∀ c ∈ [z, o, i1, i2], FpOk X pins H c := fun c hc => hf c (by simp only [jZ, xV, or_false] at hc ⊢; rcases hc with rfl | rfl | rfl | rfl <;> simp)
  have I1 : Inv X pins σ (upd H s.heap.objs.size (.tup [x, y])) { s with heap := h' } := I.tupNew (ch := [z, o, i1, i2]) (kK _) (.cons rv1 (.cons rv2 .nil)) (by show 2 ≤ sizeLine; decide) a5 hf'
   (fun c q hc e => by simp only [jZ, xV, or_false, not_or] at hc; exact a7 c q hc.1 hc.2.1 hc.2.2.1 hc.2.2.2 e)
   (fun c hc => by
    simp only [jZ, xV, or_false] at hc
    rcases hc with rfl | rfl | rfl | rfl
    ·exact ⟨_, a1⟩
    ·exact ⟨_, a2⟩
    ·obtain ⟨q, e, _⟩ := (Yh (P := X.prog) (w := X.w) m1 c a).obj _ _ a3; exact ⟨q, e⟩
    ·obtain ⟨q, e, _⟩ := (Yh (P := X.prog) (w := X.w) m2 c b).obj _ _ a4; exact ⟨q, e⟩)
  refine wpAny_letOwnedTupleGo_zip (s := { s with heap := h' }) a1 fun h2 g1 g2 => ?_
  obtain ⟨f0, f1, f2, f3, f4, f5⟩ := hf z (by simp)
  have ltz : z < s.heap.objs.size := kJ hZ
  have I2 : Inv X pins σ (upd H s.heap.objs.size (.tup [x, y])) { s with heap := h2 } := I1.turned (h' := h2) (t' := s.toks) (fun c q hc e => g2.extBut c q hc e) (by rw [Qq (zQ ltz)]; exact f0) f1 f3 f4 f5
  have hU' : IsPair h' u (.ref i1) (.ref i2) := a7 u _ D.TIz D.TITO D.TIi1 D.TIi2 hU
  refine ⟨.ref s.heap.objs.size, _, I2, rfl, ⟨_, x, y, rfl, I.hok.fresh (kK _), rfl, fun xs' hq => by rw [I.sq_inj hq q1]; exact hx, fun ys' hq => by rw [I.sq_inj hq q2]; exact hy⟩, ?_, fun c hc => ?_⟩
  ·exact ⟨g1, g2.extBut _ _ D.TIz hU', ⟨_, _, g2.extBut _ _ D.TOz a2⟩, (Yh (P := X.prog) (w := X.w) m1 i1 a).keep _ _ _ a3 fun q e => g2.extBut _ _ D.i1z e, (Yh (P := X.prog) (w := X.w) m2 i2 b).keep _ _ _ a4 fun q e => g2.extBut _ _ D.i2z e⟩
  ·have hlt : c ≠ s.heap.objs.size := by
    have st' : zTn m1 m2 z u o i1 i2 a b i s.heap := ⟨hZ, hU, ⟨p, q, hO⟩, s1, s2⟩
    simp only [jZ, xV, or_false] at hc
    rcases hc with rfl | rfl | rfl | rfl | rfl
    ·exact zQ ltz
    ·exact zQ (kJ hU)
    ·exact zQ (kJ hO)
    ·obtain ⟨q, e, _⟩ := (Yh (P := X.prog) (w := X.w) m1 c a).obj _ _ s1; exact zQ (kJ e)
    ·obtain ⟨q, e, _⟩ := (Yh (P := X.prog) (w := X.w) m2 c b).obj _ _ s2; exact zQ (kJ e)
   rw [Qq hlt]
   exact (hf c hc).1
 done := by
  intro X hP hw hK hc i pins s σ H E I hf st hg
  subst hP hw hK
  obtain ⟨xs, ys, q1, q2, hx⟩ := hg
  obtain ⟨is1, r1, p1, z1⟩ := I.sq q1
  obtain ⟨is2, r2, p2, z2⟩ := I.sq q2
  obtain ⟨hZ, hU, ⟨p, q, hO⟩, s1, s2⟩ := st
  have l1 := r1.length
  have l2 := r2.length
  refine Qdh (I.ok.hd hc) (Yh m1 i1 a) (Yh m2 i2 b) D hZ hU hO s1 s2 p1 p2 (by
   rcases hx with h | h
   ·exact .inl (kXb.mpr (by omega))
   ·exact .inr (kXb.mpr (by omega))) fun h' k => ⟨rfl, ?_⟩
  have hf' : ∀ c ∈ [z, o, i1, i2], FpOk X pins H c := fun c hc => hf c (by simp only [jZ, xV, or_false] at hc ⊢; rcases hc with rfl | rfl | rfl | rfl <;> simp)
  have tr : ∀ c q, H c = some q → c ∉ [z, o, i1, i2] := fun c q e y => by rw [(hf' c y).1] at e; cases e
  have kk : ∀ c q, c ∉ [z, o, i1, i2] → s.heap.get? c = some q → h'.get? c = some q := fun c q hc e => by
   simp only [jZ, xV, or_false, not_or] at hc
   exact k c q hc.1 hc.2.1 hc.2.2.1 hc.2.2.2 e
  refine I.step (g' := s.gens) (t' := s.toks) (d' := s.drawn) (ch := [z, o, i1, i2]) (fun b hb => ⟨(hf' b hb).2.2.2.1, (hf' b hb).2.1, (hf' b hb).2.2.2.2.1, (hf' b hb).2.2.2.2.2⟩) (fun b o _ _ hc q _ => kk b o hc q) (fun b o _ _ hc q _ => ⟨o.slots, kk b o hc q⟩) (fun b o _ q n => n) (fun b o hc q => ⟨o, kk b o hc q⟩)
   (fun b xs q => q) (fun b o u q => q) (fun b ps q => ⟨#[], by rw [Array.append_empty]; exact q⟩) (fun m hm => ?_) (fun b ob q => ?_) I.bare
  ·obtain ⟨o, es, ep, q, d, r⟩ := hm
   exact ⟨o, es, ep, kk _ o (fun z => (hf' _ z).2.1 rfl) q, d, r⟩
  ·refine (I.hok b ob q).stay (fun c v hc r => kk c v ?_ r) (fun c r => r) fun c xs r => r
   rcases hc with rfl | hc
   ·exact tr _ _ q
   ·exact tr _ _ hc
 self := fun _ _ _ _ _ st h => wpAny_pyIter_zip st.1 h
section
variable {X : Cx}
def iZip (K : Fg) (m1 m2 : Bool) (ta : TA) : TI := fun σ H R => ta σ H fun vs H1 => ∃ a b, vs = [.ref a, .ref b] ∧ (∃ xs, Sq K m1 H1 a xs) ∧ (∃ ys, Sq K m2 H1 b ys) ∧ R (Itz K m1 m2 a b) H1
theorem Qib {P : Program} {w : World} {A : Around} {E : Value → Shared → Prop} {s : Shared} {m1 m2 : Bool} {a b : Addr} {xs ys : List Value} {Q : Value → Shared → Prop} (h1 : Qgh m1 a xs s.heap) (h2 : Qgh m2 b ys s.heap)
  (h : ∀ h', IsZip h' (s.heap.objs.size + 4) (s.heap.objs.size + 2) (s.heap.objs.size + 3) .none → IsPair h' (s.heap.objs.size + 2) (.ref s.heap.objs.size) (.ref (s.heap.objs.size + 1)) → IsPair h' (s.heap.objs.size + 3) .none .none →
   itSt m1 s.heap.objs.size a 0 h' → itSt m2 (s.heap.objs.size + 1) b 0 h' → (∀ c o, s.heap.get? c = some o → h'.get? c = some o) → Q (.ref (s.heap.objs.size + 4)) { s with heap := h' }) :
  wpAny (model P w) A (call (.type "zip") [.ref a, .ref b]) Q E s := by
 refine callType_new F.called_zip (by decide) (F.typeCall_zip_2 _ _) (F.newCall_zip_2 _ _) (fun obj => F.args_object_init_3 obj _ _) F.entry_zip_new (Qia (Qdi m1 a xs) (Qdi m2 b ys)) ⟨h1, h2, ?_⟩
 have z1 : (zH1 s.heap (itN m1) a).objs.size = s.heap.objs.size + 1 := jJa ..
 have z2 : (zH2 s.heap (itN m1) (itN m2) a b).objs.size = s.heap.objs.size + 2 := by unfold zH2; rw [jJa, z1]
 have z3 : (zH3 s.heap (itN m1) (itN m2) a b).objs.size = s.heap.objs.size + 3 := by unfold zH3; rw [jJa, z2]
 have z4 : (zH4 s.heap (itN m1) (itN m2) a b).objs.size = s.heap.objs.size + 4 := by unfold zH4; rw [jJa, z3]
 have g5 : (zH5 s.heap (itN m1) (itN m2) a b).get? (zH4 s.heap (itN m1) (itN m2) a b).objs.size = some { cls := .type "zip", data := .fields #[.none, .bool false, .bool false, .ref (zH2 s.heap (itN m1) (itN m2) a b).objs.size, .ref (zH3 s.heap (itN m1) (itN m2) a b).objs.size] } := yV _ rfl
 have up4 : ∀ c o, (zH4 s.heap (itN m1) (itN m2) a b).get? c = some o → (zH5 s.heap (itN m1) (itN m2) a b).get? c = some o := fun c o e => jK _ e
 have up3 : ∀ c o, (zH3 s.heap (itN m1) (itN m2) a b).get? c = some o → (zH5 s.heap (itN m1) (itN m2) a b).get? c = some o := fun c o e => up4 c o (jK _ e)
 have up2 : ∀ c o, (zH2 s.heap (itN m1) (itN m2) a b).get? c = some o → (zH5 s.heap (itN m1) (itN m2) a b).get? c = some o := fun c o e => up3 c o (jK _ e)
 have up1 : ∀ c o, (zH1 s.heap (itN m1) a).get? c = some o → (zH5 s.heap (itN m1) (itN m2) a b).get? c = some o := fun c o e => up2 c o (jK _ e)
 have g4 : (zH5 s.heap (itN m1) (itN m2) a b).get? (zH3 s.heap (itN m1) (itN m2) a b).objs.size = some { cls := .type "tuple", data := .seq #[.none, .none] } := up4 _ _ (yV _ rfl)
 have g3 : (zH5 s.heap (itN m1) (itN m2) a b).get? (zH2 s.heap (itN m1) (itN m2) a b).objs.size = some { cls := .type "tuple", data := .seq #[.ref s.heap.objs.size, .ref (zH1 s.heap (itN m1) a).objs.size] } := up3 _ _ (yV _ rfl)
 have g2 : (zH5 s.heap (itN m1) (itN m2) a b).get? (zH1 s.heap (itN m1) a).objs.size = some (Jn (itN m2) b) := up2 _ _ (yV _ rfl)
 have g1 : (zH5 s.heap (itN m1) (itN m2) a b).get? s.heap.objs.size = some (Jn (itN m1) a) := up1 _ _ (yV _ rfl)
 show _ ∧ _
 rw [z2, z3, z4] at g5
 rw [z1, z2] at g3
 rw [z3] at g4
 rw [z1] at g2
 rw [z4]
 exact ⟨⟨_, g5, rfl⟩, h _ g5 g3 g4 (Qaq m1 g1) (Qaq m2 g2) fun c o x => up1 c o (jK _ x)⟩
theorem Qic {n l1 l2 : Addr} (h1 : l1 < n) (h2 : l2 < n) : ZipApart (n + 4) (n + 2) (n + 3) n (n + 1) l1 l2 := by
 have h1' : @LT.lt Nat _ l1 n := h1
 have h2' : @LT.lt Nat _ l2 n := h2
 constructor <;> (show @Ne Nat _ _) <;> omega
theorem Qar {m : Bool} {a : Addr} {xs : List Value} {h : Heap} (e : Qgh m a xs h) : a < h.objs.size := by
 cases m
 ·obtain ⟨o, e, _⟩ := e; exact kJ e
 ·obtain ⟨o, e, _⟩ := e; exact kJ e
theorem pi_zip {a b : Expr} {ta : TA} {p pos tp : Pos} {es : List Expr} {kk : Nat} (m1 m2 : Bool) (hg : Gl X "zip") (hm : X.mg "zip" = none) (ha : PA X [a, b] ta) (hs : autoParam (starEach [a, b] X.env = [(false, eval a X.env), (false, eval b X.env)]) L2.aRfl._auto_1) (hs2 : autoParam (starEach [b] X.env = [(false, eval b X.env)]) L2.aRfl._auto_1) :
  PI X (.Tuple es kk tp) (.Call (.Name "zip" p) [a, b] [] pos) (iZip X.K m1 m2 ta) := by
 intro pins s σ H R I h
 refine Call_ (Wv I hg hm (u := .type "zip") (by rfl) (PyProof.Rows.callWith_type1 (thn (ha pos pins s σ H _ I h) fun us s1 hqP => ?_) (by rw [hs, hs2]) (by rw [hs2]; rfl)))
 obtain ⟨vs, H1, I1, r1, q1⟩ := hqP
 obtain ⟨l1, l2, e, ⟨xs, q1⟩, ⟨ys, q2⟩, q⟩ := q1
 subst e
 obtain ⟨u1, u2, rfl, e1, e2⟩ := r1.two
 cases e1
 cases e2
 obtain ⟨is1, r1, p1, z1⟩ := I1.sq q1
 obtain ⟨is2, r2, p2, z2⟩ := I1.sq q2
 refine Qib p1 p2 fun h' a1 a2 a3 a4 a5 a6 => ?_
 have I2 : Inv X pins σ H1 { s1 with heap := h' } := I1.kept (t' := s1.toks) a6
 refine wpAny_pyIter_zip (s := { s1 with heap := h' }) a1 ⟨_, [s1.heap.objs.size + 4, s1.heap.objs.size + 2, s1.heap.objs.size + 3, s1.heap.objs.size, s1.heap.objs.size + 1], _, _, H1, rfl, I2, Qlk (Qic (Qar p1) (Qar p2)), ⟨a1, a2, ⟨_, _, a3⟩, a4, a5⟩, fun c hc => ?_, q⟩
 have hle : s1.heap.objs.size ≤ c := by
  simp only [jZ, xV, or_false] at hc
  rcases hc with rfl | rfl | rfl | rfl | rfl
  ·exact kQa _ _
  ·exact kQa _ _
  ·exact kQa _ _
  ·exact kK _
  ·exact kQa _ _
 exact I1.fpOk hle (I1.hok.fresh hle)
end
section
variable {X : Cx}
def CDivB (i j : Int) : Prop := 0 < j ∧ j.natAbs.log2 < 9000
theorem Qen : OpR X (binaryOp .FloorDiv) (rI CDivB fun i j => .int (i / j)) := opI fun i j _ _ _ _ _ hc q => by
 refine floordiv_int (Int.ne_of_gt hc.1) ?_ (.inl (PyProof.noPylong_of_log2 hc.2))
 rw [Int.fdiv_eq_ediv_of_nonneg _ (Int.le_of_lt hc.1)]
 exact q
theorem Qoj {bs : List Bool} {its : List Value} (r : Vals (bs.map V.bl) its) {i : Nat} {v : Value} (h : its[i]? = some v) : ∃ b, bs[i]? = some b ∧ v = .bool b := by
 have hl := r.length
 obtain ⟨hi, _⟩ := kY.mp h
 rw [jW] at hl
 have hb : bs[i]? = some bs[i] := gE (by omega)
 obtain ⟨u, h1, h2⟩ := r.get (i := i) (x := .bl bs[i]) (by rw [zK, hb]; rfl)
 rw [h] at h1; cases h1
 exact ⟨_, hb, h2⟩
theorem Qll (bs : List Bool) : ((List.range bs.length).all fun i => (bs[i]?).getD true) = bs.all id := by
 rw [jXd]
 simp only [xK, kQf, id]
 constructor
 ·intro h b hb
  obtain ⟨i, hi, e⟩ := List.getElem_of_mem hb
  have := h i hi
  rw [gE hi] at this
  simpa [e] using this
 ·intro h i hi
  rw [gE hi]
  exact h _ (jQa hi)
theorem Qok {h h' : Heap} {o : Obj} (hk : ∀ b x, b ∉ [h.objs.size] → (h.push o).get? b = some x → h'.get? b = some x) : ∀ b x, h.get? b = some x → h'.get? b = some x := fun b x e =>
 hk b x (fun hm => by rw [jQ.mp hm] at e; exact jQf _ (kJ e)) (jK _ e)
theorem Jz (hc : X.calm = true) : CallR X (.builtin "all") (fun xs H Q => ∃ (a : Addr) (bs : List Bool), xs = [.ref a] ∧ SqL X.K H a (bs.map V.bl) ∧ Q (.bl (bs.all id)) H) := by
 intro pins s σ H xs us Q I rv h
 obtain ⟨a, bs, rfl, hq, q⟩ := h
 obtain ⟨u, rfl, ru⟩ := rv.one
 cases ru
 obtain ⟨its, r, p, hz⟩ := I.list hq
 have hlt : a < s.heap.objs.size := by obtain ⟨_, e, _⟩ := p.isList; exact kJ e
 have hl := r.length
 rw [jW] at hl
 refine call_all_walk (wpAny_pyIter_list p.isList ?_)
 refine ⟨s.heap.objs.size, [s.heap.objs.size, a], [s.heap.objs.size], its.toArray.size, _, _, fun i => (bs[i]?).getD true, rfl, Walks.list (A := X.A.in1) (I.ok.hd hc) _ a (zQ hlt) its.toArray, ⟨⟨_, yV _ rfl, rfl, rfl⟩, p.isList.push _⟩, fun i v s' Q' E' hP hQ => ?_, fun h' tk hk => ?_⟩
 ·obtain ⟨b, e, rfl⟩ := Qoj r (by simpa using hP)
  simp only [e, Option.getD_some] at hQ
  exact wpAny_truthy_bool hQ
 ·rw [jJ, ← hl, Qll]
  exact ⟨.bl (bs.all id), H, I.kept (Qok hk), rfl, q⟩
end
section
variable {X : Cx} {pins : List (Addr × Obj)} {σ : St} {H : Hp} {s : Shared}
theorem Qid {α : Type} {xs ys : List α} (hl : xs.length = ys.length) (h : ∀ (i : Nat) x y, xs[i]? = some x → ys[i]? = some y → x = y) : xs = ys := by
 refine List.ext_getElem? fun i => ?_
 by_cases hi : i < xs.length
 ·rw [gE hi, gE (by omega : i < ys.length)]
  exact congrArg some (h i _ _ (gE hi) (gE (by omega)))
 ·rw [jKd (by omega), jKd (by omega)]
theorem Ka {n : Nat} {e : Nat → Bool} : (List.range n).all e = true ↔ ∀ i, i < n → e i = true := by simp [xK]
open PySem.SeqAt Classical in
end
def Fn (K : Fg) (mg : Str → Option Value) (x : Str) (st : Stmt) : Prop := ∃ f fd, Fun K x x st f fd ∧ mg x = some (.ref f)
theorem Yq {K : Fg} {h : Heap} {mg : Str → Option Value} {x : Str} {st : Stmt} {f : Addr} {oc : Value} {od an : Option Addr} {osl : Array (Option Value)} {kV doc pm cdv ct : Value} (X : K.In h) (G : h.Ns mainGlobals mg)
  (a : PySem.W.nsIn K mainGlobals x = some (some (.ref f))) (l : K.lookup f = some ⟨oc, od, .func (PySem.W.fnOf x x (Xc st) (Qx st) (Qh st) .none kV doc pm an cdv ct), osl⟩) (c : PySem.W.codeIn K cdv x = true) (k : PySem.W.keepIn K (.ref f) = true) : Fn K mg x st :=
 ⟨f, _, Qng l c k, PySem.W.mg_of X G a⟩
structure Cal (P : Program) (w : World) (K : Fg) (mg : Str → Option Value) (base : Heap) (k : Nat) (x : Str) (ps : List Str) (sp : Sp) : Prop where
 ex : ∃ f fd, FnOk P w K mg base CX0 k f fd ps sp ∧ mg x = some (.ref f) ∧ PySem.W.keepIn K (.ref f) = true ∧ Binds K fd ps []
theorem Xr {P : Program} {w : World} {K : Fg} {mg : Str → Option Value} {base : Heap} {k : Nat} {x : Str} {st : Stmt} {N ps : List Str} {sp : Sp} (F : Fn K mg x st) (S : FnScope N ps (Qh st))
  (hb : ∀ (kV doc pm : Value) (an : Option Addr) (cdv ct : Value) (us : List Value), us.length = ps.length → bindArgs (PySem.W.fnOf x x (Xc st) (Qx st) (Qh st) .none kV doc pm an cdv ct) ⟨us, []⟩ = pure (ps.zip us)) (len : ∀ vs H Q E, sp vs H Q E → vs.length = ps.length)
  (hbody : ∀ (f : Addr) (cdv : Value) (A : Around) (outer : List Env) (s : Shared) (H : Hp) (vs : List V) (Q : VK) (E : XK), Room k (A.deeper (envOfC x (Qh st) s.heap.objs.size f cdv)) → sp vs H Q E →
   ∃ t, PSs (cxOf CX0 P w K mg base N x (Qh st) f cdv A outer s H E).nox (Qx st) t ∧ t { nx := fun _ H' => Q .non H', rt := Q } (start N vs) H) : Cal P w K mg base (k + 1) x ps sp := by
 obtain ⟨f, fd, F, m⟩ := F
 exact ⟨f, fd, F.ok S len (hbody f), m, F.kp, F.binds hb⟩
section
variable {X : Cx}
theorem Xd {k : Nat} {x : Str} {ps : List Str} {sp : Sp} {e : Expr} {es : List Expr} {t : TA} {p pos : Pos} (C : Cal X.prog X.w X.K X.mg X.base k x ps sp) (hr : Room k X.A) (ha : PA X (e :: es) t) (hg : autoParam (Gl X x) L2.aRfl._auto_1)
  (hdb : autoParam ((x == ("__debug__" : Str)) = false) L2.aDec._auto_1) (he : autoParam (starEach (e :: es) X.env = (false, eval e X.env) :: starEach es X.env) L2.aRfl._auto_1) (hpl : autoParam ((backTo pos (starEach es X.env)).any (·.1) = false) L2.aRfl._auto_1) :
  PE X (.Call (.Name x p) (e :: es) [] pos) (tCall sp [] E0 t) := by
 obtain ⟨f, fd, F, m, kp, b⟩ := C.ex
 exact Qoc F hr hg m kp b .nil pass0 ha hdb he hpl
theorem Kp {x : Str} {T : String} {pos : Pos} (hm : X.mg x = none) (hv : bootBuiltins x = some (.type T)) (hg : autoParam (Gl X x) L2.aRfl._auto_1) (hn : autoParam (x ≠ "__name__") L2.aDec._auto_1) (hd : autoParam ((x == ("__debug__" : Str)) = false) L2.aDec._auto_1) : PE X (.Name x pos) (tC (.ty T)) :=
 Qnz hg hm hv (v := .ty T) rfl hn hd
end
def gPair (K : Fg) (i j : Nat) : TG := gTup K 2 (Qoa (Wr i) (Qoa (Wr j) gNil))
theorem Qdj {X : Cx} {K : Fg} {i j : Nat} {x y : Str} {px py pos : Pos} {k : Nat} (hK : X.K = K) (hc : X.calm = true) (hN : X.N.Nodup) (hi : X.N[i]? = some x) (hj : X.N[j]? = some y) (hx : X.env.scope.names.lookup x = some .local) (hy : X.env.scope.names.lookup y = some .local) :
  PG X (.Tuple [.Name x px, .Name y py] k pos) (gPair K i j) := by
 subst hK
 exact pg_tup hc (Qeg (Xf hN hi (.inl hx) (.inr hx)) (Qeg (Xf hN hj (.inl hy) (.inr hy)) Qob))
theorem Xt : bootBuiltins "len" = some (.builtin "len") := by decide +kernel
theorem Qeo : bootBuiltins "all" = some (.builtin "all") := by decide +kernel
theorem Qz : bootBuiltins "isinstance" = some (.builtin "isinstance") := by decide +kernel
theorem Qie : bootBuiltins "min" = some (.builtin "min") := by decide +kernel
theorem Qep : bootBuiltins "int" = some (.type "int") := by decide +kernel
theorem Qif : bootBuiltins "bool" = some (.type "bool") := by decide +kernel
theorem Qeq : bootBuiltins "tuple" = some (.type "tuple") := by decide +kernel
theorem Jr : bootBuiltins "list" = some (.type "list") := by decide +kernel
theorem Qcg : bootBuiltins "enumerate" = some (.type "enumerate") := by decide +kernel
theorem Qd {H : Hp} {p : Addr} (h : H p = none) (o : HO) : Same H (upd H p o) := fun b u q => by rw [Qq (Qr q h)]; exact q
theorem Same.tup {K : Fg} {H H' : Hp} {a : Addr} {xs : List V} (e : Same H H') (h : SqT K H a xs) : SqT K H' a xs := by
 rcases h with (h | ⟨o, h⟩) | h
 ·exact .inl (.inl (e _ _ h))
 ·exact .inl (.inr ⟨o, e _ _ h⟩)
 ·exact .inr h
theorem Zc {K : Fg} {H : Hp} {a : Addr} {xs : List V} (h : H a = some (.tup xs)) : SqT K H a xs := .inl (.inl h)
theorem Qb {K : Fg} {H : Hp} {a : Addr} {xs : List V} (h : H a = some (.lst xs)) : SqL K H a xs := .inl (.inl h)
theorem Qol {K : Fg} {m1 m2 : Bool} {a b : Addr} {xs ys : List V} {g : TG} {tb : TS} {D : Ends} {σ : St} {H : Hp} (Pv : Nat → St → Hp → Prop) (h0 : Pv 0 σ H) (hl : ∀ i σ H, i ≤ min xs.length ys.length → Pv i σ H → Sq K m1 H a xs ∧ Sq K m2 H b ys)
  (hs : ∀ i x y σ H T, xs[i]? = some x → ys[i]? = some y → Pv i σ H → H T = none → g (.ref T) σ (upd H T (.tup [x, y])) fun σ2 H2 => tb { D with nx := Pv (i + 1), ct := Pv (i + 1), bk := D.nx } σ2 H2) (hd : ∀ σ H, Pv (min xs.length ys.length) σ H → D.nx σ H) :
  ∃ W : Nat → Nat → St → Hp → Prop, (∃ m, W 0 m σ H) ∧ ∀ i m σ H, W i m σ H →
   ((Itz K m1 m2 a b).stop i H ∧ D.nx σ H) ∨ ((Itz K m1 m2 a b).go i H ∧ ∃ N : St → Hp → Prop, (∀ σ' H', N σ' H' → ∃ m', m' < m ∧ W (i + 1) m' σ' H') ∧ ∀ x H', (Itz K m1 m2 a b).yld i H x H' → g x σ H' fun σ2 H2 => tb { D with nx := N, ct := N, bk := D.nx } σ2 H2) := by
 refine ⟨fun i m σ H => m = min xs.length ys.length - i ∧ i ≤ min xs.length ys.length ∧ Pv i σ H, ⟨_, rfl, wQ _, h0⟩, ?_⟩
 rintro i m σ H ⟨rfl, hi, p⟩
 obtain ⟨q1, q2⟩ := hl i σ H hi p
 by_cases hlt : i < min xs.length ys.length
 ·have i1 : i < xs.length := by omega
  have i2 : i < ys.length := by omega
  refine .inr ⟨⟨xs, ys, xs[i], ys[i], q1, q2, by simp [i1], by simp [i2]⟩, Pv (i + 1), fun σ' H' p' => ⟨min xs.length ys.length - (i + 1), by omega, rfl, hlt, p'⟩, fun x H' y => ?_⟩
  obtain ⟨T, u, v, rfl, hT, rfl, y1, y2⟩ := y
  exact hs i u v σ H T (y1 xs q1) (y2 ys q2) p hT
 ·have e : i = min xs.length ys.length := by omega
  subst e
  exact .inl ⟨⟨xs, ys, q1, q2, by omega⟩, hd σ H p⟩
theorem Qig {J : It} {n : Nat} {τ0 : St} {g : TG} {tt : TT} {te : TE} {H : Hp} {Q : Addr → Hp → Prop} {D : Addr} (Pv : Nat → St → List V → Hp → Prop)
  (h0 : Pv 0 τ0 [] (upd H D (.lst []))) (hD : ∀ i τ ys H, i ≤ n → Pv i τ ys H → H D = some (.lst ys) ∧ ys.length < sizeLine) (go : ∀ i τ ys H, i < n → Pv i τ ys H → J.go i H) (stop : ∀ τ ys H, Pv n τ ys H → J.stop n H)
  (hs : ∀ i τ ys H x H', i < n → Pv i τ ys H → J.yld i H x H' → g x τ H' fun σ2 H2 => tt σ2 H2 fun ok H3 => if ok = true then te σ2 H3 fun v H4 => H4 D = some (.lst ys) ∧ Pv (i + 1) σ2 (ys ++ [v]) (upd H4 D (.lst (ys ++ [v]))) else Pv (i + 1) σ2 ys H3)
  (hd : ∀ τ ys H, Pv n τ ys H → Q D H) :
  LcW J D τ0 H g tt te Q := by
 refine ⟨fun i m τ ys H => m = n - i ∧ i ≤ n ∧ Pv i τ ys H, ⟨n, by simp, wQ _, h0⟩, ?_⟩
 rintro i m τ ys H ⟨rfl, hi, p⟩
 obtain ⟨z1, z2⟩ := hD i τ ys H hi p
 refine ⟨z1, ?_⟩
 by_cases hlt : i < n
 ·refine .inr ⟨go i τ ys H hlt p, z2, fun τ v H => Pv (i + 1) τ (ys ++ [v]) (upd H D (.lst (ys ++ [v]))), fun τ H => Pv (i + 1) τ ys H, fun τ v H q => ⟨n - (i + 1), by omega, rfl, hlt, q⟩, fun τ H q => ⟨n - (i + 1), by omega, rfl, hlt, q⟩, fun x H' y => hs i τ ys H x H' hlt p y⟩
 ·have e : i = n := by omega
  subst e
  exact .inl ⟨stop τ ys H p, hd τ ys H p⟩
section
variable {X : Cx}
theorem Xv {K : Fg} (hK : X.K = K) : IxR X (rIxL K) := by subst hK; exact Qj
theorem Qom {K : Fg} (hK : X.K = K) : IxR X (rIxT K) := by subst hK; exact Qel
theorem Wt {K : Fg} (hK : X.K = K) : CallR X (.type "tuple") (fun xs H Q => ∃ p ys, xs = [.ref p] ∧ ((SqL K H p ys ∧ ∀ l, H l = none → Q (.ref l) (upd H l (.tup ys))) ∨ (SqT K H p ys ∧ Q (.ref p) H))) := by subst hK; exact Jx
theorem pe_bmK {K : Fg} {o e : Expr} {es : List Expr} {to : TE} {t : TA} {name : Str} {apos cpos : Pos} {T id : String} {r : V → List V → Hp → VK → Prop} (hK : X.K = K) (pa : PlainAttrs T) (slot : Slot T name id) (hty : typeOf (.builtin id) = pure (.type "method_descriptor")) (hm : MtR X id r) (ho : PE X o to) (ha : PA X (e :: es) t)
  (hbase : autoParam (attributeBase o name X.env (eval o X.env) = eval o X.env) L2.aRfl._auto_1)
  (hfew : autoParam (((backTo cpos (starEach (e :: es) X.env)).all (fun x => !x.1) && (backToKw cpos (keywordEach [] X.env)).all (fun x => x.1.isSome) && decide ((e :: es).length + ([] : List Keyword).length + (if ([] : List Keyword).isEmpty then 0 else 1) < 30)) = true) L2.aRfl._auto_1)
  (hline : autoParam ((apos.endLine == cpos.line) = true) L2.aRfl._auto_1) (hs : autoParam (starEach (e :: es) X.env = (false, eval e X.env) :: starEach es X.env) L2.aRfl._auto_1) (hplain : autoParam ((backTo cpos (starEach es X.env)).any (·.1) = false) L2.aRfl._auto_1) :
  PE X (.Call (.Attribute o name apos) (e :: es) [] cpos) (tBM K T r to t) := by subst hK; exact Zz pa slot hty hm ho ha hbase hfew hline hs hplain
end
end L2
namespace Nb
open PySem L2
structure Mg (mg : Str → Option Value) : Prop where
 len : mg "len" = none
 min : mg "min" = none
 max : mg "max" = none
 sum : mg "sum" = none
 all : mg "all" = none
 any : mg "any" = none
 abs : mg "abs" = none
 isinstance : mg "isinstance" = none
 sorted : mg "sorted" = none
 range_ : mg "range" = none
 zip_ : mg "zip" = none
 tuple_ : mg "tuple" = none
 list_ : mg "list" = none
 int_ : mg "int" = none
 bool_ : mg "bool" = none
 dict_ : mg "dict" = none
 enumerate_ : mg "enumerate" = none
 reversed_ : mg "reversed" = none
 ValueError_ : mg "ValueError" = none
 set_ : mg "set" = none
 str_ : mg "str" = none
theorem atNs {ns : List Int} {k : Int} (h0 : 0 ≤ k) (h : k < (((ns.map V.int).length : Nat) : Int)) : ∃ v : Int, atI (ns.map V.int) k = some (.int v) := by
 have hk : k.toNat < ns.length := by rw [jW] at h; omega
 have ek : k = ((k.toNat : Nat) : Int) := by omega
 have q : atI (ns.map V.int) ((k.toNat : Nat) : Int) = some (.int ns[k.toNat]) := Qdf (by rw [zK, gE hk] <;> rfl)
 rw [← ek] at q
 exact ⟨_, q⟩
def Qih (K : Fg) : Sp := fun vs H Q _ => ∃ (a : Addr) (ns : List Int) (k : Int), vs = [.ref a, .int k] ∧ SqL K H a (ns.map V.int) ∧ 0 ≤ k ∧ ∀ z : Int, Q (.int z) H
def Js (K : Fg) : Sp := fun vs H Q _ => ∃ (a : Addr) (ns : List Int) (k : Int), vs = [.ref a, .int k] ∧ SqL K H a (ns.map V.int) ∧ 0 ≤ k ∧ k ≤ 1000000 ∧ ∀ z : Int, 0 ≤ z → z < 2147483629 → Q (.int z) H
theorem mulA (c k : Int) (h0 : 0 ≤ k) (h1 : k ≤ 1000000) (y : Int) : CMul (c % (10 : Int) ^ (18 : Int).toNat + 48271 * (k + 1)) y := by
 have e : (10 : Int) ^ (18 : Int).toNat = 1000000000000000000 := by decide +kernel
 rw [e]
 have a1 := xY c (show (1000000000000000000 : Int) ≠ 0 by decide)
 have a2 := zJ c (show (0 : Int) < 1000000000000000000 by decide)
 exact .inl ⟨by omega, by omega⟩
theorem mulB (x k : Int) (h0 : 0 ≤ k) (h1 : k ≤ 1000000) (y : Int) : CMul (x % 2147483629 + 69621 * k) y := .inl ⟨by omega, by omega⟩
theorem mulC (c y : Int) (h1 : -(2 ^ 64) < c) (h2 : c < 2 ^ 64) : CMul c y := .inl ⟨h1, h2⟩
theorem at0 {x y : V} : atI [x, y] 0 = some x := by rfl
theorem at1 {x y : V} : atI [x, y] 1 = some y := by rfl
theorem takeS {α : Type} {l : List α} {i : Nat} {x : α} (h : l[i]? = some x) : l.take (i + 1) = l.take i ++ [x] := by rw [List.take_succ, h]; rfl
theorem Zp {α : Type} {xs : List α} {k : Nat} {x : α} (h : xs[k]? = some x) : atI xs (k : Int) = some x := Qdf h
def Qlm (K : Fg) : Sp := fun vs H Q _ => ∃ (a : Addr) (ns : List Int), vs = [.ref a] ∧ SqL K H a (ns.map V.int) ∧ ns.length ≤ 63 ∧ ∀ H', Q (.bl true) H'
end Nb
namespace L2
open PySem PySem.Spec PyProof.Rows
section
variable (P : Program) (w : World)
end
section
variable {P : Program} {w : World} {H H' : Hp} {h h' : Heap} {a : Addr} {o : HO}
end
section
variable {P : Program} {w : World} {H : Hp} {h h' : Heap} {x e : Addr} {o' : HO}
end
section
variable {fs fs' ex ex' : List Addr} {H H1 H2 : Hp} {h h1 h2 h' : Heap} {a x e : Addr} {o : HO}
end
section
variable {X : Cx} {pins : List (Addr × Obj)} {σ : List (Option V)} {H H' : Hp} {s : Shared} {h' : Heap}
end
section
variable {X : Cx}
variable {a b : Expr} {ta tb : TE} {pos : Pos}
variable {tA tB' : TT} {rest : List Expr}
end
section
variable {X : Cx} {pins : List (Addr × Obj)} {σ : St} {H : Hp} {s : Shared} {a : Addr} {xs ys : List V}
end
section
variable {X : Cx} {pins : List (Addr × Obj)} {σ : St} {H : Hp} {s : Shared} {E : Value → Shared → Prop}
end
section
variable {X : Cx} {st : Stmt} {rest : List Stmt} {t u : TS} {e : Expr} {te : TE} {pos : Pos}
end
section
variable {X : Cx} {pos : Pos}
end
section
variable {X : Cx} {pos : Pos}
end
section
variable {X : Cx} {tg : Expr}
end
section
variable {X : Cx} {a b c : Expr} {ta tb tc : TE} {pos : Pos}
end
section
variable {X : Cx} {a b c : Expr} {ta tb tc : TE} {pos : Pos}
end
section
variable {prog : Program} {w : World} {A : Around} {E : Value → Shared → Prop} {s : Shared} {K : Fg} {x dx C f : Addr} {mA : Str → Option Value} {name : Str} {v : Value}
end
section
variable {P : Program} {w : World} {H H' : Hp} {h h' : Heap} {a C dx : Addr} {fs fs' : List (Str × V)}
end
section
variable {X : Cx} {pins : List (Addr × Obj)} {σ : St} {H : Hp} {s : Shared} {a C dx : Addr} {fs : List (Str × V)} {f : Str} {v : V} {A : Around} {E : Value → Shared → Prop}
end
section
variable {X : Cx} {o e value : Expr} {f : Str} {pos pos' tpos : Pos} {ta tv : TE}
end
section
variable {X : Cx} {pins : List (Addr × Obj)} {σ : St} {H : Hp} {s : Shared} {A : Around} {E : Value → Shared → Prop} {Q : Value → Shared → Prop} {c : Value} {b : Bool}
end
section
variable {X : Cx} {e : Expr} {es : List Expr} {te : TE} {t : TA} {pos : Pos}
end
section
variable {X : Cx} {pins : List (Addr × Obj)} {σ : St} {H : Hp} {s s' : Shared}
end
section
variable {X : Cx} {CX : CXT} {k : Nat} {f C : Addr} {fd : FuncData} {ps : List Str} {sp : Sp} {dvs : List V} {ds : List Value} {E : XK} {x m : Str} {p pos apos : Pos} {e o : Expr} {es : List Expr} {ta : TE} {t : TA}
end
section
variable {X : Cx} {CX : CXT} {k : Nat} {f C : Addr} {fd : FuncData} {ps ks : List Str} {sp : Sp} {E : XK} {x m : Str} {p pos apos kpos : Pos} {e o : Expr} {es : List Expr} {kws : List Keyword} {te ta : TE} {t tk : TA} {nm : Option Str}
variable {g : List Value → List Value → List Value} {gV : List V → List V → List V}
end
section
variable {X : Cx} {x : Str} {p pos : Pos} {e : Expr} {es : List Expr} {t : TA} {id T : String} {r : List V → Hp → VK → Prop}
end
section
variable {κ : Type} [DecidableEq κ]
def valV (kvs : List (κ × V)) (k : κ) : Option V := (kvs.find? fun kv => decide (kv.1 = k)).map (·.2)
def putK (kvs : List (κ × V)) (k : κ) (v : V) : List (κ × V) :=
 if (kvs.any fun kv => decide (kv.1 = k)) = true then kvs.map (fun kv => if kv.1 = k then (kv.1, v) else kv) else kvs ++ [(k, v)]
theorem Yr {p : κ × V} {r : List (κ × V)} {k : κ} (e : p.1 = k) : valV (p :: r) k = some p.2 := by simp [valV, jZd, e]
theorem Ys {p : κ × V} {r : List (κ × V)} {k : κ} (e : ¬ p.1 = k) : valV (p :: r) k = valV r k := by simp [valV, jZd, e]
theorem Vd (k : κ) : ∀ kvs : List (κ × V), (kvs.any fun kv => decide (kv.1 = k)) = (valV kvs k).isSome
 | [] => rfl
 | p :: r => by
  rw [kXe]
  by_cases e : p.1 = k
  ·simp only [Yr e, yK e, Bool.true_or, Option.isSome_some]
  ·rw [Ys e, zW e, Bool.false_or]; exact Vd k r
theorem Qer (k j : κ) (y : V) : ∀ kvs : List (κ × V), valV (kvs.map fun kv => if kv.1 = k then (kv.1, y) else kv) j = (valV kvs j).map fun x => if j = k then y else x
 | [] => rfl
 | p :: r => by
  have ih := Qer k j y r
  rw [xQ]
  by_cases h : p.1 = k
  ·rw [if_pos h]
   by_cases e : p.1 = j
   ·rw [Yr (p := (p.1, y)) e, Yr e, kYd, if_pos (e.symm.trans h)]
   ·rw [Ys (p := (p.1, y)) e, Ys e, ih]
  ·rw [if_neg h]
   by_cases e : p.1 = j
   ·rw [Yr (p := p) e, Yr e, kYd, if_neg (fun z => h (e.trans z))]
   ·rw [Ys (p := p) e, Ys e, ih]
theorem Qch (k j : κ) (y : V) : ∀ kvs : List (κ × V), valV kvs k = none → valV (kvs ++ [(k, y)]) j = if j = k then some y else valV kvs j
 | [], _ => by
  by_cases e : k = j
  ·rw [if_pos e.symm]; exact Yr (p := (k, y)) e
  ·rw [if_neg (fun z => e z.symm)]; exact Ys (p := (k, y)) e
 | p :: r, hn => by
  rw [List.cons_append]
  have hk : ¬ p.1 = k := fun z => by rw [Yr z] at hn; cases hn
  rw [Ys hk] at hn
  have ih := Qch k j y r hn
  by_cases e : p.1 = j
  ·rw [Yr e, Yr e, if_neg (fun z => hk (e.trans z))]
  ·rw [Ys e, Ys e, ih]
theorem Qln (kvs : List (κ × V)) (k j : κ) (y : V) : valV (putK kvs k y) j = if j = k then some y else valV kvs j := by
 unfold putK
 by_cases a : (kvs.any fun kv => decide (kv.1 = k)) = true
 ·rw [if_pos a, Qer]
  rw [Vd] at a
  by_cases e : j = k
  ·obtain ⟨x, hx⟩ := jJd.mp a
   rw [if_pos e, e, hx, kYd, if_pos rfl]
  ·rw [if_neg e]
   cases valV kvs j with
   | none => rfl
   | some x => rw [kYd, if_neg e]
 ·rw [if_neg a]
  refine Qch k j y kvs ?_
  rw [Vd] at a
  cases q : valV kvs k with
  | none => rfl
  | some x => rw [q] at a; exact (a rfl).elim
theorem Zv (kvs : List (κ × V)) (k : κ) (v : V) : (putK kvs k v).length ≤ kvs.length + 1 := by
 unfold putK
 split
 ·rw [jW]; omega
 ·rw [jV, yZ, List.length_nil]; omega
theorem RelO.isSome_eq {o : Option V} {u : Option Value} (r : RelO o u) : o.isSome = u.isSome := by
 cases o with
 | none => cases u with
  | none => rfl
  | some _ => exact (show False from r).elim
 | some _ => cases u with
  | none => exact (show False from r).elim
  | some _ => rfl
theorem KV.val {kvs : List (κ × V)} {vs : List (κ × Value)} (r : KV kvs vs) (k : κ) : RelO (valV kvs k) (valueAt vs k) := by
 unfold KV at r
 induction r with
 | nil => exact True.intro
 | @cons p q ps qs h t ih =>
  obtain ⟨h1, h2⟩ := h
  by_cases e : p.1 = k
  ·have e' : q.1 = k := h1.symm.trans e
   have b : valueAt (q :: qs) k = some q.2 := by simp [valueAt, jZd, e']
   rw [Yr e, b]; exact h2
  ·have e' : ¬ q.1 = k := fun z => e (h1.trans z)
   have b : valueAt (q :: qs) k = valueAt qs k := by simp [valueAt, jZd, e']
   rw [Ys e, b]; exact ih
theorem KV.any {kvs : List (κ × V)} {vs : List (κ × Value)} (r : KV kvs vs) (k : κ) : (kvs.any fun kv => decide (kv.1 = k)) = vs.any fun kv => decide (kv.1 = k) := by
 unfold KV at r
 induction r with
 | nil => rfl
 | cons h t ih => rw [kXe, kXe, ih, h.1]
theorem KV.repl {kvs : List (κ × V)} {vs : List (κ × Value)} (r : KV kvs vs) (k : κ) {y : V} {u : Value} (ry : RelV y u) :
  KV (kvs.map fun kv => if kv.1 = k then (kv.1, y) else kv) (vs.map fun kv => if kv.1 = k then (kv.1, u) else kv) := by
 unfold KV at r ⊢
 induction r with
 | nil => exact .nil
 | @cons p q ps qs h t ih =>
  rw [xQ, xQ]
  refine .cons ?_ ih
  obtain ⟨h1, h2⟩ := h
  by_cases e : p.1 = k
  ·rw [if_pos e, if_pos (h1.symm.trans e)]; exact ⟨h1, ry⟩
  ·rw [if_neg e, if_neg (fun z => e (h1.trans z))]; exact ⟨h1, h2⟩
theorem KV.put {kvs : List (κ × V)} {vs : List (κ × Value)} (r : KV kvs vs) (k : κ) {y : V} {u : Value} (ry : RelV y u) : KV (putK kvs k y) (stored vs k u) := by
 unfold putK stored
 rw [r.any k]
 by_cases e : (vs.any fun kv => decide (kv.1 = k)) = true
 ·rw [if_pos e, if_pos e]; exact r.repl k ry
 ·rw [if_neg e, if_neg e]; exact Paired.snoc r ⟨rfl, ry⟩
theorem KV.length {kvs : List (κ × V)} {vs : List (κ × Value)} (r : KV kvs vs) : kvs.length = vs.length := Paired.length r
end
theorem Qii {P : Program} {w : World} {k : Key} {u : Value} (r : RelV (kV k) u) : (Yk P w).is k u = true := by
 cases k with
 | inl i => obtain ⟨t, e⟩ := (show ∃ t, u = Value.int i t from r); subst e; exact Qdd P w i t
 | inr x => obtain ⟨t, e⟩ := (show ∃ t, u = Value.str x t from r); subst e; exact Qde P w x t
theorem Qci {P : Program} {w : World} : ∀ {ks : List Key} {us : List Value}, Vals (ks.map kV) us → ItemsAre (Yk P w) ks us
 | [], _, r => by rw [List.map_nil] at r; cases r; exact .nil
 | k :: ks, _, r => by
  rw [xQ] at r
  cases r with
  | cons h t => exact .cons (Qii h) (Qci t)
abbrev KT (H : Hp) : List (List Key × V) → List (List Key × Addr × Value) → Prop := Paired fun p q => p.1 = q.1 ∧ H q.2.1 = some (.tup (p.1.map kV)) ∧ RelV p.2 q.2.2
theorem KT.val {H : Hp} {kvs : List (List Key × V)} {xs : List (List Key × Addr × Value)} (r : KT H kvs xs) (k : List Key) : RelO (valV kvs k) ((atKey xs k).map (·.2)) := by
 induction r with
 | nil => exact True.intro
 | @cons p q ps qs h t ih =>
  obtain ⟨h1, _, h2⟩ := h
  by_cases e : p.1 = k
  ·have e' : q.1 = k := h1.symm.trans e
   have b : atKey (q :: qs) k = some q.2 := by simp [atKey, jZd, e']
   rw [Yr e, b]; exact h2
  ·have e' : ¬ q.1 = k := fun z => e (h1.trans z)
   have b : atKey (q :: qs) k = atKey qs k := by simp [atKey, jZd, e']
   rw [Ys e, b]; exact ih
theorem KT.repl {H : Hp} {kvs : List (List Key × V)} {xs : List (List Key × Addr × Value)} (r : KT H kvs xs) (k : List Key) {y : V} {u : Value} (ry : RelV y u) :
  KT H (kvs.map fun kv => if kv.1 = k then (kv.1, y) else kv) (xs.map (putAt k u)) := by
 induction r with
 | nil => exact .nil
 | @cons p q ps qs h t ih =>
  rw [xQ, xQ]
  refine .cons ?_ ih
  obtain ⟨h1, h2, h3⟩ := h
  unfold putAt
  by_cases e : p.1 = k
  ·rw [if_pos e, if_pos (h1.symm.trans e)]; exact ⟨h1, h2, ry⟩
  ·rw [if_neg e, if_neg (fun z => e (h1.trans z))]; exact ⟨h1, h2, h3⟩
theorem KT.put {H : Hp} {kvs : List (List Key × V)} {xs : List (List Key × Addr × Value)} (r : KT H kvs xs) (k : List Key) {b : Addr} {y : V} {u : Value} (hb : H b = some (.tup (k.map kV))) (ry : RelV y u) :
  KT H (putK kvs k y) (storedH xs k b u) := by
 have e : (kvs.any fun kv => decide (kv.1 = k)) = (atKey xs k).isSome := by
  rw [Vd, (r.val k).isSome_eq, Option.isSome_map]
 unfold putK storedH
 rw [e]
 by_cases q : (atKey xs k).isSome = true
 ·rw [if_pos q, if_pos q]; exact r.repl k ry
 ·rw [if_neg q, if_neg q]; exact Paired.snoc r ⟨rfl, hb, ry⟩
theorem KT.keeps {H H' : Hp} {kvs : List (List Key × V)} {xs : List (List Key × Addr × Value)} (r : KT H kvs xs) (ht : ∀ b ys, H b = some (.tup ys) → H' b = some (.tup ys)) : KT H' kvs xs :=
 Paired.mapP r fun _ _ z => ⟨z.1, ht _ _ z.2.1, z.2.2⟩
section
variable {P : Program} {w : World} {H : Hp} {h : Heap} {a : Addr}
theorem rd_of {u : HO} (ok : HOk P w H h) (e : Rd H a u) : ObjOk P w H h a u := e.ok ok
theorem Qlo {kvs : List (Key × V)} (ok : HOk P w H h) (e : Rd H a (.dK kvs)) : kvs.length ≤ sizeLine ∧ (a == sysModules) = false ∧ ∃ vs, KV kvs vs ∧ h.DictOf (Yk P w) a vs :=
 show ObjOk P w H h a (.dK kvs) from rd_of ok e
theorem dk_of {kvs : List (Key × V)} (ok : HOk P w H h) (e : H a = some (.dK kvs)) : kvs.length ≤ sizeLine ∧ (a == sysModules) = false ∧ ∃ vs, KV kvs vs ∧ h.DictOf (Yk P w) a vs := Qlo ok (.inl e)
theorem Qes {ks : List Key} (ok : HOk P w H h) (e : H a = some (.tup (ks.map kV))) : (tupleKind (Yk P w)).is h ks a := by
 obtain ⟨_, its, r, o, h1, h2, n, h3⟩ := (show ObjOk P w H h a (.tup (ks.map kV)) from ok a _ e)
 exact ⟨o, its.toArray, n, h1, h2, h3, by simpa using Qci r⟩
theorem Qlp {kvs : List (List Key × V)} (ok : HOk P w H h) (e : Rd H a (.dT kvs)) : kvs.length ≤ sizeLine ∧ (a == sysModules) = false ∧
  ∃ xs, KT H kvs xs ∧ h.DictOfH (tupleKind (Yk P w)) a xs := by
 obtain ⟨z, y, xs, r, o, es, ep, h1, h2, h3, h4, h5⟩ := (show ObjOk P w H h a (.dT kvs) from rd_of ok e)
 refine ⟨z, y, xs, r, o, es, ep, h1, h2, h3, h4, fun x hx => ?_, h5⟩
 have all : ∀ {l : List (List Key × V)} {m : List (List Key × Addr × Value)}, KT H l m → ∀ x ∈ m, (tupleKind (Yk P w)).is h x.1 x.2.1 := by
  intro l m q
  induction q with
  | nil => intro x hx; exact nomatch hx
  | @cons p q ps qs hq t ih =>
   intro x hx
   rcases jZ.mp hx with e | hx
   ·subst e
    exact Qes ok (by rw [← hq.1]; exact hq.2.1)
   ·exact ih x hx
 exact all r x hx
theorem dt_of {kvs : List (List Key × V)} (ok : HOk P w H h) (e : H a = some (.dT kvs)) : kvs.length ≤ sizeLine ∧ (a == sysModules) = false ∧
  ∃ xs, KT H kvs xs ∧ h.DictOfH (tupleKind (Yk P w)) a xs := Qlp ok (.inl e)
end
def DGet (H : Hp) (a : Addr) (y : V) (r : Option V) : Prop :=
 (∃ kvs k, Rd H a (.dK kvs) ∧ y = kV k ∧ r = valV kvs k) ∨ ∃ kvs k b, Rd H a (.dT kvs) ∧ y = .ref b ∧ H b = some (.tup (k.map kV)) ∧ r = valV kvs k
def DPut (H : Hp) (a : Addr) (y v : V) (H' : Hp) : Prop :=
 (∃ kvs k, H a = some (.dK kvs) ∧ y = kV k ∧ kvs.length < sizeLine ∧ H' = upd H a (.dK (putK kvs k v))) ∨
 ∃ kvs k b, H a = some (.dT kvs) ∧ y = .ref b ∧ H b = some (.tup (k.map kV)) ∧ kvs.length < sizeLine ∧ H' = upd H a (.dT (putK kvs k v))
theorem DGet.k {H : Hp} {a : Addr} {kvs : List (Key × V)} {k : Key} (e : H a = some (.dK kvs)) : DGet H a (kV k) (valV kvs k) := .inl ⟨kvs, k, .inl e, rfl, rfl⟩
theorem DGet.t {H : Hp} {a b : Addr} {kvs : List (List Key × V)} {k : List Key} (e : H a = some (.dT kvs)) (eb : H b = some (.tup (k.map kV))) : DGet H a (.ref b) (valV kvs k) := .inr ⟨kvs, k, b, .inl e, rfl, eb, rfl⟩
theorem DPut.t {H : Hp} {a b : Addr} {kvs : List (List Key × V)} {k : List Key} {v : V} (e : H a = some (.dT kvs)) (eb : H b = some (.tup (k.map kV))) (hl : kvs.length < sizeLine) :
  DPut H a (.ref b) v (upd H a (.dT (putK kvs k v))) := .inr ⟨kvs, k, b, e, rfl, eb, hl, rfl⟩
section
variable {X : Cx} {pins : List (Addr × Obj)} {σ : St} {H : Hp} {s : Shared} {a : Addr} {y v : V} {u r : Value} {o : Option V} {A : Around} {E : Value → Shared → Prop}
theorem Inv.big (I : Inv X pins σ H s) : sysModules < s.heap.objs.size := by
 have h : mainGlobals < s.heap.objs.size := (I.mod.glob.keeps I.bk).lt
 exact Nat.lt_trans (by decide) h
theorem Qij {Q : Value → Shared → Prop} (hu : A.units + 1 < cLine) (I : Inv X pins σ H s) (g : DGet H a y (some v)) (ry : RelV y u) (h : ∀ w' s', Inv X pins σ H s' → RelV v w' → Q w' s') :
  wpAny (model X.prog X.w) A (getItem (.ref a) u) Q E s := by
 rcases g with ⟨kvs, k, e, ey, l⟩ | ⟨kvs, k, b, e, ey, eb, l⟩
 ·subst ey
  obtain ⟨z, hd, vs, rel, dd⟩ := Qlo I.hok e
  obtain ⟨w', hw, rw'⟩ := RelO.some_of (v := v) (o := valueAt vs k) (by rw [l]; exact rel.val k)
  exact wpAny_getItem_of (Qii ry) dd.mapOf hw (h w' _ (I.tok _) rw')
 ·subst ey
  cases (show u = Value.ref b from ry)
  obtain ⟨z, hd, xs, rel, dd⟩ := Qlp I.hok e
  obtain ⟨w', hw, rw'⟩ := RelO.some_of (v := v) (o := (atKey xs k).map (·.2)) (by rw [l]; exact rel.val k)
  obtain ⟨p, hp, hp2⟩ := jQe.mp hw
  refine wpAny_getItem_heap (tupleKind_room_in1 hu) (Qes I.hok eb) dd hp ?_
  rw [hp2]
  exact h w' _ (I.tok _) rw'
theorem d_in {Q : Value → Shared → Prop} (hu : A.units + 1 < cLine) (I : Inv X pins σ H s) (g : DGet H a y o) (ry : RelV y u) (h : ∀ s', Inv X pins σ H s' → Q (.bool o.isSome) s') :
  wpAny (model X.prog X.w) A (compareOp .In u (.ref a)) Q E s := by
 rcases g with ⟨kvs, k, e, ey, l⟩ | ⟨kvs, k, b, e, ey, eb, l⟩
 ·subst ey
  obtain ⟨z, hd, vs, rel, dd⟩ := Qlo I.hok e
  refine wpAny_in_of (Qii ry) hd dd.mapOf ?_
  rw [← (rel.val k).isSome_eq, ← l]
  exact h _ (I.tok _)
 ·subst ey
  cases (show u = Value.ref b from ry)
  obtain ⟨z, hd, xs, rel, dd⟩ := Qlp I.hok e
  refine wpAny_in_heap (tupleKind_room_in1 hu) (Qes I.hok eb) hd dd ?_
  have q := (rel.val k).isSome_eq
  rw [Option.isSome_map] at q
  rw [← q, ← l]
  exact h _ (I.tok _)
theorem Qdk {h' : Heap} {t' : Nat} {ob : HO} (I : Inv X pins σ H s) (mu : Mut (H a)) (hs : Heap.SameBut a s.heap h') (he : ∃ q, h'.get? a = some q) (new : ObjOk X.prog X.w (upd H a ob) h' a ob) :
  Inv X pins σ (upd H a ob) { s with heap := h', toks := t' } :=
 I.write (x := a) (e := a) mu (.inl rfl) (fun b q hb z => (hs.2 b hb).trans z) he new
theorem Qnh {P : Program} {w : World} {H' : Hp} {h' : Heap} {kvs : List (Key × V)} {vs : List (Key × Value)} (z : kvs.length ≤ sizeLine) (hd : (a == sysModules) = false) (rel : KV kvs vs) (dd : h'.DictOf (Yk P w) a vs) :
  ObjOk P w H' h' a (.dK kvs) := ⟨z, hd, vs, rel, dd⟩
theorem Qik {H' : Hp} {Q : Unit → Shared → Prop} (hu : A.units + 1 < cLine) (I : Inv X pins σ H s) (g : DPut H a y v H') (ry : RelV y u) (rv : RelV v r) (h : ∀ s', Inv X pins σ H' s' → Q () s') :
  wpAny (model X.prog X.w) A (setItem (.ref a) u r) Q E s := by
 rcases g with ⟨kvs, k, e, ey, l, eH⟩ | ⟨kvs, k, b, e, ey, eb, l, eH⟩
 ·subst ey eH
  obtain ⟨z, hd, vs, rel, dd⟩ := dk_of I.hok e
  have hz : vs.length ≤ sizeLine := by rw [← rel.length]; exact z
  have hl : (putK kvs k v).length ≤ sizeLine := by have := Zv kvs k v; omega
  refine wpAny_setItem_pairs (hsz := hz) (Qii ry) dd fun h' dd' hs => h _ ?_
  have he : ∃ q, h'.get? a = some q := let ⟨q, _, _, hq, _⟩ := dd'; ⟨q, hq⟩
  exact Qdk I (by rw [e]; exact True.intro) hs he (Qnh hl hd (rel.put k rv) dd')
 ·subst ey eH
  cases (show u = Value.ref b from ry)
  obtain ⟨z, hd, xs, rel, dd⟩ := dt_of I.hok e
  have hz : xs.length ≤ sizeLine := by rw [← Paired.length rel]; exact z
  have hl : (putK kvs k v).length ≤ sizeLine := by have := Zv kvs k v; omega
  refine wpAny_setItem_heap (hsz := hz) (tupleKind_room_in1 hu) (Qes I.hok eb) dd fun h' dd' hs => h _ ?_
  obtain ⟨q, es, ep, hq, h2, h3, h4, _, h5⟩ := dd'
  refine Qdk I (by rw [e]; exact True.intro) hs ⟨q, hq⟩ ⟨hl, hd, _, (rel.put k eb rv).keeps fun c ys ec => ?_, q, es, ep, hq, h2, h3, h4, h5⟩
  rw [Qq (Qky ec e (fun z => nomatch z))]
  exact ec
end
section
variable {X : Cx} {pins : List (Addr × Obj)} {σ : St} {H : Hp} {s : Shared} {a : Addr} {kvs : List (Key × V)} {k : Key} {u : Value} {A : Around} {E : Value → Shared → Prop}
end
def NoSl (i : Expr) : Prop := ∀ ov iv, subscripted i false ov iv = operate [ov, iv] (getItem ov iv)
theorem Qon {prog : Program} {w : World} {A : Around} {E : Value → Shared → Prop} {s : Shared} {env : Env} {value slice : Expr} {pos : Pos} {T id : String} {Q : Value → Shared → Prop}
  (hl : typeLookup (.type T) "__getitem__" = pure (some (.builtin id))) (hs : NoSl slice)
  (h : wpAny (model prog w) A (eval value env) (fun o s₁ => wpAny (model prog w) A (eval slice env) (fun i s₂ => s₂.TypeIs o T ∧ wpAny (model prog w) A (getItem o i) Q E s₂) E s₁) E s) :
  wpAny (model prog w) A (eval (.Subscript value slice pos) env) Q E s := by
 refine Subscript_ (wpAny_mono h (fun o s₁ h₁ => wpAny_mono h₁ (fun i s₂ h₂ => ?_) fun _ _ x => x) fun _ _ x => x)
 obtain ⟨hT, h₂⟩ := h₂
 unfold subscriptTail
 refine jX ?_
 rw [getitemInPython_of_ne hT.not_modules]
 refine jX (wpAny_specialOf hT hl ?_)
 have fin : wpAny (model prog w) A (subscripted slice false o i) (fun r s₃ => wpAny (model prog w) A (letTemporaryGo value o r >>= fun _ => pure r) Q E s₃) E s₂ := by
  rw [hs o i]
  exact wpAny_operating (wpAny_mono h₂ (fun r s₃ h₃ => jX (wpAny_letTemporaryGo (kW h₃))) fun _ _ x => x)
 first
  | exact kW (jX fin)
  | exact jX (kW (jX fin))
  | exact jX fin
theorem Qdl {X : Cx} {pins : List (Addr × Obj)} {σ : St} {H : Hp} {s : Shared} {a : Addr} {y : V} {o : Option V} (I : Inv X pins σ H s) (g : DGet H a y o) : s.TypeIs (.ref a) "dict" := by
 rcases g with ⟨kvs, k, e, _, _⟩ | ⟨kvs, k, b, e, _, _, _⟩
 ·obtain ⟨_, _, vs, _, dd⟩ := Qlo I.hok e
  exact dd.typeIs
 ·obtain ⟨_, _, xs, _, dd⟩ := Qlp I.hok e
  exact dd.typeIs
def tDGet (td ty : TE) : TE := fun σ H Q => td σ H fun x H1 => ty σ H1 fun y H2 => ∃ a v, x = .ref a ∧ DGet H2 a y (some v) ∧ Q v H2
def tDIn (ty td : TE) : TE := fun σ H Q => ty σ H fun y H1 => td σ H1 fun x H2 => ∃ a o, x = .ref a ∧ DGet H2 a y o ∧ Q (.bl o.isSome) H2
def sDPut (td ty tv : TE) : TS := fun D σ H => tv σ H fun v H1 => td σ H1 fun x H2 => ty σ H2 fun y H3 => ∃ a H4, x = .ref a ∧ DPut H3 a y v H4 ∧ D.nx σ H4
section
variable {X : Cx} {o i e value : Expr} {pos pos' tpos : Pos} {td ty tv : TE}
theorem Qoo (hu : X.A.units + 1 < cLine) (ho : PE X o td) (hi : PE X i ty) (hs : NoSl i) : PE X (.Subscript o i pos) (tDGet td ty) := by
 intro pins s σ H Q I h
 refine Qon PySem.F.slot_dict_getitem.lookup hs (thn (ho pins s σ H _ I h) fun u s1 ⟨x, H1, I1, rx, q1⟩ => thn (hi pins s1 σ H1 _ I1 q1) fun iv s2 hqP => ?_)
 obtain ⟨y, H2, I2, ry, a, v, ex, g, q2⟩ := hqP
 subst ex
 obtain rfl : u = Value.ref a := rx
 exact ⟨Qdl I2 g, Qij hu I2 g ry fun w' s3 I3 rw' => ⟨v, H2, I3, rw', q2⟩⟩
theorem Qni (hu : X.A.units + 1 < cLine) (hi : PE X i ty) (ho : PE X o td) : PC X .In i o (tDIn ty td) := by
 intro pins s σ H Q I h
 refine thn (hi pins s σ H _ I h) fun iv s1 ⟨y, H1, I1, ry, q1⟩ => thn (ho pins s1 σ H1 _ I1 q1) fun u s2 hqP => ?_
 obtain ⟨x, H2, I2, rx, a, ov, ex, g, q2⟩ := hqP
 subst ex
 obtain rfl : u = Value.ref a := rx
 exact d_in hu I2 g ry fun s3 I3 => ⟨.bl ov.isSome, H2, I3, rfl, q2⟩
theorem Qop (hu : X.A.units + 1 < cLine) (ho : PE X o td) (hi : PE X i ty) (hv : PE X value tv) (hs : swapsWith value (some (.Subscript o i pos')) pos.line X.env = pure false) :
  PS X (.Assign [.Subscript o i pos'] value pos) (sDPut td ty tv) := by
 intro pins s σ H D I h
 refine wpAny_Assign_Subscript (thn (hv pins s σ H _ I h) fun r s1 ⟨v, H1, I1, rv, q1⟩ => thn (ho pins s1 σ H1 _ I1 q1) fun u s2 ⟨x, H2, I2, rx, q2⟩ => thn (hi pins s2 σ H2 _ I2 q2) fun iv s3 hqP => ?_) hs
 obtain ⟨y, H3, I3, ry, a, H4, ex, g, q3⟩ := hqP
 subst ex
 obtain rfl : u = Value.ref a := rx
 exact Qik hu I3 g ry rv fun s4 I4 => ⟨σ, H4, I4, q3⟩
end
theorem Qlq {P : Program} {w : World} {H : Hp} (h : Heap) (hb : sysModules < h.objs.size) : ObjOk P w H (h.push { cls := .type "dict", data := .dict #[] }) h.objs.size (.dK []) :=
 ⟨wQ _, beq_eq_false_iff_ne.mpr (Ne.symm (zQ hb)), [], .nil, Heap.DictOf.new h⟩
theorem Qlr {P : Program} {w : World} {H : Hp} (h : Heap) (hb : sysModules < h.objs.size) : ObjOk P w H (h.push { cls := .type "dict", data := .dict #[] }) h.objs.size (.dT []) :=
 ⟨wQ _, beq_eq_false_iff_ne.mpr (Ne.symm (zQ hb)), [], .nil, _, #[], 0, yV _ rfl, ⟨rfl, rfl, rfl⟩, rfl, rfl, List.nodup_nil⟩
def tDNewT : TE := fun _ H Q => ∀ p, H p = none → Q (.ref p) (upd H p (.dT []))
section
variable {X : Cx} {pos : Pos}
theorem Qls : PE X (.Dict [] [] pos) tDNewT := fun pins s σ H Q I h =>
 wpAny_Dict_empty ⟨.ref s.heap.objs.size, _, I.laid (a := s.heap.objs.size) (o := .dT []) (t' := s.toks) (fun _ _ q => jK _ q) (kK _) (Qlr s.heap I.big), rfl, h _ (I.hok.fresh (kK _))⟩
end
def Qil : List (TE × TE) → St → Hp → (List (V × V) → Hp → Prop) → Prop
 | [], _, H, Q => Q [] H
 | (tk, tv) :: r, σ, H, Q => tk σ H fun x H1 => tv σ H1 fun y H2 => Qil r σ H2 fun ps H3 => Q ((x, y) :: ps) H3
abbrev VV : List (V × V) → List (Value × Value) → Prop := Paired fun p q => RelV p.1 q.1 ∧ RelV p.2 q.2
def PPs (X : Cx) (pos : Pos) (keys : List (Option Expr)) (values : List Expr) (trs : List (TE × TE)) : Prop :=
 ∀ (pins : List (Addr × Obj)) (s : Shared) (σ : St) (H : Hp) (Q : List (V × V) → Hp → Prop), Inv X pins σ H s → Qil trs σ H Q →
  wpAny (model X.prog X.w) X.A (evalPairs (pairTrees keys values X.env pos)) (fun vs s' => ∃ ps H', Inv X pins σ H' s' ∧ VV ps vs ∧ Q ps H') X.xe s
theorem Qoq {X : Cx} {pos : Pos} : PPs X pos [] [] [] := fun pins s σ H Q I h => pairTrees_nil_walk ⟨[], H, I, .nil, h⟩
theorem Ji {X : Cx} {pos : Pos} {k v : Expr} {ks : List (Option Expr)} {vs : List Expr} {tk tv : TE} {trs : List (TE × TE)} (hk : PE X k tk) (hv : PE X v tv) (hr : PPs X pos ks vs trs) :
  PPs X pos (some k :: ks) (v :: vs) ((tk, tv) :: trs) := fun pins s σ H Q I h =>
 pairTrees_cons_walk (thn (hk pins s σ H _ I h) fun u s1 ⟨x, H1, I1, rx, q1⟩ => thn (hv pins s1 σ H1 _ I1 q1) fun w2 s2 ⟨y, H2, I2, ry, q2⟩ =>
  thn (hr pins s2 σ H2 _ I2 q2) fun ws s3 ⟨ps, H3, I3, rel, q3⟩ => ⟨(x, y) :: ps, H3, I3, .cons ⟨rx, ry⟩ rel, q3⟩)
def Zn (kvs more : List (Key × V)) : List (Key × V) := more.foldl (fun acc kv => putK acc kv.1 kv.2) kvs
theorem KV.merge : ∀ {more : List (Key × V)} {rs : List (Key × Value)} {kvs : List (Key × V)} {vs : List (Key × Value)}, KV more rs → KV kvs vs → KV (Zn kvs more) (merged vs rs) := by
 intro more rs kvs vs r
 unfold KV at r
 induction r generalizing kvs vs with
 | nil => intro q; exact q
 | @cons p q ps qs h t ih =>
  intro r0
  have e : KV (putK kvs p.1 p.2) (stored vs q.1 q.2) := by
   have := r0.put p.1 h.2
   rw [← h.1]; exact this
  exact ih e
theorem Kb : ∀ (more kvs : List (Key × V)), (Zn kvs more).length ≤ kvs.length + more.length
 | [], kvs => by show kvs.length ≤ kvs.length + 0; omega
 | p :: r, kvs => by
  have h1 := Kb r (putK kvs p.1 p.2)
  have h2 := Zv kvs p.1 p.2
  show (Zn (putK kvs p.1 p.2) r).length ≤ _
  rw [yZ]; omega
theorem Wz {P : Program} {w : World} : ∀ {kvs : List (Key × V)} {ws : List (Value × Value)}, VV (kvs.map fun kv => (kV kv.1, kv.2)) ws → ∃ rs, Carries (Yk P w) ws rs ∧ KV kvs rs
 | [], _, r => by rw [List.map_nil] at r; cases r; exact ⟨[], True.intro, .nil⟩
 | p :: kvs, _, r => by
  rw [xQ] at r
  cases r with
  | @cons a b as bs h t =>
   obtain ⟨rs, c, q⟩ := Wz (P := P) (w := w) t
   obtain ⟨b1, b2⟩ := b
   exact ⟨(p.1, b2) :: rs, ⟨Qii h.1, rfl, c⟩, .cons ⟨rfl, h.2⟩ q⟩
def tDisp (trs : List (TE × TE)) : TE := fun σ H Q => ∀ p, H p = none → Qil trs σ (upd H p (.dK [])) fun ps H2 => H2 p = some (.dK []) ∧ ∃ kvs : List (Key × V), ps = kvs.map (fun kv => (kV kv.1, kv.2)) ∧ kvs.length ≤ 15 ∧ Q (.ref p) (upd H2 p (.dK (Zn [] kvs)))
theorem Qor {X : Cx} {pos : Pos} {keys : List (Option Expr)} {values : List Expr} {trs : List (TE × TE)} (h : PPs X pos keys values trs) (hall : keys.all (·.isSome) = true) (hl : keys.length = values.length) (h0 : keys ≠ [])
  (h15 : keys.length ≤ 15) : PE X (.Dict keys values pos) (tDisp trs) := by
 intro pins s σ H Q I q
 have hn := I.hok.fresh (kK s.heap.objs.size)
 have I1 := I.laid (a := s.heap.objs.size) (o := .dK []) (h' := s.heap.push { cls := .type "dict", data := .dict #[] }) (t' := s.toks) (fun _ _ q => jK _ q) (kK _) (Qlq s.heap I.big)
 refine wpAny_Dict_walk (knd := Yk X.prog X.w) hall hl h0 h15 (thn (h pins _ σ _ _ I1 (q _ hn)) fun ws s2 hqP => ?_)
 obtain ⟨ps, H2, I2, rel, e, kvs, ep, lk, q2⟩ := hqP
 subst ep
 obtain ⟨rs, c, rk⟩ := Wz (P := X.prog) (w := X.w) rel
 obtain ⟨z, hd, vs0, r0, dd⟩ := dk_of I2.hok e
 cases r0
 refine ⟨rs, c, dd, fun h' dd' hs => ⟨.ref s.heap.objs.size, _, ?_, rfl, q2⟩⟩
 have hz : (Zn [] kvs).length ≤ sizeLine := by
  have h1 := Kb kvs []
  rw [List.length_nil] at h1
  rw [sizeLine_eq]; omega
 have he : ∃ q, h'.get? s.heap.objs.size = some q := let ⟨q, _, _, hq, _⟩ := dd'; ⟨q, hq⟩
 exact Qdk I2 (by rw [e]; exact True.intro) hs he (Qnh hz hd (rk.merge .nil) dd')
section
variable {X : Cx} {pins : List (Addr × Obj)} {σ : St} {H : Hp} {s : Shared} {a : Addr} {y d : V} {u r : Value} {o : Option V} {A : Around} {E : Value → Shared → Prop}
end
section
variable {X : Cx} {o e f : Expr} {apos cpos : Pos} {td ty tx : TE}
end
section
variable {X : Cx} {pins : List (Addr × Obj)} {σ : St} {H : Hp} {s : Shared} {a : Addr} {kvs : List (Key × V)} {A : Around} {E : Value → Shared → Prop}
end
section
variable {X : Cx} {pins : List (Addr × Obj)} {σ : St} {H : Hp} {s : Shared} {a : Addr} {y : V} {u : Value} {A : Around} {E : Value → Shared → Prop}
end
end L2
namespace Att
open PySem PySem.W PySem.Calls PyProof.Rows
section
variable {prog : Program} {w : World} {A : Around} {E : Value → Shared → Prop} {s : Shared} {K : Frag}
end
end Att
namespace L2
open PySem PySem.Spec PyProof.Rows
section
variable {P : Program} {w : World} {K : Fg} {mg : Str → Option Value} {base : Heap}
end
section
variable {X : Cx}
end
section
variable {κ : Type} [DecidableEq κ]
end
section
variable {prog : Program} {w : World} {A : Around} {E : Value → Shared → Prop}
end
section
variable {X : Cx}
end
section
variable {P : Program} {w : World} {A : Around} {E : Value → Shared → Prop} {s : Shared} {e it l : Addr} {st : Nat → Heap → Prop} {src : List Value → Heap → Prop} {i : Nat} {xs : List Value} {old : Value}
theorem Qas {x : Value} {Q : Option Value → Shared → Prop} (dr : Drw P w it l st src) (hE : IsEnum s.heap e it i old) (hI : st i s.heap) (hl : src xs s.heap) (hx : xs[i]? = some x) (hne : e ≠ it)
  (hQ : ∀ h', IsEnumOut h' e it ((i : Int) + 1) x s.heap.objs.size → st (i + 1) h' → h'.get? s.heap.objs.size = some { cls := .type "tuple", data := .seq #[.int i s.toks, x] } →
   (∀ b o, b ≠ e → b ≠ it → s.heap.get? b = some o → h'.get? b = some o) → Q (some (.ref s.heap.objs.size)) { s with heap := h', toks := s.toks + 1 }) : wpAny (model P w) A (pyNext (.ref e)) Q E s := by
 have hTy : s.TypeIs (.ref e) "enumerate" := ⟨_, hE, rfl⟩
 unfold pyNext
 refine jX (wpAny_attempt (wpAny_callSpecial?_slot (name := Str.ofString "__next__") hTy F.slot_enumerate_next (wpAny_call_entry F.slot_enumerate_next hTy F.entry_enumerate_next ?_ (F.args_enumerate_next_1 _))))
 obtain ⟨hp, g, d, tk, os⟩ := s
 show wpAny _ _ (field (.ref e) 2 >>= _) _ _ _
 refine jX (wpAny_field hE rfl (x := .ref it) rfl ?_)
 refine jX (dr.item _ _ ⟨hp, g, d, tk, os⟩ i xs x _ hI hl hx fun g1 hI1 e1 => ?_)
 replace e1 : Heap.SameBut it hp g1 := e1
 have hE1 : IsEnum g1 e it i old := (e1.2 e hne).trans hE
 show wpAny _ _ (field (.ref e) 3 >>= _) _ _ ⟨g1, g, d, tk, os⟩
 refine jX (wpAny_field hE1 rfl (x := rawInt i) rfl ?_)
 show wpAny _ _ (field (.ref e) 4 >>= _) _ _ ⟨g1, g, d, tk, os⟩
 refine jX (wpAny_field hE1 rfl (x := .none) rfl ?_)
 show wpAny _ _ (mkInt i >>= _) _ _ ⟨g1, g, d, tk, os⟩
 refine jX (wpAny_mkInt ?_)
 show wpAny _ _ (setField (.ref e) 3 (rawInt ((i : Int) + 1)) >>= _) _ _ ⟨g1, g, d, tk + 1, os⟩
 refine jX (wpAny_setField_rec hE1 (by simp) fun g2 hE2 e2 => ?_)
 replace e2 : Heap.SameBut e g1 g2 := e2
 replace hE2 : IsEnum g2 e it ((i : Int) + 1) old := hE2
 show wpAny _ _ (setField (.ref e) 4 .none >>= _) _ _ ⟨g2, g, d, tk + 1, os⟩
 refine jX (wpAny_setField_rec hE2 (by simp) fun g3 hE3 e3 => ?_)
 replace e3 : Heap.SameBut e g2 g3 := e3
 replace hE3 : IsEnum g3 e it ((i : Int) + 1) old := hE3
 show wpAny _ _ (newTuple [.int i tk, x] >>= _) _ _ ⟨g3, g, d, tk + 1, os⟩
 refine jX (wpAny_newTuple ?_)
 have hE4 : IsEnum (g3.push { cls := .type "tuple", data := .seq #[.int i tk, x] }) e it ((i : Int) + 1) old := jK _ hE3
 generalize hg4 : g3.push { cls := .type "tuple", data := .seq #[.int i tk, x] } = g4 at hE4
 have hsz : g3.objs.size = hp.objs.size := by rw [e3.1, e2.1, e1.1]
 have hel : e < hp.objs.size := kJ hE
 have hT4 : g4.get? hp.objs.size = some { cls := .type "tuple", data := .seq #[.int i tk, x] } := by rw [← hg4, ← hsz]; exact yV _ rfl
 have hk4 : ∀ b o, b ≠ e → b ≠ it → hp.get? b = some o → g4.get? b = some o := fun b o hbe hbi hb => by
  rw [← hg4]; exact jK _ (e3.extBut b o hbe (e2.extBut b o hbe (e1.extBut b o hbi hb)))
 have hI4 : st (i + 1) g4 := dr.keep _ _ _ hI1 fun q z => by rw [← hg4]; exact jK _ (e3.extBut _ _ hne.symm (e2.extBut _ _ hne.symm z))
 show wpAny _ _ (Builtin.SmallTypes.ownedTupleIsFree (.ref e) >>= _) _ _ ⟨g4, g, d, tk + 1, os⟩
 rw [hsz]
 clear hg4 hE3 e3 hE2 e2 hE1 e1 hI1 hsz
 refine jX ?_
 unfold Builtin.SmallTypes.ownedTupleIsFree
 refine jX (wpAny_field hE4 rfl (x := .none) rfl (kW ?_))
 simp only [if_true]
 refine jX (wpAny_rule (jX (wpAny_field hE4 rfl (x := old) rfl (jX (wpAny_setField_rec hE4 (by simp) fun g5 hE5 e5 => ?_)))))
 replace e5 : Heap.SameBut e g4 g5 := e5
 replace hE5 : IsEnum g5 e it ((i : Int) + 1) x := hE5
 show wpAny _ _ (Builtin.SmallTypes.ownedTupleHandOut (.ref e) (.ref hp.objs.size) >>= _) _ _ ⟨g5, g, d, tk + 1, os⟩
 refine jX ?_
 unfold Builtin.SmallTypes.ownedTupleHandOut
 refine jX (wpAny_setField_rec hE5 (by simp) fun g6 hE6 e6 => ?_)
 replace e6 : Heap.SameBut e g5 g6 := e6
 replace hE6 : IsEnumOut g6 e it ((i : Int) + 1) x hp.objs.size := hE6
 refine wpAny_setField_rec hE6 (by simp) fun g7 hE7 e7 => ?_
 replace e7 : Heap.SameBut e g6 g7 := e7
 replace hE7 : IsEnumOut g7 e it ((i : Int) + 1) x hp.objs.size := hE7
 have up : ∀ b o, b ≠ e → g4.get? b = some o → g7.get? b = some o := fun b o hb z => e7.extBut b o hb (e6.extBut b o hb (e5.extBut b o hb z))
 refine jX (wpAny_letGo (kW ⟨_, rfl, kW (hQ g7 hE7 ?_ ?_ ?_)⟩))
 ·exact dr.keep _ _ _ hI4 fun q z => up _ _ hne.symm z
 ·exact up _ _ (jKb hel) hT4
 ·exact fun b o hbe hbi hb => up b o hbe (hk4 b o hbe hbi hb)
theorem Qcj {Q : Option Value → Shared → Prop} (hh : A.handled = none) (dr : Drw P w it l st src) (hE : IsEnum s.heap e it i old) (hI : st i s.heap) (hl : src xs s.heap) (hx : xs[i]? = none)
  (hQ : ∀ h', Heap.ExtBut it s.heap h' → Q none { s with heap := h' }) : wpAny (model P w) A (pyNext (.ref e)) Q E s := by
 have hTy : s.TypeIs (.ref e) "enumerate" := ⟨_, hE, rfl⟩
 unfold pyNext
 refine jX (wpAny_attempt (wpAny_callSpecial?_slot (name := Str.ofString "__next__") hTy F.slot_enumerate_next (wpAny_call_entry F.slot_enumerate_next hTy F.entry_enumerate_next ?_ (F.args_enumerate_next_1 _))))
 show wpAny _ _ (field (.ref e) 2 >>= _) _ _ _
 refine jX (wpAny_field hE rfl (x := .ref it) rfl ?_)
 refine jX (dr.done _ _ s i xs _ hh hI hl hx fun h' x eb hx' => ?_)
 obtain ⟨o, ho, hc⟩ := hx'
 refine jX (wpAny_isInstance (T := "StopIteration") (b := true) ⟨o, ho, hc⟩ isSubtype_stop (kW (hQ _ eb)))
end
theorem Qgi {n : String} {l : Addr} {p : Heap → Prop} (I : Itr0 n l p) :
  Meets (Builtin.«enumerate.__new__» ⟨[.type "enumerate", .ref l], []⟩) (fun _ R s => p s.heap ∧ R (.ok (.ret (.ref (s.heap.push (Jn n l)).objs.size))) { s with heap := (s.heap.push (Jn n l)).push { cls := .type "enumerate", data := .fields #[.none, .bool false, .ref s.heap.objs.size, rawInt 0, .none, .none] } }) :=
 .of_wp fun prog w A R s h => by
  obtain ⟨hp, g, d, tk, os⟩ := s
  obtain ⟨q, h⟩ := h
  have hsub := sub_enumerate
  have f1 := fun (A : Around) (E : Value → Shared → Prop) (Q : Value → Shared → Prop) => I.go prog w A E ⟨hp, g, d, tk, os⟩ Q q
  wp_walk
  refine wpAny_stack_any fun stk => kW ?_
  split
  ·rename_i c _ _ _ _ _
   cases (c == Value.type "enumerate")
   ·wp_walk using f1 _ _ _
    exact ⟨_, rfl, h⟩
   ·wp_walk using f1 _ _ _
    exact ⟨_, rfl, h⟩
  ·wp_walk using f1 _ _ _
   exact ⟨_, rfl, h⟩
def Ite (K : Fg) (m : Bool) (a : Addr) : It :=
  ⟨fun i H => ∃ xs x, Sq K m H a xs ∧ xs[i]? = some x,
   fun i H v H' => ∃ T x, v = .ref T ∧ H T = none ∧ H' = upd H T (.tup [.int (i : Nat), x]) ∧ (∀ xs, Sq K m H a xs → xs[i]? = some x),
   fun i H => ∃ xs, Sq K m H a xs ∧ xs.length ≤ i⟩
def eTn (m : Bool) (e it a : Addr) (i : Nat) (h : Heap) : Prop := (∃ old, IsEnum h e it i old) ∧ itSt m it a i h
theorem Qim {P : Program} {w : World} {K : Fg} {es : List Expr} {kk : Nat} {tp : Pos} {m : Bool} {e it a : Addr} (hne : e ≠ it) (hea : a ≠ e) (hia : a ≠ it) :
  Turn P w K (.Tuple es kk tp) (Ite K m a) [e, it] e (eTn m e it a) where
 mem := by simp
 obj := fun i h st c hc => by
  obtain ⟨⟨old, h1⟩, h2⟩ := st
  simp only [jZ, xV, or_false] at hc
  rcases hc with rfl | rfl
  ·exact ⟨_, h1, fun v z => by cases z⟩
  ·exact (Yh (P := P) (w := w) m c a).obj i h h2
 keep := fun i h h' st k => by
  obtain ⟨⟨old, h1⟩, h2⟩ := st
  exact ⟨⟨old, k e (by simp) _ h1⟩, (Yh (P := P) (w := w) m it a).keep i h h' h2 (k it (by simp))⟩
 item := by
  intro X hP hw hK hc i pins s σ H E I hf st hg
  subst hP hw hK
  obtain ⟨xs, x, q1, hx⟩ := hg
  obtain ⟨is1, r1, p1, z1⟩ := I.sq q1
  obtain ⟨v1, e1, rv1⟩ := r1.get hx
  obtain ⟨⟨old, hE⟩, s1⟩ := st
  refine Qas (Yh m it a) hE s1 p1 e1 hne fun h' a1 a2 a3 a4 => ⟨_, rfl, ?_⟩
  have kk : ∀ c q, c ∉ [e, it] → s.heap.get? c = some q → h'.get? c = some q := fun c q hc e => by
   simp only [jZ, xV, or_false, not_or] at hc
   exact a4 c q hc.1 hc.2 e
  have I1 : Inv X pins σ (upd H s.heap.objs.size (.tup [.int (i : Nat), x])) { s with heap := h' } := I.tupNew (ch := [e, it]) (its := [.int i s.toks, v1]) (kK _) (.cons ⟨_, rfl⟩ (.cons rv1 .nil)) (by show 2 ≤ sizeLine; decide) a3 hf kk (fun c hc => by
   simp only [jZ, xV, or_false] at hc
   rcases hc with rfl | rfl
   ·exact ⟨_, a1⟩
   ·obtain ⟨q, z, _⟩ := (Yh (P := X.prog) (w := X.w) m c a).obj _ _ a2; exact ⟨q, z⟩)
  refine wpAny_letOwnedTupleGo_enum (s := { s with heap := h', toks := s.toks + 1 }) a1 fun h2 g1 g2 => ?_
  obtain ⟨f0, f1, f2, f3, f4, f5⟩ := hf e (by simp)
  have lte : e < s.heap.objs.size := kJ hE
  have I2 : Inv X pins σ (upd H s.heap.objs.size (.tup [.int (i : Nat), x])) { s with heap := h2, toks := s.toks + 1 } := I1.turned (h' := h2) (t' := s.toks + 1) (fun c q hc z => g2.extBut c q hc z) (by rw [Qq (zQ lte)]; exact f0) f1 f3 f4 f5
  refine ⟨.ref s.heap.objs.size, _, I2, rfl, ⟨_, x, rfl, I.hok.fresh (kK _), rfl, fun xs' hq => by rw [I.sq_inj hq q1]; exact hx⟩, ⟨⟨_, by exact_mod_cast g1⟩, (Yh (P := X.prog) (w := X.w) m it a).keep _ _ _ a2 fun q z => g2.extBut _ _ hne.symm z⟩, fun c hc => ?_⟩
  have hlt : c ≠ s.heap.objs.size := by
   simp only [jZ, xV, or_false] at hc
   rcases hc with rfl | rfl
   ·exact zQ lte
   ·obtain ⟨q, z, _⟩ := (Yh (P := X.prog) (w := X.w) m c a).obj _ _ s1; exact zQ (kJ z)
  rw [Qq hlt]
  exact (hf c hc).1
 done := by
  intro X hP hw hK hc i pins s σ H E I hf st hg
  subst hP hw hK
  obtain ⟨xs, q1, hx⟩ := hg
  obtain ⟨is1, r1, p1, z1⟩ := I.sq q1
  obtain ⟨⟨old, hE⟩, s1⟩ := st
  have l1 := r1.length
  obtain ⟨f0, f1, f2, f3, f4, f5⟩ := hf it (by simp)
  exact Qcj (I.ok.hd hc) (Yh m it a) hE s1 p1 (kXb.mpr (by omega)) fun h' eb => ⟨rfl, I.turned (t' := s.toks) (fun b o hb z => eb b o hb z) f0 f1 f3 f4 f5⟩
 self := fun _ _ _ _ _ st h => by
  obtain ⟨⟨old, h1⟩, _⟩ := st
  exact wpAny_pyIter_enum h1 h
section
variable {X : Cx}
def iEnum (K : Fg) (m : Bool) (ta : TA) : TI := fun σ H R => ta σ H fun vs H1 => ∃ a, vs = [.ref a] ∧ (∃ xs, Sq K m H1 a xs) ∧ R (Ite K m a) H1
theorem Qin {a : Expr} {ta : TA} {p pos tp : Pos} {es : List Expr} {kk : Nat} (m : Bool) (hg : Gl X "enumerate") (hm : X.mg "enumerate" = none) (ha : PA X [a] ta) (hs : autoParam (starEach [a] X.env = [(false, eval a X.env)]) L2.aRfl._auto_1) :
  PI X (.Tuple es kk tp) (.Call (.Name "enumerate" p) [a] [] pos) (iEnum X.K m ta) := by
 intro pins s σ H R I h
 refine Call_ (Wv I hg hm Qcg (PyProof.Rows.callWith_type1 (thn (ha pos pins s σ H _ I h) fun us s1 hqP => ?_) hs rfl))
 obtain ⟨vs, H1, I1, r1, q1⟩ := hqP
 obtain ⟨l1, e, ⟨xs, q1⟩, q⟩ := q1
 subst e
 obtain ⟨u1, rfl, e1⟩ := r1.one
 cases e1
 obtain ⟨is1, r1, p1, z1⟩ := I1.sq q1
 refine callType_new F.called_enumerate (by decide) (F.typeCall_enumerate_1 _) (F.newCall_enumerate_1 _) (fun obj => F.args_object_init_2 obj _) F.entry_enumerate_new (Qgi (Qdi m l1 is1)) ⟨p1, ?_⟩
 have z2 : (s1.heap.push (Jn (itN m) l1)).objs.size = s1.heap.objs.size + 1 := jJa ..
 have g2 : ((s1.heap.push (Jn (itN m) l1)).push { cls := .type "enumerate", data := .fields #[.none, .bool false, .ref s1.heap.objs.size, rawInt 0, .none, .none] }).get? (s1.heap.push (Jn (itN m) l1)).objs.size = some { cls := .type "enumerate", data := .fields #[.none, .bool false, .ref s1.heap.objs.size, rawInt 0, .none, .none] } := yV _ rfl
 have g1 : ((s1.heap.push (Jn (itN m) l1)).push { cls := .type "enumerate", data := .fields #[.none, .bool false, .ref s1.heap.objs.size, rawInt 0, .none, .none] }).get? s1.heap.objs.size = some (Jn (itN m) l1) := jK _ (yV _ rfl)
 rw [z2] at g2
 show _ ∧ _
 rw [z2]
 have kp : ∀ b o, s1.heap.get? b = some o → ((s1.heap.push (Jn (itN m) l1)).push { cls := .type "enumerate", data := .fields #[.none, .bool false, .ref s1.heap.objs.size, rawInt 0, .none, .none] }).get? b = some o := fun b o z => jK _ (jK _ z)
 generalize (s1.heap.push (Jn (itN m) l1)).push { cls := .type "enumerate", data := .fields #[.none, .bool false, .ref s1.heap.objs.size, rawInt 0, .none, .none] } = h' at g1 g2 kp
 have I2 : Inv X pins σ H1 { s1 with heap := h' } := I1.kept (t' := s1.toks) kp
 have ltl : l1 < s1.heap.objs.size := Qar p1
 refine ⟨⟨_, g2, rfl⟩, wpAny_pyIter_enum (s := { s1 with heap := h' }) g2 ⟨_, [s1.heap.objs.size + 1, s1.heap.objs.size], _, _, H1, rfl, I2, Qim (m := m) (a := l1) (Nat.succ_ne_self _) (zQ (Nat.lt_succ_of_lt ltl)) (zQ ltl), ⟨⟨_, g2⟩, Qaq m g1⟩, fun c hc => ?_, q⟩⟩
 have hle : s1.heap.objs.size ≤ c := by
  simp only [jZ, xV, or_false] at hc
  rcases hc with rfl | rfl
  ·exact kQa _ _
  ·exact kK _
 exact I1.fpOk hle (I1.hok.fresh hle)
end
theorem Qet {K : Fg} {m : Bool} {a : Addr} {xs : List V} {g : TG} {tb : TS} {D : Ends} {σ : St} {H : Hp} (Pv : Nat → St → Hp → Prop) (h0 : Pv 0 σ H) (hl : ∀ i σ H, i ≤ xs.length → Pv i σ H → Sq K m H a xs)
  (hs : ∀ i x σ H T, xs[i]? = some x → Pv i σ H → H T = none → g (.ref T) σ (upd H T (.tup [.int (i : Nat), x])) fun σ2 H2 => tb { D with nx := Pv (i + 1), ct := Pv (i + 1), bk := D.nx } σ2 H2) (hd : ∀ σ H, Pv xs.length σ H → D.nx σ H) :
  ∃ W : Nat → Nat → St → Hp → Prop, (∃ m, W 0 m σ H) ∧ ∀ i n σ H, W i n σ H →
   ((Ite K m a).stop i H ∧ D.nx σ H) ∨ ((Ite K m a).go i H ∧ ∃ N : St → Hp → Prop, (∀ σ' H', N σ' H' → ∃ m', m' < n ∧ W (i + 1) m' σ' H') ∧ ∀ x H', (Ite K m a).yld i H x H' → g x σ H' fun σ2 H2 => tb { D with nx := N, ct := N, bk := D.nx } σ2 H2) := by
 refine ⟨fun i n σ H => n = xs.length - i ∧ i ≤ xs.length ∧ Pv i σ H, ⟨_, rfl, wQ _, h0⟩, ?_⟩
 rintro i n σ H ⟨rfl, hi, p⟩
 have q1 := hl i σ H hi p
 by_cases hlt : i < xs.length
 ·refine .inr ⟨⟨xs, xs[i], q1, by simp [hlt]⟩, Pv (i + 1), fun σ' H' p' => ⟨xs.length - (i + 1), by omega, rfl, hlt, p'⟩, fun x H' y => ?_⟩
  obtain ⟨T, u, rfl, hT, rfl, y1⟩ := y
  exact hs i u σ H T (y1 xs q1) p hT
 ·have e : i = xs.length := by omega
  subst e
  exact .inl ⟨⟨xs, q1, kK _⟩, hd σ H p⟩
section
variable {prog : Program} {w : World} {A : Around} {E : Value → Shared → Prop} {s : Shared}
end
section
variable {X : Cx}
end
section
variable {P : Program} {w : World} {A : Around} {E : Value → Shared → Prop} {s : Shared}
end
section
variable {P : Program} {w : World} {A : Around} {E : Value → Shared → Prop} {s : Shared} {z u o i1 i2 l1 l2 : Addr} {st1 st2 : Nat → Heap → Prop} {src1 src2 : List Value → Heap → Prop} {k1 k2 : Nat} {xs ys : List Value}
end
section
variable {X : Cx} {pins : List (Addr × Obj)} {σ : St} {H : Hp} {s : Shared} {m1 m2 : Bool} {z u o i1 i2 a b : Addr} {i : Nat} {xs ys : List V} {E : Value → Shared → Prop} {A : Around}
end
section
variable {X : Cx}
end
section
variable {X : Cx} {tg : Expr}
end
section
variable {X : Cx} {tg : Expr}
end
end L2
namespace L2
open PySem PySem.Spec PyProof.Rows PySem.SeqAt
section
variable {X : Cx}
end
end L2
namespace L2
open PySem PySem.Spec PyProof.Rows PySem.SeqAt
theorem Jj {α β : Type} {R : α → β → Prop} {xs : List α} {ys : List β} (h : Paired R xs ys) : ∀ {i : Nat} {x : α}, xs[i]? = some x → ∃ y, ys[i]? = some y ∧ R x y := by
 induction h with
 | nil => intro i x e; exact nomatch e
 | cons z _ ih =>
  intro i x e
  match i with
  | 0 => cases e; exact ⟨_, rfl, z⟩
  | i + 1 => exact ih (show _ = some x from e)
theorem Ve (k : Key) : Yd (kV k) = true := by cases k <;> rfl
theorem Qio (a b : Key) : eqV (kV a) (kV b) = true ↔ a = b := by
 cases a with
 | inl i =>
  cases b with
  | inl j => show (i == j) = true ↔ _; rw [beq_iff_eq]; exact ⟨fun z => (by rw [z]), fun z => (by cases z; rfl)⟩
  | inr y => exact ⟨fun z => (nomatch z), fun z => (nomatch z)⟩
 | inr x =>
  cases b with
  | inl j => exact ⟨fun z => (nomatch z), fun z => (nomatch z)⟩
  | inr y => show (x == y) = true ↔ _; rw [beq_iff_eq]; exact ⟨fun z => (by rw [z]), fun z => (by cases z; rfl)⟩
def RowsL (H : Hp) : List V → List (List Key) → Prop := Paired fun v r => ∃ l, v = .ref l ∧ H l = some (.lst (r.map kV))
section
variable {X : Cx} {pins : List (Addr × Obj)} {σ : St} {H : Hp} {s : Shared}
theorem Qos {A : Around} {ks ls : List Key} {its its' : List Value} (r : Vals (ks.map kV) its) (r' : Vals (ls.map kV) its') :
  ∀ j (h1 : j < its.toArray.size) (h2 : j < its'.toArray.size), EqAt A s its.toArray[j] its'.toArray[j] (decide (ks[j]? = ls[j]?)) := fun j h1 h2 => by
 have l1 := r.length
 have l2 := r'.length
 rw [jW] at l1 l2
 rw [jJ] at h1 h2
 have j1 : j < ks.length := by omega
 have j2 : j < ls.length := by omega
 obtain ⟨u1, e1, ru1⟩ := r.get (i := j) (x := kV ks[j]) (by rw [zK, gE j1]; rfl)
 obtain ⟨u2, e2, ru2⟩ := r'.get (i := j) (x := kV ls[j]) (by rw [zK, gE j2]; rfl)
 have z1 : its.toArray[j] = u1 := by rw [gE (by omega)] at e1; simpa using e1
 have z2 : its'.toArray[j] = u2 := by rw [gE (by omega)] at e2; simpa using e2
 rw [z1, z2]
 have e : decide (ks[j]? = ls[j]?) = eqV (kV ks[j]) (kV ls[j]) := by
  rw [jXd, decide_eq_true_iff, Qio, gE j1, gE j2]
  exact ⟨fun z => Option.some.inj z, fun z => congrArg some z⟩
 rw [e]
 exact Vn ru1 ru2 (Ve _) (Ve _)
theorem Qip {A : Around} {a b : Addr} {ks ls : List Key} (hu : A.units < cLine) (I : Inv X pins σ H s) (h1 : SqL X.K H a (ks.map kV)) (h2 : SqL X.K H b (ls.map kV)) :
  ∃ c : Bool, (c = true ↔ ks = ls) ∧ EqAt A s (.ref a) (.ref b) c ∧ RcAt A s (.ref a) (.ref b) c ∧ RcNeAt A s (.ref a) (.ref b) (!c) := by
 obtain ⟨its, r, pt, _⟩ := I.list h1
 obtain ⟨its', r', pt', _⟩ := I.list h2
 have l1 := r.length
 have l2 := r'.length
 rw [jW] at l1 l2
 have key := Qos (A := A.in1) (s := s) r r'
 have inj : a = b → ks = ls := fun z => by
  subst z
  have := I.list_inj h1 h2
  refine Qid (by rw [← jW (f := kV), this, jW]) fun i x y ex ey => ?_
  have e5 : (ks.map kV)[i]? = (ls.map kV)[i]? := by rw [this]
  rw [zK, zK, ex, ey] at e5
  have e6 : kV x = kV y := Option.some.inj e5
  exact (Qio x y).mp (by
   rw [e6]
   exact (Qio y y).mpr rfl)
 by_cases hsz : its.toArray.size = its'.toArray.size
 ·have hb : ((List.range its.toArray.size).all (fun j => decide (ks[j]? = ls[j]?))) = true ↔ ks = ls := by
   rw [jJ, jJ] at hsz
   rw [Ka, jJ]
   constructor
   ·intro z1
    refine Qid (by omega) fun i x y ex ey => ?_
    have hi := (kY.mp ex).1
    have := yY (z1 i (by omega))
    rw [ex, ey] at this
    exact Option.some.inj this
   ·intro z
    subst z
    exact fun i _ => yK rfl
  refine ⟨_, hb, ?_, RcAt.lists pt.isList pt'.isList hsz hu key, RcNeAt.lists pt.isList pt'.isList hsz hu key⟩
  by_cases hpq : a = b
  ·rw [hb.mpr (inj hpq)]
   subst hpq
   exact EqAt.same _
  ·exact EqAt.of_refs hpq (RcAt.lists pt.isList pt'.isList hsz hu key)
 ·have hne : (its.toArray.size != its'.toArray.size) = true := by simpa using hsz
  rw [jJ, jJ] at hsz
  have hb : false = true ↔ ks = ls := ⟨fun z => (nomatch z), fun z => (by subst z; omega)⟩
  refine ⟨false, hb, ?_, RcAt.lists_lengths pt.isList pt'.isList hne hu, RcNeAt.lists_lengths pt.isList pt'.isList hne hu⟩
  by_cases hpq : a = b
  ·exact absurd (hb.mpr (inj hpq)) (by decide)
  ·exact EqAt.of_refs hpq (RcAt.lists_lengths pt.isList pt'.isList hne hu)
theorem op_eqK {K : Fg} {n : Nat} (hK : X.K = K) (hu : X.A.units + n < cLine) : OpR X (compareOp .Eq) (fun x y H Q => ∃ (a b : Addr) (ks ls : List Key), x = .ref a ∧ y = .ref b ∧ SqL K H a (ks.map kV) ∧ SqL K H b (ls.map kV) ∧ ∀ c : Bool, (c = true ↔ ks = ls) → Q (.bl c) H) := by
 subst hK
 intro pins s σ H x y v u Q I rx ry h
 obtain ⟨a, b, ks, ls, rfl, rfl, h1, h2, q⟩ := h
 cases rx
 cases ry
 obtain ⟨c, hc, _, hr, _⟩ := Qip (A := X.A) (by omega) I h1 h2
 exact hr _ _ _ _ ⟨.bl c, H, I, rfl, q c hc⟩
theorem Qnj {A : Around} {a b : Addr} {xs : List V} (hu : A.units < cLine) (I : Inv X pins σ H s) (h1 : SqL X.K H a xs) (h2 : SqL X.K H b []) : RcAt A s (.ref a) (.ref b) xs.isEmpty ∧ RcNeAt A s (.ref a) (.ref b) (!xs.isEmpty) := by
 obtain ⟨its, r, pt, _⟩ := I.list h1
 obtain ⟨its', r', pt', _⟩ := I.list h2
 have l1 := r.length
 have l2 := r'.length
 cases xs with
 | nil =>
  have e1 : its = [] := jYf l1.symm
  have e2 : its' = [] := jYf l2.symm
  subst e1 e2
  have key : ∀ j (h1 : j < ([] : List Value).toArray.size) (h2 : j < ([] : List Value).toArray.size), EqAt A.in1 s ([] : List Value).toArray[j] ([] : List Value).toArray[j] ((fun _ => true) j) := fun j h1 _ => absurd h1 (by simp)
  exact ⟨RcAt.lists pt.isList pt'.isList rfl hu key, RcNeAt.lists pt.isList pt'.isList rfl hu key⟩
 | cons x xs =>
  have hne : (its.toArray.size != its'.toArray.size) = true := by
   rw [jJ, jJ, ← l1, ← l2]
   simp
  exact ⟨RcAt.lists_lengths pt.isList pt'.isList hne hu, RcNeAt.lists_lengths pt.isList pt'.isList hne hu⟩
theorem Kc {K : Fg} {n : Nat} (hK : X.K = K) (hu : X.A.units + n < cLine) : OpR X (compareOp .Eq) (fun x y H Q => ∃ (a b : Addr) (xs : List V), x = .ref a ∧ y = .ref b ∧ SqL K H a xs ∧ SqL K H b [] ∧ Q (.bl xs.isEmpty) H) := by
 subst hK
 intro pins s σ H x y v u Q I rx ry h
 obtain ⟨a, b, xs, rfl, rfl, h1, h2, q⟩ := h
 cases rx
 cases ry
 exact (Qnj (A := X.A) (by omega) I h1 h2).1 _ _ _ _ ⟨.bl _, H, I, rfl, q⟩
theorem Kd {K : Fg} {n : Nat} (hK : X.K = K) (hu : X.A.units + n < cLine) : OpR X (compareOp .NotEq) (fun x y H Q => ∃ (a b : Addr) (xs : List V), x = .ref a ∧ y = .ref b ∧ SqL K H a xs ∧ SqL K H b [] ∧ Q (.bl (!xs.isEmpty)) H) := by
 subst hK
 intro pins s σ H x y v u Q I rx ry h
 obtain ⟨a, b, xs, rfl, rfl, h1, h2, q⟩ := h
 cases rx
 cases ry
 exact (Qnj (A := X.A) (by omega) I h1 h2).2 _ _ _ _ ⟨.bl _, H, I, rfl, q⟩
open PySem.MeetsSeq PySem.MeetsSeq2 PySem.MeetsSeq3 in
open AutoSeq1 (wpAny_loadPart') in
open PySem.MeetsSeq PySem.MeetsSeq2 PySem.MeetsSeq3 in
open AutoSeq1 (wpAny_loadPart') in
end
section
variable {X : Cx}
end
end L2
namespace L2
open PySem PySem.Spec PyProof.Rows PySem.W
inductive IsT : String → Prop
 | int : IsT "int"
 | bool : IsT "bool"
 | tuple : IsT "tuple"
 | list : IsT "list"
 | str : IsT "str"
def isiW (K : Fg) (H : Hp) : V → String → Bool → Prop
 | .non, _, b => b = false
 | .int _, T, b => b = decide (T = "int")
 | .bl _, T, b => b = decide (T = "int" ∨ T = "bool")
 | .str _, T, b => b = decide (T = "str")
 | .ref a, T, b => ((∃ xs, SqT K H a xs) ∧ b = decide (T = "tuple")) ∨ ((∃ xs, SqL K H a xs) ∧ b = decide (T = "list"))
 | _, _, _ => False
theorem Xu {X : Cx} : CallR X (.builtin "isinstance") (fun xs H Q => ∃ x T b, xs = [x, .ty T] ∧ IsT T ∧ isiW X.K H x T b ∧ Q (.bl b) H) := by
 intro pins s σ H xs us Q I rv h
 obtain ⟨x, T, b, rfl, hT, hi, q⟩ := h
 obtain ⟨u, v, rfl, ru, rT⟩ := rv.two
 cases rT
 have fin : ∀ (tk : Nat), EP X pins σ Q (.bool b) { s with toks := tk } := fun tk => ⟨.bl b, H, I.tok tk, rfl, q⟩
 cases x with
 | int n =>
  obtain ⟨t, rfl⟩ := ru
  cases hT <;> (subst hi)
  ·exact IsiPair.int_int (fin s.toks)
  ·exact IsiPair.int_bool (fin _)
  ·exact IsiPair.int_tuple (fin _)
  ·exact IsiPair.int_list (fin _)
  ·exact IsiPair.int_str (fin _)
 | bl n =>
  cases ru
  cases hT <;> (subst hi)
  ·exact IsiPair.bool_int (fin s.toks)
  ·exact IsiPair.bool_bool (fin s.toks)
  ·exact IsiPair.bool_tuple (fin _)
  ·exact IsiPair.bool_list (fin _)
  ·exact IsiPair.bool_str (fin _)
 | str n =>
  obtain ⟨t, rfl⟩ := ru
  cases hT <;> (subst hi)
  ·exact IsiPair.str_int (fin _)
  ·exact IsiPair.str_bool (fin _)
  ·exact IsiPair.str_tuple (fin _)
  ·exact IsiPair.str_list (fin _)
  ·exact IsiPair.str_str (fin s.toks)
 | non =>
  cases ru
  cases hT <;> (subst hi)
  ·exact IsiPair.NoneType_int (fin _)
  ·exact IsiPair.NoneType_bool (fin _)
  ·exact IsiPair.NoneType_tuple (fin _)
  ·exact IsiPair.NoneType_list (fin _)
  ·exact IsiPair.NoneType_str (fin _)
 | ref a =>
  cases ru
  rcases hi with ⟨⟨xs, hq⟩, hi⟩ | ⟨⟨xs, hq⟩, hi⟩
  ·obtain ⟨its, r, ⟨o, e, c, _⟩, _⟩ := I.tuple hq
   cases hT <;> (subst hi)
   ·exact IsiPair.tuple_int e c (fin _)
   ·exact IsiPair.tuple_bool e c (fin _)
   ·exact IsiPair.tuple_tuple e c (fin s.toks)
   ·exact IsiPair.tuple_list e c (fin _)
   ·exact IsiPair.tuple_str e c (fin _)
  ·obtain ⟨its, r, pl, _⟩ := I.list hq
   obtain ⟨o, e, c, _⟩ := pl.isList
   cases hT <;> (subst hi)
   ·exact IsiPair.list_int e c (fin _)
   ·exact IsiPair.list_bool e c (fin _)
   ·exact IsiPair.list_tuple e c (fin _)
   ·exact IsiPair.list_list e c (fin s.toks)
   ·exact IsiPair.list_str e c (fin _)
 | byt _ => exact hi.elim
 | flt _ => exact hi.elim
 | ty _ => exact hi.elim
theorem Qgj {X : Cx} {K : Fg} (hK : X.K = K) : CallR X (.builtin "isinstance") (fun xs H Q => ∃ x T b, xs = [x, .ty T] ∧ IsT T ∧ isiW K H x T b ∧ Q (.bl b) H) := by subst hK; exact Xu
open Att in
section
variable {prog : Program} {w : World} {A : Around} {R : Result → Shared → Prop} {I : Addr} {fp wr : List Addr} {n : Nat} {P : Nat → Value → Prop} {St : Nat → Heap → Prop}
end
section
variable {prog : Program} {w : World} {A : Around} {E : Value → Shared → Prop} {s : Shared} {l : Addr} {xs : Array (Int × Tok)}
end
section
variable {X : Cx}
end
theorem Qot {X : Cx} {K : Fg} {tg l : Expr} {tl : TE} (hK : X.K = K) (hl : PE X l tl) : PI X tg l (iTup K tl) := by subst hK; exact Qna hl
end L2
namespace L2
open PySem PySem.Spec PySem.Calls PyProof.Rows PySem.W
theorem ObjOk.ex {P : Program} {w : World} {H : Hp} {h : Heap} {a : Addr} {o : HO} (x : ObjOk P w H h a o) : ∃ ob, h.get? a = some ob := by
 cases o with
 | lst xs => obtain ⟨_, _, _, _, e⟩ := x; exact ⟨_, e⟩
 | tup xs => obtain ⟨_, _, _, ob, e, _⟩ := x; exact ⟨_, e⟩
 | dK kvs => obtain ⟨_, _, _, _, o, _, _, e, _⟩ := x; exact ⟨_, e⟩
 | dT kvs => obtain ⟨_, _, _, _, o, _, _, e, _⟩ := x; exact ⟨_, e⟩
 | set S n => obtain ⟨o, _, _, _, e, _⟩ := x; exact ⟨_, e⟩
 | ins C dx fs => obtain ⟨_, _, _, e, _⟩ := x; exact ⟨_, e⟩
 | own y => exact x
 | xd fs => obtain ⟨_, ⟨_, _, _, e, _⟩, _⟩ := x; exact ⟨_, e⟩
 | rng lo hi => obtain ⟨_, _, _, e⟩ := x; exact ⟨_, e⟩
 | frz ob u => exact ⟨_, x.1⟩
 | tbl ps => exact ⟨_, x⟩
 | met f y => exact ⟨_, x⟩
 | ext φ => exact x.2.1
theorem Qou {fs : List Addr} {H H' : Hp} {h h1 h2 B : Heap} (u : Un fs [] H H' h h1) (c : ∀ b, b ∉ fs → ((∃ o, h.get? b = some o) ∨ H' b ≠ none) → ∃ o, B.get? b = some o) (b1 : B.StaysIn h1) (b2 : B.StaysIn h2) (up : h1.UpToSlots h2)
  (fr : ∀ b ∈ fs, ∃ o, h1.get? b = some o ∧ ∀ vs, o.data ≠ .fields vs) : Un fs [] H H' h h2 where
 keep := fun b o e n hb hx => by
  have e1 := u.keep b o e n hb hx
  obtain ⟨o', eB⟩ := c b hb (.inl ⟨o, e⟩)
  have e2 := b1 b o' eB
  rw [e1] at e2
  cases e2
  exact b2 b o eB
 slot := fun b o e n hb hx => by
  obtain ⟨sl, e1⟩ := u.slot b o e n hb hx
  obtain ⟨o', e', nf⟩ := fr b hb
  rw [e1] at e'
  cases e'
  obtain ⟨sl2, e2⟩ := up b _ e1 nf
  exact ⟨sl2, e2⟩
 free := u.free
 there := fun b o e hx => by
  by_cases hb : b ∈ fs
  ·obtain ⟨o', e', nf⟩ := fr b hb
   obtain ⟨sl, e2⟩ := up b _ e' nf
   exact ⟨_, e2⟩
  ·obtain ⟨o', eB⟩ := c b hb (.inl ⟨o, e⟩)
   exact ⟨o', b2 b o' eB⟩
 tups := u.tups
 frzs := u.frzs
 tbls := u.tbls
theorem Qiq {P : Program} {w : World} {fs : List Addr} {H' : Hp} {h h1 h2 B : Heap} (x : HOk P w H' h1) (c : ∀ b, b ∉ fs → ((∃ o, h.get? b = some o) ∨ H' b ≠ none) → ∃ o, B.get? b = some o) (b1 : B.StaysIn h1) (b2 : B.StaysIn h2) (ff : ∀ b ∈ fs, H' b = none) : HOk P w H' h2 := fun b ob e => by
 refine (x b ob e).stay (fun d u hd q => ?_) (fun _ q => q) fun _ _ q => q
 have hn : H' d ≠ none := by
  rcases hd with rfl | hd
  ·rw [e]; exact fun z => nomatch z
  ·rw [hd]; exact fun z => nomatch z
 obtain ⟨o', eB⟩ := c d (fun z => hn (ff d z)) (.inr hn)
 have e2 := b1 d o' eB
 rw [q] at e2
 cases e2
 exact b2 d u eB
theorem Yz {h B : Heap} {l : List Env} (f : h.FunFrames B l) : ∀ b ∈ frs l, ∃ o, h.get? b = some o ∧ ∀ vs, o.data ≠ .fields vs := fun b hb => (f.mem hb).2
section
variable {P : Program} {w : World} {K : Fg} {mg : Str → Option Value} {base : Heap} {N : List Str} {qual : Str} {scope : Scope} {f : Addr} {cd : Value} {A : Around} {outer : List Env} {s₀ : Shared} {H₀ : Hp} {E : XK} {C : Addr}
 {pins : List (Addr × Obj)} {σ : St} {H : Hp} {s : Shared}
end
end L2
namespace L2
open PySem PySem.Spec PySem.Calls PyProof.Rows PySem.W
abbrev Cx.suite (X : Cx) (e : Addr) : Cx := { X with A := X.A.mark (some (.ref e)), calm := false, xe := fun _ _ => False }
theorem Cx.Ok.suite {X : Cx} (ok : X.Ok) (e : Addr) : (X.suite e).Ok :=
 ⟨ok.mod, ok.kind, ok.glob, ok.blt, ok.above, ok.inj, ok.has, ok.cab, (fun z => nomatch z), ok.frames, ok.stk, ok.exf, ok.bs, ok.bsz, ok.noex, ok.exfs, ok.funs, ok.frf⟩
section
variable {X : Cx} {pins : List (Addr × Obj)} {σ : St} {H H' : Hp} {s : Shared} {e : Addr}
theorem Inv.suite (I : Inv X pins σ H s) (e : Addr) : Inv (X.suite e) pins σ H s := ⟨I.ok.suite e, I.os, I.bare, I.base, I.loc, I.cell, I.free, I.freeC, I.pin, I.hok, I.len⟩
theorem Inv.unsuite (ok : X.Ok) (I : Inv (X.suite e) pins σ H s) : Inv X pins σ H s := ⟨ok, I.os, I.bare, I.base, I.loc, I.cell, I.free, I.freeC, I.pin, I.hok, I.len⟩
theorem Un.track {fs : List Addr} {h h' : Heap} {o : HO} (u : Un fs [] H H' h h') (hn : h.get? e = none) (he : H' e = none) : Un fs [] H (upd H' e o) h h' where
 keep := u.keep
 slot := u.slot
 free := fun b ob q n hx => by
  have ne : b ≠ e := fun z => by rw [z, hn] at q; cases q
  rw [Qq ne]
  exact u.free b ob q n hx
 there := u.there
 tups := fun b xs q => by have := u.tups b xs q; rw [Qq (Qr this he)]; exact this
 frzs := fun b ob v q => by have := u.frzs b ob v q; rw [Qq (Qr this he)]; exact this
 tbls := fun b ps q => by
  obtain ⟨m, e1⟩ := u.tbls b ps q
  exact ⟨m, by rw [Qq (Qr e1 he)]; exact e1⟩
theorem HOk.track {P : Program} {w : World} {h : Heap} {o : HO} (x : HOk P w H' h) (he : H' e = none) (new : ObjOk P w (upd H' e o) h e o) : HOk P w (upd H' e o) h := fun b u q => by
 by_cases hb : b = e
 ·subst hb; rw [Qe] at q; cases q; exact new
 ·rw [Qq hb] at q
  exact (x b u q).stay (fun _ _ _ q => q) (fun c q => by rw [Qq (Qr q he)]; exact q) fun c xs q => by rw [Qq (Qr q he)]; exact q
theorem Qir {M : Model} {A : Around} {E : Value → Shared → Prop} {i : Nat} {x : Str} {v : V} {Q : Unit → Shared → Prop} (I : Inv X pins σ H s) (hN : X.N.Nodup) (hi : X.N[i]? = some x) (hk : X.env.scope.names.lookup x = some .local) (hv : σ[i]? = some (some v))
  (h : ∀ s', Inv X pins (σ.set i none) H s' → Q () s') : wpAny M A (unbindName X.env x) Q E s := by
 obtain ⟨m, hn, hl⟩ := id I.loc
 have hcls : (X.env.scope.kind == .class || (X.env.scope.kind == .module && X.env.locals != X.env.globals)) = false := by rw [I.ok.kind]; rfl
 have cne := I.cne
 obtain ⟨u, _, lk⟩ := hl i x v hi hv (.inl hk)
 have hm : m x = some u := by
  rcases lk with ⟨_, z⟩ | ⟨z, _⟩
  ·exact z
  ·rcases z with z | z
   ·have := (show X.env.scope.names.lookup x = some .cell from z); rw [hk] at this; cases this
   ·have := (show X.env.scope.names.lookup x = some .free from z); rw [hk] at this; cases this
 have hiσ : i < σ.length := by rw [I.len]; exact (kY.mp hi).1
 have tracked : ∀ {a : Addr} {h' : Heap}, (∃ o, s.heap.get? a = some o ∧ H a = none) → Heap.SameBut a s.heap h' → HOk X.prog X.w H h' := fun {a h'} ha hs => HOk.but I.hok ha.choose_spec.2 hs
 refine wpAny_unbindName_local hk hn hm hcls fun h' u' hn' hs => ?_
 obtain ⟨oL, _, _, hoL, _⟩ := id hn
 refine h _ ⟨I.ok, I.os, I.bare, ⟨fun b o e n hb hx => ?_, fun b o e n hb hx => ?_, I.base.free, fun b o e hx => ?_, I.base.tups, I.base.frzs, I.base.tbls⟩, ⟨_, hn', fun j y v' e1 e2 e3 => ?_⟩, fun y c e => ?_, I.free, I.freeC, fun p hp => ?_, tracked ⟨oL, hoL, I.free⟩ hs, by simpa using I.len⟩
 ·exact (hs.2 b (zQ (yW (kJ e) I.ok.above))).trans (I.base.keep b o e n hb hx)
 ·obtain ⟨sl, e1⟩ := I.base.slot b o e n hb hx
  exact ⟨sl, (hs.2 b (zQ (yW (kJ e) I.ok.above))).trans e1⟩
 ·obtain ⟨o', e1⟩ := I.base.there b o e hx
  exact ⟨o', (hs.2 b (zQ (yW (kJ e) I.ok.above))).trans e1⟩
 ·by_cases hj : j = i
  ·subst hj
   rw [jZa hiσ] at e2
   cases e2
  ·rw [kZd (Ne.symm hj)] at e2
   obtain ⟨w', r', q⟩ := hl j y v' e1 e2 e3
   refine ⟨w', r', ?_⟩
   rcases q with ⟨k, e⟩ | ⟨k, c, e, z⟩
   ·refine .inl ⟨k, ?_⟩
    have : y ≠ x := fun e => hj (Qaj hN e1 (e ▸ hi))
    simp [this, e]
   ·exact .inr ⟨k, c, e, z.sameBut hs (cne y c e)⟩
 ·obtain ⟨w', z⟩ := I.cell y c e
  exact ⟨w', z.sameBut hs (cne y c e)⟩
 ·obtain ⟨e, n, ne, nf, d⟩ := I.pin p hp
  exact ⟨(hs.2 p.1 ne).trans e, n, ne, nf, d⟩
end
def IsA (K : Fg) (C D : Addr) : Prop := ∀ (M : Model) (A : Around) (E : Value → Shared → Prop) (s : Shared) (e : Addr) (ob : Obj) (Q : Bool → Shared → Prop), K.In s.heap → s.heap.get? e = some ob → ob.cls = .ref C → Q true s → wpAny M A (excMatches (.ref e) (.ref D)) Q E s
section
variable {X : Cx} {k : Nat} {f C D : Addr} {fd : FuncData} {ps : List Str} {sp : Sp} {g x n c : Str} {p np pc pn cpos epos hpos apos pos : Pos} {a : Expr} {es : List Expr} {t : TA} {i j : Nat}
end
end L2
namespace L2
open PySem PySem.Spec PySem.Calls PyProof.Rows PySem.W
structure ExcIn (K : Frag) (C : Addr) : Prop where
 ga : findIn K (.ref C) "__getattribute__" = some (some (.builtin "BaseException.__getattribute__"))
 gn : findIn K (.ref C) "__getattr__" = some none
 cl : findIn K (.ref C) "__class__" = some (some (.builtin "object.__class__"))
 mo : mroIn K C (.type "object") = some true
 mb : mroIn K C (.type "BaseException") = some true
section
variable {prog : Program} {w : World} {A : Around} {E : Value → Shared → Prop} {h : Heap} {g : Array GenState} {d : Drawn} {t : Nat} {os : OsState} {a C : Addr} {o : Obj} {K : Frag}
theorem Zw {M : Model} (hx : h.get? a = some o) (hc : o.cls = .ref C) : Looks M h (typeOf (.ref a)) (.ref C) := hc ▸ (Looks.ld hx).andThen .now
open Builtin Builtin.ObjectAttr Builtin.Getset_descriptor in
theorem ex_get {R : Result → Shared → Prop} {tp : Value} (X : K.In h) (Z : ExcIn K C) (hx : h.get? a = some o) (hc : o.cls = .ref C) (hq : R (.ok (.ret (.ref C))) ⟨h, g, d, t, os⟩) :
  codeAny (model prog w) A (.call (.builtin "getset_descriptor.__get__") ⟨[.builtin "object.__class__", .ref a, tp], []⟩) R ⟨h, g, d, t, os⟩ := by
 have L0 := Zw (M := model prog w) hx hc
 have L1 := looks_mroIn (M := model prog w) X Z.mo
 refine codeAny_call_builtin KF.slot_gs.plain KF.entry_gs (KF.slot_gs.check _ _ _ _ _ _ _ _ KF.type_class (KF.args_gs _ _ _) ?_)
 unfold Builtin.«getset_descriptor.__get__» descrGet
 rw [dga_obj]
 refine jX (kW ?_)
 unfold descrGetter descrCheckInstance descrNameAndClass isInstance
 simp only [KF.owner_class]
 repeat lk
 refine ⟨Code.quiet_builtin _ (by decide +kernel), codeAny_builtin KF.entry_class ?_⟩
 unfold Builtin.«object.__class__» shownTypeOf
 repeat lk
 exact hq
theorem Qlt {tk : Tok} {Q : Fin → Shared → Prop} (X : K.In h) (Z : ExcIn K C) (hx : h.get? a = some o) (hc : o.cls = .ref C) (hq : Q (.done (.ret (.ref C))) ⟨h, g, d, t, os⟩) :
  wpAny (model prog w) A (Builtin.«object.__getattribute__» ⟨[.ref a, .str "__class__" tk], []⟩) Q E ⟨h, g, d, t, os⟩ := by
 have L0 := Zw (M := model prog w) hx hc
 have L1 := looks_findIn (M := model prog w) X Z.cl
 have hT5 : (⟨h, g, d, t, os⟩ : Shared).TypeIs (.builtin "object.__class__") "getset_descriptor" := F.typeOf_object_class
 have f5 := F.typeOf_object_class
 have f6 := F.slot_gs_get.lookup
 have f7 := F.slot_gs_set.lookup
 repeat (any_goals (first | assumption | (with_reducible refine wpAny_loadPart_at hx ?_; rw [hc]) | with_reducible refine Looks.at (by assumption) ?_ | wp_step))
 refine ex_get X Z hx hc ?_
 repeat (any_goals (first | assumption | wp_step))
theorem Qov {tk : Tok} {R : Result → Shared → Prop} (X : K.In h) (Z : ExcIn K C) (hx : h.get? a = some o) (hc : o.cls = .ref C) (hq : R (.ok (.ret (.ref C))) ⟨h, g, d, t, os⟩) :
  codeAny (model prog w) A (.call (.builtin "BaseException.__getattribute__") ⟨[.ref a, .str "__class__" tk], []⟩) R ⟨h, g, d, t, os⟩ := by
 refine codeAny_call_builtin F.excAttr_ValueError.ga.plain F.entry_bexc_ga ?_
 have hk : builtinKind "BaseException.__getattribute__" = some .slot := by decide +kernel
 have hp : splitId "BaseException.__getattribute__" = some ("BaseException", "__getattribute__") := by decide +kernel
 have ha := F.args_bexc_ga (.ref a) (.str "__class__" tk)
 have L0 := Zw (M := model prog w) hx hc
 have L1 := looks_mroIn (M := model prog w) X Z.mb
 have L2 : Looks (model prog w) h (isInstance (.ref a) (.type "BaseException")) true := L0.andThen L1
 simp only [checkBuiltinCall, hk, hp]
 refine jX (L2.at ?_)
 repeat (first | exact Qlt X Z hx hc hq | wp_step)
theorem ex_by {tk : Tok} {fill expr : Bool} {Q : Value → Shared → Prop} (X : K.In h) (Z : ExcIn K C) (hx : h.get? a = some o) (hc : o.cls = .ref C) (hq : Q (.ref C) ⟨h, g, d, t, os⟩) :
  wpAny (model prog w) A (getAttrBy (.ref a) (.str "__class__" tk) fill expr) Q E ⟨h, g, d, t, os⟩ := by
 have L0 := Zw (M := model prog w) hx hc
 have L1 := looks_findIn (M := model prog w) X Z.ga
 have L2 := looks_findIn (M := model prog w) X Z.gn
 have f3 := F.excAttr_ValueError.ga.bind (.ref a)
 have hx0 : (expr && onTheHeap (Value.builtin "BaseException.__getattribute__")) = false := by cases expr <;> rfl
 have hx2 : (Value.builtin "BaseException.__getattribute__" == Value.builtin "object.__getattribute__") = false := by decide +kernel
 have hx1 : (onTheHeap (Value.ref C) && Value.builtin "BaseException.__getattribute__" == Value.builtin "object.__getattribute__") = false := by rw [hx2]; rfl
 repeat (any_goals (first | assumption | with_reducible refine Looks.at (by assumption) ?_ | wp_step))
 refine Qov X Z hx hc ?_
 repeat (any_goals (first | assumption | wp_step))
theorem Qow {Q : Option Value → Shared → Prop} {s : Shared} (X : K.In s.heap) (Z : ExcIn K C) (hx : s.heap.get? a = some o) (hc : o.cls = .ref C) (hq : Q (some (.ref C)) { s with toks := s.toks + 1 }) :
  wpAny (model prog w) A (getAttr? (.ref a) "__class__") Q E s := by
 obtain ⟨h, g, d, t, os⟩ := s
 unfold getAttr? getAttrBy?
 repeat (any_goals (first | assumption | with_reducible refine ex_by X Z hx hc ?_ | wp_step))
end
end L2
namespace L2
open PySem PySem.Spec PySem.Calls PyProof.Rows PySem.W
abbrev vErr : List Value := [.type "ValueError", .type "Exception", .type "BaseException", .type "object"]
theorem Vu {K : Frag} {C : Addr} {b : Value} {r : Bool} (e : mroIn K C b = some r) : ∃ c d cd sl, K.lookup C = some ⟨c, d, .cls cd, sl⟩ := by
 obtain ⟨cd, e1, _⟩ := Option.bind_eq_some_iff.mp e
 unfold clsIn at e1
 split at e1
 ·rename_i c d cd' sl ho
  exact ⟨c, d, cd', sl, ho⟩
 ·cases e1
theorem Qat {K : Frag} {a C : Addr} (Z : ExcIn K C) : KitX K (.ref a) (.ref C) (fun h => ∃ o, h.get? a = some o ∧ o.cls = .ref C) where
 ty := fun M h X ⟨o, hx, hc⟩ => Zw hx hc
 it := fun M h X _ => by
  obtain ⟨c, d, cd, sl, ho⟩ := Vu Z.mo
  intro A Q E s k q
  unfold isType loadHead
  exact jX (wpAny_loadPart (k _ _ (X _ _ ho)) (kW q))
 ne := fun h tp dd its n sl X e => by
  obtain ⟨c, d, cd, sl', ho⟩ := Vu Z.mo
  have hC := X _ _ ho
  refine beq_eq_false_iff_ne.mpr fun z => ?_
  cases z
  rw [hC] at e
  cases e
 ca := fun X ⟨o, hx, hc⟩ q => Qow X Z hx hc q
theorem Qdm : ∀ {Ds : List Addr} {its : List Value}, Vals (Ds.map V.ref) its → its = Ds.map Value.ref
 | [], _, .nil => rfl
 | D :: r, _, .cons a b => by cases a; rw [xQ, Qdm b]
section
variable {X : Cx}
end
def Big (i : Int) : Prop := i.natAbs < 2 ^ 4000
section
variable {X : Cx}
theorem Qlu : OpR X (binaryOp .FloorDiv) (rI (fun _ j => j ≠ 0 ∧ Big j) fun i j => .int (i.fdiv j)) := opI fun i j _ _ _ _ _ hc q => floordiv_int hc.1 q (.inl (PyProof.noPylong_of_log2 (yW ((Nat.log2_lt (by have := hc.1; omega)).mpr hc.2) (by decide))))
end
section
variable {P : Program} {w : World} {K : Fg} {mg : Str → Option Value} {base : Heap} {N : List Str} {qual : Str} {scope : Scope} {f : Addr} {cd : Value} {A : Around} {outer : List Env} {s₀ : Shared} {H₀ : Hp} {E : XK} {C : Addr}
end
end L2
namespace L2
open PySem PySem.Spec PySem.Calls PyProof.Rows PySem.W
theorem isA_of {K : Frag} {C D : Addr} (h1 : mroIn K C (.ref D) = some true) (h2 : mroIn K D (.type "BaseException") = some true) (h3 : typeIn K (.ref D) = some (.type "type")) : IsA K C D := by
 intro M A E s e ob Q X hx hc q
 have L0 := Zw (M := M) hx hc
 have L1 := looks_mroIn (M := M) X h1
 have L2 := looks_mroIn (M := M) X h2
 have L3 := looks_typeIn (M := M) X h3
 have L4 : Looks M s.heap (isSubtype (.type "type") (.type "tuple")) false := Looks.of_pure tc_notTuple
 have L5 : Looks M s.heap (isInstance (.ref D) (.type "tuple")) false := L3.andThen L4
 have L6 : Looks M s.heap (isType (.ref D)) true := by
  obtain ⟨c, d, cd, sl, ho⟩ := Vu h2
  intro A Q E s' k q
  unfold isType loadHead
  exact jX (wpAny_loadPart (k _ _ (X _ _ ho)) (kW q))
 unfold excMatches
 refine jX (L5.at ?_)
 unfold isExcClass
 repeat (any_goals (first | exact q | with_reducible refine Looks.at (by assumption) ?_ | wp_step))
section
variable {X : Cx}
end
end L2
namespace L2
open PySem PySem.W PyProof.Rows
section
variable {r : Nat → Int} {n : Nat}
end
end L2
namespace L2
open PySem PySem.Spec PySem.W PyProof.Rows
open PySem.SeqAt
section
variable {prog : Program} {w : World} {A : Around} {E : Value → Shared → Prop} {s : Shared}
end
section
variable {prog : Program} {w : World} {A : Around} {E : Value → Shared → Prop} {s : Shared}
end
end L2
namespace L2
open PySem PySem.Spec PySem.W PyProof.Rows
open PySem.SeqAt
section
variable {prog : Program} {w : World} {A : Around} {E : Value → Shared → Prop} {s : Shared}
end
section
variable {X : Cx}
end
end L2
namespace L2
open PySem PySem.Spec PyProof.Rows PySem.W
structure Tab (w : World) (K : Frag) (mg : Str → Option Value) (x : Str) (a : Addr) (f : Str → Option Value) : Prop where
 bound : mg x = some (.ref a)
 map : ∀ (P : Program) (h : Heap), K.In h → h.MapOf (strKind P w) a f
 low : (a == sysModules) = false
theorem tab_mk {w : World} {K : Frag} {mg : Str → Option Value} {x : Str} {a : Addr} {es : Array DictEntry} {n : Nat} (hb : mg x = some (.ref a)) (hl : K.lookup a = some ⟨.type "dict", none, .dict es n, #[]⟩) (hk : KeysLit w.params es.toList) (lo : (a == sysModules) = false) :
  Tab w K mg x a (fun k => findBy Value.isStrOf es k) := ⟨hb, fun P h X => mapOf_K (prog := P) X hl hk, lo⟩
def rTab (a : Addr) (f : Str → Option Value) : R2 := fun x y H Q => ∃ s v z, x = .ref a ∧ y = .str s ∧ f s = some v ∧ RelV z v ∧ Q z H
section
variable {X : Cx}
theorem Qis {x : Str} {a : Addr} {f : Str → Option Value} {i : Expr} {ti : TE} {p : Pos} (T : Tab X.w X.K X.mg x a f) (hi : PE X i ti) (hg : autoParam (Gl X x) L2.aRfl._auto_1) (hd : autoParam ((x == ("__debug__" : Str)) = false) L2.aDec._auto_1) :
  PC X .NotIn i (.Name x p) (fun σ H Q => ti σ H fun y H1 => ∃ s, y = .str s ∧ Q (.bl (!(f s).isSome)) H1) := by
 intro pins s σ H Q I h
 refine thn (hi pins s σ H _ I h) fun iv s1 ⟨y, H1, I1, ry, z, ey, q1⟩ => thn (Zh (v := .ref a) hg T.bound rfl hd pins s1 σ H1 (fun v H2 => v = .ref a ∧ H2 = H1) I1 ⟨rfl, rfl⟩) fun u s2 hqP => ?_
 obtain ⟨x2, H2, I2, rx, e1, e2⟩ := hqP
 subst ey e1 e2
 cases rx
 obtain ⟨t, rfl⟩ := ry
 exact wpAny_notIn_of (knd := strKind X.prog X.w) (strKind_is X.prog X.w z t) T.low (T.map X.prog _ I2.kIn) ⟨.bl _, H2, I2.tok _, rfl, q1⟩
theorem ix_tab {x : Str} {a : Addr} {f : Str → Option Value} (T : Tab X.w X.K X.mg x a f) : IxR X (rTab a f) := by
 intro value slice pins s σ H x y v u Q I rx ry h hs
 obtain ⟨z, w', r, rfl, rfl, hf, rv, q⟩ := h
 cases rx
 obtain ⟨t, rfl⟩ := ry
 have hm := T.map X.prog _ I.kIn
 exact tail_any hm.typeIs slot_dict_getitem.lookup (wpAny_getItem_of (strKind_is X.prog X.w z t) hm hf ⟨r, H, I.tok _, rv, q⟩) hs
end
theorem Qeu : bootBuiltins "str" = some (.type "str") := by decide +kernel
end L2
namespace L2
open PySem PySem.Spec PySem.W PyProof.Rows
open PySem.SeqAt
section
variable {A : Around} {s : Shared}
end
section
variable {X : Cx}
open Classical in
open Classical in
end
end L2
namespace L2
open PySem PySem.Spec PySem.W PyProof.Rows
open PySem.SeqAt
section
variable {X : Cx}
open Classical in
end
end L2
namespace HT
open PySem PySem.Spec PyProof.Rows
section
variable {prog : Program} {w : World} {A : Around} {E : Value → Shared → Prop} {s : Shared}
end
end HT
namespace L2
open PySem PySem.Spec PySem.W PyProof.Rows
open PySem.SeqAt
section
variable {X : Cx}
end
end L2
namespace L2
open PySem
section
variable {X : Cx}
theorem Qdn {a b c es} {te : TE} {t : TA} (ha : PE X (.Constant a b c) te) (hr : PA X es t) : PA X (.Constant a b c :: es) (Qam te t) := Qa ha hr
theorem Qlv {a b c es} {te : TE} {t : TA} (ha : PE X (.Tuple a b c) te) (hr : PA X es t) : PA X (.Tuple a b c :: es) (Qam te t) := Qa ha hr
theorem Qox {a b es} {te : TE} {t : TA} (ha : PE X (.List a b) te) (hr : PA X es t) : PA X (.List a b :: es) (Qam te t) := Qa ha hr
theorem Qgk {a b c es} {te : TE} {t : TA} (ha : PE X (.UnaryOp a b c) te) (hr : PA X es t) : PA X (.UnaryOp a b c :: es) (Qam te t) := Qa ha hr
end
section
variable {X : Cx}
@[irreducible] def QE (X : Cx) (e : Expr) (t : TE) : Prop := PE X e t
@[irreducible] def QA (X : Cx) (es : List Expr) (t : TA) : Prop := PA X es t
@[irreducible] def QS (X : Cx) (st : Stmt) (t : TS) : Prop := PS X st t
@[irreducible] def QSs (X : Cx) (st : List Stmt) (t : TS) : Prop := PSs X st t
theorem QE.of {e : Expr} {t : TE} (h : PE X e t) : QE X e t := by unfold QE; exact h
theorem QE.pe {e : Expr} {t : TE} (h : QE X e t) : PE X e t := by unfold QE at h; exact h
theorem QA.of {es : List Expr} {t : TA} (h : PA X es t) : QA X es t := by unfold QA; exact h
theorem QA.pa {es : List Expr} {t : TA} (h : QA X es t) : PA X es t := by unfold QA at h; exact h
theorem QS.of {st : Stmt} {t : TS} (h : PS X st t) : QS X st t := by unfold QS; exact h
theorem QS.ps {st : Stmt} {t : TS} (h : QS X st t) : PS X st t := by unfold QS at h; exact h
theorem QSs.of {st : List Stmt} {t : TS} (h : PSs X st t) : QSs X st t := by unfold QSs; exact h
theorem QSs.pss {st : List Stmt} {t : TS} (h : QSs X st t) : PSs X st t := by unfold QSs at h; exact h
theorem Kv : QA X [] tNil := .of Qf
theorem Xb {a b c es} {te : TE} {t : TA} (ha : QE X (.Constant a b c) te) (hr : QA X es t) : QA X (.Constant a b c :: es) (Qam te t) := .of (Qdn ha.pe hr.pa)
theorem Qlw {a b c es} {te : TE} {t : TA} (ha : QE X (.Tuple a b c) te) (hr : QA X es t) : QA X (.Tuple a b c :: es) (Qam te t) := .of (Qlv ha.pe hr.pa)
theorem Qit {a b es} {te : TE} {t : TA} (ha : QE X (.List a b) te) (hr : QA X es t) : QA X (.List a b :: es) (Qam te t) := .of (Qox ha.pe hr.pa)
theorem Qgl {a b c es} {te : TE} {t : TA} (ha : QE X (.UnaryOp a b c) te) (hr : QA X es t) : QA X (.UnaryOp a b c :: es) (Qam te t) := .of (Qgk ha.pe hr.pa)
theorem qe_tup {es : List Expr} {t : TA} {x1} {pos : Pos} (h : QA X es t) : QE X (.Tuple es x1 pos) (tTup t) := .of (Qej h.pa)
theorem Vv {es : List Expr} {t : TA} {pos : Pos} (h : QA X es t) : QE X (.List es pos) (tLst t) := .of (Xa h.pa)
theorem Je : QSs X [] tNext := .of Qu
theorem Yb {st : Stmt} {rest : List Stmt} {t u : TS} (h1 : QS X st t) (h2 : QSs X rest u) : QSs X (st :: rest) (tSeq t u) := .of (Qg h1.ps h2.pss)
theorem Zq {st : Stmt} {t : TS} (h1 : QS X st t) : QSs X [st] t := .of (Qi h1.ps)
theorem Qck {i : Nat} {x : Str} {e : Expr} {te : TE} {pos pos' : Pos} (hN : X.N.Nodup) (hi : X.N[i]? = some x) (hx : Loc X.env.scope x) (he : QE X e te) (hs : autoParam (swapsWith e (some (.Name x pos')) pos.line X.env = pure false) L2.aRfl._auto_1) (hf : autoParam (X.fn x = true ∨ X.env.scope.names.lookup x = some .local) L2.aFst._auto_1) :
  QS X (.Assign [.Name x pos'] e pos) (tAsg te (Wr i)) := .of (Qs hN hi hx he.pe hs hf)
theorem Jo {e : Expr} {te : TE} {pos : Pos} (he : QE X e te) : QS X (.Return (some e) pos) (tRet te) := .of (Qv he.pe)
theorem Qcl {c : Expr} {a b : List Stmt} {t u : TS} {tc : TT} {pos : Pos} (hc : PT X c tc) (ha : QSs X a t) (hb : QSs X b u) : QS X (.If c a b pos) (tIfS tc t u) := .of (Xi hc ha.pss hb.pss)
theorem lenS {α : Type} {l : List α} {n : Nat} (h : l.length = n + 1) : ∃ a t, l = a :: t ∧ t.length = n := by
 cases l with
 | nil => exact absurd h (Nat.succ_ne_zero n).symm
 | cons a t => exact ⟨a, t, rfl, Nat.succ.inj h⟩
theorem len1 {α : Type} {l : List α} (h : l.length = 1) : ∃ a, l = [a] := by
 obtain ⟨a, t, rfl, h'⟩ := lenS h
 exact ⟨a, congrArg _ (jQb.mp h')⟩
theorem len2 {α : Type} {l : List α} (h : l.length = 2) : ∃ a b, l = [a, b] := by
 obtain ⟨a, t, rfl, h'⟩ := lenS h
 obtain ⟨b, rfl⟩ := len1 h'
 exact ⟨a, b, rfl⟩
theorem len3 {α : Type} {l : List α} (h : l.length = 3) : ∃ a b c, l = [a, b, c] := by
 obtain ⟨a, t, rfl, h'⟩ := lenS h
 obtain ⟨b, c, rfl⟩ := len2 h'
 exact ⟨a, b, c, rfl⟩
theorem len4 {α : Type} {l : List α} (h : l.length = 4) : ∃ a b c d, l = [a, b, c, d] := by
 obtain ⟨a, t, rfl, h'⟩ := lenS h
 obtain ⟨b, c, d, rfl⟩ := len3 h'
 exact ⟨a, b, c, d, rfl⟩
theorem len5 {α : Type} {l : List α} (h : l.length = 5) : ∃ a b c d e, l = [a, b, c, d, e] := by
 obtain ⟨a, t, rfl, h'⟩ := lenS h
 obtain ⟨b, c, d, e, rfl⟩ := len4 h'
 exact ⟨a, b, c, d, e, rfl⟩
theorem bind1 {F : List Value → Prop} (h : ∀ a, F [a]) : ∀ us : List Value, us.length = 1 → F us := fun us hl => by
 obtain ⟨a, rfl⟩ := len1 hl
 exact h a
theorem Qcm {F : List Value → Prop} (h : ∀ a b, F [a, b]) : ∀ us : List Value, us.length = 2 → F us := fun us hl => by
 obtain ⟨a, b, rfl⟩ := len2 hl
 exact h a b
theorem Qcn {F : List Value → Prop} (h : ∀ a b c, F [a, b, c]) : ∀ us : List Value, us.length = 3 → F us := fun us hl => by
 obtain ⟨a, b, c, rfl⟩ := len3 hl
 exact h a b c
theorem bind5 {F : List Value → Prop} (h : ∀ a b c d e, F [a, b, c, d, e]) : ∀ us : List Value, us.length = 5 → F us := fun us hl => by
 obtain ⟨a, b, c, d, e, rfl⟩ := len5 hl
 exact h a b c d e
theorem Qau {s1 s2 s3 : TS} {D : Ends} {σ : St} {H : Hp} (h : let r3 : TS := s3; let r2 : TS := tSeq s2 r3; tSeq s1 r2 D σ H) : (tSeq s1 (tSeq s2 (s3))) D σ H := h
theorem Jk {s1 s2 s3 s4 : TS} {D : Ends} {σ : St} {H : Hp} (h : let r4 : TS := s4; let r3 : TS := tSeq s3 r4; let r2 : TS := tSeq s2 r3; tSeq s1 r2 D σ H) : (tSeq s1 (tSeq s2 (tSeq s3 (s4)))) D σ H := h
theorem Ke {s1 s2 s3 s4 s5 : TS} {D : Ends} {σ : St} {H : Hp} (h : let r5 : TS := s5; let r4 : TS := tSeq s4 r5; let r3 : TS := tSeq s3 r4; let r2 : TS := tSeq s2 r3; tSeq s1 r2 D σ H) : (tSeq s1 (tSeq s2 (tSeq s3 (tSeq s4 (s5))))) D σ H := h
theorem Qav {s1 s2 s3 s4 s5 s6 : TS} {D : Ends} {σ : St} {H : Hp} (h : let r6 : TS := s6; let r5 : TS := tSeq s5 r6; let r4 : TS := tSeq s4 r5; let r3 : TS := tSeq s3 r4; let r2 : TS := tSeq s2 r3; tSeq s1 r2 D σ H) : (tSeq s1 (tSeq s2 (tSeq s3 (tSeq s4 (tSeq s5 (s6)))))) D σ H := h
theorem Qlx {s1 s2 s3 s4 s5 s6 s7 : TS} {D : Ends} {σ : St} {H : Hp} (h : let r7 : TS := s7; let r6 : TS := tSeq s6 r7; let r5 : TS := tSeq s5 r6; let r4 : TS := tSeq s4 r5; let r3 : TS := tSeq s3 r4; let r2 : TS := tSeq s2 r3; tSeq s1 r2 D σ H) : (tSeq s1 (tSeq s2 (tSeq s3 (tSeq s4 (tSeq s5 (tSeq s6 (s7))))))) D σ H := h
theorem Qly {s1 s2 s3 s4 s5 s6 s7 s8 s9 : TS} {D : Ends} {σ : St} {H : Hp} (h : let r9 : TS := s9; let r8 : TS := tSeq s8 r9; let r7 : TS := tSeq s7 r8; let r6 : TS := tSeq s6 r7; let r5 : TS := tSeq s5 r6; let r4 : TS := tSeq s4 r5; let r3 : TS := tSeq s3 r4; let r2 : TS := tSeq s2 r3; tSeq s1 r2 D σ H) : (tSeq s1 (tSeq s2 (tSeq s3 (tSeq s4 (tSeq s5 (tSeq s6 (tSeq s7 (tSeq s8 (s9))))))))) D σ H := h
theorem Qiu {s1 s2 s3 s4 s5 s6 s7 s8 s9 s10 s11 : TS} {D : Ends} {σ : St} {H : Hp} (h : let r11 : TS := s11; let r10 : TS := tSeq s10 r11; let r9 : TS := tSeq s9 r10; let r8 : TS := tSeq s8 r9; let r7 : TS := tSeq s7 r8; let r6 : TS := tSeq s6 r7; let r5 : TS := tSeq s5 r6; let r4 : TS := tSeq s4 r5; let r3 : TS := tSeq s3 r4; let r2 : TS := tSeq s2 r3; tSeq s1 r2 D σ H) : (tSeq s1 (tSeq s2 (tSeq s3 (tSeq s4 (tSeq s5 (tSeq s6 (tSeq s7 (tSeq s8 (tSeq s9 (tSeq s10 (s11))))))))))) D σ H := h
theorem Qiv {s1 s2 s3 s4 s5 s6 s7 s8 s9 s10 s11 s12 s13 s14 s15 : TS} {D : Ends} {σ : St} {H : Hp} (h : let r15 : TS := s15; let r14 : TS := tSeq s14 r15; let r13 : TS := tSeq s13 r14; let r12 : TS := tSeq s12 r13; let r11 : TS := tSeq s11 r12; let r10 : TS := tSeq s10 r11; let r9 : TS := tSeq s9 r10; let r8 : TS := tSeq s8 r9; let r7 : TS := tSeq s7 r8; let r6 : TS := tSeq s6 r7; let r5 : TS := tSeq s5 r6; let r4 : TS := tSeq s4 r5; let r3 : TS := tSeq s3 r4; let r2 : TS := tSeq s2 r3; tSeq s1 r2 D σ H) : (tSeq s1 (tSeq s2 (tSeq s3 (tSeq s4 (tSeq s5 (tSeq s6 (tSeq s7 (tSeq s8 (tSeq s9 (tSeq s10 (tSeq s11 (tSeq s12 (tSeq s13 (tSeq s14 (s15))))))))))))))) D σ H := h
end
end L2
namespace L2
open PySem PySem.Spec PyProof.Rows PySem.W
section
variable {prog : Program} {w : World} {A : Around} {R : Result → Shared → Prop} {I : Addr} {fp wr : List Addr} {n : Nat} {P : Nat → Value → Prop} {St : Nat → Heap → Prop}
end
section
variable {prog : Program} {w : World} {A : Around} {E : Value → Shared → Prop} {s : Shared} {l : Addr} {xs : Array (Int × Tok)}
end
section
variable {X : Cx}
end
section
variable {X : Cx}
end
end L2
namespace Nb
open PySem L2
def top (i : Nat) : Stmt := PySem.Challenge.pw_nonebetter_k50_books_looked_at.main.body.getD i (.Pass ⟨0, 0, 0, 0⟩)
abbrev Qev : Stmt := top 22
abbrev Qew : Stmt := top 23
def NmOk (x : Str) : Prop := 1 ≤ x.length ∧ x.length ≤ 12 ∧ ∀ c ∈ x.cps.toList, 97 ≤ c ∧ c ≤ 122
inductive BR where
 | days (n : Int)
 | bench (b : Str) (r : Int)
 | shut (b : Str) (f t : Int)
 | store (s : Str) (m f : Int)
 | work (w : Str)
 | way (w v : Str) (l c : Int)
 | use (k : Fin 3) (w v t : Str) (m : Int)
 | after (w x : Str) (g : Int)
 | late (w : Str) (d c : Int)
def useW : Fin 3 → Str
 | 0 => "uses"
 | 1 => "takes"
 | 2 => "gives"
def BR.word : BR → Str
 | .days _ => "days"
 | .bench _ _ => "bench"
 | .shut _ _ _ => "shut"
 | .store _ _ _ => "store"
 | .work _ => "work"
 | .way _ _ _ _ => "way"
 | .use k _ _ _ _ => useW k
 | .after _ _ _ => "after"
 | .late _ _ _ => "late"
def BR.names : BR → List Str
 | .days _ => []
 | .bench b _ => [b]
 | .shut b _ _ => [b]
 | .store s _ _ => [s]
 | .work w => [w]
 | .way w v _ _ => [w, v]
 | .use _ w v t _ => [w, v, t]
 | .after w x _ => [w, x]
 | .late w _ _ => [w]
def BR.nums : BR → List Int
 | .days n => [n]
 | .bench _ r => [r]
 | .shut _ f t => [f, t]
 | .store _ m f => [m, f]
 | .work _ => []
 | .way _ _ l c => [l, c]
 | .use _ _ _ _ m => [m]
 | .after _ _ g => [g]
 | .late _ d c => [d, c]
def BR.key (r : BR) : List Key := Sum.inr r.word :: r.names.map Sum.inr
def BR.cells (r : BR) : List Key := r.key ++ r.nums.map Sum.inl
def BR.own : BR → List Str
 | .work w => [w]
 | .way w _ _ _ => [w]
 | .use _ w _ _ _ => [w]
 | .after w x _ => [w, x]
 | .late w _ _ => [w]
 | _ => []
def BR.ok (n : Int) : BR → Prop
 | .days m => m = n
 | .bench _ r => 0 ≤ r ∧ r ≤ 99
 | .shut _ f t => 0 ≤ f ∧ f < t ∧ t ≤ n
 | .store _ m f => 0 ≤ f ∧ f ≤ m ∧ m ≤ 999
 | .work _ => True
 | .way _ _ l c => 1 ≤ l ∧ l ≤ n ∧ 0 ≤ c ∧ c ≤ 999999
 | .use _ _ _ _ m => 1 ≤ m ∧ m ≤ 99
 | .after w x g => w ≠ x ∧ 0 ≤ g ∧ g ≤ n
 | .late _ d c => 0 ≤ d ∧ d ≤ n ∧ 1 ≤ c ∧ c ≤ 999
def BR.gn (r : BR) : Prop := ∀ x ∈ r.names, NmOk x
def BR.needs : BR → List (List Key)
 | .days _ => []
 | .bench _ _ => [[Sum.inr "days"]]
 | .shut b _ _ => [[Sum.inr "bench", Sum.inr b]]
 | .store _ _ _ => [[Sum.inr "days"]]
 | .work _ => [[Sum.inr "days"]]
 | .way w _ _ _ => [[Sum.inr "work", Sum.inr w]]
 | .use 0 w v t _ => [[Sum.inr "way", Sum.inr w, Sum.inr v], [Sum.inr "bench", Sum.inr t]]
 | .use _ w v t _ => [[Sum.inr "way", Sum.inr w, Sum.inr v], [Sum.inr "store", Sum.inr t]]
 | .after w x _ => [[Sum.inr "work", Sum.inr w], [Sum.inr "work", Sum.inr x]]
 | .late w _ _ => [[Sum.inr "work", Sum.inr w]]
def Said (S : List BR) (k : List Key) : Prop := ∃ q ∈ S, q.key = k
theorem Said.mono {S S' : List BR} {k : List Key} (h : Said S k) (f : ∀ q ∈ S, q ∈ S') : Said S' k := by
 obtain ⟨q, hq, e⟩ := h
 exact ⟨q, f q hq, e⟩
def Ahead : List BR → List BR → Prop
 | _, [] => True
 | S, r :: T => (∀ k ∈ r.needs, Said S k) ∧ Ahead (S ++ [r]) T
theorem Ahead.mono : ∀ {T S S' : List BR}, Ahead S T → (∀ q ∈ S, q ∈ S') → Ahead S' T
 | [], _, _, _, _ => True.intro
 | r :: T, S, S', h, f => ⟨fun k hk => (h.1 k hk).mono f, Ahead.mono h.2 fun q hq => by
  rcases kQ.mp hq with z | z
  ·exact yJ _ (f q z)
  ·exact kZ _ z⟩
theorem Ahead.app : ∀ {T U S : List BR}, Ahead S T → Ahead (S ++ T) U → Ahead S (T ++ U)
 | [], U, S, _, h => by rw [jZc] at h; exact h
 | r :: T, U, S, h, h2 => ⟨h.1, Ahead.app h.2 (by rw [jQc]; exact h2)⟩
theorem Ahead.fst : ∀ {T U S : List BR}, Ahead S (T ++ U) → Ahead S T
 | [], _, _, _ => True.intro
 | _ :: _, _, _, h => ⟨h.1, Ahead.fst h.2⟩
theorem Ahead.snd : ∀ {T U S : List BR}, Ahead S (T ++ U) → Ahead (S ++ T) U
 | [], U, S, h => by rw [jZc]; exact h
 | r :: T, U, S, h => by
  have h5 := Ahead.snd h.2
  rw [jQc] at h5
  exact h5
theorem Ahead.one {S : List BR} {r : BR} (h : ∀ k ∈ r.needs, Said S k) : Ahead S [r] := ⟨h, True.intro⟩
theorem Ahead.ins {A C : List BR} {r : BR} (h : Ahead [] (A ++ C)) (hr : ∀ k ∈ r.needs, Said A k) : Ahead [] (A ++ [r] ++ C) :=
 (h.fst.app (Ahead.one (by rw [List.nil_append]; exact hr))).app (h.snd.mono fun q hq => by rw [List.nil_append] at hq ⊢; exact yJ _ hq)
def Apart (r q : BR) : Prop := r.word = "shut" ∨ q.word = "shut" ∨ r.key ≠ q.key
theorem Apart.symm {r q : BR} (h : Apart r q) : Apart q r := by
 rcases h with h | h | h
 ·exact .inr (.inl h)
 ·exact .inl h
 ·exact .inr (.inr h.symm)
theorem Qaa {r q : BR} (h : r.word ≠ q.word) : Apart r q := .inr (.inr fun z => h (by injection z with z1; injection z1))
structure WB (n : Int) (B : List BR) : Prop where
 ok : ∀ r ∈ B, r.ok n
 nd : B.Pairwise Apart
 ref : ∀ r ∈ B, ∀ w ∈ r.own, BR.work w ∈ B
 len : B.length ≤ 400
 few : ∃ nm : List Str, nm.length ≤ 5 ∧ ∀ r ∈ B, ∀ w ∈ r.own, w ∈ nm
theorem WB.perm {n : Int} {B C : List BR} (h : WB n B) (p : B.Perm C) : WB n C :=
 ⟨fun r hr => h.ok r (p.mem_iff.mpr hr), (p.pairwise_iff Apart.symm).mp h.nd, fun r hr w hw => p.mem_iff.mp (h.ref r (p.mem_iff.mpr hr) w hw), by rw [← p.length_eq]; exact h.len, h.few.elim fun nm q => ⟨nm, q.1, fun r hr w hw => q.2 r (p.mem_iff.mpr hr) w hw⟩⟩
def BR.kind : BR → Nat
 | .days _ => 0
 | .bench _ _ => 1
 | .shut _ _ _ => 2
 | .store _ _ _ => 3
 | .work _ => 4
 | .way _ _ _ _ => 5
 | .use k _ _ _ _ => 6 + k.val
 | .after _ _ _ => 9
 | .late _ _ _ => 10
def wordOf : Nat → Str
 | 0 => "days"
 | 1 => "bench"
 | 2 => "shut"
 | 3 => "store"
 | 4 => "work"
 | 5 => "way"
 | 6 => "uses"
 | 7 => "takes"
 | 8 => "gives"
 | 9 => "after"
 | _ => "late"
theorem Xz (r : BR) : r.word = wordOf r.kind := by
 cases r with
 | use k _ _ _ _ => match k with | 0 => rfl | 1 => rfl | 2 => rfl
 | _ => rfl
theorem Ye (r : BR) : r.kind < 11 := by
 cases r with
 | use k _ _ _ _ => show 6 + k.val < 11; omega
 | days n => show (0 : Nat) < 11; decide
 | bench b r => show (1 : Nat) < 11; decide
 | shut b f t => show (2 : Nat) < 11; decide
 | store b m f => show (3 : Nat) < 11; decide
 | work w => show (4 : Nat) < 11; decide
 | way w v l c => show (5 : Nat) < 11; decide
 | after w x g => show (9 : Nat) < 11; decide
 | late w d c => show (10 : Nat) < 11; decide
theorem Yl : ∀ i, i < 11 → ∀ j, j < 11 → wordOf i = wordOf j → i = j := by decide +kernel
theorem Kf (r : BR) {k : Nat} (hk : k < 11) : r.word = wordOf k ↔ r.kind = k := ⟨fun h => Yl _ (Ye r) _ hk (by rw [← Xz]; exact h), fun h => by rw [Xz, h]⟩
theorem Yx {r q : BR} (h : r.kind ≠ q.kind) : Apart r q := Qaa fun z => h (Yl _ (Ye r) _ (Ye q) (by rw [← Xz, ← Xz]; exact z))
theorem Qaw {r : BR} (h : r.kind = 5) : ∃ w v l c, r = .way w v l c := by
 cases r with
 | way w v l c => exact ⟨w, v, l, c, rfl⟩
 | use k _ _ _ _ => exact absurd (show 6 + k.val = 5 from h) (by omega)
 | _ => exact nomatch h
theorem Vw {r : BR} (h : r.kind = 4) : ∃ w, r = .work w := by
 cases r with
 | work w => exact ⟨w, rfl⟩
 | use k _ _ _ _ => exact absurd (show 6 + k.val = 4 from h) (by omega)
 | _ => exact nomatch h
theorem Qco {r : BR} (h : r.kind = 10) : ∃ w d c, r = .late w d c := by
 cases r with
 | late w d c => exact ⟨w, d, c, rfl⟩
 | use k _ _ _ _ => exact absurd (show 6 + k.val = 10 from h) (by omega)
 | _ => exact nomatch h
theorem Kq {r : BR} (h : r.kind = 9) : ∃ w x g, r = .after w x g := by
 cases r with
 | after w x g => exact ⟨w, x, g, rfl⟩
 | use k _ _ _ _ => exact absurd (show 6 + k.val = 9 from h) (by omega)
 | _ => exact nomatch h
theorem Kg {r : BR} (h : r.word = "way") : ∃ w v l c, r = .way w v l c := Qaw ((Kf r (k := 5) (by decide)).mp h)
theorem Qgm {r : BR} (h : r.word = "after") : ∃ w x g, r = .after w x g := Kq ((Kf r (k := 9) (by decide)).mp h)
def fl (x : Str) : Nat := x.cps.getD 0 0
def RowsB (H : Hp) (vs : List V) (B : List BR) : Prop := RowsL H vs (B.map BR.cells)
theorem Zr (r : BR) : atI (r.cells.map kV) 0 = some (.str r.word) := by cases r <;> rfl
theorem RowsB.get {H : Hp} {vs : List V} {B : List BR} (h : RowsB H vs B) {i : Nat} {v : V} (e : vs[i]? = some v) : ∃ r l, B[i]? = some r ∧ v = .ref l ∧ H l = some (.lst (r.cells.map kV)) := by
 obtain ⟨ks, e1, l, e2, h1⟩ := Jj h e
 rw [zK] at e1
 obtain ⟨r, e3, e4⟩ := jQe.mp e1
 exact ⟨r, l, e3, e2, by rw [e4]; exact h1⟩
theorem RowsB.imp {H H' : Hp} {vs : List V} {B : List BR} (h : RowsB H vs B) (f : ∀ l (r : BR), V.ref l ∈ vs → H l = some (.lst (r.cells.map kV)) → H' l = some (.lst (r.cells.map kV))) : RowsB H' vs B := by
 unfold RowsB at h ⊢
 induction B generalizing vs with
 | nil => cases h; exact .nil
 | cons r B ih =>
  cases h with
  | cons z t =>
   obtain ⟨l, e, h1⟩ := z
   exact .cons ⟨l, e, f l r (by rw [e]; exact jY) h1⟩ (ih t fun l r hm => f l r (kX _ hm))
theorem RowsB.same {H H' : Hp} {vs : List V} {B : List BR} (h : RowsB H vs B) (s : Same H H') : RowsB H' vs B := h.imp fun _ _ _ z => s _ _ z
theorem RowsB.length {H : Hp} {vs : List V} {B : List BR} (h : RowsB H vs B) : vs.length = B.length := by
 have := Paired.length h
 rwa [jW] at this
theorem RowsB.snoc {H : Hp} {vs : List V} {B : List BR} {r : BR} {l : Addr} (h : RowsB H vs B) (z : H l = some (.lst (r.cells.map kV))) : RowsB H (vs ++ [.ref l]) (B ++ [r]) := by
 unfold RowsB at h ⊢
 rw [jXe]
 exact Paired.snoc h ⟨l, rfl, z⟩
theorem Qgn {α β : Type} {R : α → β → Prop} {xs xs' : List α} {ys ys' : List β} (h1 : Paired R xs ys) (h2 : Paired R xs' ys') : Paired R (xs ++ xs') (ys ++ ys') := by
 induction h1 with
 | nil => exact h2
 | cons z _ ih => exact .cons z ih
theorem RowsB.app {H : Hp} {vs vs' : List V} {B B' : List BR} (h : RowsB H vs B) (h' : RowsB H vs' B') : RowsB H (vs ++ vs') (B ++ B') := by
 unfold RowsB at h h' ⊢
 rw [jXe]
 exact Qgn h h'
theorem Vx {α β : Type} {R : α → β → Prop} : ∀ {xs : List α} {ys : List β} (n : Nat), Paired R xs ys → Paired R (xs.take n) (ys.take n)
 | _, _, 0, _ => .nil
 | _, _, _ + 1, .nil => .nil
 | _, _, n + 1, .cons z t => .cons z (Vx n t)
theorem Vy {α β : Type} {R : α → β → Prop} : ∀ {xs : List α} {ys : List β} (n : Nat), Paired R xs ys → Paired R (xs.drop n) (ys.drop n)
 | _, _, 0, h => h
 | _, _, _ + 1, .nil => .nil
 | _, _, n + 1, .cons _ t => Vy n t
theorem RowsB.take {H : Hp} {vs : List V} {B : List BR} (n : Nat) (h : RowsB H vs B) : RowsB H (vs.take n) (B.take n) := by
 unfold RowsB at h ⊢
 rw [kQb]
 exact Vx n h
theorem RowsB.drop {H : Hp} {vs : List V} {B : List BR} (n : Nat) (h : RowsB H vs B) : RowsB H (vs.drop n) (B.drop n) := by
 unfold RowsB at h ⊢
 rw [List.map_drop]
 exact Vy n h
def Qoy (ys : List V) : Prop := ∀ s r, ys ≠ V.str s :: r
theorem RowsB.noRow {H : Hp} {vs : List V} {B : List BR} (h : RowsB H vs B) : Qoy vs := fun s r e => by
 subst e
 obtain ⟨_, _, _, e, _⟩ := h.get (i := 0) (v := .str s) rfl
 cases e
theorem Qax {ys : List V} (h : Qoy ys) (r : BR) : r.cells.map kV ≠ ys := fun e => h r.word (r.cells.map kV).tail (by rw [← e]; cases r <;> rfl)
theorem RowsB.updL {H : Hp} {vs : List V} {B : List BR} {g : Addr} {ys zs : List V} (h : RowsB H vs B) (hg : H g = some (.lst ys)) (n : Qoy ys) : RowsB (upd H g (.lst zs)) vs B := h.imp fun l r _ z => by
 rw [Qq (Qky z hg fun e => Qax n r (HO.lst.inj e))]
 exact z
section
variable {P : Program} {w : World} {K : Fg} {mg : Str → Option Value} {base : Heap}
theorem scBlock : FnScope ["_law_script", "_law_k", "_law_cell", "_law_j"] ["_law_script", "_law_k"] (Qh Qev) := ⟨rfl, rfl, rfl, by decide +kernel, rfl, by decide +kernel, by decide +kernel⟩
theorem Qoz (F : Fn K mg "_law_block" Qev) (M : Mg mg) : Cal P w K mg base 1 "_law_block" ["_law_script", "_law_k"] (Qih K) := by
 refine Xr F scBlock (fun _ _ _ _ _ _ => Qcm (fun _ _ => rfl)) (fun vs H Q E h => ?_) (fun f cdv A outer s H vs Q E hr h => ?_)
 ·obtain ⟨a, ns, k, rfl, _⟩ := h
  rfl
 obtain ⟨a, ns, k, rfl, hS, h0, q⟩ := h
 refine ⟨_, (Qg (Qs (i := 2) scBlock.nd rfl (Or.inl rfl) Qc)
  (Qg (Xi (Ql Qld (Qk Qw Qc (Qk Qy (Qk Xh (pv 1) Qc) Qc)) (Qo Qt rfl M.len Xt (Qa (pv 0) Qf)) (Qm _)) (Qi (Qs (i := 2) scBlock.nd rfl (Or.inl rfl) (Qk Qen (Qn Qj (pv 0) (Qk Qw Qc (Qk Qy (Qk Xh (pv 1) Qc) Qc)) (fun _ _ => rfl)) (Qk Qhm Qc Qc)))) Qu)
  (Qg (Ze PassesOwn.never rfl (Yf rfl M.range_ (Qa (Qk Qy (pv 1) Qc) Qf)) (Xf (i := 3) scBlock.nd rfl (Or.inl rfl) (Or.inl rfl)) (Qi (Qs (i := 2) scBlock.nd rfl (Or.inl rfl) (Qk Qen (pv 2) Qc))))
  (Qi (Qv (pv 2)))))), ?_⟩
 refine Jk ?_
 intro rT4 rT3 rT2
 refine ⟨_, rfl, _, _, rfl, rfl, ⟨by decide, by decide⟩, _, _, rfl, rfl, (by show (0 : Int) < _; decide +kernel), _, _, rfl, rfl, _, rfl, _, _, rfl, .inl hS, _, _, rfl, rfl, _, rfl, ?_⟩
 refine ite2 (fun c => ?_) (fun c => ?_)
 ·obtain ⟨v, hv⟩ := atNs (k := 1 + k / 8 % 62) (by omega) (yY c)
  refine ⟨_, rfl, _, rfl, _, _, rfl, rfl, ⟨by decide, by decide⟩, _, _, rfl, rfl, (by show (0 : Int) < _; decide +kernel), _, _, rfl, rfl, _, _, _, _, rfl, rfl, hS, hv, _, _, rfl, rfl, ⟨by decide, by decide, by decide⟩, _, _, rfl, rfl, ⟨by decide +kernel, by decide +kernel⟩, ?_⟩
  let Pv1 : Nat → St → Hp → Prop := fun i σ H' => H' = H ∧ ∃ (z : Int) (v : Option V), σ = [some (.ref a), some (.int k), some (.int z), v]
  refine ⟨_, rfl, _, _, rfl, rfl, (by show (0 : Int) < _; decide +kernel), k % 8, rfl, by omega, by omega, Xx (lo := 0) (n := (k % 8).toNat) Pv1 ⟨rfl, _, _, rfl⟩ ?_ ?_⟩
  ·rintro i σ H' hi ⟨rfl, z, v, rfl⟩
   exact ⟨_, rfl, _, _, rfl, rfl, ⟨by decide +kernel, by decide +kernel⟩, rfl, _, _, rfl⟩
  ·rintro σ H' ⟨rfl, z, v, rfl⟩
   exact ⟨_, rfl, q z⟩
 ·let Pv2 : Nat → St → Hp → Prop := fun i σ H' => H' = H ∧ ∃ (z : Int) (v : Option V), σ = [some (.ref a), some (.int k), some (.int z), v]
  refine ⟨_, rfl, _, _, rfl, rfl, (by show (0 : Int) < _; decide +kernel), k % 8, rfl, by omega, by omega, Xx (lo := 0) (n := (k % 8).toNat) Pv2 ⟨rfl, _, _, rfl⟩ ?_ ?_⟩
  ·rintro i σ H' hi ⟨rfl, z, v, rfl⟩
   exact ⟨_, rfl, _, _, rfl, rfl, ⟨by decide +kernel, by decide +kernel⟩, rfl, _, _, rfl⟩
  ·rintro σ H' ⟨rfl, z, v, rfl⟩
   exact ⟨_, rfl, q z⟩
theorem scMixed : FnScope ["_law_script", "_law_k", "_law_cell", "_law_number_here"] ["_law_script", "_law_k"] (Qh Qew) := ⟨rfl, rfl, rfl, by decide +kernel, rfl, by decide +kernel, by decide +kernel⟩
theorem Qpa (F : Fn K mg "_law_mixed" Qew) (M : Mg mg) (cl_block : Cal P w K mg base 1 "_law_block" ["_law_script", "_law_k"] (Qih K)) : Cal P w K mg base 2 "_law_mixed" ["_law_script", "_law_k"] (Js K) := by
 refine Xr F scMixed (fun _ _ _ _ _ _ => Qcm (fun _ _ => rfl)) (fun vs H Q E h => ?_) (fun f cdv A outer s H vs Q E hr h => ?_)
 ·obtain ⟨a, ns, k, rfl, _⟩ := h
  rfl
 obtain ⟨a, ns, k, rfl, hS, h0, h1, q⟩ := h
 refine ⟨_, (Qg (Qs (i := 2) scMixed.nd rfl (Or.inl rfl) Qc)
  (Qg (Xi (Ql Vj (Qo Qt rfl M.len Xt (Qa (pv 0) Qf)) Qc (Qm _)) (Qi (Qs (i := 2) scMixed.nd rfl (Or.inl rfl) (Qn Qj (pv 0) Qc (fun _ _ => rfl)))) Qu)
  (Qg (Xi (PW.pt (Zi (Ql Xy (Qk Qy (Qk Xh (pv 2) (Qk Qhm Qc Qc)) Qc) Qc (Qm _)) (Yu (Ql Qal (Xd cl_block (hr.mono (by decide)) (Qa (pv 0) (Qa (pv 1) Qf))) Qc (Qm _))))) (Qi (Qv (Qk Qy (Xd cl_block (hr.mono (by decide)) (Qa (pv 0) (Qa (pv 1) Qf))) Qc))) Qu)
  (Qg (Xi (Ql Vj (Qo Qt rfl M.len Xt (Qa (pv 0) Qf)) Qc (Qm _)) (Qi (Qs (i := 2) scMixed.nd rfl (Or.inl rfl) (Qn Qj (pv 0) (Qk Qy (pv 1) (Qo (Vk rfl) rfl M.min Qie (Qa Qc (Qa (Qo Qt rfl M.len Xt (Qa (pv 0) Qf)) Qf)))) (fun _ _ => rfl)))) Qu)
  (Qg (Qs (i := 3) scMixed.nd rfl (Or.inl rfl) (Qk Qw (Qk Qy (pv 2) (Qk Qhm Qc Qc)) (Qk Zk Qc (Qk Qw (pv 1) Qc))))
  (Qg (Qs (i := 3) scMixed.nd rfl (Or.inl rfl) (Qk Qw (Qk Qy (Qk Zk (pv 3) (pv 3)) Qc) (Qk Zk Qc (pv 1))))
  (Qi (Qv (Qk Qy (Qk Zk (pv 3) (pv 3)) Qc))))))))), ?_⟩
 refine Qlx ?_
 intro rT7 rT6 rT5 rT4 rT3 rT2
 refine ⟨_, rfl, _, _, rfl, .inl hS, _, _, rfl, rfl, _, rfl, ?_⟩
 have fin : ∀ x : Int, Q (.int (x % 2147483587)) H := fun x => q _ (xY _ (by decide)) (Int.lt_trans (zJ _ (by decide)) (by decide))
 refine ite2 (fun c => ?_) (fun c => ?_)
 ·obtain ⟨v, hv⟩ := atNs (k := 0) (Int.le_refl 0) (yY c)
  refine ⟨_, rfl, _, _, _, _, rfl, rfl, hS, hv, ?_⟩
  refine ⟨_, rfl, _, _, rfl, rfl, ⟨by decide, by decide, by decide⟩, _, _, rfl, rfl, ⟨by decide +kernel, by decide +kernel⟩, _, _, rfl, rfl, (by show (0 : Int) < _; decide +kernel), rfl, _, rfl, ?_⟩
  refine ite2 (fun c2 => ⟨_, rfl, _, rfl, a, ns, k, rfl, hS, h0, fun z => ⟨rfl, _, rfl, ite2 (fun c4 => ⟨_, rfl, _, rfl, a, ns, k, rfl, hS, h0, fun z => ⟨_, _, rfl, rfl, (by show (0 : Int) < _; decide +kernel), fin _⟩⟩) (fun c4 => ?_)⟩⟩) (fun c2 => iteF ?_)
  all_goals
   refine ⟨_, rfl, _, _, rfl, .inl hS, _, _, rfl, rfl, _, rfl, ?_⟩
   refine ite2 (fun c3 => ?_) (fun c3 => absurd c c3)
   have c' : (0 : Int) < (((ns.map V.int).length : Nat) : Int) := yY c
   have pm : (0 : Int) < (if (((ns.map V.int).length : Nat) : Int) < 63 then (((ns.map V.int).length : Nat) : Int) else 63) := by split <;> omega
   have pl : (if (((ns.map V.int).length : Nat) : Int) < 63 then (((ns.map V.int).length : Nat) : Int) else 63) ≤ (((ns.map V.int).length : Nat) : Int) := by split <;> omega
   obtain ⟨v3, hv3⟩ := atNs (ns := ns) (k := k % (if (((ns.map V.int).length : Nat) : Int) < 63 then (((ns.map V.int).length : Nat) : Int) else 63)) (xY _ (Int.ne_of_gt pm)) (Int.lt_of_lt_of_le (zJ _ pm) pl)
   refine ⟨_, rfl, _, rfl, _, rfl, _, _, rfl, .inl hS, _, _, rfl, _, _, rfl, rfl, pm, _, _, _, _, rfl, rfl, hS, hv3, ?_⟩
   refine ⟨_, rfl, _, _, rfl, rfl, ⟨by decide, by decide, by decide⟩, _, _, rfl, rfl, (by show (0 : Int) < _; decide +kernel), _, rfl, _, _, rfl, rfl, _, _, rfl, rfl, mulC _ _ (by decide) (by decide), _, _, rfl, rfl, ?_⟩
   refine ⟨_, rfl, _, rfl, _, _, rfl, rfl, mulA _ k h0 h1 _, _, _, rfl, rfl, (by show (0 : Int) < _; decide +kernel), _, rfl, _, _, rfl, rfl, mulC _ _ (by decide) (by decide), _, _, rfl, rfl, ?_⟩
   exact ⟨_, rfl, _, rfl, _, _, rfl, rfl, mulB _ k h0 h1 _, _, _, rfl, rfl, (by show (0 : Int) < _; decide +kernel), fin _⟩
 ·refine ⟨_, rfl, _, _, rfl, rfl, ⟨by decide, by decide, by decide⟩, _, _, rfl, rfl, ⟨by decide +kernel, by decide +kernel⟩, _, _, rfl, rfl, (by show (0 : Int) < _; decide +kernel), rfl, _, rfl, ?_⟩
  refine iteF (iteF ?_)
  refine ⟨_, rfl, _, _, rfl, .inl hS, _, _, rfl, rfl, _, rfl, ?_⟩
  refine ite2 (fun c3 => absurd c3 c) (fun c3 => ?_)
  refine ⟨_, rfl, _, _, rfl, rfl, ⟨by decide, by decide, by decide⟩, _, _, rfl, rfl, (by show (0 : Int) < _; decide +kernel), _, rfl, _, _, rfl, rfl, _, _, rfl, rfl, mulC _ _ (by decide) (by decide), _, _, rfl, rfl, ?_⟩
  refine ⟨_, rfl, _, rfl, _, _, rfl, rfl, mulA _ k h0 h1 _, _, _, rfl, rfl, (by show (0 : Int) < _; decide +kernel), _, rfl, _, _, rfl, rfl, mulC _ _ (by decide) (by decide), _, _, rfl, rfl, ?_⟩
  exact ⟨_, rfl, _, rfl, _, _, rfl, rfl, mulB _ k h0 h1 _, _, _, rfl, rfl, (by show (0 : Int) < _; decide +kernel), fin _⟩
end
abbrev Qlz : Stmt := top 24
theorem fl_app {x y : Str} (h : 1 ≤ x.length) : fl (x ++ y) = fl x := by
 show (x.cps ++ y.cps).getD 0 0 = x.cps.getD 0 0
 have h' : 0 < x.cps.size := h
 rw [Array.getD_eq_getD_getElem?, Array.getD_eq_getD_getElem?, Array.getElem?_append_left h']
theorem len_app (x y : Str) : (x ++ y).length = x.length + y.length := by
 show (x.cps ++ y.cps).size = _
 rw [Array.size_append]
 rfl
theorem atS {x : Str} {z : Int} (h0 : 0 ≤ z) (h1 : z < (x.length : Nat)) : ∃ c, atI x.cps.toList z = some c := by
 have e : z = ((z.toNat : Nat) : Int) := by omega
 have h2 : z.toNat < x.cps.toList.length := by
  have h3 : x.length = x.cps.toList.length := by show x.cps.size = _; exact wZ.symm
  omega
 exact ⟨_, by rw [e]; exact Qdf (gE h2)⟩
theorem Qpb {f : Int} (h0 : 0 ≤ f) (h1 : f < 8) : atI ("abcdefgh" : Str).cps.toList f = some (97 + f.toNat) := by
 rcases (show f = 0 ∨ f = 1 ∨ f = 2 ∨ f = 3 ∨ f = 4 ∨ f = 5 ∨ f = 6 ∨ f = 7 by omega) with h | h | h | h | h | h | h | h <;> (subst h; decide +kernel)
theorem let26 : ∀ c ∈ ("abcdefghijklmnopqrstuvwxyz" : Str).cps.toList, 97 ≤ c ∧ c ≤ 122 := by decide +kernel
theorem Qpc {α : Type} {xs : List α} {i : Int} {v : α} (h : atI xs i = some v) : v ∈ xs := by
 obtain ⟨j, _, h2, _⟩ := Qan h
 exact yX h2
theorem Qpd (x y : Str) : (x ++ y).cps.toList = x.cps.toList ++ y.cps.toList := by
 show (x.cps ++ y.cps).toList = _
 rw [Array.toList_append]
theorem len26 : ("abcdefghijklmnopqrstuvwxyz" : Str).length = 26 := by decide +kernel
theorem len8 : ("abcdefgh" : Str).length = 8 := by decide +kernel
theorem pick5 {a b c d e z : Int} : ∃ m : Int, atI [V.int a, V.int b, V.int c, V.int d, V.int e] (z % 5) = some (.int m) ∧ (m = a ∨ m = b ∨ m = c ∨ m = d ∨ m = e) := by
 rcases (show z % 5 = 0 ∨ z % 5 = 1 ∨ z % 5 = 2 ∨ z % 5 = 3 ∨ z % 5 = 4 by omega) with h | h | h | h | h <;> rw [h]
 ·exact ⟨a, rfl, .inl rfl⟩
 ·exact ⟨b, rfl, .inr (.inl rfl)⟩
 ·exact ⟨c, rfl, .inr (.inr (.inl rfl))⟩
 ·exact ⟨d, rfl, .inr (.inr (.inr (.inl rfl)))⟩
 ·exact ⟨e, rfl, .inr (.inr (.inr (.inr rfl)))⟩
def Qiw (K : Fg) : Sp := fun vs H Q _ => ∃ (a : Addr) (ns : List Int) (k f : Int), vs = [.ref a, .int k, .int f] ∧ SqL K H a (ns.map V.int) ∧ 0 ≤ k ∧ k ≤ 1000 ∧ 0 ≤ f ∧ f < 8 ∧ ∀ (x : Str) (H' : Hp), fl x = 97 + f.toNat → NmOk x → Same H H' → Q (.str x) H'
section
variable {P : Program} {w : World} {K : Fg} {mg : Str → Option Value} {base : Heap}
theorem scName : FnScope ["_law_script", "_law_k", "_law_first", "_law_number_here", "_law_found", "_law_j"] ["_law_script", "_law_k", "_law_first"] (Qh Qlz) := ⟨rfl, rfl, rfl, by decide +kernel, rfl, by decide +kernel, by decide +kernel⟩
theorem okName (F : Fn K mg "_law_name" Qlz) (M : Mg mg) (cl_mixed : Cal P w K mg base 2 "_law_mixed" ["_law_script", "_law_k"] (Js K)) : Cal P w K mg base 3 "_law_name" ["_law_script", "_law_k", "_law_first"] (Qiw K) := by
 refine Xr F scName (fun _ _ _ _ _ _ => Qcn (fun _ _ _ => rfl)) (fun vs H Q E h => ?_) (fun f cdv A outer s H vs Q E hr h => ?_)
 ·obtain ⟨a, ns, k, f, rfl, _⟩ := h
  rfl
 obtain ⟨a, ns, k, f, rfl, hS, h0, h1, f0, f1, q⟩ := h
 refine ⟨_, (Qg (Qs (i := 3) scName.nd rfl (Or.inl rfl) (Xd cl_mixed (hr.mono (by decide)) (Qa (pv 0) (Qa (pv 1) Qf))))
  (Qg (Qs (i := 4) scName.nd rfl (Or.inl rfl) (Qn Qne Qp (pv 2) (fun _ _ => rfl)))
  (Qg (Ze PassesOwn.never rfl (Yf rfl M.range_ (Qa (Qn Qj (Xa (Qa Qc (Qa Qc (Qa Qc (Qa Qc (Qa Qc Qf)))))) (Qk Qy (pv 3) Qc) (fun _ _ => rfl)) Qf)) (Xf (i := 5) scName.nd rfl (Or.inl rfl) (Or.inl rfl)) (Qg (Qs (i := 3) scName.nd rfl (Or.inl rfl) (Qk Qw (Qk Qw (Qk Xh (pv 3) Qc) (Qk Zk Qc (Xd cl_mixed (hr.mono (by decide)) (Qa (pv 0) (Qa (Qk Qw (pv 1) Qc) Qf))))) (pv 5)))
  (Qi (Qs (i := 4) scName.nd rfl (Or.inl rfl) (Qk Qfz (pv 4) (Qn Qne Qp (Qk Qy (pv 3) Qc) (fun _ _ => rfl)))))))
  (Qi (Qv (pv 4)))))), ?_⟩
 refine Jk ?_
 intro rT4 rT3 rT2
 have hz : (20000 : Nat) < sizeLine := by decide
 refine ⟨_, rfl, _, rfl, a, ns, k, rfl, hS, h0, by omega, fun z z0 z1 => ?_⟩
 refine ⟨_, rfl, _, _, _, rfl, rfl, by rw [len8]; decide, Qpb f0 f1, ?_⟩
 refine ⟨by show 5 ≤ sizeLine; decide, fun p hp => ?_⟩
 have s0 := Qd hp (.lst [.int 0, .int 0, .int 1, .int 2, .int 11])
 obtain ⟨m, em, hm⟩ := pick5 (a := 0) (b := 0) (c := 1) (d := 2) (e := 11) (z := z)
 have m0 : 0 ≤ m ∧ m ≤ 11 := by omega
 let Pv3 : Nat → St → Hp → Prop := fun i σ H1 => ∃ (zz : Int) (x : Str) (v : Option V), σ = [some (.ref a), some (.int k), some (.int f), some (.int zz), some (.str x), v] ∧ fl x = 97 + f.toNat ∧ x.length = 1 + i ∧ (∀ c ∈ x.cps.toList, 97 ≤ c ∧ c ≤ 122) ∧ Same H H1
 refine ⟨_, rfl, _, _, rfl, rfl, (by show (0 : Int) < _; decide +kernel), p, _, _, _, rfl, rfl, Qb Qe, em, m, rfl, by omega, by omega, Xx (lo := 0) (n := m.toNat) Pv3 ⟨z, _, none, rfl, rfl, rfl, fun c hc => by have e9 : c = 97 + f.toNat := jQ.mp hc; omega, s0⟩ ?_ ?_⟩
 ·rintro i σ H1 hi ⟨zz, x, v, rfl, hf, hx, hcs, s1⟩
  refine ⟨_, rfl, _, _, rfl, rfl, ⟨by decide, by decide⟩, _, rfl, _, rfl, _, _, rfl, rfl, a, ns, _, rfl, s1.seq hS, by omega, by omega, fun y y0 y1 => ?_⟩
  refine ⟨_, _, rfl, rfl, mulC _ _ (by decide) (by decide), _, _, rfl, rfl, _, rfl, _, _, rfl, rfl, ?_⟩
  obtain ⟨c, ec⟩ := atS (x := "abcdefghijklmnopqrstuvwxyz") (z := (zz / 5 + 7 * y + (0 + (i : Int))) % 26) (by omega) (by rw [len26]; omega)
  refine ⟨_, rfl, _, rfl, _, _, rfl, rfl, (by show (0 : Int) < _; decide +kernel), _, _, _, rfl, rfl, by rw [len26]; decide, ec, _, _, rfl, rfl, ?_, _, _, _, rfl, ?_, ?_, fun c9 hc9 => ?_, s1⟩
  ·show x.length + 1 ≤ sizeLine
   omega
  ·rw [fl_app (by omega)]; exact hf
  ·rw [len_app, hx]
   show 1 + i + 1 = 1 + (i + 1)
   omega
  ·rw [Qpd] at hc9
   rcases kQ.mp hc9 with h9 | h9
   ·exact hcs c9 h9
   ·rw [jQ.mp h9]; exact let26 c (Qpc ec)
 ·rintro σ H1 ⟨zz, x, v, rfl, hf, hx, hcs, s1⟩
  exact ⟨_, rfl, q x H1 hf ⟨by omega, by omega, hcs⟩ s1⟩
end
abbrev Qay : Stmt := top 25
theorem pick4 {a b c d z : Int} : ∃ m : Int, atI [V.int a, V.int b, V.int c, V.int d] (z % 4) = some (.int m) ∧ (m = a ∨ m = b ∨ m = c ∨ m = d) := by
 rcases (show z % 4 = 0 ∨ z % 4 = 1 ∨ z % 4 = 2 ∨ z % 4 = 3 by omega) with h | h | h | h <;> rw [h]
 ·exact ⟨a, rfl, .inl rfl⟩
 ·exact ⟨b, rfl, .inr (.inl rfl)⟩
 ·exact ⟨c, rfl, .inr (.inr (.inl rfl))⟩
 ·exact ⟨d, rfl, .inr (.inr (.inr rfl))⟩
inductive Thing : BR → Prop
 | bench (b r) : Thing (.bench b r)
 | shut (b f t) : Thing (.shut b f t)
 | store (s m f) : Thing (.store s m f)
structure ThOk (n : Int) (T : List BR) : Prop where
 ok : ∀ r ∈ T, r.ok n
 th : ∀ r ∈ T, Thing r
 nd : T.Pairwise Apart
 gn : ∀ r ∈ T, r.gn
 ah : Ahead [.days n] T
theorem ThOk.snoc {n : Int} {T : List BR} {r : BR} (h : ThOk n T) (h1 : r.ok n) (h2 : Thing r) (h3 : ∀ q ∈ T, Apart q r) (h4 : r.gn) (h5 : ∀ k ∈ r.needs, Said ([.days n] ++ T) k) : ThOk n (T ++ [r]) := by
 refine ⟨fun q hq => ?_, fun q hq => ?_, ?_, fun q hq => ?_, h.ah.app (Ahead.one h5)⟩
 ·rcases kQ.mp hq with z | z
  ·exact h.ok q z
  ·rw [jQ.mp z]; exact h1
 ·rcases kQ.mp hq with z | z
  ·exact h.th q z
  ·rw [jQ.mp z]; exact h2
 ·refine wK.mpr ⟨h.nd, jYe _ _, fun a ha b hb => ?_⟩
  rw [jQ.mp hb]
  exact h3 a ha
 ·rcases kQ.mp hq with z | z
  ·exact h.gn q z
  ·rw [jQ.mp z]; exact h4
theorem gn1 {x : Str} (h : NmOk x) : ∀ y ∈ [x], NmOk y := fun y hy => by rw [jQ.mp hy]; exact h
theorem Qab {n : Int} {T : List BR} : ∀ k ∈ [[(Sum.inr ("days" : Str) : Key)]], Said ([BR.days n] ++ T) k := fun k hk => by
 rw [jQ.mp hk]
 exact ⟨.days n, jY, rfl⟩
theorem Qdo {n m : Int} {b : Str} {T : List BR} (h : BR.bench b m ∈ T) : ∀ k ∈ [[(Sum.inr ("bench" : Str) : Key), Sum.inr b]], Said ([BR.days n] ++ T) k := fun k hk => by
 rw [jQ.mp hk]
 exact ⟨.bench b m, kZ _ h, rfl⟩
def flB : BR → Nat
 | .bench b _ => fl b
 | _ => 0
def flS : BR → Nat
 | .store s _ _ => fl s
 | _ => 0
theorem Qdp {q : BR} {b : Str} {r : Int} (hq : Thing q) (h : flB q < fl b) : Apart q (.bench b r) := by
 cases hq with
 | bench b' r' =>
  refine .inr (.inr fun z => ?_)
  have h' : fl b' < fl b := h
  have z' : [(Sum.inr ("bench" : Str) : Key), Sum.inr b'] = [Sum.inr ("bench" : Str), Sum.inr b] := z
  injection z' with _ z2
  injection z2 with z3
  injection z3 with z4
  rw [z4] at h'
  exact absurd h' (jQf _)
 | shut b' f t => exact .inl rfl
 | store s m f => exact Yx (by show (3 : Nat) ≠ 1; decide)
theorem Qdq {q : BR} {s : Str} {m f : Int} (hq : Thing q) (h : flS q < fl s) : Apart q (.store s m f) := by
 cases hq with
 | bench b' r' => exact Yx (by show (1 : Nat) ≠ 3; decide)
 | shut b' f t => exact .inl rfl
 | store s' m' f' =>
  refine .inr (.inr fun z => ?_)
  have h' : fl s' < fl s := h
  have z' : [(Sum.inr ("store" : Str) : Key), Sum.inr s'] = [Sum.inr ("store" : Str), Sum.inr s] := z
  injection z' with _ z2
  injection z2 with z3
  injection z3 with z4
  rw [z4] at h'
  exact absurd h' (jQf _)
def Qex (K : Fg) : Sp := fun vs H Q _ => ∃ (a : Addr) (ns : List Int) (n : Int), vs = [.ref a, .int n] ∧ SqL K H a (ns.map V.int) ∧ 1 ≤ n ∧ n ≤ 12 ∧
 ∀ (g : Addr) (vs : List V) (B : List BR) (H' : Hp), Same H H' → H g = none → H' g = some (.lst vs) → RowsB H' vs B → ThOk n B → B.length ≤ 11 → Q (.ref g) H'
section
variable {P : Program} {w : World} {K : Fg} {mg : Str → Option Value} {base : Heap}
theorem scThings : FnScope ["_law_script", "_law_days", "_law_found", "_law_number_here", "_law_k", "_law_bench", "_law_more", "_law_j", "_law_end", "_law_most"] ["_law_script", "_law_days"] (Qh Qay) := ⟨rfl, rfl, rfl, by decide +kernel, rfl, by decide +kernel, by decide +kernel⟩
theorem Qma (F : Fn K mg "_law_things" Qay) (M : Mg mg) (cl_mixed : Cal P w K mg base 2 "_law_mixed" ["_law_script", "_law_k"] (Js K)) (cl_name : Cal P w K mg base 3 "_law_name" ["_law_script", "_law_k", "_law_first"] (Qiw K)) : Cal P w K mg base 4 "_law_things" ["_law_script", "_law_days"] (Qex K) := by
 refine Xr F scThings (fun _ _ _ _ _ _ => Qcm (fun _ _ => rfl)) (fun vs H Q E h => ?_) (fun f cdv A outer s H vs Q E hr h => ?_)
 ·obtain ⟨a, ns, n, rfl, _⟩ := h
  rfl
 obtain ⟨a, ns, n, rfl, hS, n1, n12, q⟩ := h
 refine ⟨_, (Qg (Qs (i := 2) scThings.nd rfl (Or.inl rfl) (Xa Qf))
  (Qg (Qs (i := 3) scThings.nd rfl (Or.inl rfl) (Xd cl_mixed (hr.mono (by decide)) (Qa (pv 0) (Qa Qc Qf))))
  (Qg (Ze PassesOwn.never rfl (Yf rfl M.range_ (Qa (Qk Qy (pv 3) Qc) Qf)) (Xf (i := 4) scThings.nd rfl (Or.inl rfl) (Or.inl rfl)) (Qg (Qs (i := 5) scThings.nd rfl (Or.inl rfl) (Xd cl_name (hr.mono (by decide)) (Qa (pv 0) (Qa (Qk Qw Qc (Qk Zk Qc (pv 4))) (Qa (pv 4) Qf)))))
  (Qg (Yp (Zz PySem.F.plainAttrs_list PySem.F.slot_list_append PySem.F.type_list_append Xp (pv 2) (Qa (Xa (Qa Qp (Qa (pv 5) (Qa (Qn Qj (Xa (Qa Qc (Qa Qc (Qa Qc (Qa Qc (Qa Qc Qf)))))) (Qk Qy (Xd cl_mixed (hr.mono (by decide)) (Qa (pv 0) (Qa (Qk Qw Qc (pv 4)) Qf))) Qc) (fun _ _ => rfl)) Qf)))) Qf)))
  (Qg (Qs (i := 6) scThings.nd rfl (Or.inl rfl) (Xd cl_mixed (hr.mono (by decide)) (Qa (pv 0) (Qa (Qk Qw Qc (pv 4)) Qf))))
  (Qi (Ze PassesOwn.never rfl (Yf rfl M.range_ (Qa (Qk Qy (pv 6) Qc) Qf)) (Xf (i := 7) scThings.nd rfl (Or.inl rfl) (Or.inl rfl)) (Qg (Qs (i := 8) scThings.nd rfl (Or.inl rfl) (Qk Qw Qc (Qk Qy (Qk Xh (pv 6) Qc) (pv 1))))
  (Qg (Yp (Zz PySem.F.plainAttrs_list PySem.F.slot_list_append PySem.F.type_list_append Xp (pv 2) (Qa (Xa (Qa Qp (Qa (pv 5) (Qa (Qk Qy (Qk Xh (pv 6) Qc) (pv 8)) (Qa (pv 8) Qf))))) Qf)))
  (Qi (Qs (i := 6) scThings.nd rfl (Or.inl rfl) (Qk Xh (pv 6) Qc)))))))))))
  (Qg (Ze PassesOwn.never rfl (Yf rfl M.range_ (Qa (Qk Qy (Qk Xh (pv 3) Qc) Qc) Qf)) (Xf (i := 4) scThings.nd rfl (Or.inl rfl) (Or.inl rfl)) (Qg (Qs (i := 9) scThings.nd rfl (Or.inl rfl) (Qn Qj (Xa (Qa Qc (Qa Qc (Qa Qc (Qa Qc Qf))))) (Qk Qy (Xd cl_mixed (hr.mono (by decide)) (Qa (pv 0) (Qa (Qk Qw Qc (pv 4)) Qf))) Qc) (fun _ _ => rfl)))
  (Qi (Yp (Zz PySem.F.plainAttrs_list PySem.F.slot_list_append PySem.F.type_list_append Xp (pv 2) (Qa (Xa (Qa Qp (Qa (Xd cl_name (hr.mono (by decide)) (Qa (pv 0) (Qa (Qk Qw Qc (Qk Zk Qc (pv 4))) (Qa (pv 4) Qf)))) (Qa (pv 9) (Qa (Qk Qy (Xd cl_mixed (hr.mono (by decide)) (Qa (pv 0) (Qa (Qk Qw Qc (pv 4)) Qf))) (Qk Qw (pv 9) Qc)) Qf))))) Qf))))))
  (Qi (Qv (pv 2))))))), ?_⟩
 refine Ke ?_
 intro rT5 rT4 rT3 rT2
 have hz : (20000 : Nat) < sizeLine := by decide
 refine ⟨by show 0 ≤ sizeLine; decide, fun g hg => ?_⟩
 have s0 := Qd hg (.lst [])
 have hg0 : upd H g (.lst []) g = some (.lst []) := Qe
 generalize upd H g (.lst []) = H0 at s0 hg0 ⊢
 refine ⟨_, rfl, a, ns, 1, rfl, s0.seq hS, by decide, by decide, fun z z0 z1 => ?_⟩
 let Pv4 : Nat → St → Hp → Prop := fun i σ H1 => ∃ (v4 v5 v6 v7 v8 v9 : Option V) (vs : List V) (B : List BR), σ = [some (.ref a), some (.int n), some (.ref g), some (.int z), v4, v5, v6, v7, v8, v9] ∧ H1 g = some (.lst vs) ∧ RowsB H1 vs B ∧ ThOk n B ∧ (∀ r ∈ B, flB r < 97 + i ∧ flS r = 0) ∧ B.length ≤ 3 * i ∧ Same H H1
 refine ⟨_, rfl, _, _, rfl, rfl, (by show (0 : Int) < _; decide +kernel), z % 4, rfl, by omega, by omega, Xx (lo := 0) (n := (z % 4).toNat) Pv4 ⟨none, none, none, none, none, none, [], [], rfl, hg0, .nil, ⟨fun _ h => (nomatch h), fun _ h => (nomatch h), .nil, fun _ h => (nomatch h), True.intro⟩, fun _ h => (nomatch h), wQ _, s0⟩ ?_ ?_⟩
 ·rintro i σ H1 hi ⟨v4, v5, v6, v7, v8, v9, vs, B, rfl, hg1, hB, hT, hfl, hl, s1⟩
  have hi' : i < 4 := by omega
  have lv := hB.length
  refine ⟨_, rfl, _, rfl, _, _, rfl, rfl, mulC _ _ (by decide) (by decide), _, _, rfl, rfl, _, rfl, a, ns, _, _, rfl, s1.seq hS, by omega, by omega, by omega, by omega, fun b H2 hb hbl s2 => ?_⟩
  have hb' : fl b = 97 + i := by rw [hb]; omega
  refine ⟨_, rfl, .inl ⟨rfl, _, Qb (s2 _ _ hg1)⟩, _, rfl, by show 5 ≤ sizeLine; decide, fun p hp => ?_⟩
  have s3 := s2.trans (Qd hp (.lst [.int 1, .int 2, .int 5, .int 99, .int 0]))
  refine ⟨_, rfl, _, rfl, _, _, rfl, rfl, a, ns, _, rfl, (s1.trans s3).seq hS, by omega, by omega, fun y y0 y1 => ?_⟩
  obtain ⟨m, em, hm⟩ := pick5 (a := 1) (b := 2) (c := 5) (d := 99) (e := 0) (z := y)
  refine ⟨_, _, rfl, rfl, (by show (0 : Int) < _; decide +kernel), p, _, _, _, rfl, rfl, Qb Qe, em, by show 3 ≤ sizeLine; decide, fun l hl' => ?_⟩
  have s4 := s3.trans (Qd hl' (.lst [.str "bench", .str b, .int m]))
  have hl4 : upd (upd H2 p (.lst [.int 1, .int 2, .int 5, .int 99, .int 0])) l (.lst [.str "bench", .str b, .int m]) l = some (.lst ((BR.bench b m).cells.map kV)) := Qe
  generalize upd (upd H2 p (.lst [.int 1, .int 2, .int 5, .int 99, .int 0])) l (.lst [.str "bench", .str b, .int m]) = H4 at s4 hl4 ⊢
  have hg4 := s4 _ _ hg1
  refine ⟨g, _, _, rfl, rfl, hg4, by omega, ?_⟩
  have hB5 : RowsB (upd H4 g (.lst (vs ++ [.ref l]))) (vs ++ [.ref l]) (B ++ [.bench b m]) := ((hB.same s4).snoc hl4).updL hg4 hB.noRow
  have hg5 : upd H4 g (.lst (vs ++ [.ref l])) g = some (.lst (vs ++ [.ref l])) := Qe
  have s5 : Same H (upd H4 g (.lst (vs ++ [.ref l]))) := fun c o e => by rw [Qq (Qr e hg)]; exact (s1.trans s4) _ _ e
  generalize upd H4 g (.lst (vs ++ [.ref l])) = H5 at hB5 hg5 s5 ⊢
  refine ⟨_, rfl, _, rfl, _, _, rfl, rfl, a, ns, _, rfl, s5.seq hS, by omega, by omega, fun mo mo0 mo1 => ?_⟩
  have hT5 : ThOk n (B ++ [.bench b m]) := hT.snoc ⟨by omega, by omega⟩ (.bench _ _) (fun r hr => Qdp (hT.th r hr) (by rw [hb']; exact (hfl r hr).1)) (gn1 hbl) Qab
  let Pv5 : Nat → St → Hp → Prop := fun j σ H6 => ∃ (mo' : Int) (v7 v8 v9 : Option V) (vs : List V) (B : List BR), σ = [some (.ref a), some (.int n), some (.ref g), some (.int z), some (.int (0 + (i : Int))), some (.str b), some (.int mo'), v7, v8, v9] ∧ H6 g = some (.lst vs) ∧ RowsB H6 vs B ∧ ThOk n B ∧ (BR.bench b m ∈ B ∧ ∀ r ∈ B, flB r < 97 + (i + 1) ∧ flS r = 0) ∧ B.length ≤ 3 * i + 1 + j ∧ Same H H6
  refine ⟨_, rfl, _, _, rfl, rfl, (by show (0 : Int) < _; decide +kernel), mo % 3, rfl, by omega, by omega, Xx (lo := 0) (n := (mo % 3).toNat) Pv5 ⟨mo, _, _, _, _, _, rfl, hg5, hB5, hT5, ⟨kZ _ jY, fun r hr => ?_⟩, by rw [jV]; show B.length + 1 ≤ _; omega, s5⟩ ?_ ?_⟩
  ·rcases kQ.mp hr with h | h
   ·have := hfl r h; exact ⟨by omega, this.2⟩
   ·rw [jQ.mp h]; exact ⟨by show fl b < _; omega, rfl⟩
  ·rintro j σ H6 hj ⟨mo', v7, v8, v9, vs6, B6, rfl, hg6, hB6, hT6, hfl6, hl6, s6⟩
   have lv6 := hB6.length
   have e0 := xY (mo' / 3) (show n ≠ 0 by omega)
   have e1 := zJ (mo' / 3) (show 0 < n by omega)
   generalize hE : mo' / 3 % n = E at e0 e1
   have f0 := xY (mo' / 40) (show (1 + E) ≠ 0 by omega)
   have f1 := zJ (mo' / 40) (show 0 < 1 + E by omega)
   refine ⟨_, rfl, _, _, rfl, rfl, ⟨by decide, by decide⟩, _, rfl, _, _, rfl, rfl, (by show 0 < n; omega), _, _, rfl, rfl, ?_⟩
   rw [hE]
   refine ⟨_, rfl, .inl ⟨rfl, _, Qb hg6⟩, _, rfl, _, rfl, _, _, rfl, rfl, ⟨by decide, by decide⟩, _, rfl, _, _, rfl, rfl, (by show 0 < 1 + E; omega), _, rfl, by show 4 ≤ sizeLine; decide, fun l hl' => ?_⟩
   have s7 := Qd hl' (.lst [.str "shut", .str b, .int (mo' / 40 % (1 + E)), .int (1 + E)])
   have hl7 : upd H6 l (.lst [.str "shut", .str b, .int (mo' / 40 % (1 + E)), .int (1 + E)]) l = some (.lst ((BR.shut b (mo' / 40 % (1 + E)) (1 + E)).cells.map kV)) := Qe
   generalize upd H6 l (.lst [.str "shut", .str b, .int (mo' / 40 % (1 + E)), .int (1 + E)]) = H7 at s7 hl7 ⊢
   have hg7 := s7 _ _ hg6
   refine ⟨g, _, _, rfl, rfl, hg7, by omega, ?_⟩
   refine ⟨_, rfl, _, _, rfl, rfl, ⟨by decide, by decide⟩, _, _, _, _, _, _, rfl, Qe, ((hB6.same s7).snoc hl7).updL hg7 hB6.noRow, hT6.snoc ⟨f0, f1, by omega⟩ (.shut _ _ _) (fun r _ => .inr (.inl rfl)) (gn1 hbl) (Qdo hfl6.1), ⟨yJ _ hfl6.1, fun r hr => ?_⟩, by rw [jV]; show B6.length + 1 ≤ _; omega, fun c o e => by rw [Qq (Qr e hg)]; exact (s6.trans s7) _ _ e⟩
   rcases kQ.mp hr with h | h
   ·exact hfl6.2 r h
   ·rw [jQ.mp h]; exact ⟨by show 0 < _; omega, rfl⟩
  ·rintro σ H6 ⟨mo', v7, v8, v9, vs6, B6, rfl, hg6, hB6, hT6, hfl6, hl6, s6⟩
   exact ⟨_, _, _, _, _, _, vs6, B6, rfl, hg6, hB6, hT6, hfl6.2, by omega, s6⟩
 ·rintro σ H1 ⟨v4, v5, v6, v7, v8, v9, vs, B, rfl, hg1, hB, hT, hfl, hl, s1⟩
  let Pv6 : Nat → St → Hp → Prop := fun i σ H1 => ∃ (v4 v5 v6 v7 v8 v9 : Option V) (vs : List V) (B : List BR), σ = [some (.ref a), some (.int n), some (.ref g), some (.int z), v4, v5, v6, v7, v8, v9] ∧ H1 g = some (.lst vs) ∧ RowsB H1 vs B ∧ ThOk n B ∧ (∀ r ∈ B, flS r < 97 + i) ∧ B.length ≤ 9 + i ∧ Same H H1
  refine ⟨_, rfl, _, _, rfl, rfl, ⟨by decide, by decide⟩, _, _, rfl, rfl, (by show (0 : Int) < _; decide +kernel), z / 4 % 3, rfl, by omega, by omega, Xx (lo := 0) (n := (z / 4 % 3).toNat) Pv6 ⟨_, _, _, _, _, _, vs, B, rfl, hg1, hB, hT, fun r hr => by rw [(hfl r hr).2]; omega, by omega, s1⟩ ?_ ?_⟩
  ·rintro i σ H2 hi ⟨v4, v5, v6, v7, v8, v9, vs2, B2, rfl, hg2, hB2, hT2, hfl2, hl2, s2⟩
   have hi' : i < 3 := by omega
   have lv := hB2.length
   refine ⟨by show 4 ≤ sizeLine; decide, fun p hp => ?_⟩
   have s3 := Qd hp (.lst [.int 0, .int 3, .int 9, .int 999])
   have hp3 : upd H2 p (.lst [.int 0, .int 3, .int 9, .int 999]) p = some (.lst [.int 0, .int 3, .int 9, .int 999]) := Qe
   generalize upd H2 p (.lst [.int 0, .int 3, .int 9, .int 999]) = H3 at s3 hp3 ⊢
   refine ⟨_, rfl, _, rfl, _, _, rfl, rfl, a, ns, _, rfl, (s2.trans s3).seq hS, by omega, by omega, fun y y0 y1 => ?_⟩
   obtain ⟨m, em, hm⟩ := pick4 (a := 0) (b := 3) (c := 9) (d := 999) (z := y)
   have hm' : 0 ≤ m ∧ m ≤ 999 := by omega
   refine ⟨_, _, rfl, rfl, (by show (0 : Int) < _; decide +kernel), p, _, _, _, rfl, rfl, Qb hp3, em, ?_⟩
   refine ⟨_, rfl, .inl ⟨rfl, _, Qb (s3 _ _ hg2)⟩, _, rfl, _, rfl, _, _, rfl, rfl, mulC _ _ (by decide) (by decide), _, _, rfl, rfl, _, rfl, a, ns, _, _, rfl, (s2.trans s3).seq hS, by omega, by omega, by omega, by omega, fun x H4 hx hxl s4 => ?_⟩
   have hx' : fl x = 97 + i := by rw [hx]; omega
   have s34 := s3.trans s4
   refine ⟨_, rfl, _, rfl, _, rfl, _, _, rfl, rfl, a, ns, _, rfl, (s2.trans s34).seq hS, by omega, by omega, fun y' y0' y1' => ?_⟩
   have f0 := xY y' (show (m + 1) ≠ 0 by omega)
   have f1 := zJ y' (show 0 < m + 1 by omega)
   refine ⟨_, rfl, _, _, rfl, rfl, _, _, rfl, rfl, (by show 0 < m + 1; omega), by show 4 ≤ sizeLine; decide, fun l hl' => ?_⟩
   have s5 := s34.trans (Qd hl' (.lst [.str "store", .str x, .int m, .int (y' % (m + 1))]))
   have hl5 : upd H4 l (.lst [.str "store", .str x, .int m, .int (y' % (m + 1))]) l = some (.lst ((BR.store x m (y' % (m + 1))).cells.map kV)) := Qe
   generalize upd H4 l (.lst [.str "store", .str x, .int m, .int (y' % (m + 1))]) = H5 at s5 hl5 ⊢
   have hg5 := s5 _ _ hg2
   refine ⟨g, _, _, rfl, rfl, hg5, by omega, ?_⟩
   refine ⟨_, _, _, _, _, _, _, _, rfl, Qe, ((hB2.same s5).snoc hl5).updL hg5 hB2.noRow, hT2.snoc ⟨f0, by omega, hm'.2⟩ (.store _ _ _) (fun r hr => Qdq (hT2.th r hr) (by rw [hx']; exact hfl2 r hr)) (gn1 hxl) Qab, fun r hr => ?_, by rw [jV]; show B2.length + 1 ≤ _; omega, fun c o e => by rw [Qq (Qr e hg)]; exact (s2.trans s5) _ _ e⟩
   rcases kQ.mp hr with h | h
   ·have := hfl2 r h; omega
   ·rw [jQ.mp h]; show fl x < _; omega
  ·rintro σ H2 ⟨v4, v5, v6, v7, v8, v9, vs2, B2, rfl, hg2, hB2, hT2, hfl2, hl2, s2⟩
   exact ⟨_, rfl, q g vs2 B2 H2 s2 hg hg2 hB2 hT2 (by omega)⟩
end
abbrev sWay : Stmt := top 26
theorem at_b1 (b : Str) (r : Int) : atI ((BR.bench b r).cells.map kV) 1 = some (.str b) := rfl
theorem at_s1 (b : Str) (m f : Int) : atI ((BR.store b m f).cells.map kV) 1 = some (.str b) := rfl
theorem Vb {r : BR} {x : Str} (h : r.word = x) : atI (r.cells.map kV) 0 = some (.str x) := by rw [← h]; exact Zr r
theorem bind6 {F : List Value → Prop} (h : ∀ a b c d e f, F [a, b, c, d, e, f]) : ∀ us : List Value, us.length = 6 → F us := fun us hl => by
 cases us with
 | nil => cases hl
 | cons a us => exact bind5 (F := fun us => F (a :: us)) (h a) us (Nat.succ.inj hl)
theorem neS {a b : Str} (h : a ≠ b) : ¬ (decide (V.str a = V.str b) = true) := fun z => by
 have := yY z
 injection this with z1
 exact h z1
theorem eqS {a b : Str} (h : decide (V.str a = V.str b) = true) : a = b := by
 have := yY h
 injection this
theorem yesS (a : Str) : decide (V.str a = V.str a) = true := yK rfl
theorem w_bs : ("bench" : Str) ≠ "store" := by decide +kernel
theorem w_sb : ("store" : Str) ≠ "bench" := by decide +kernel
theorem w_hb : ("shut" : Str) ≠ "bench" := by decide +kernel
theorem w_hs : ("shut" : Str) ≠ "store" := by decide +kernel
theorem pick2 {a b z : Int} : ∃ m : Int, atI [V.int a, V.int b] (z % 2) = some (.int m) ∧ (m = a ∨ m = b) := by
 rcases (show z % 2 = 0 ∨ z % 2 = 1 by omega) with h | h <;> rw [h]
 ·exact ⟨a, rfl, .inl rfl⟩
 ·exact ⟨b, rfl, .inr rfl⟩
theorem pick3 {a b c z : Int} : ∃ m : Int, atI [V.int a, V.int b, V.int c] (z % 3) = some (.int m) ∧ (m = a ∨ m = b ∨ m = c) := by
 rcases (show z % 3 = 0 ∨ z % 3 = 1 ∨ z % 3 = 2 by omega) with h | h | h <;> rw [h]
 ·exact ⟨a, rfl, .inl rfl⟩
 ·exact ⟨b, rfl, .inr (.inl rfl)⟩
 ·exact ⟨c, rfl, .inr (.inr rfl)⟩
theorem pickTG (N : Int) : ∃ kk : Fin 3, atI [V.str "takes", V.str "gives"] (N % 2) = some (.str (useW kk)) ∧ kk ≠ 0 ∧ (N % 2 = 1 → kk = 2) := by
 rcases (show N % 2 = 0 ∨ N % 2 = 1 by omega) with h | h <;> rw [h]
 ·exact ⟨1, rfl, by decide, fun z => absurd z (by decide)⟩
 ·exact ⟨2, rfl, by decide, fun _ => rfl⟩
def UseOf (T : List BR) (w v : Str) (i : Nat) (r : BR) : Prop := ∃ k t m, r = .use k w v t m ∧ 1 ≤ m ∧ m ≤ 99 ∧ ((k = 0 ∧ ∃ j b, j < i ∧ T[j]? = some (.bench t b)) ∨ (k ≠ 0 ∧ ∃ j b c, j < i ∧ T[j]? = some (.store t b c)))
theorem UseOf.mono {T : List BR} {w v : Str} {i j : Nat} {r : BR} (h : UseOf T w v i r) (hij : i ≤ j) : UseOf T w v j r := by
 obtain ⟨k, t, m, e, m1, m2, h⟩ := h
 refine ⟨k, t, m, e, m1, m2, ?_⟩
 rcases h with ⟨e, j', b, h1, h2⟩ | ⟨e, j', b, c, h1, h2⟩
 ·exact .inl ⟨e, j', b, by omega, h2⟩
 ·exact .inr ⟨e, j', b, c, by omega, h2⟩
theorem Qpe {α : Type} {R : α → α → Prop} : ∀ {l : List α} {i j : Nat} {x y : α}, l.Pairwise R → i < j → l[i]? = some x → l[j]? = some y → R x y
 | a :: l, 0, j + 1, x, y, h, _, e1, e2 => by
  cases e1
  exact (jJe.mp h).1 y (yX (show l[j]? = some y from e2))
 | a :: l, i + 1, j + 1, x, y, h, hij, e1, e2 => Qpe (jJe.mp h).2 (by omega) (show l[i]? = some x from e1) (show l[j]? = some y from e2)
 | [], _, _, _, _, _, _, e1, _ => nomatch e1
 | _ :: _, _, 0, _, _, _, h, _, _ => absurd h (kYe _)
theorem Qmb : ∀ k' k : Fin 3, useW k' = useW k → k' = k := by decide +kernel
theorem Vz {T : List BR} {w v t : Str} {i : Nat} {k : Fin 3} {m : Int} {r : BR} (hT : T.Pairwise Apart) (h : UseOf T w v i r) (hi : (k = 0 ∧ ∃ b, T[i]? = some (.bench t b)) ∨ (k ≠ 0 ∧ ∃ b c, T[i]? = some (.store t b c))) : Apart r (.use k w v t m) := by
 obtain ⟨k', t', m', rfl, _, _, h⟩ := h
 refine .inr (.inr fun z => ?_)
 have z' : [(Sum.inr (useW k') : Key), Sum.inr w, Sum.inr v, Sum.inr t'] = [Sum.inr (useW k), Sum.inr w, Sum.inr v, Sum.inr t] := z
 injection z' with z1 z2
 injection z2 with _ z3
 injection z3 with _ z4
 injection z4 with z5
 injection z5 with z6
 injection z1 with z7
 have ek : k' = k := Qmb k' k z7
 subst ek z6
 rcases h with ⟨e, j, b, h1, h2⟩ | ⟨e, j, b, c, h1, h2⟩
 ·rcases hi with ⟨_, b', h3⟩ | ⟨e', _⟩
  ·rcases Qpe hT h1 h2 h3 with q | q | q
   ·exact absurd q (by show ¬ (("bench" : Str) = "shut"); decide +kernel)
   ·exact absurd q (by show ¬ (("bench" : Str) = "shut"); decide +kernel)
   ·exact q rfl
  ·exact e' e
 ·rcases hi with ⟨e', _⟩ | ⟨_, b', c', h3⟩
  ·exact e e'
  ·rcases Qpe hT h1 h2 h3 with q | q | q
   ·exact absurd q (by show ¬ (("store" : Str) = "shut"); decide +kernel)
   ·exact absurd q (by show ¬ (("store" : Str) = "shut"); decide +kernel)
   ·exact q rfl
theorem way_apart {w v w' v' t : Str} {l c m : Int} {k : Fin 3} : Apart (.way w v l c) (.use k w' v' t m) := Yx (by show (5 : Nat) ≠ 6 + k.val; omega)
structure WayBlk (n : Int) (T : List BR) (w v : Str) (R : List BR) : Prop where
 hd : ∃ l c U, R = .way w v l c :: U ∧ 1 ≤ l ∧ l ≤ n ∧ 0 ≤ c ∧ c ≤ 999999 ∧ ∀ r ∈ U, UseOf T w v T.length r
 nd : R.Pairwise Apart
 len : R.length ≤ 1 + 2 * T.length
def spWay (K : Fg) : Sp := fun vs H Q _ => ∃ (a d : Addr) (ns : List Int) (st n : Int) (w v : Str) (us : List V) (T : List BR), vs = [.ref a, .int st, .int n, .str w, .str v, .ref d] ∧ SqL K H a (ns.map V.int) ∧ 0 ≤ st ∧ st ≤ 1000 ∧ 1 ≤ n ∧ n ≤ 12 ∧ SqL K H d us ∧ RowsB H us T ∧ ThOk n T ∧ T.length ≤ 11 ∧
 ∀ (g : Addr) (vs : List V) (R : List BR) (H' : Hp), Same H H' → H g = none → H' g = some (.lst vs) → RowsB H' vs R → WayBlk n T w v R → Q (.ref g) H'
section
variable {P : Program} {w : World} {K : Fg} {mg : Str → Option Value} {base : Heap}
theorem scWay : FnScope ["_law_script", "_law_start", "_law_days", "_law_work", "_law_way_here", "_law_things_here", "_law_number_here", "_law_length", "_law_found", "_law_thing", "_law_many"] ["_law_script", "_law_start", "_law_days", "_law_work", "_law_way_here", "_law_things_here"] (Qh sWay) := ⟨rfl, rfl, rfl, by decide +kernel, rfl, by decide +kernel, by decide +kernel⟩
theorem okWay (F : Fn K mg "_law_way" sWay) (M : Mg mg) (cl_mixed : Cal P w K mg base 2 "_law_mixed" ["_law_script", "_law_k"] (Js K)) : Cal P w K mg base 3 "_law_way" ["_law_script", "_law_start", "_law_days", "_law_work", "_law_way_here", "_law_things_here"] (spWay K) := by
 refine Xr F scWay (fun _ _ _ _ _ _ => bind6 (fun _ _ _ _ _ _ => rfl)) (fun vs H Q E h => ?_) (fun f cdv A outer s H vs Q E hr h => ?_)
 ·obtain ⟨a, d, ns, st, n, w, v, us, T, rfl, _⟩ := h
  rfl
 obtain ⟨a, d, ns, st, n, w, v, us, T, rfl, hS, st0, st1, n1, n12, hd, hT, tT, tl, q⟩ := h
 refine ⟨_, (Qg (Qs (i := 6) scWay.nd rfl (Or.inl rfl) (Xd cl_mixed (hr.mono (by decide)) (Qa (pv 0) (Qa (pv 1) Qf))))
  (Qg (Qs (i := 7) scWay.nd rfl (Or.inl rfl) (Qk Qw Qc (Qk Qy (pv 6) (Qo (Vk rfl) rfl M.min Qie (Qa (pv 2) (Qa (Qn Qj (Xa (Qa Qc (Qa Qc Qf))) (Qk Qy (Qk Xh (pv 6) Qc) Qc) (fun _ _ => rfl)) Qf))))))
  (Qg (Qs (i := 8) scWay.nd rfl (Or.inl rfl) (Xa (Qa (Xa (Qa Qp (Qa (pv 3) (Qa (pv 4) (Qa (pv 7) (Qa (Qn Qj (Xa (Qa (Qk Qy (Qk Xh (pv 6) Qc) Qc) (Qa (Qk Qy (Qk Xh (pv 6) Qc) Qc) Qf))) (Qk Qy (pv 6) Qc) (fun _ _ => rfl)) Qf)))))) Qf)))
  (Qg (Ze PassesOwn.never rfl (Yv (pv 5)) (Xf (i := 9) scWay.nd rfl (Or.inl rfl) (Or.inl rfl)) (Qg (Qs (i := 6) scWay.nd rfl (Or.inl rfl) (Qk Qw (Qk Qlu (Xd cl_mixed (hr.mono (by decide)) (Qa (pv 0) (Qa (Qk Qw (pv 1) Qc) Qf))) (Qk Qw Qc (Qk Zk Qc (Qo Qt rfl M.len Xt (Qa (pv 8) Qf))))) (Qo Qt rfl M.len Xt (Qa (pv 8) Qf))))
  (Qg (Qs (i := 10) scWay.nd rfl (Or.inl rfl) (Qn Qj (Xa (Qa Qc (Qa Qc (Qa Qc Qf)))) (Qk Qy (Qk Xh (pv 6) Qc) Qc) (fun _ _ => rfl)))
  (Qg (Xi (PW.pt (Zi (Ql Xy (Qn Qj (pv 9) Qc (fun _ _ => rfl)) Qp (Qm _)) (Yu (Ql Vj (Qk Qy (pv 6) Qc) Qc (Qm _))))) (Qi (Yp (Zz PySem.F.plainAttrs_list PySem.F.slot_list_append PySem.F.type_list_append Xp (pv 8) (Qa (Xa (Qa Qp (Qa (pv 3) (Qa (pv 4) (Qa (Qn Qj (pv 9) Qc (fun _ _ => rfl)) (Qa (pv 10) Qf)))))) Qf)))) Qu)
  (Qg (Xi (PW.pt (Zi (Ql Xy (Qn Qj (pv 9) Qc (fun _ _ => rfl)) Qp (Qm _)) (Yu (Ql Qal (Qk Qy (pv 6) Qc) Qc (Qm _))))) (Qi (Yp (Zz PySem.F.plainAttrs_list PySem.F.slot_list_append PySem.F.type_list_append Xp (pv 8) (Qa (Xa (Qa (Qn Qj (Xa (Qa Qp (Qa Qp Qf))) (Qk Qy (pv 6) Qc) (fun _ _ => rfl)) (Qa (pv 3) (Qa (pv 4) (Qa (Qn Qj (pv 9) Qc (fun _ _ => rfl)) (Qa (pv 10) Qf)))))) Qf)))) Qu)
  (Qi (Xi (PW.pt (Zi (Ql Xy (Qn Qj (pv 9) Qc (fun _ _ => rfl)) Qp (Qm _)) (Yu (Ql Xy (Qk Qy (pv 6) Qc) Qc (Qm _))))) (Qi (Yp (Zz PySem.F.plainAttrs_list PySem.F.slot_list_append PySem.F.type_list_append Xp (pv 8) (Qa (Xa (Qa Qp (Qa (pv 3) (Qa (pv 4) (Qa (Qn Qj (pv 9) Qc (fun _ _ => rfl)) (Qa (Qk Qw Qc (Qk Qy (Qk Xh (pv 6) Qc) Qc)) Qf)))))) Qf)))) Qu)))))))
  (Qi (Qv (pv 8))))))), ?_⟩
 refine Ke ?_
 intro rT5 rT4 rT3 rT2
 have hz : (20000 : Nat) < sizeLine := by decide
 have lu := hT.length
 refine ⟨_, rfl, _, rfl, a, ns, st, rfl, hS, st0, by omega, fun z z0 z1 => ?_⟩
 refine ⟨_, rfl, _, rfl, by show 2 ≤ sizeLine; decide, fun p hp => ?_⟩
 have s1 := Qd hp (.lst [.int 3, .int 12])
 have hp1 : upd H p (.lst [.int 3, .int 12]) p = some (.lst [.int 3, .int 12]) := Qe
 generalize upd H p (.lst [.int 3, .int 12]) = H1 at s1 hp1 ⊢
 obtain ⟨m, em, hm⟩ := pick2 (a := 3) (b := 12) (z := z / 12)
 refine ⟨_, rfl, _, _, rfl, rfl, ⟨by decide, by decide⟩, _, _, rfl, rfl, (by show (0 : Int) < _; decide +kernel), p, _, _, _, rfl, rfl, Qb hp1, em, _, _, rfl, ?_⟩
 obtain ⟨mm, emm⟩ : ∃ mm : Int, (if m < n then m else n) = mm := ⟨_, rfl⟩
 have hmm : 1 ≤ mm ∧ mm ≤ n := by rw [← emm]; split <;> omega
 rw [emm]
 have l0 := xY z (show mm ≠ 0 by omega)
 have l1 := zJ z (show 0 < mm by omega)
 refine ⟨_, _, rfl, rfl, (by show 0 < mm; omega), _, _, rfl, rfl, ?_⟩
 dsimp only
 generalize hL : 1 + z % mm = L
 have hL1 : 1 ≤ L ∧ L ≤ n := by omega
 refine ⟨_, rfl, _, rfl, _, rfl, _, rfl, _, _, rfl, rfl, ⟨by decide, by decide⟩, _, _, rfl, rfl, (by show (0 : Int) < _; decide +kernel), _, rfl, _, _, rfl, rfl, ⟨by decide, by decide⟩, _, _, rfl, rfl, (by show (0 : Int) < _; decide +kernel), by show 2 ≤ sizeLine; decide, fun p2 hp2 => ?_⟩
 have s2 := s1.trans (Qd hp2 (.lst [.int (z / 24 % 10), .int (z / 24 % 1000000)]))
 have hp22 : upd H1 p2 (.lst [.int (z / 24 % 10), .int (z / 24 % 1000000)]) p2 = some (.lst [.int (z / 24 % 10), .int (z / 24 % 1000000)]) := Qe
 generalize upd H1 p2 (.lst [.int (z / 24 % 10), .int (z / 24 % 1000000)]) = H2 at s2 hp22 ⊢
 obtain ⟨c, ec, hc⟩ := pick2 (a := z / 24 % 10) (b := z / 24 % 1000000) (z := z)
 have hc' : 0 ≤ c ∧ c ≤ 999999 := by omega
 refine ⟨_, rfl, _, _, rfl, rfl, (by show (0 : Int) < _; decide +kernel), p2, _, _, _, rfl, rfl, Qb hp22, ec, by show 5 ≤ sizeLine; decide, fun l hl => ?_⟩
 have s3 := s2.trans (Qd hl (.lst [.str "way", .str w, .str v, .int L, .int c]))
 have hl3 : upd H2 l (.lst [.str "way", .str w, .str v, .int L, .int c]) l = some (.lst ((BR.way w v L c).cells.map kV)) := Qe
 generalize upd H2 l (.lst [.str "way", .str w, .str v, .int L, .int c]) = H3 at s3 hl3 ⊢
 refine ⟨by show 1 ≤ sizeLine; decide, fun g hg => ?_⟩
 have gH : H g = none := by
  cases e5 : H g with
  | none => rfl
  | some o => rw [s3 _ _ e5] at hg; cases hg
 have s4 := s3.trans (Qd hg (.lst [.ref l]))
 have hg4 : upd H3 g (.lst [.ref l]) g = some (.lst [.ref l]) := Qe
 have hB4 : RowsB (upd H3 g (.lst [.ref l])) [.ref l] [.way w v L c] := RowsB.snoc (vs := []) (B := []) .nil (Qd hg _ _ _ hl3)
 generalize upd H3 g (.lst [.ref l]) = H4 at s4 hg4 hB4 ⊢
 let Pv7 : Nat → St → Hp → Prop := fun i σ H5 => ∃ (zz : Int) (v9 v10 : Option V) (vs : List V) (U : List BR), σ = [some (.ref a), some (.int st), some (.int n), some (.str w), some (.str v), some (.ref d), some (.int zz), some (.int L), some (.ref g), v9, v10] ∧ H5 g = some (.lst vs) ∧ RowsB H5 vs (.way w v L c :: U) ∧ (∀ r ∈ U, UseOf T w v i r) ∧ U.Pairwise Apart ∧ U.length ≤ 2 * i ∧ Same H H5
 refine ⟨_, rfl, d, rfl, ⟨_, s4.seq hd⟩, Qak (K := K) (a := d) (xs := us) Pv7 ⟨z, none, none, _, [], rfl, hg4, hB4, fun _ h => (nomatch h), .nil, wQ _, s4⟩ (fun i σ H5 _ h => ?_) ?_ ?_⟩
 ·obtain ⟨zz, v9, v10, vs, U, rfl, hg5, hB5, hU, hnd, hlen, s5⟩ := h
  exact s5.seq hd
 ·rintro i x σ H5 e1 ⟨zz, v9, v10, vs, U, rfl, hg5, hB5, hU, hnd, hlen, s5⟩
  obtain ⟨r, lr, er, rfl, hr5⟩ := (hT.same s5).get e1
  have hi : i < T.length := (kY.mp er).1
  have lv := hB5.length
  rw [yZ] at lv
  refine ⟨_, rfl, _, rfl, _, _, rfl, rfl, a, ns, _, rfl, s5.seq hS, by omega, by omega, fun y y0 y1 => ?_⟩
  refine ⟨_, rfl, g, _, rfl, .inl (Qb hg5), _, _, rfl, rfl, mulC _ _ (by decide) (by decide), _, _, rfl, rfl, _, _, rfl, rfl, ?_, _, rfl, g, _, rfl, .inl (Qb hg5), _, _, rfl, rfl, ?_⟩
  ·exact ⟨by omega, zV (show (1 + 5 * ((vs.length : Nat) : Int)).natAbs ≤ 1000000 by omega) (by decide +kernel)⟩
  dsimp only
  generalize y.fdiv (1 + 5 * ((vs.length : Nat) : Int)) + ((vs.length : Nat) : Int) = N
  refine ⟨by show 3 ≤ sizeLine; decide, fun p6 hp6 => ?_⟩
  have s6 := Qd hp6 (.lst [.int 1, .int 2, .int 99])
  have hp66 : upd H5 p6 (.lst [.int 1, .int 2, .int 99]) p6 = some (.lst [.int 1, .int 2, .int 99]) := Qe
  generalize upd H5 p6 (.lst [.int 1, .int 2, .int 99]) = H6 at s6 hp66 ⊢
  obtain ⟨mu, emu, hmu⟩ := pick3 (a := 1) (b := 2) (c := 99) (z := N / 4)
  have hmu' : 1 ≤ mu ∧ mu ≤ 99 := by omega
  refine ⟨_, rfl, _, _, rfl, rfl, ⟨by decide, by decide⟩, _, _, rfl, rfl, (by show (0 : Int) < _; decide +kernel), p6, _, _, _, rfl, rfl, Qb hp66, emu, ?_⟩
  have hr6 := s6 _ _ hr5
  have hg6 := s6 _ _ hg5
  have hB6 := hB5.same s6
  have s56 := s5.trans s6
  cases tT.th r (yX er) with
  | shut b f t =>
   refine ⟨_, rfl, lr, _, _, _, rfl, rfl, Qb hr6, Vb (x := "shut") rfl, rfl, _, rfl, ite2 (fun y' => absurd y' (neS w_hb)) (fun _ => ?_)⟩
   refine ⟨_, rfl, lr, _, _, _, rfl, rfl, Qb hr6, Vb (x := "shut") rfl, rfl, _, rfl, ite2 (fun y' => absurd y' (neS w_hs)) (fun _ => ?_)⟩
   refine ⟨_, rfl, lr, _, _, _, rfl, rfl, Qb hr6, Vb (x := "shut") rfl, rfl, _, rfl, ite2 (fun y' => absurd y' (neS w_hs)) (fun _ => ?_)⟩
   exact ⟨_, _, _, vs, U, rfl, hg6, hB6, fun r hr => (hU r hr).mono (by omega), hnd, by omega, s56⟩
  | bench b rm =>
   refine ⟨_, rfl, lr, _, _, _, rfl, rfl, Qb hr6, Vb (x := "bench") rfl, rfl, _, rfl, ite2 (fun _ => ?_) (fun y' => absurd (yesS _) y')⟩
   have key : ∀ (H7 : Hp) (vs7 : List V) (U7 : List BR), H7 lr = some (.lst ((BR.bench b rm).cells.map kV)) → H7 g = some (.lst vs7) → RowsB H7 vs7 (.way w v L c :: U7) → (∀ r ∈ U7, UseOf T w v (i + 1) r) → U7.Pairwise Apart → U7.length ≤ 2 * (i + 1) → Same H H7 → ∃ (zz : Int) (v9 v10 : Option V) (vs : List V) (U : List BR), [some (.ref a), some (.int st), some (.int n), some (.str w), some (.str v), some (.ref d), some (.int N), some (.int L), some (.ref g), some (.ref lr), some (.int mu)] = [some (.ref a), some (.int st), some (.int n), some (.str w), some (.str v), some (.ref d), some (.int zz), some (.int L), some (.ref g), v9, v10] ∧ H7 g = some (.lst vs) ∧ RowsB H7 vs (.way w v L c :: U) ∧ (∀ r ∈ U, UseOf T w v (i + 1) r) ∧ U.Pairwise Apart ∧ U.length ≤ 2 * (i + 1) ∧ Same H H7 :=
    fun H7 vs7 U7 _ h2 h3 h4 h5 h6 h7 => ⟨_, _, _, vs7, U7, rfl, h2, h3, h4, h5, h6, h7⟩
   refine ⟨_, rfl, _, _, rfl, rfl, (by show (0 : Int) < _; decide +kernel), _, _, rfl, rfl, _, rfl, ite2 (fun _ => ?_) (fun _ => ?_)⟩
   ·refine ⟨_, rfl, .inl ⟨rfl, _, Qb hg6⟩, _, rfl, _, rfl, _, rfl, lr, _, _, _, rfl, rfl, Qb hr6, at_b1 _ _, _, rfl, by show 5 ≤ sizeLine; decide, fun l7 hl7 => ?_⟩
    have s7 := Qd hl7 (.lst [.str "uses", .str w, .str v, .str b, .int mu])
    have hl77 : upd H6 l7 (.lst [.str "uses", .str w, .str v, .str b, .int mu]) l7 = some (.lst ((BR.use 0 w v b mu).cells.map kV)) := Qe
    generalize upd H6 l7 (.lst [.str "uses", .str w, .str v, .str b, .int mu]) = H7 at s7 hl77 ⊢
    have hg7 := s7 _ _ hg6
    refine ⟨g, _, _, rfl, rfl, hg7, by omega, ?_⟩
    have hB8 := ((hB6.same s7).snoc hl77).updL (zs := vs ++ [.ref l7]) hg7 hB6.noRow
    have hr8 : upd H7 g (.lst (vs ++ [.ref l7])) lr = some (.lst ((BR.bench b rm).cells.map kV)) := by rw [Qq (Qky (s7 _ _ hr6) hg7 fun e => Qax hB6.noRow (.bench b rm) (HO.lst.inj e))]; exact s7 _ _ hr6
    have hg8 : upd H7 g (.lst (vs ++ [.ref l7])) g = some (.lst (vs ++ [.ref l7])) := Qe
    have s8 : Same H (upd H7 g (.lst (vs ++ [.ref l7]))) := fun c' o e => by rw [Qq (Qr e gH)]; exact (s56.trans s7) _ _ e
    generalize upd H7 g (.lst (vs ++ [.ref l7])) = H8 at hB8 hr8 hg8 s8 ⊢
    refine ⟨_, rfl, lr, _, _, _, rfl, rfl, Qb hr8, Vb (x := "bench") rfl, rfl, _, rfl, ite2 (fun y' => absurd y' (neS w_bs)) (fun _ => ?_)⟩
    refine ⟨_, rfl, lr, _, _, _, rfl, rfl, Qb hr8, Vb (x := "bench") rfl, rfl, _, rfl, ite2 (fun y' => absurd y' (neS w_bs)) (fun _ => ?_)⟩
    refine key H8 _ (U ++ [BR.use 0 w v b mu]) hr8 hg8 hB8 (fun r hr => ?_) (wK.mpr ⟨hnd, jYe _ _, fun r hr q hq => ?_⟩) (by rw [jV]; show U.length + 1 ≤ _; omega) s8
    ·rcases kQ.mp hr with h | h
     ·exact (hU r h).mono (by omega)
     ·rw [jQ.mp h]; exact ⟨0, b, mu, rfl, hmu'.1, hmu'.2, .inl ⟨rfl, i, rm, by omega, er⟩⟩
    ·rw [jQ.mp hq]; exact Vz tT.nd (hU r hr) (.inl ⟨rfl, rm, er⟩)
   ·refine ⟨_, rfl, lr, _, _, _, rfl, rfl, Qb hr6, Vb (x := "bench") rfl, rfl, _, rfl, ite2 (fun y' => absurd y' (neS w_bs)) (fun _ => ?_)⟩
    refine ⟨_, rfl, lr, _, _, _, rfl, rfl, Qb hr6, Vb (x := "bench") rfl, rfl, _, rfl, ite2 (fun y' => absurd y' (neS w_bs)) (fun _ => ?_)⟩
    exact key H6 vs U hr6 hg6 hB6 (fun r hr => (hU r hr).mono (by omega)) hnd (by omega) s56
  | store b rm ff =>
   refine ⟨_, rfl, lr, _, _, _, rfl, rfl, Qb hr6, Vb (x := "store") rfl, rfl, _, rfl, ite2 (fun y' => absurd y' (neS w_sb)) (fun _ => ?_)⟩
   have fin : ∀ (H7 : Hp) (vs7 : List V) (U7 : List BR), H7 g = some (.lst vs7) → RowsB H7 vs7 (.way w v L c :: U7) → (∀ r ∈ U7, UseOf T w v (i + 1) r) → U7.Pairwise Apart → U7.length ≤ 2 * (i + 1) → Same H H7 → ∃ (zz : Int) (v9 v10 : Option V) (vs : List V) (U : List BR), [some (.ref a), some (.int st), some (.int n), some (.str w), some (.str v), some (.ref d), some (.int N), some (.int L), some (.ref g), some (.ref lr), some (.int mu)] = [some (.ref a), some (.int st), some (.int n), some (.str w), some (.str v), some (.ref d), some (.int zz), some (.int L), some (.ref g), v9, v10] ∧ H7 g = some (.lst vs) ∧ RowsB H7 vs (.way w v L c :: U) ∧ (∀ r ∈ U, UseOf T w v (i + 1) r) ∧ U.Pairwise Apart ∧ U.length ≤ 2 * (i + 1) ∧ Same H H7 :=
    fun H7 vs7 U7 h2 h3 h4 h5 h6 h7 => ⟨_, _, _, vs7, U7, rfl, h2, h3, h4, h5, h6, h7⟩
   refine ⟨_, rfl, lr, _, _, _, rfl, rfl, Qb hr6, Vb (x := "store") rfl, rfl, _, rfl, ite2 (fun _ => ?_) (fun y' => absurd (yesS _) y')⟩
   refine ⟨_, rfl, _, _, rfl, rfl, (by show (0 : Int) < _; decide +kernel), rfl, _, rfl, ite2 (fun ne => ?_) (fun eq => ?_)⟩
   ·obtain ⟨kk, ekk, k0, k2⟩ := pickTG N
    refine ⟨_, rfl, .inl ⟨rfl, _, Qb hg6⟩, by show 2 ≤ sizeLine; decide, fun p7 hp7 => ?_⟩
    have s7a := Qd hp7 (.lst [.str "takes", .str "gives"])
    have hp77 : upd H6 p7 (.lst [.str "takes", .str "gives"]) p7 = some (.lst [.str "takes", .str "gives"]) := Qe
    generalize upd H6 p7 (.lst [.str "takes", .str "gives"]) = H7a at s7a hp77 ⊢
    refine ⟨_, rfl, _, _, rfl, rfl, (by show (0 : Int) < _; decide +kernel), p7, _, _, _, rfl, rfl, Qb hp77, ekk, _, rfl, _, rfl, _, rfl, lr, _, _, _, rfl, rfl, Qb (s7a _ _ hr6), at_s1 _ _ _, _, rfl, by show 5 ≤ sizeLine; decide, fun l7 hl7 => ?_⟩
    have s7 := s7a.trans (Qd hl7 (.lst [.str (useW kk), .str w, .str v, .str b, .int mu]))
    have hl77 : upd H7a l7 (.lst [.str (useW kk), .str w, .str v, .str b, .int mu]) l7 = some (.lst ((BR.use kk w v b mu).cells.map kV)) := Qe
    generalize upd H7a l7 (.lst [.str (useW kk), .str w, .str v, .str b, .int mu]) = H7 at s7 hl77 ⊢
    have hg7 := s7 _ _ hg6
    refine ⟨g, _, _, rfl, rfl, hg7, by omega, ?_⟩
    have hB8 := ((hB6.same s7).snoc hl77).updL (zs := vs ++ [.ref l7]) hg7 hB6.noRow
    have hr8 : upd H7 g (.lst (vs ++ [.ref l7])) lr = some (.lst ((BR.store b rm ff).cells.map kV)) := by rw [Qq (Qky (s7 _ _ hr6) hg7 fun e => Qax hB6.noRow (.store b rm ff) (HO.lst.inj e))]; exact s7 _ _ hr6
    have hg8 : upd H7 g (.lst (vs ++ [.ref l7])) g = some (.lst (vs ++ [.ref l7])) := Qe
    have s8 : Same H (upd H7 g (.lst (vs ++ [.ref l7]))) := fun c' o e => by rw [Qq (Qr e gH)]; exact (s56.trans s7) _ _ e
    generalize upd H7 g (.lst (vs ++ [.ref l7])) = H8 at hB8 hr8 hg8 s8 ⊢
    have hU8 : ∀ r ∈ U ++ [BR.use kk w v b mu], UseOf T w v (i + 1) r := fun r hr => by
     rcases kQ.mp hr with h | h
     ·exact (hU r h).mono (by omega)
     ·rw [jQ.mp h]; exact ⟨kk, b, mu, rfl, hmu'.1, hmu'.2, .inr ⟨k0, i, rm, ff, by omega, er⟩⟩
    have hn8 : (U ++ [BR.use kk w v b mu]).Pairwise Apart := wK.mpr ⟨hnd, jYe _ _, fun r hr q hq => by
     rw [jQ.mp hq]; exact Vz tT.nd (hU r hr) (.inr ⟨k0, rm, ff, er⟩)⟩
    have hl8 : (U ++ [BR.use kk w v b mu]).length = U.length + 1 := by rw [jV]; rfl
    refine ⟨_, rfl, lr, _, _, _, rfl, rfl, Qb hr8, Vb (x := "store") rfl, rfl, _, rfl, ite2 (fun _ => ?_) (fun y' => absurd (yesS _) y')⟩
    refine ⟨_, rfl, _, _, rfl, rfl, (by show (0 : Int) < _; decide +kernel), rfl, _, rfl, ite2 (fun y3 => ?_) (fun _ => ?_)⟩
    ·have e3 : N % 4 = 3 := by
      have := yY y3
      injection this
     have ek2 : kk = 2 := k2 (by omega)
     subst ek2
     have c0 := xY (N / 12) (show (99 : Int) ≠ 0 by decide)
     have c1 := zJ (N / 12) (show (0 : Int) < 99 by decide)
     refine ⟨_, rfl, .inl ⟨rfl, _, Qb hg8⟩, _, rfl, _, rfl, _, rfl, lr, _, _, _, rfl, rfl, Qb hr8, at_s1 _ _ _, _, rfl, _, _, rfl, rfl, ⟨by decide, by decide⟩, _, _, rfl, rfl, (by show (0 : Int) < _; decide +kernel), _, _, rfl, rfl, by show 5 ≤ sizeLine; decide, fun l9 hl9 => ?_⟩
     have s9 := Qd hl9 (.lst [.str "takes", .str w, .str v, .str b, .int (1 + N / 12 % 99)])
     have hl99 : upd H8 l9 (.lst [.str "takes", .str w, .str v, .str b, .int (1 + N / 12 % 99)]) l9 = some (.lst ((BR.use 1 w v b (1 + N / 12 % 99)).cells.map kV)) := Qe
     generalize upd H8 l9 (.lst [.str "takes", .str w, .str v, .str b, .int (1 + N / 12 % 99)]) = H9 at s9 hl99 ⊢
     have hg9 := s9 _ _ hg8
     refine ⟨g, _, _, rfl, rfl, hg9, by rw [jV]; show vs.length + 1 < _; omega, ?_⟩
     have hB10 := ((hB8.same s9).snoc hl99).updL (zs := vs ++ [.ref l7] ++ [.ref l9]) hg9 hB8.noRow
     refine fin _ _ (U ++ [BR.use 2 w v b mu] ++ [BR.use 1 w v b (1 + N / 12 % 99)]) Qe hB10 (fun r hr => ?_) (wK.mpr ⟨hn8, jYe _ _, fun r hr q hq => ?_⟩) (by rw [jV, hl8]; show U.length + 1 + 1 ≤ _; omega) (fun c' o e => by rw [Qq (Qr e gH)]; exact (s8.trans s9) _ _ e)
     ·rcases kQ.mp hr with h | h
      ·exact hU8 r h
      ·rw [jQ.mp h]; exact ⟨1, b, _, rfl, by omega, by omega, .inr ⟨by decide, i, rm, ff, by omega, er⟩⟩
     ·rw [jQ.mp hq]
      rcases kQ.mp hr with h | h
      ·exact Vz tT.nd (hU r h) (.inr ⟨by decide, rm, ff, er⟩)
      ·rw [jQ.mp h]; exact Qaa (by show ¬ (("gives" : Str) = "takes"); decide +kernel)
    ·exact fin H8 _ (U ++ [BR.use kk w v b mu]) hg8 hB8 hU8 hn8 (by rw [hl8]; omega) s8
   ·have e0 : N % 4 = 0 := by
     by_cases e0 : N % 4 = 0
     ·exact e0
     ·exact absurd (show (!decide (V.int (N % 4) = V.int 0)) = true by rw [jXf, decide_eq_false_iff_not]; intro z'; injection z' with z'; exact e0 z') eq
    refine ⟨_, rfl, lr, _, _, _, rfl, rfl, Qb hr6, Vb (x := "store") rfl, rfl, _, rfl, ite2 (fun _ => ?_) (fun y' => absurd (yesS _) y')⟩
    refine ⟨_, rfl, _, _, rfl, rfl, (by show (0 : Int) < _; decide +kernel), rfl, _, rfl, ite2 (fun y3 => ?_) (fun _ => ?_)⟩
    ·have := yY y3
     injection this with e3
     omega
    ·exact fin H6 vs U hg6 hB6 (fun r hr => (hU r hr).mono (by omega)) hnd (by omega) s56
 ·rintro σ H5 ⟨zz, v9, v10, vs, U, rfl, hg5, hB5, hU, hnd, hlen, s5⟩
  rw [lu] at hU
  refine ⟨_, rfl, q g vs _ H5 s5 gH hg5 hB5 ⟨⟨L, c, U, rfl, hL1.1, hL1.2, hc'.1, hc'.2, hU⟩, jJe.mpr ⟨fun r hr => ?_, hnd⟩, by rw [yZ]; omega⟩⟩
  obtain ⟨k, t, m', rfl, _⟩ := hU r hr
  exact way_apart
end
abbrev sPut : Stmt := top 28
def ownN (k : Nat) (ns : List Str) : List Str := if k = 9 then ns else if k ≤ 3 then [] else ns.take 1
theorem Qnk (r : BR) : r.own = ownN r.kind r.names := by
 cases r with
 | use k w v t m =>
  have hk := k.isLt
  show [w] = ownN (6 + k.val) [w, v, t]
  unfold ownN
  rw [if_neg (by omega), if_neg (by omega)]
  rfl
 | _ => rfl
theorem Qdr {r q : BR} (h : r.key = q.key) {w : Str} (hw : w ∈ q.own) : w ∈ r.own := by
 have h' : ((Sum.inr r.word : Key) :: r.names.map Sum.inr) = Sum.inr q.word :: q.names.map Sum.inr := h
 injection h' with h1 h2
 have e1 : r.word = q.word := Sum.inr.inj h1
 have e2 : r.names = q.names := (List.map_inj_right fun x y e => Sum.inr.inj e).mp h2
 have e3 : r.kind = q.kind := Yl _ (Ye r) _ (Ye q) (by rw [← Xz, ← Xz]; exact e1)
 rw [Qnk, e2, e3, ← Qnk]
 exact hw
structure WkOk (n : Int) (T : List BR) (nm : List Str) (W : List BR) : Prop where
 ok : ∀ r ∈ W, r.ok n
 nd : W.Pairwise Apart
 own : ∀ r ∈ W, r.own ≠ [] ∧ ∀ w ∈ r.own, w ∈ nm
 wk : ∀ w ∈ nm, BR.work w ∈ W
 gn : ∀ r ∈ W, r.gn
 ah : Ahead ([.days n] ++ T) W
def OfWay (w : Str) (j : Nat) (r : BR) : Prop := ∃ v, fl v < 97 + j ∧ ((∃ l c, r = .way w v l c) ∨ ∃ k t m, r = .use k w v t m)
theorem OfWay.own {w : Str} {j : Nat} {r : BR} (h : OfWay w j r) : r.own = [w] := by
 obtain ⟨v, _, ⟨l, c, rfl⟩ | ⟨k, t, m, rfl⟩⟩ := h
 ·rfl
 ·rfl
theorem OfWay.mono {w : Str} {i j : Nat} {r : BR} (h : OfWay w i r) (hij : i ≤ j) : OfWay w j r := by
 obtain ⟨v, h1, h2⟩ := h
 exact ⟨v, by omega, h2⟩
theorem Qix {n : Int} {T : List BR} {w v : Str} {j : Nat} {R : List BR} {r q : BR} (hr : OfWay w j r) (hv : fl v = 97 + j) (hR : WayBlk n T w v R) (hq : q ∈ R) : Apart r q := by
 obtain ⟨l, c, U, rfl, _, _, _, _, hU⟩ := hR.hd
 obtain ⟨v', h1, h2⟩ := hr
 have ne : v' ≠ v := fun z => by rw [z] at h1; omega
 have hq' : (∃ l c, q = .way w v l c) ∨ ∃ k t m, q = .use k w v t m := by
  rcases jZ.mp hq with e | e
  ·exact .inl ⟨l, c, e⟩
  ·obtain ⟨k, t, m, e1, _⟩ := hU q e
   exact .inr ⟨k, t, m, e1⟩
 have kv : ∀ {a b : Str} {x y : List Key}, (Sum.inr a :: (Sum.inr w : Key) :: Sum.inr v' :: x) = (Sum.inr b :: Sum.inr w :: Sum.inr v :: y) → False := fun z => by
  injection z with _ z2
  injection z2 with _ z3
  injection z3 with z4
  injection z4 with z5
  exact ne z5
 rcases h2 with ⟨l', c', rfl⟩ | ⟨k', t', m', rfl⟩
 ·rcases hq' with ⟨l2, c2, rfl⟩ | ⟨k2, t2, m2, rfl⟩
  ·exact .inr (.inr fun z => kv z)
  ·exact way_apart
 ·rcases hq' with ⟨l2, c2, rfl⟩ | ⟨k2, t2, m2, rfl⟩
  ·exact way_apart.symm
  ·exact .inr (.inr fun z => kv z)
theorem blk_of {n : Int} {T : List BR} {w v : Str} {j : Nat} {R : List BR} (hv : fl v = 97 + j) (hR : WayBlk n T w v R) : (∀ q ∈ R, OfWay w (j + 1) q) ∧ ∀ q ∈ R, q.ok n := by
 obtain ⟨l, c, U, rfl, h1, h2, h3, h4, hU⟩ := hR.hd
 refine ⟨fun q hq => ?_, fun q hq => ?_⟩
 ·rcases jZ.mp hq with e | e
  ·exact ⟨v, by omega, .inl ⟨l, c, e⟩⟩
  ·obtain ⟨k, t, m, e1, _⟩ := hU q e
   exact ⟨v, by omega, .inr ⟨k, t, m, e1⟩⟩
 ·rcases jZ.mp hq with e | e
  ·rw [e]; exact ⟨h1, h2, h3, h4⟩
  ·obtain ⟨k, t, m, e1, m1, m2, _⟩ := hU q e
   rw [e1]; exact ⟨m1, m2⟩
theorem blk_gn {n : Int} {T : List BR} {w v : Str} {R : List BR} (tT : ThOk n T) (hw : NmOk w) (hv : NmOk v) (hR : WayBlk n T w v R) : ∀ q ∈ R, q.gn := by
 obtain ⟨l, c, U, rfl, _, _, _, _, hU⟩ := hR.hd
 intro q hq x hx
 rcases jZ.mp hq with e | e
 ·rw [e] at hx
  rcases jZ.mp hx with e1 | e1
  ·rw [e1]; exact hw
  ·rw [jQ.mp e1]; exact hv
 ·obtain ⟨k, t, m, e1, _, _, h6⟩ := hU q e
  have ht : NmOk t := by
   rcases h6 with ⟨_, j, b, _, h7⟩ | ⟨_, j, b, c', _, h7⟩
   ·exact tT.gn _ (yX h7) t jY
   ·exact tT.gn _ (yX h7) t jY
  rw [e1] at hx
  rcases jZ.mp hx with e2 | e2
  ·rw [e2]; exact hw
  ·rcases jZ.mp e2 with e3 | e3
   ·rw [e3]; exact hv
   ·rw [jQ.mp e3]; exact ht
theorem Qiy {S T : List BR} (h : ∀ r ∈ T, ∀ k ∈ r.needs, Said S k) : Ahead S T := by
 induction T generalizing S with
 | nil => exact True.intro
 | cons r T ih => exact ⟨h r jY, ih fun q hq k hk => (h q (kX _ hq) k hk).mono fun x hx => yJ _ hx⟩
theorem blk_ah {n : Int} {T : List BR} {w v : Str} {R S : List BR} (hS : ∀ q ∈ T, q ∈ S) (hw : BR.work w ∈ S) (hR : WayBlk n T w v R) : Ahead S R := by
 obtain ⟨l, c, U, rfl, _, _, _, _, hU⟩ := hR.hd
 refine ⟨fun k hk => ?_, Qiy fun q hq k hk => ?_⟩
 ·rw [jQ.mp hk]
  exact ⟨.work w, hw, rfl⟩
 ·obtain ⟨k', t, m, rfl, _, _, h6⟩ := hU q hq
  rcases h6 with ⟨rfl, j, b, _, h7⟩ | ⟨h0, j, b, c', _, h7⟩
  ·rcases jZ.mp hk with e | e
   ·rw [e]; exact ⟨.way w v l c, kZ _ jY, rfl⟩
   ·rw [jQ.mp e]; exact ⟨_, yJ _ (hS _ (yX h7)), rfl⟩
  ·have hk' : k ∈ [[(Sum.inr ("way" : Str) : Key), Sum.inr w, Sum.inr v], [Sum.inr ("store" : Str), Sum.inr t]] := by
    match k', h0, hk with
    | 0, h0, _ => exact absurd rfl h0
    | 1, _, hk => exact hk
    | 2, _, hk => exact hk
   rcases jZ.mp hk' with e | e
   ·rw [e]; exact ⟨.way w v l c, kZ _ jY, rfl⟩
   ·rw [jQ.mp e]; exact ⟨_, yJ _ (hS _ (yX h7)), rfl⟩
structure BlkOk (n : Int) (T : List BR) (nm : List Str) (w : Str) (W Y : List BR) : Prop where
 ok : ∀ r ∈ Y, r.ok n
 nd : Y.Pairwise Apart
 own : ∀ r ∈ Y, w ∈ r.own ∧ ∀ x ∈ r.own, x ∈ nm ++ [w]
 gn : ∀ r ∈ Y, r.gn
 ah : Ahead ([.days n] ++ T ++ W) Y
theorem BlkOk.snoc {n : Int} {T : List BR} {nm : List Str} {w : Str} {W Y : List BR} {r : BR} (h : BlkOk n T nm w W Y) (h1 : r.ok n) (h2 : w ∈ r.own) (h3 : ∀ x ∈ r.own, x ∈ nm ++ [w]) (h4 : ∀ q ∈ Y, Apart q r) (h5 : r.gn) (h6 : ∀ k ∈ r.needs, Said ([.days n] ++ T ++ W ++ Y) k) : BlkOk n T nm w W (Y ++ [r]) := by
 refine ⟨fun q hq => ?_, wK.mpr ⟨h.nd, jYe _ _, fun a ha b hb => ?_⟩, fun q hq => ?_, fun q hq => ?_, h.ah.app (Ahead.one h6)⟩
 ·rcases kQ.mp hq with z | z
  ·exact h.ok q z
  ·rw [jQ.mp z]; exact h1
 ·rw [jQ.mp hb]; exact h4 a ha
 ·rcases kQ.mp hq with z | z
  ·exact h.own q z
  ·rw [jQ.mp z]; exact ⟨h2, h3⟩
 ·rcases kQ.mp hq with z | z
  ·exact h.gn q z
  ·rw [jQ.mp z]; exact h5
theorem WkOk.join {n : Int} {T : List BR} {nm : List Str} {w : Str} {W Y : List BR} (h : WkOk n T nm W) (hw : w ∉ nm) (b : BlkOk n T nm w W Y) (hk : BR.work w ∈ Y) : WkOk n T (nm ++ [w]) (W ++ Y) := by
 refine ⟨fun r hr => ?_, wK.mpr ⟨h.nd, b.nd, fun r hr q hq => ?_⟩, fun r hr => ?_, fun x hx => ?_, fun r hr => ?_, h.ah.app b.ah⟩
 ·rcases kQ.mp hr with z | z
  ·exact h.ok r z
  ·exact b.ok r z
 ·refine .inr (.inr fun z => hw ?_)
  exact (h.own r hr).2 w (Qdr z (b.own q hq).1)
 ·rcases kQ.mp hr with z | z
  ·exact ⟨(h.own r z).1, fun x hx => yJ _ ((h.own r z).2 x hx)⟩
  ·exact ⟨fun e => (by have := (b.own r z).1; rw [e] at this; exact nomatch this), (b.own r z).2⟩
 ·rcases kQ.mp hx with z | z
  ·exact yJ _ (h.wk x z)
  ·rw [jQ.mp z]; exact kZ _ hk
 ·rcases kQ.mp hr with z | z
  ·exact h.gn r z
  ·exact b.gn r z
theorem Qac : ∀ {ks ls : List Key}, ks.map kV = ls.map kV → ks = ls
 | [], [], _ => rfl
 | [], _ :: _, h => nomatch h
 | _ :: _, [], h => nomatch h
 | a :: ks, b :: ls, h => by
  injection h with h1 h2
  rw [Qac h2]
  cases a <;> cases b <;> cases h1 <;> rfl
def Hit1 (q r : BR) : Prop := ∃ a x : Str, (a = "bench" ∨ a = "store" ∨ a = "work") ∧ q.key = [Sum.inr a, Sum.inr x] ∧ x ∈ r.names
def Hit2 (q r : BR) : Prop := ∃ (w v : Str) (t : List Str), q.key = [Sum.inr ("way" : Str), Sum.inr w, Sum.inr v] ∧ r.names = w :: v :: t
theorem Vf {q : BR} {a : Str} {ks : List Key} (h : q.key = Sum.inr a :: ks) : q.word = a := by
 have h' : (Sum.inr q.word : Key) :: q.names.map Sum.inr = Sum.inr a :: ks := h
 injection h' with h1 _
 exact Sum.inr.inj h1
theorem Qpf {q r : BR} (h : Hit1 q r) : inV (.str q.word) [.str "bench", .str "store", .str "work"] = true := by
 obtain ⟨a, x, ha, e, _⟩ := h
 rw [Vf e]
 rcases ha with rfl | rfl | rfl <;> decide +kernel
theorem Kh (r : BR) : r.cells.map kV = r.key.map kV ++ r.nums.map V.int := by
 unfold BR.cells
 rw [jXe, kQe]
 rfl
theorem Qpg {q r : BR} (h : Hit1 q r) : ∃ x : Str, atI (q.cells.map kV) 1 = some (.str x) ∧ x ∈ r.names := by
 obtain ⟨a, x, ha, e, hx⟩ := h
 exact ⟨x, by rw [Kh, e]; exact Zp (k := 1) rfl, hx⟩
theorem Yc (r : BR) : r.cells.map kV = .str r.word :: (r.names.map V.str ++ r.nums.map V.int) := by
 rw [Kh]
 unfold BR.key
 rw [xQ, kQe]
 rfl
theorem cut1 {α : Type} (x : V) (xs : List V) : cutV (x :: xs) (some 1) none = xs := by
 unfold cutV
 rw [HT.sIx_none, show (1 : Int) = ((1 : Nat) : Int) from rfl, HT.sIx_nat, yZ, xX (by omega)]
 show List.take (xs.length + 1 - 1) xs = xs
 exact jZb (by omega)
theorem Qmc {r : BR} {x : Str} (h : x ∈ r.names) : inV (.str x) (cutV (r.cells.map kV) (some 1) none) = true := by
 rw [Yc, cut1 (α := V)]
 unfold inV
 rw [List.any_eq_true]
 refine ⟨.str x, yJ _ (jYd h), ?_⟩
 show (x == x) = true
 exact beq_self_eq_true x
theorem cut13 (x : V) (a b : V) (xs : List V) : cutV (x :: a :: b :: xs) (some 1) (some 3) = [a, b] := by
 unfold cutV
 rw [show (1 : Int) = ((1 : Nat) : Int) from rfl, show (3 : Int) = ((3 : Nat) : Int) from rfl, HT.sIx_nat, HT.sIx_nat, yZ, yZ, yZ, xX (by omega), xX (by omega)]
 rfl
theorem Qey {q r : BR} (h : Hit2 q r) : q.word = "way" ∧ cutV (q.cells.map kV) (some 1) (some 3) = cutV (r.cells.map kV) (some 1) (some 3) := by
 obtain ⟨w, v, t, e, hr⟩ := h
 refine ⟨Vf e, ?_⟩
 rw [Kh q, e, Yc r, hr]
 show cutV (V.str "way" :: V.str w :: V.str v :: (q.nums.map V.int)) (some 1) (some 3) = cutV (V.str r.word :: V.str w :: V.str v :: (t.map V.str ++ r.nums.map V.int)) (some 1) (some 3)
 rw [cut13, cut13]
theorem Qmd {q r : BR} (h : q.key ∈ r.needs) : q.key = [Sum.inr ("days" : Str)] ∨ Hit1 q r ∨ Hit2 q r := by
 have m1 : ∀ {k : List Key}, q.key ∈ [k] → q.key = k := fun z => jQ.mp z
 have m2 : ∀ {k l : List Key}, q.key ∈ [k, l] → q.key = k ∨ q.key = l := fun z => by
  rcases jZ.mp z with z | z
  ·exact .inl z
  ·exact .inr (jQ.mp z)
 cases r with
 | days n => exact nomatch h
 | bench b r => exact .inl (m1 h)
 | shut b f t => exact .inr (.inl ⟨"bench", b, .inl rfl, m1 h, jY⟩)
 | store s m f => exact .inl (m1 h)
 | work w => exact .inl (m1 h)
 | way w v l c => exact .inr (.inl ⟨"work", w, .inr (.inr rfl), m1 h, jY⟩)
 | late w d c => exact .inr (.inl ⟨"work", w, .inr (.inr rfl), m1 h, jY⟩)
 | after w x g =>
  rcases m2 h with e | e
  ·exact .inr (.inl ⟨"work", w, .inr (.inr rfl), e, jY⟩)
  ·exact .inr (.inl ⟨"work", x, .inr (.inr rfl), e, kX _ jY⟩)
 | use k w v t m =>
  have h3 : q.key = [Sum.inr ("way" : Str), Sum.inr w, Sum.inr v] ∨ (∃ a : Str, (a = "bench" ∨ a = "store" ∨ a = "work") ∧ q.key = [Sum.inr a, Sum.inr t]) := by
   match k, h with
   | 0, h =>
    rcases m2 h with e | e
    ·exact .inl e
    ·exact .inr ⟨"bench", .inl rfl, e⟩
   | 1, h =>
    rcases m2 h with e | e
    ·exact .inl e
    ·exact .inr ⟨"store", .inr (.inl rfl), e⟩
   | 2, h =>
    rcases m2 h with e | e
    ·exact .inl e
    ·exact .inr ⟨"store", .inr (.inl rfl), e⟩
  rcases h3 with e | ⟨a, ha, e⟩
  ·exact .inr (.inr ⟨w, v, [t], e, rfl⟩)
  ·exact .inr (.inl ⟨a, t, ha, e, kX _ (kX _ jY)⟩)
theorem Qme {B : List BR} {n : Int} {r : BR} {k : Nat} (h0 : B[0]? = some (.days n)) (k1 : 1 ≤ k) (hh : ∀ j q, B[j]? = some q → Hit1 q r ∨ Hit2 q r → j < k) {κ : List Key} (hk : κ ∈ r.needs) (hs : Said B κ) : Said (B.take k) κ := by
 obtain ⟨q, hq, rfl⟩ := hs
 obtain ⟨j, ej⟩ := wJ.mp hq
 have fin : ∀ (j : Nat) (q' : BR), B[j]? = some q' → q'.key = q.key → j < k → Said (B.take k) q.key := fun j q' e e2 hj => ⟨q', yX (i := j) (by rw [List.getElem?_take, if_pos hj]; exact e), e2⟩
 rcases Qmd hk with e | e
 ·exact fin 0 _ h0 e.symm (by omega)
 ·exact fin j q ej rfl (hh j q ej e)
theorem Qaz (ks : List Key) (lo hi : Option Int) : ∃ ls : List Key, cutV (ks.map kV) lo hi = ls.map kV := by
 unfold cutV
 rw [jW]
 exact ⟨(ks.drop (HT.sIx ks.length 0 lo)).take (HT.sIx ks.length ks.length hi - HT.sIx ks.length 0 lo), by rw [kQb, List.map_drop]⟩
theorem flat_keys (ks : List Key) : (ks.map kV).all Yd = true := by
 rw [xK]
 intro v hv
 obtain ⟨k, _, rfl⟩ := xZ.mp hv
 exact Ve k
theorem in3 {a b c : Str} {r : BR} (h : inV (.str r.word) [.str a, .str b, .str c] = true) : a = r.word ∨ b = r.word ∨ c = r.word := by
 have h' : (a == r.word || (b == r.word || (c == r.word || false))) = true := h
 simp only [kYc, beq_iff_eq, Bool.false_eq_true, or_false] at h'
 exact h'
theorem cell1 {r : BR} (h : ("bench" : Str) = r.word ∨ ("store" : Str) = r.word ∨ ("work" : Str) = r.word) : ∃ x : Str, atI (r.cells.map kV) 1 = some (.str x) := by
 cases r with
 | days n =>
  rcases h with h | h | h
  ·exact absurd h (by show ¬ (("bench" : Str) = "days"); decide +kernel)
  ·exact absurd h (by show ¬ (("store" : Str) = "days"); decide +kernel)
  ·exact absurd h (by show ¬ (("work" : Str) = "days"); decide +kernel)
 | bench b r => exact ⟨b, rfl⟩
 | shut b f t => exact ⟨b, rfl⟩
 | store s m f => exact ⟨s, rfl⟩
 | work w => exact ⟨w, rfl⟩
 | way w v l c => exact ⟨w, rfl⟩
 | use k w v t m => exact ⟨w, rfl⟩
 | after w x g => exact ⟨w, rfl⟩
 | late w d c => exact ⟨w, rfl⟩
theorem Qiz {t1 t2 : TS} {D : Ends} {σ : St} {H : Hp} (Pv : St → Hp → Prop) (h2 : ∀ σ' H', Pv σ' H' → t2 D σ' H') (h1 : (∀ σ' H', Pv σ' H' → t2 D σ' H') → t1 { D with nx := t2 D } σ H) : tSeq t1 t2 D σ H := h1 h2
def spPut (K : Fg) : Sp := fun vs H Q _ => ∃ (d l : Addr) (z : Int) (us : List V) (B : List BR) (r : BR), vs = [.ref d, .ref l, .int z] ∧ H d = some (.lst us) ∧ RowsB H us B ∧ 1 ≤ B.length ∧ B.length ≤ 1000 ∧ H l = some (.lst (r.cells.map kV)) ∧
 ∀ (g : Addr) (k : Nat) (H' : Hp), 1 ≤ k → k ≤ B.length → (∀ j q, B[j]? = some q → Hit1 q r ∨ Hit2 q r → j < k) → Same H H' → H g = none → H' g = some (.lst (us.take k ++ [.ref l] ++ us.drop k)) → Q (.ref g) H'
section
variable {P : Program} {w : World} {K : Fg} {mg : Str → Option Value} {base : Heap}
theorem scPut : FnScope ["_law_rows", "_law_row", "_law_number_here", "_law_least", "_law_k", "_law_at"] ["_law_rows", "_law_row", "_law_number_here"] (Qh sPut) := ⟨rfl, rfl, rfl, by decide +kernel, rfl, by decide +kernel, by decide +kernel⟩
theorem okPut (F : Fn K mg "_law_put" sPut) (M : Mg mg) : Cal P w K mg base 1 "_law_put" ["_law_rows", "_law_row", "_law_number_here"] (spPut K) := by
 refine Xr F scPut (fun _ _ _ _ _ _ => Qcn (fun _ _ _ => rfl)) (fun vs H Q E h => ?_) (fun f cdv A outer s H vs Q E hr h => ?_)
 ·obtain ⟨d, l, z, us, B, r, rfl, _⟩ := h
  rfl
 obtain ⟨d, l, z, us, B, r, rfl, hd, hB, b1, b2, hl, q⟩ := h
 have hu6 : (A.deeper (PyProof.Rows.envOfC "_law_put" (Qh sPut) s.heap.objs.size f cdv)).units + 6 < cLine := zV (zX (by decide) _) hr.un
 refine ⟨_, (Qg (Qs (i := 3) scPut.nd rfl (Or.inl rfl) Qc)
  (Qg (Ze PassesOwn.never rfl (Yf rfl M.range_ (Qa (Qo Qt rfl M.len Xt (Qa (pv 0) Qf)) Qf)) (Xf (i := 4) scPut.nd rfl (Or.inl rfl) (Or.inl rfl)) (Qg (Xi (PW.pt (Zi (Ql Jw (Qn Qj (Qn Qj (pv 0) (pv 4) (fun _ _ => rfl)) Qc (fun _ _ => rfl)) (Xa (Qa Qp (Qa Qp (Qa Qp Qf)))) rfl) (Yu (Ql Jw (Qn Qj (Qn Qj (pv 0) (pv 4) (fun _ _ => rfl)) Qc (fun _ _ => rfl)) (Xe Xl (pv 1) (Xg Qc) Xm) rfl)))) (Qi (Qs (i := 3) scPut.nd rfl (Or.inl rfl) (Qk Qw (pv 4) Qc))) Qu)
  (Qi (Xi (PW.pt (Zi (Ql Xy (Qn Qj (Qn Qj (pv 0) (pv 4) (fun _ _ => rfl)) Qc (fun _ _ => rfl)) Qp (Qm _)) (Yu (Ql (op_eqK (K := K) (n := 6) rfl hu6) (Xe Xl (Qn Qj (pv 0) (pv 4) (fun _ _ => rfl)) (Xg Qc) (Xg Qc)) (Xe Xl (pv 1) (Xg Qc) (Xg Qc)) (Qm _))))) (Qi (Qs (i := 3) scPut.nd rfl (Or.inl rfl) (Qk Qw (pv 4) Qc))) Qu))))
  (Qg (Qs (i := 5) scPut.nd rfl (Or.inl rfl) (Qk Qw (pv 3) (Qk Qy (pv 2) (Qk Qw (Qk Qeh (Qo Qt rfl M.len Xt (Qa (pv 0) Qf)) (pv 3)) Qc))))
  (Qi (Qv (Qk Yt (Qk Yt (Xe Xl (pv 0) Xm (Xg (pv 5))) (Xa (Qa (pv 1) Qf))) (Xe Xl (pv 0) (Xg (pv 5)) Xm))))))), ?_⟩
 refine Jk ?_
 intro rT4 rT3 rT2
 have hz : (20000 : Nat) < sizeLine := by decide
 have lu := hB.length
 let Pv8 : Nat → St → Hp → Prop := fun i σ H1 => ∃ (le : Nat) (v5 v6 : Option V), σ = [some (.ref d), some (.ref l), some (.int z), some (.int ((le : Nat) : Int)), v5, v6] ∧ 1 ≤ le ∧ le ≤ B.length ∧ (∀ j q, j < i → B[j]? = some q → Hit1 q r ∨ Hit2 q r → j < le) ∧ Same H H1
 refine ⟨_, rfl, d, _, rfl, .inl (Qb hd), _, rfl, by omega, by omega, Xx (lo := 0) (n := Int.toNat ((us.length : Nat) : Int)) Pv8 ⟨1, none, none, rfl, kK _, b1, fun _ _ h => absurd h (kYe _), Same.refl _⟩ ?_ ?_⟩
 ·rintro i σ H1 hi ⟨le, v5, v6, rfl, e1, e2, eh, s1⟩
  have hi' : i < us.length := by omega
  obtain ⟨q0, lr, er, ev, hr⟩ := (hB.same s1).get (gE hi')
  have ai : atI us (0 + (i : Int)) = some (.ref lr) := by
   rw [show (0 : Int) + (i : Int) = ((i : Nat) : Int) by omega]
   exact Zp (by rw [gE hi', ev])
  have si : (0 : Int) + (i : Int) + 1 = ((i + 1 : Nat) : Int) := by omega
  refine Qiz (fun σ' H' => ∃ (le' : Nat) (v6 : Option V), σ' = [some (.ref d), some (.ref l), some (.int z), some (.int ((le' : Nat) : Int)), some (.int (0 + (i : Int))), v6] ∧ 1 ≤ le' ∧ le' ≤ B.length ∧ ((∀ j q, j < i → B[j]? = some q → Hit1 q r ∨ Hit2 q r → j < le') ∧ (Hit1 q0 r → i < le')) ∧ Same H1 H') ?_ fun REST => ?_
  ·rintro σ' H2 ⟨le', v6', rfl, e1', e2', ⟨eh2, eh3⟩, s2⟩
   have far : ∀ le2 : Nat, i < le2 → ∀ j q, j < i + 1 → B[j]? = some q → Hit1 q r ∨ Hit2 q r → j < le2 := fun le2 h5 j q h6 _ _ => by omega
   have near : (Hit2 q0 r → False) → ∀ j q, j < i + 1 → B[j]? = some q → Hit1 q r ∨ Hit2 q r → j < le' := fun no j q h6 e6 h7 => by
    by_cases h8 : j < i
    ·exact eh2 j q h8 e6 h7
    ·have e8 : j = i := by omega
     subst e8
     rw [er] at e6
     cases e6
     rcases h7 with h7 | h7
     ·exact eh3 h7
     ·exact absurd h7 no
   have hr2 := s2 _ _ hr
   have hd2 := (s1.trans s2) _ _ hd
   have hl2 := (s1.trans s2) _ _ hl
   refine ⟨_, rfl, _, rfl, d, _, _, _, rfl, rfl, Qb hd2, ai, lr, _, _, _, rfl, rfl, Qb hr2, Zr _, rfl, _, rfl, ite2 (fun _ => ?_) (fun n1 => ?_)⟩
   ·refine ⟨_, rfl, _, rfl, d, _, _, _, rfl, rfl, Qb hd2, ai, _, rfl, _, rfl, lr, _, rfl, Qb hr2, fun p hp => ?_⟩
    have h2c : Hit2 q0 r → cutV (q0.cells.map kV) (some 1) (some 3) = cutV (r.cells.map kV) (some 1) (some 3) := fun h => (Qey h).2
    obtain ⟨ks, ek⟩ := Qaz q0.cells (some 1) (some 3)
    rw [ek] at h2c ⊢
    have s3 := Qd hp (.lst (ks.map kV))
    refine ⟨_, rfl, _, rfl, _, rfl, l, _, rfl, Qb (s3 _ _ hl2), fun p' hp' => ?_⟩
    obtain ⟨ls, el⟩ := Qaz r.cells (some 1) (some 3)
    rw [el] at h2c ⊢
    have s4 := Qd hp' (.lst (ls.map kV))
    refine ⟨p, p', ks, ls, rfl, rfl, Qb (s4 _ _ Qe), Qb Qe, fun c hc => ⟨_, rfl, ite2 (fun _ => ?_) (fun n2 => ?_)⟩⟩
    ·refine ⟨_, rfl, _, _, rfl, rfl, ?_⟩
     dsimp only
     rw [si]
     exact ⟨i + 1, _, _, rfl, by omega, by omega, far _ (by omega), ((s1.trans s2).trans s3).trans s4⟩
    ·exact ⟨le', _, _, rfl, e1', e2', near (fun h => n2 (hc.mpr (Qac (h2c h)))), ((s1.trans s2).trans s3).trans s4⟩
   ·exact ⟨le', _, _, rfl, e1', e2', near (fun h => n1 (by rw [(Qey h).1]; exact yesS _)), s1.trans s2⟩
  ·refine ⟨_, rfl, _, rfl, d, _, _, _, rfl, rfl, Qb (s1 _ _ hd), ai, lr, _, _, _, rfl, rfl, Qb hr, Zr _, by show 3 ≤ sizeLine; decide, fun p hp => ?_⟩
   have s3 := Qd hp (.lst [.str "bench", .str "store", .str "work"])
   have hr3 := s3 _ _ hr
   have hd3 := (s1.trans s3) _ _ hd
   have hl3 := (s1.trans s3) _ _ hl
   refine ⟨p, _, rfl, .inl (Qb Qe), rfl, rfl, _, rfl, ite2 (fun y => ?_) (fun n1 => ?_)⟩
   ·obtain ⟨x, ex⟩ := cell1 (in3 y)
    refine ⟨_, rfl, _, rfl, d, _, _, _, rfl, rfl, Qb hd3, ai, lr, _, _, _, rfl, rfl, Qb hr3, ex, _, rfl, _, rfl, l, _, rfl, Qb hl3, fun p' hp' => ?_⟩
    have h1c : Hit1 q0 r → inV (.str x) (cutV (r.cells.map kV) (some 1) none) = true := fun h => by
     obtain ⟨x', e5, h5⟩ := Qpg h
     rw [e5] at ex
     cases ex
     exact Qmc h5
    obtain ⟨ls, el⟩ := Qaz r.cells (some 1) none
    rw [el] at h1c ⊢
    have s4 := s3.trans (Qd hp' (.lst (ls.map kV)))
    refine ⟨p', _, rfl, .inl (Qb Qe), rfl, flat_keys ls, _, rfl, ite2 (fun _ => ?_) (fun n2 => ?_)⟩
    ·refine ⟨_, rfl, _, _, rfl, rfl, ?_⟩
     dsimp only
     rw [si]
     exact REST _ _ ⟨i + 1, _, rfl, by omega, by omega, ⟨fun j q h6 _ _ => by omega, fun _ => by omega⟩, s4⟩
    ·exact REST _ _ ⟨le, _, rfl, e1, e2, ⟨eh, fun h => absurd (h1c h) n2⟩, s4⟩
   ·exact REST _ _ ⟨le, _, rfl, e1, e2, ⟨eh, fun h => absurd (Qpf h) n1⟩, s3⟩
 ·rintro σ H1 ⟨le, v5, v6, rfl, e1, e2, eh, s1⟩
  have hd1 := s1 _ _ hd
  have p0 : (0 : Int) < ((us.length : Nat) : Int) - ((le : Nat) : Int) + 1 := by omega
  have m0 := xY z (Int.ne_of_gt p0)
  have m1 := zJ z p0
  refine ⟨_, rfl, _, rfl, _, rfl, d, _, rfl, .inl (Qb hd1), _, rfl, _, _, rfl, rfl, _, _, rfl, rfl, _, _, rfl, rfl, p0, _, _, rfl, rfl, ?_⟩
  obtain ⟨k, ek⟩ : ∃ k : Nat, ((le : Nat) : Int) + z % (((us.length : Nat) : Int) - ((le : Nat) : Int) + 1) = ((k : Nat) : Int) := ⟨(((le : Nat) : Int) + z % (((us.length : Nat) : Int) - ((le : Nat) : Int) + 1)).toNat, by omega⟩
  have k1 : 1 ≤ k ∧ k ≤ us.length := by omega
  have kle : le ≤ k := by omega
  dsimp only
  rw [ek]
  have c1 : cutV us none (some ((k : Nat) : Int)) = us.take k := by
   unfold cutV
   rw [HT.sIx_none, HT.sIx_nat, xX k1.2, List.drop_zero, Nat.sub_zero]
  have c2 : cutV us (some ((k : Nat) : Int)) none = us.drop k := by
   unfold cutV
   rw [HT.sIx_none, HT.sIx_nat, xX k1.2, ← jXa, wV]
  refine ⟨_, rfl, _, rfl, _, rfl, d, _, rfl, Qb hd1, fun p hp => ?_⟩
  rw [c1]
  have s2 := Qd hp (.lst (us.take k))
  refine ⟨_, rfl, by show 1 ≤ sizeLine; decide, fun p2 hp2 => ?_⟩
  have s3 := Qd hp2 (.lst [.ref l])
  refine ⟨p, p2, _, _, rfl, rfl, s3 _ _ Qe, Qe, by rw [zZ]; show min k us.length + 1 ≤ _; omega, fun p3 hp3 => ?_⟩
  have s4 := Qd hp3 (.lst (us.take k ++ [.ref l]))
  have s24 := (s2.trans s3).trans s4
  refine ⟨_, rfl, _, rfl, _, rfl, d, _, rfl, Qb (s24 _ _ hd1), fun p4 hp4 => ?_⟩
  rw [c2]
  have s5 := Qd hp4 (.lst (us.drop k))
  refine ⟨p3, p4, _, _, rfl, rfl, s5 _ _ Qe, Qe, by rw [jV, zZ, jXa]; show min k us.length + 1 + _ ≤ _; omega, fun g hg => ?_⟩
  have s6 := Qd hg (.lst (us.take k ++ [.ref l] ++ us.drop k))
  have s16 := s1.trans ((s24.trans s5).trans s6)
  have gH : H g = none := by
   cases e5 : H g with
   | none => rfl
   | some o => rw [(s1.trans (s24.trans s5)) _ _ e5] at hg; cases hg
  exact q g k _ k1.1 (by omega) (fun j q0 ej h => yW (eh j q0 (by have := (kY.mp ej).1; omega) ej h) kle) s16 gH Qe
end
abbrev Qez : Stmt := top 27
theorem pick8 {a b c d e f g h z : Int} : ∃ m : Int, atI [V.int a, V.int b, V.int c, V.int d, V.int e, V.int f, V.int g, V.int h] (z % 8) = some (.int m) ∧ (m = a ∨ m = b ∨ m = c ∨ m = d ∨ m = e ∨ m = f ∨ m = g ∨ m = h) := by
 rcases (show z % 8 = 0 ∨ z % 8 = 1 ∨ z % 8 = 2 ∨ z % 8 = 3 ∨ z % 8 = 4 ∨ z % 8 = 5 ∨ z % 8 = 6 ∨ z % 8 = 7 by omega) with q | q | q | q | q | q | q | q <;> rw [q]
 ·exact ⟨a, rfl, by omega⟩
 ·exact ⟨b, rfl, by omega⟩
 ·exact ⟨c, rfl, by omega⟩
 ·exact ⟨d, rfl, by omega⟩
 ·exact ⟨e, rfl, by omega⟩
 ·exact ⟨f, rfl, by omega⟩
 ·exact ⟨g, rfl, by omega⟩
 ·exact ⟨h, rfl, by omega⟩
theorem Qgo {r : BR} {nm : List Str} (h : r.nums ≠ []) : r.cells.map kV ≠ nm.map V.str := fun e => by
 obtain ⟨z, zs, ez⟩ : ∃ z zs, r.nums = z :: zs := by
  cases hn : r.nums with
  | nil => exact absurd hn h
  | cons z zs => exact ⟨z, zs, rfl⟩
 have h1 : V.int z ∈ r.cells.map kV := by
  unfold BR.cells
  rw [ez, jXe]
  exact kZ _ jY
 rw [e] at h1
 obtain ⟨x, _, e2⟩ := xZ.mp h1
 cases e2
theorem Qmf {n : Int} {T : List BR} {w v : Str} {R : List BR} (hR : WayBlk n T w v R) : ∀ q ∈ R, q.nums ≠ [] := fun q hq => by
 obtain ⟨l, c, U, rfl, _, _, _, _, hU⟩ := hR.hd
 rcases jZ.mp hq with e | e
 ·rw [e]; exact fun z => nomatch z
 ·obtain ⟨k, t, m, e1, _⟩ := hU q e
  rw [e1]; exact fun z => nomatch z
theorem RowsB.mem {H : Hp} {vs : List V} {B : List BR} (h : RowsB H vs B) {l : Addr} (hm : V.ref l ∈ vs) : ∃ r ∈ B, H l = some (.lst (r.cells.map kV)) := by
 obtain ⟨i, e⟩ := wJ.mp hm
 obtain ⟨r, l', e1, e2, h1⟩ := h.get e
 cases e2
 exact ⟨r, yX e1, h1⟩
theorem Qmg {t1 t2 : TS} {D : Ends} {i : Nat} {x : V} {σ : St} {H : Hp} (Pv : St → Hp → Prop) (h2 : ∀ σ' H', Pv σ' H' → t2 D σ' H') (h1 : (∀ σ' H', Pv σ' H' → t2 D σ' H') → t1 { D with nx := t2 D } (σ.set i (some x)) H) : Wr i x σ H ({ D with nx := tSeq t1 t2 D } : Ends).nx := h1 h2
def Qja (K : Fg) : Sp := fun vs H Q _ => ∃ (a d : Addr) (ns : List Int) (n : Int) (us : List V) (T : List BR), vs = [.ref a, .int n, .ref d] ∧ SqL K H a (ns.map V.int) ∧ 1 ≤ n ∧ n ≤ 12 ∧ SqL K H d us ∧ RowsB H us T ∧ ThOk n T ∧ T.length ≤ 11 ∧
 ∀ (g : Addr) (vs : List V) (nm : List Str) (W : List BR) (H' : Hp), Same H H' → H g = none → H' g = some (.lst vs) → RowsB H' vs W → WkOk n T nm W → W.length ≤ 370 → nm.length ≤ 5 → Q (.ref g) H'
section
variable {P : Program} {w : World} {K : Fg} {mg : Str → Option Value} {base : Heap}
theorem scWorks : FnScope ["_law_script", "_law_days", "_law_things_here", "_law_found", "_law_names", "_law_many", "_law_k", "_law_work", "_law_number_here", "_law_j", "_law_rows", "_law_pair"] ["_law_script", "_law_days", "_law_things_here"] (Qh Qez) := ⟨rfl, rfl, rfl, by decide +kernel, rfl, by decide +kernel, by decide +kernel⟩
theorem Qph (F : Fn K mg "_law_works" Qez) (M : Mg mg) (cl_mixed : Cal P w K mg base 2 "_law_mixed" ["_law_script", "_law_k"] (Js K)) (cl_name : Cal P w K mg base 3 "_law_name" ["_law_script", "_law_k", "_law_first"] (Qiw K)) (cl_way : Cal P w K mg base 3 "_law_way" ["_law_script", "_law_start", "_law_days", "_law_work", "_law_way_here", "_law_things_here"] (spWay K)) : Cal P w K mg base 4 "_law_works" ["_law_script", "_law_days", "_law_things_here"] (Qja K) := by
 refine Xr F scWorks (fun _ _ _ _ _ _ => Qcn (fun _ _ _ => rfl)) (fun vs H Q E h => ?_) (fun f cdv A outer s H vs Q E hr h => ?_)
 ·obtain ⟨a, d, ns, n, us, T, rfl, _⟩ := h
  rfl
 obtain ⟨a, d, ns, n, us, T, rfl, hS, n1, n12, hd, hT, tT, tl, q⟩ := h
 refine ⟨_, (Qg (Qs (i := 3) scWorks.nd rfl (Or.inl rfl) (Xa Qf))
  (Qg (Qs (i := 4) scWorks.nd rfl (Or.inl rfl) (Xa Qf))
  (Qg (Qs (i := 5) scWorks.nd rfl (Or.inl rfl) Qc)
  (Qg (Ze PassesOwn.never rfl (Yf rfl M.range_ (Qa (Qn Qj (Xa (Qa Qc (Qa Qc (Qa Qc (Qa Qc (Qa Qc (Qa Qc (Qa Qc (Qa Qc Qf))))))))) (Qk Qy (Xd cl_mixed (hr.mono (by decide)) (Qa (pv 0) (Qa Qc Qf))) Qc) (fun _ _ => rfl)) Qf)) (Xf (i := 6) scWorks.nd rfl (Or.inl rfl) (Or.inl rfl)) (Qg (Qs (i := 7) scWorks.nd rfl (Or.inl rfl) (Xd cl_name (hr.mono (by decide)) (Qa (pv 0) (Qa (Qk Qw Qc (Qk Zk Qc (pv 6))) (Qa (pv 6) Qf)))))
  (Qg (Yp (Zz PySem.F.plainAttrs_list PySem.F.slot_list_append PySem.F.type_list_append Xp (pv 4) (Qa (pv 7) Qf)))
  (Qg (Yp (Zz PySem.F.plainAttrs_list PySem.F.slot_list_append PySem.F.type_list_append Xp (pv 3) (Qa (Xa (Qa Qp (Qa (pv 7) Qf))) Qf)))
  (Qg (Qs (i := 8) scWorks.nd rfl (Or.inl rfl) (Xd cl_mixed (hr.mono (by decide)) (Qa (pv 0) (Qa (Qk Qw Qc (pv 6)) Qf))))
  (Qg (Ze PassesOwn.never rfl (Yf rfl M.range_ (Qa (Qn Qj (Xa (Qa Qc (Qa Qc (Qa Qc (Qa Qc (Qa Qc (Qa Qc (Qa Qc (Qa Qc Qf))))))))) (Qk Qy (pv 8) Qc) (fun _ _ => rfl)) Qf)) (Xf (i := 9) scWorks.nd rfl (Or.inl rfl) (Or.inl rfl)) (Qg (Qs (i := 10) scWorks.nd rfl (Or.inl rfl) (Xd cl_way (hr.mono (by decide)) (Qa (pv 0) (Qa (Qk Qw (Qk Qw Qc (Qk Zk Qc (pv 6))) (Qk Zk Qc (pv 9))) (Qa (pv 1) (Qa (pv 7) (Qa (Xd cl_name (hr.mono (by decide)) (Qa (pv 0) (Qa (Qk Qw (Qk Qw Qc (Qk Zk Qc (pv 6))) (Qk Zk Qc (pv 9))) (Qa (pv 9) Qf)))) (Qa (pv 2) Qf))))))))
  (Qi (Xi (Ql Qbr (Qk Qw (Qk Qeh (Qk Qw (pv 5) (pv 1)) (Qn Qj (Qn Qj (pv 10) Qc (fun _ _ => rfl)) Qc (fun _ _ => rfl))) Qc) Qc (Qm _)) (Qg (Qs (i := 5) scWorks.nd rfl (Or.inl rfl) (Qk Qw (Qk Qeh (Qk Qw (pv 5) (pv 1)) (Qn Qj (Qn Qj (pv 10) Qc (fun _ _ => rfl)) Qc (fun _ _ => rfl))) Qc))
  (Qi (Qs (i := 3) scWorks.nd rfl (Or.inl rfl) (Qk Yt (pv 3) (pv 10))))) Qu))))
  (Qg (Xi (Ql Xy (Qk Qy (Qk Xh (pv 8) Qc) Qc) Qc (Qm _)) (Qi (Yp (Zz PySem.F.plainAttrs_list PySem.F.slot_list_append PySem.F.type_list_append Xp (pv 3) (Qa (Xa (Qa Qp (Qa (pv 7) (Qa (Qk Qy (Qk Xh (pv 8) Qc) (Qk Qw (pv 1) Qc)) (Qa (Qk Qw Qc (Qk Qy (Qk Xh (pv 8) Qc) Qc)) Qf))))) Qf)))) Qu)
  (Qi (Xi (PW.pt (Zi (Ql Vj (pv 6) Qc (Qm _)) (Yu (Ql Vj (Qk Qy (Qk Xh (pv 8) Qc) Qc) Qc (Qm _))))) (Qg (Qs (i := 11) scWorks.nd rfl (Or.inl rfl) (Xa (Qa (Qn Qj (pv 4) (Qk Qy (Qk Xh (pv 8) Qc) (pv 6)) (fun _ _ => rfl)) (Qa (pv 7) Qf))))
  (Qg (Xi (Ql Xy (Qk Qy (Qk Xh (pv 8) Qc) Qc) Qc (Qm _)) (Qi (Yp (pe_bm0 PySem.F.plainAttrs_list PySem.F.slot_list_reverse PySem.F.type_list_reverse Qgf (pv 11)))) Qu)
  (Qi (Yp (Zz PySem.F.plainAttrs_list PySem.F.slot_list_append PySem.F.type_list_append Xp (pv 3) (Qa (Xa (Qa Qp (Qa (Qn Qj (pv 11) Qc (fun _ _ => rfl)) (Qa (Qn Qj (pv 11) Qc (fun _ _ => rfl)) (Qa (Qk Qy (Qk Xh (pv 8) Qc) (Qo (Vk rfl) rfl M.min Qie (Qa (Qk Qw (pv 1) Qc) (Qa Qc Qf)))) Qf))))) Qf)))))) Qu)))))))))
  (Qi (Qv (pv 3))))))), ?_⟩
 refine Ke ?_
 intro rT5 rT4 rT3 rT2
 have hz : (20000 : Nat) < sizeLine := by decide
 have up : ∀ {Hy Hz : Hp} {g : Addr}, Hz g = none → Same Hy Hz → Hy g = none := fun {Hy Hz g} h s => by
  cases e5 : Hy g with
  | none => rfl
  | some o => rw [s _ _ e5] at h; cases h
 refine ⟨by show 0 ≤ sizeLine; decide, fun g0 hg0 => ?_⟩
 have s0a := Qd hg0 (.lst [])
 have hga : upd H g0 (.lst []) g0 = some (.lst []) := Qe
 generalize upd H g0 (.lst []) = Ha at s0a hga ⊢
 refine ⟨by show 0 ≤ sizeLine; decide, fun N hN => ?_⟩
 have NH : H N = none := up hN s0a
 have gN0 : g0 ≠ N := Qr hga hN
 have sb := Qd hN (.lst [])
 have s0 := s0a.trans sb
 have hgb := sb _ _ hga
 have hNb : upd Ha N (.lst []) N = some (.lst []) := Qe
 generalize upd Ha N (.lst []) = H0 at s0 hgb hNb ⊢
 clear sb
 refine ⟨by show 8 ≤ sizeLine; decide, fun p hp => ?_⟩
 have s1 := Qd hp (.lst [.int 0, .int 1, .int 2, .int 2, .int 3, .int 3, .int 4, .int 5])
 have hp1 : upd H0 p (.lst [.int 0, .int 1, .int 2, .int 2, .int 3, .int 3, .int 4, .int 5]) p = some (.lst [.int 0, .int 1, .int 2, .int 2, .int 3, .int 3, .int 4, .int 5]) := Qe
 generalize upd H0 p (.lst [.int 0, .int 1, .int 2, .int 2, .int 3, .int 3, .int 4, .int 5]) = H0p at s1 hp1 ⊢
 refine ⟨_, rfl, a, ns, 2, rfl, (s0.trans s1).seq hS, by decide, by decide, fun z z0 z1 => ?_⟩
 obtain ⟨m, em, hm⟩ := pick8 (a := 0) (b := 1) (c := 2) (d := 2) (e := 3) (f := 3) (g := 4) (h := 5) (z := z)
 have hm' : 0 ≤ m ∧ m ≤ 5 := by omega
 let Pv9 : Nat → St → Hp → Prop := fun i σ H1 => ∃ (v6 v7 v8 v9 v10 v11 : Option V) (g : Addr) (my : Int) (vs : List V) (W : List BR) (nm : List Str), σ = [some (.ref a), some (.int n), some (.ref d), some (.ref g), some (.ref N), some (.int my), v6, v7, v8, v9, v10, v11] ∧ H1 g = some (.lst vs) ∧ H g = none ∧ g ≠ N ∧ RowsB H1 vs W ∧ H1 N = some (.lst (nm.map V.str)) ∧ V.ref N ∉ vs ∧ WkOk n T nm W ∧ nm.length = i ∧ (∀ j x, nm[j]? = some x → fl x = 97 + j) ∧ W.length ≤ 73 * i ∧ Same H H1
 refine ⟨_, _, rfl, rfl, (by show (0 : Int) < _; decide +kernel), p, _, _, _, rfl, rfl, Qb hp1, em, m, rfl, by omega, by omega, Xx (lo := 0) (n := m.toNat) Pv9 ⟨none, none, none, none, none, none, g0, 0, [], [], [], rfl, s1 _ _ hgb, hg0, gN0, .nil, s1 _ _ hNb, fun h => (nomatch h), ⟨fun _ h => (nomatch h), .nil, fun _ h => (nomatch h), fun _ h => (nomatch h), fun _ h => (nomatch h), True.intro⟩, rfl, fun _ _ h => (nomatch h), wQ _, s0.trans s1⟩ ?_ ?_⟩
 ·rintro i σ H1 hi ⟨v6, v7, v8, v9, v10, v11, g, my, vs, W, nm, rfl, hg1, gH, gN, hB1, hN1, nN1, hW, hnl, hfl, hlen, s1'⟩
  have hi' : i < 5 := by omega
  have lv := hB1.length
  refine ⟨_, rfl, _, rfl, _, _, rfl, rfl, mulC _ _ (by decide) (by decide), _, _, rfl, rfl, _, rfl, a, ns, _, _, rfl, s1'.seq hS, by omega, by omega, by omega, by omega, fun w H2 hw hwl s2 => ?_⟩
  have hw' : fl w = 97 + i := by rw [hw]; omega
  have wn : w ∉ nm := fun hm => by
   obtain ⟨j, ej⟩ := wJ.mp hm
   have h5 := hfl j w ej
   have h6 := (kY.mp ej).1
   omega
  have hN2 := s2 _ _ hN1
  refine ⟨_, rfl, .inl ⟨rfl, _, Qb hN2⟩, _, rfl, N, _, _, rfl, rfl, hN2, by rw [jW]; omega, ?_⟩
  have hN3 : upd H2 N (.lst (nm.map V.str ++ [.str w])) N = some (.lst ((nm ++ [w]).map V.str)) := by rw [Qe, jXe]; rfl
  have hg3 : upd H2 N (.lst (nm.map V.str ++ [.str w])) g = some (.lst vs) := by rw [Qq gN]; exact s2 _ _ hg1
  have hB3 : RowsB (upd H2 N (.lst (nm.map V.str ++ [.str w]))) vs W := (hB1.same s2).imp fun l r hm z => by
   rw [Qq (fun e => nN1 (by rw [← e]; exact hm))]; exact z
  have s3 : Same H (upd H2 N (.lst (nm.map V.str ++ [.str w]))) := fun c o e => by rw [Qq (Qr e NH)]; exact (s1'.trans s2) _ _ e
  generalize upd H2 N (.lst (nm.map V.str ++ [.str w])) = H3 at hN3 hg3 hB3 s3 ⊢
  refine ⟨_, rfl, .inl ⟨rfl, _, Qb hg3⟩, _, rfl, by show 2 ≤ sizeLine; decide, fun l hl => ?_⟩
  have lN : l ≠ N := fun e => by rw [e, hN3] at hl; cases hl
  have s4 := Qd hl (.lst [.str "work", .str w])
  have hl4 : upd H3 l (.lst [.str "work", .str w]) l = some (.lst ((BR.work w).cells.map kV)) := Qe
  generalize upd H3 l (.lst [.str "work", .str w]) = H4 at s4 hl4 ⊢
  have hg4 := s4 _ _ hg3
  refine ⟨g, _, _, rfl, rfl, hg4, by omega, ?_⟩
  have hB5 : RowsB (upd H4 g (.lst (vs ++ [.ref l]))) (vs ++ [.ref l]) (W ++ [BR.work w]) := ((hB3.same s4).snoc hl4).updL hg4 hB3.noRow
  have hg5 : upd H4 g (.lst (vs ++ [.ref l])) g = some (.lst (vs ++ [.ref l])) := Qe
  have hN5 : upd H4 g (.lst (vs ++ [.ref l])) N = some (.lst ((nm ++ [w]).map V.str)) := by rw [Qq gN.symm]; exact s4 _ _ hN3
  have s5 : Same H (upd H4 g (.lst (vs ++ [.ref l]))) := fun c o e => by rw [Qq (Qr e gH)]; exact (s3.trans s4) _ _ e
  have nN5 : V.ref N ∉ vs ++ [.ref l] := fun h => by
   rcases kQ.mp h with h | h
   ·exact nN1 h
   ·have h2 := jQ.mp h
    injection h2 with h3
    exact lN h3.symm
  generalize upd H4 g (.lst (vs ++ [.ref l])) = H5 at hB5 hg5 hN5 s5 ⊢
  refine ⟨_, rfl, _, rfl, _, _, rfl, rfl, a, ns, _, rfl, s5.seq hS, by omega, by omega, fun nb nb0 nb1 => ?_⟩
  refine ⟨by show 8 ≤ sizeLine; decide, fun p6 hp6 => ?_⟩
  have s6 := Qd hp6 (.lst [.int 1, .int 1, .int 2, .int 2, .int 2, .int 3, .int 3, .int 0])
  have hp66 : upd H5 p6 (.lst [.int 1, .int 1, .int 2, .int 2, .int 2, .int 3, .int 3, .int 0]) p6 = some (.lst [.int 1, .int 1, .int 2, .int 2, .int 2, .int 3, .int 3, .int 0]) := Qe
  generalize upd H5 p6 (.lst [.int 1, .int 1, .int 2, .int 2, .int 2, .int 3, .int 3, .int 0]) = H5p at s6 hp66 ⊢
  obtain ⟨m2, em2, hm2⟩ := pick8 (a := 1) (b := 1) (c := 2) (d := 2) (e := 2) (f := 3) (g := 3) (h := 0) (z := nb)
  have hm2' : 0 ≤ m2 ∧ m2 ≤ 3 := by omega
  let Pv10 : Nat → St → Hp → Prop := fun j σ H6 => ∃ (v9 v10 v11 : Option V) (g : Addr) (my : Int) (vs : List V) (Y : List BR), σ = [some (.ref a), some (.int n), some (.ref d), some (.ref g), some (.ref N), some (.int my), some (.int (0 + (i : Int))), some (.str w), some (.int nb), v9, v10, v11] ∧ H6 g = some (.lst vs) ∧ H g = none ∧ g ≠ N ∧ RowsB H6 vs (W ++ BR.work w :: Y) ∧ H6 N = some (.lst ((nm ++ [w]).map V.str)) ∧ V.ref N ∉ vs ∧ (∀ r ∈ Y, OfWay w j r) ∧ ((∀ r ∈ Y, r.ok n) ∧ (∀ r ∈ Y, r.gn) ∧ Ahead ([.days n] ++ T ++ W ++ [.work w]) Y) ∧ Y.Pairwise Apart ∧ Y.length ≤ 23 * j ∧ Same H H6
  refine ⟨_, rfl, _, _, rfl, rfl, (by show (0 : Int) < _; decide +kernel), p6, _, _, _, rfl, rfl, Qb hp66, em2, m2, rfl, by omega, by omega, Xx (lo := 0) (n := m2.toNat) Pv10 ⟨_, _, _, g, my, _, [], rfl, s6 _ _ hg5, gH, gN, hB5.same s6, s6 _ _ hN5, nN5, fun _ h => (nomatch h), ⟨fun _ h => (nomatch h), fun _ h => (nomatch h), True.intro⟩, .nil, wQ _, s5.trans s6⟩ ?_ ?_⟩
  ·rintro j σ H6 hj ⟨v9', v10', v11', g6, my6, vs6, Y, rfl, hg6, gH6, gN6, hB6, hN6, nN6, hY, ⟨hYo, hYg, hYa⟩, hYn, hYl, s6'⟩
   have hj' : j < 3 := by omega
   have lv6 := hB6.length
   rw [jV, yZ] at lv6
   refine ⟨_, rfl, _, rfl, _, _, rfl, rfl, mulC _ _ (by decide) (by decide), _, _, rfl, rfl, _, rfl, _, _, rfl, rfl, mulC _ _ (by decide) (by decide), _, _, rfl, rfl, _, rfl, _, rfl, _, rfl, _, rfl, _, _, rfl, rfl, mulC _ _ (by decide) (by decide), _, _, rfl, rfl, _, rfl, _, _, rfl, rfl, mulC _ _ (by decide) (by decide), _, _, rfl, rfl, _, rfl, a, ns, _, _, rfl, s6'.seq hS, by omega, by omega, by omega, by omega, fun v H7 hv hvl s7 => ?_⟩
   have hv' : fl v = 97 + j := by rw [hv]; omega
   refine ⟨_, rfl, a, d, ns, _, n, w, v, us, T, rfl, (s6'.trans s7).seq hS, by omega, by omega, n1, n12, (s6'.trans s7).seq hd, hT.same (s6'.trans s7), tT, tl, fun gr vr R H8 s8 fgr hgr hBr hR => ?_⟩
   have s78 := s7.trans s8
   have s68 := s6'.trans s78
   have hg8 := s78 _ _ hg6
   have hN8 := s78 _ _ hN6
   obtain ⟨L, c, U, eR, _⟩ := hR.hd
   have lvr := hBr.length
   obtain ⟨v0, ev0⟩ : ∃ v0, vr[0]? = some v0 := ⟨_, gE (by rw [lvr, eR]; exact Nat.zero_lt_succ _)⟩
   obtain ⟨r0, lr, er0, rfl, hr0⟩ := hBr.get ev0
   rw [eR] at er0
   cases er0
   have a0 : atI vr 0 = some (.ref lr) := Zp (k := 0) ev0
   have a3 : atI ((BR.way w v L c).cells.map kV) 3 = some (.int L) := rfl
   obtain ⟨bo, bk⟩ := blk_of hv' hR
   refine ⟨_, rfl, _, rfl, _, _, rfl, rfl, _, rfl, gr, _, _, _, rfl, rfl, Qb hgr, a0, lr, _, _, _, rfl, rfl, Qb hr0, a3, _, _, rfl, rfl, _, _, rfl, rfl, _, _, rfl, rfl, _, rfl, ite2 (fun _ => ?_) (fun _ => ?_)⟩
   ·refine ⟨_, rfl, _, rfl, _, _, rfl, rfl, _, rfl, gr, _, _, _, rfl, rfl, Qb hgr, a0, lr, _, _, _, rfl, rfl, Qb hr0, a3, _, _, rfl, rfl, _, _, rfl, rfl, ?_⟩
    have lR := hR.len
    refine ⟨_, rfl, _, rfl, g6, gr, _, _, rfl, rfl, hg8, hgr, by rw [lv6, lvr]; omega, fun p8 hp8 => ?_⟩
    have s9 := Qd hp8 (.lst (vs6 ++ vr))
    have gH9 : H p8 = none := up hp8 s68
    refine ⟨_, _, _, p8, _, vs6 ++ vr, Y ++ R, rfl, Qe, gH9, (Qr hN8 hp8).symm, ?_, s9 _ _ hN8, fun h => ?_, fun r hr => ?_, ⟨fun r hr => ?_, fun r hr => (kQ.mp hr).elim (fun h => hYg r h) (fun h => blk_gn tT hwl hvl hR r h), hYa.app (blk_ah (fun q hq => yJ _ (yJ _ (yJ _ (kZ _ hq)))) (yJ _ (kZ _ jY)) hR)⟩, wK.mpr ⟨hYn, hR.nd, fun r hr q hq => Qix (hY r hr) hv' hR hq⟩, by rw [jV]; omega, s68.trans s9⟩
    ·have h5 := ((hB6.same s78).same s9).app (hBr.same s9)
     rw [jQc, List.cons_append] at h5
     exact h5
    ·rcases kQ.mp h with h | h
     ·exact nN6 h
     ·obtain ⟨r, hr, hh⟩ := hBr.mem h
      rw [hN8] at hh
      exact Qgo (Qmf hR r hr) (HO.lst.inj (Option.some.inj hh)).symm
    ·rcases kQ.mp hr with h | h
     ·exact (hY r h).mono (by omega)
     ·exact bo r h
    ·rcases kQ.mp hr with h | h
     ·exact hYo r h
     ·exact bk r h
   ·exact ⟨_, _, _, g6, my6, vs6, Y, rfl, hg8, gH6, gN6, hB6.same s78, hN8, nN6, fun r hr => (hY r hr).mono (by omega), ⟨hYo, hYg, hYa⟩, hYn, by omega, s68⟩
  ·rintro σ H6 ⟨v9', v10', v11', g6, my6, vs6, Y, rfl, hg6, gH6, gN6, hB6, hN6, nN6, hY, ⟨hYo, hYg, hYa⟩, hYn, hYl, s6'⟩
   have lv6 := hB6.length
   rw [jV, yZ] at lv6
   have wk4 : ∀ r ∈ Y, r.kind ≠ 4 ∧ r.kind ≠ 10 ∧ r.kind ≠ 9 := fun r hr => by
    obtain ⟨v, _, ⟨l', c', rfl⟩ | ⟨k', t', m', rfl⟩⟩ := hY r hr
    ·exact ⟨by show (5 : Nat) ≠ 4; decide, by show (5 : Nat) ≠ 10; decide, by show (5 : Nat) ≠ 9; decide⟩
    ·have := k'.isLt
     exact ⟨by show 6 + k'.val ≠ 4; omega, by show 6 + k'.val ≠ 10; omega, by show 6 + k'.val ≠ 9; omega⟩
   have hBk : BlkOk n T nm w W (BR.work w :: Y) := by
    refine ⟨fun r hr => ?_, jJe.mpr ⟨fun r hr => Yx (fun e => (wk4 r hr).1 e.symm), hYn⟩, fun r hr => ?_, fun r hr => ?_, fun k hk => ?_, hYa⟩
    ·rcases jZ.mp hr with e | e
     ·rw [e]; exact True.intro
     ·exact hYo r e
    ·rcases jZ.mp hr with e | e
     ·rw [e]; exact ⟨jY, fun x hx => by rw [jQ.mp hx]; exact kZ _ jY⟩
     ·rw [(hY r e).own]; exact ⟨jY, fun x hx => by rw [jQ.mp hx]; exact kZ _ jY⟩
    ·rcases jZ.mp hr with e | e
     ·rw [e]; exact gn1 hwl
     ·exact hYg r e
    ·rw [jQ.mp hk]; exact ⟨.days n, yJ _ (yJ _ jY), rfl⟩
   have no9 : ∀ r ∈ BR.work w :: Y, r.kind ≠ 9 := fun r hr => by
    rcases jZ.mp hr with e | e
    ·rw [e]; show (4 : Nat) ≠ 9; decide
    ·exact (wk4 r e).2.2
   have no10 : ∀ r ∈ BR.work w :: Y, r.kind ≠ 10 := fun r hr => by
    rcases jZ.mp hr with e | e
    ·rw [e]; show (4 : Nat) ≠ 10; decide
    ·exact (wk4 r e).2.1
   dsimp only
   refine Qiz (fun σ' H' => ∃ (v9 v10 v11 : Option V) (g : Addr) (my : Int) (vs : List V) (Y : List BR), σ' = [some (.ref a), some (.int n), some (.ref d), some (.ref g), some (.ref N), some (.int my), some (.int (0 + (i : Int))), some (.str w), some (.int nb), v9, v10, v11] ∧ H' g = some (.lst vs) ∧ H g = none ∧ g ≠ N ∧ RowsB H' vs (W ++ Y) ∧ H' N = some (.lst ((nm ++ [w]).map V.str)) ∧ V.ref N ∉ vs ∧ BlkOk n T nm w W Y ∧ BR.work w ∈ Y ∧ (∀ r ∈ Y, r.kind ≠ 9) ∧ Y.length ≤ 71 ∧ Same H H') ?_ fun REST => ?_
   ·rintro σ' H7 ⟨v9, v10, v11, g7, my7, vs7, Y7, rfl, hg7, gH7, gN7, hB7, hN7, nN7, hY7, hwk7, h97, hl7, s7⟩
    have lv7 := hB7.length
    rw [jV] at lv7
    have fin : ∀ (v9 v10 v11 : Option V) (H8 : Hp) (vs8 : List V) (Y8 : List BR), H8 g7 = some (.lst vs8) → RowsB H8 vs8 (W ++ Y8) → H8 N = some (.lst ((nm ++ [w]).map V.str)) → V.ref N ∉ vs8 → BlkOk n T nm w W Y8 → BR.work w ∈ Y8 → Y8.length ≤ 72 → Same H H8 → ∃ (v6 v7 v8 v9' v10' v11' : Option V) (g : Addr) (my : Int) (vs : List V) (W : List BR) (nm : List Str), [some (V.ref a), some (V.int n), some (V.ref d), some (V.ref g7), some (V.ref N), some (V.int my7), some (V.int (0 + (i : Int))), some (V.str w), some (V.int nb), v9, v10, v11] = [some (.ref a), some (.int n), some (.ref d), some (.ref g), some (.ref N), some (.int my), v6, v7, v8, v9', v10', v11'] ∧ H8 g = some (.lst vs) ∧ H g = none ∧ g ≠ N ∧ RowsB H8 vs W ∧ H8 N = some (.lst (nm.map V.str)) ∧ V.ref N ∉ vs ∧ WkOk n T nm W ∧ nm.length = i + 1 ∧ (∀ j x, nm[j]? = some x → fl x = 97 + j) ∧ W.length ≤ 73 * (i + 1) ∧ Same H H8 := by
     intro v9 v10 v11 H8 vs8 Y8 f1 f2 f3 f4 f5 f6 f7 f8
     refine ⟨_, _, _, _, _, _, g7, my7, vs8, W ++ Y8, nm ++ [w], rfl, f1, gH7, gN7, f2, f3, f4, hW.join wn f5 f6, by rw [jV]; show nm.length + 1 = _; omega, fun j x e => ?_, by rw [jV]; omega, f8⟩
     by_cases hj : j < nm.length
     ·rw [wY hj] at e
      exact hfl j x e
     ·have hj2 := (kY.mp e).1
      rw [jV] at hj2
      have hj3 : j < nm.length + 1 := hj2
      have ej : j = nm.length := by omega
      subst ej
      rw [kXa (kK _), Nat.sub_self] at e
      cases e
      rw [hw', hnl]
    refine ⟨_, rfl, _, _, rfl, rfl, _, rfl, ite2 (fun yk => ?_) (fun _ => ?_)⟩
    ·have hi0 : 0 < i := by
      have := yY yk
      omega
     refine ⟨_, rfl, _, _, rfl, rfl, ⟨by decide, by decide⟩, _, _, rfl, rfl, (by show (0 : Int) < _; decide +kernel), _, _, rfl, rfl, _, rfl, ite2 (fun _ => ?_) (fun _ => ?_)⟩
     ·have pi : (0 : Int) < 0 + (i : Int) := by omega
      have x0 := xY (nb / 48) (Int.ne_of_gt pi)
      have x1 := zJ (nb / 48) pi
      obtain ⟨kx, ekx⟩ : ∃ kx : Nat, nb / 48 % (0 + (i : Int)) = ((kx : Nat) : Int) := ⟨(nb / 48 % (0 + (i : Int))).toNat, by omega⟩
      have hkx : kx < nm.length := by omega
      obtain ⟨x, ex⟩ : ∃ x, nm[kx]? = some x := ⟨_, gE hkx⟩
      have hx := hfl kx x ex
      have xw : x ≠ w := fun e => by rw [e, hw'] at hx; omega
      have xm : x ∈ nm := yX ex
      have ax : atI ((nm ++ [w]).map V.str) (nb / 48 % (0 + (i : Int))) = some (.str x) := by
       rw [ekx]
       exact Zp (by rw [zK, wY hkx, ex]; rfl)
      refine ⟨_, rfl, _, rfl, _, _, rfl, rfl, ⟨by decide, by decide⟩, _, rfl, _, _, rfl, rfl, pi, N, _, _, _, rfl, rfl, Qb hN7, ax, _, rfl, by show 2 ≤ sizeLine; decide, fun pr hpr => ?_⟩
      have s8 := Qd hpr (.lst [.str x, .str w])
      have hpr8 : upd H7 pr (.lst [.str x, .str w]) pr = some (.lst [.str x, .str w]) := Qe
      have prg : pr ≠ g7 := fun e => by rw [e, hg7] at hpr; cases hpr
      have prN : pr ≠ N := fun e => by rw [e, hN7] at hpr; cases hpr
      have prH : H pr = none := up hpr s7
      have prv : V.ref pr ∉ vs7 := fun h => by
       obtain ⟨r, _, hh⟩ := hB7.mem h
       rw [hpr] at hh
       cases hh
      generalize upd H7 pr (.lst [.str x, .str w]) = H8 at s8 hpr8 ⊢
      have mn : ∃ mn : Int, (if (3 : Int) < n + 1 then 3 else n + 1) = mn := ⟨_, rfl⟩
      obtain ⟨mn, emn⟩ := mn
      have hmn : 1 ≤ mn ∧ mn ≤ n + 1 := by rw [← emn]; split <;> omega
      have q0 := xY (nb / 500) (show mn ≠ 0 by omega)
      have q1 := zJ (nb / 500) (show 0 < mn by omega)
      refine Qmg (fun σ' H' => ∃ (x1 x2 : Str), σ' = [some (.ref a), some (.int n), some (.ref d), some (.ref g7), some (.ref N), some (.int my7), some (.int (0 + (i : Int))), some (.str w), some (.int nb), v9, v10, some (.ref pr)] ∧ H' pr = some (.lst [.str x1, .str x2]) ∧ H' g7 = some (.lst vs7) ∧ RowsB H' vs7 (W ++ Y7) ∧ H' N = some (.lst ((nm ++ [w]).map V.str)) ∧ Same H H' ∧ x1 ≠ x2 ∧ (w = x1 ∨ w = x2) ∧ x1 ∈ nm ++ [w] ∧ x2 ∈ nm ++ [w]) ?_ fun REST2 => ?_
      ·rintro σ' H9 ⟨x1, x2, rfl, hpr9, hg9, hB9, hN9, s9, x12, hwx, m1, m2⟩
       have nmOk : ∀ y, y ∈ nm ++ [w] → NmOk y := fun y hy => by
        rcases kQ.mp hy with h | h
        ·exact hW.gn _ (hW.wk y h) y jY
        ·rw [jQ.mp h]; exact hwl
       have wkIn : ∀ y, y ∈ nm ++ [w] → Said ([.days n] ++ T ++ W ++ Y7) [Sum.inr ("work" : Str), Sum.inr y] := fun y hy => by
        rcases kQ.mp hy with h | h
        ·exact ⟨.work y, yJ _ (kZ _ (hW.wk y h)), rfl⟩
        ·rw [jQ.mp h]; exact ⟨.work w, kZ _ hwk7, rfl⟩
       refine ⟨_, rfl, .inl ⟨rfl, _, Qb hg9⟩, _, rfl, pr, _, _, _, rfl, rfl, Qb hpr9, at0, _, rfl, pr, _, _, _, rfl, rfl, Qb hpr9, at1, _, rfl, _, _, rfl, rfl, ⟨by decide, by decide⟩, _, rfl, _, _, rfl, rfl, _, _, rfl, ?_⟩
       rw [emn]
       refine ⟨_, _, rfl, rfl, (by show 0 < mn; omega), by show 4 ≤ sizeLine; decide, fun l9 hl9 => ?_⟩
       have lN9 : l9 ≠ N := fun e => by rw [e, hN9] at hl9; cases hl9
       have s10 := Qd hl9 (.lst [.str "after", .str x1, .str x2, .int (nb / 500 % mn)])
       have hl99 : upd H9 l9 (.lst [.str "after", .str x1, .str x2, .int (nb / 500 % mn)]) l9 = some (.lst ((BR.after x1 x2 (nb / 500 % mn)).cells.map kV)) := Qe
       generalize upd H9 l9 (.lst [.str "after", .str x1, .str x2, .int (nb / 500 % mn)]) = H10 at s10 hl99 ⊢
       have hg10 := s10 _ _ hg9
       refine ⟨g7, _, _, rfl, rfl, hg10, by omega, ?_⟩
       have hB11 := ((hB9.same s10).snoc hl99).updL (zs := vs7 ++ [.ref l9]) hg10 hB9.noRow
       rw [jQc] at hB11
       refine fin _ _ _ _ _ (Y7 ++ [BR.after x1 x2 (nb / 500 % mn)]) Qe hB11 (by rw [Qq gN7.symm]; exact s10 _ _ hN9) (fun h => ?_) (hY7.snoc ⟨x12, q0, by omega⟩ ?_ (fun y hy => ?_) (fun r hr => Yx (h97 r hr)) (fun y hy => ?_) (fun y hy => ?_)) (yJ _ hwk7) (by rw [jV]; show Y7.length + 1 ≤ 72; omega) (fun c o e => by rw [Qq (Qr e gH7)]; exact (s9.trans s10) _ _ e)
       ·rcases kQ.mp h with h | h
        ·exact nN7 h
        ·have h2 := jQ.mp h
         injection h2 with h3
         exact lN9 h3.symm
       ·rcases hwx with e | e
        ·rw [e]; exact jY
        ·rw [e]; exact kX _ jY
       ·rcases jZ.mp hy with e | e
        ·rw [e]; exact m1
        ·rw [jQ.mp e]; exact m2
       ·rcases jZ.mp hy with e | e
        ·rw [e]; exact nmOk x1 m1
        ·rw [jQ.mp e]; exact nmOk x2 m2
       ·rcases jZ.mp hy with e | e
        ·rw [e]; exact wkIn x1 m1
        ·rw [jQ.mp e]; exact wkIn x2 m2
      ·have xi : x ∈ nm ++ [w] := yJ _ xm
       have wi : w ∈ nm ++ [w] := kZ _ jY
       refine ⟨_, rfl, _, _, rfl, rfl, ⟨by decide, by decide⟩, _, _, rfl, rfl, (by show (0 : Int) < _; decide +kernel), rfl, _, rfl, ite2 (fun _ => ?_) (fun _ => ?_)⟩
       ·refine ⟨_, rfl, .inl ⟨rfl, _, Qb hpr8⟩, pr, _, rfl, rfl, hpr8, REST2 _ _ ⟨w, x, rfl, Qe, ?_, ?_, ?_, fun c o e => ?_, xw.symm, .inl rfl, wi, xi⟩⟩
        ·rw [Qq prg.symm]; exact s8 _ _ hg7
        ·exact (hB7.same s8).imp fun l r hm z => by rw [Qq (fun e => prv (by rw [← e]; exact hm))]; exact z
        ·rw [Qq prN.symm]; exact s8 _ _ hN7
        ·rw [Qq (Qr e prH)]; exact (s7.trans s8) _ _ e
       ·exact REST2 _ _ ⟨x, w, rfl, hpr8, s8 _ _ hg7, hB7.same s8, s8 _ _ hN7, s7.trans s8, xw, .inr rfl, xi, wi⟩
     ·exact fin _ _ _ _ _ _ hg7 hB7 hN7 nN7 hY7 hwk7 (by omega) s7
    ·exact fin _ _ _ _ _ _ hg7 hB7 hN7 nN7 hY7 hwk7 (by omega) s7
   ·have e0 := xY (nb / 24) (show (n + 1) ≠ 0 by omega)
    have e1 := zJ (nb / 24) (show 0 < n + 1 by omega)
    have c0 := xY (nb / 400) (show (999 : Int) ≠ 0 by decide)
    have c1 := zJ (nb / 400) (show (0 : Int) < 999 by decide)
    refine ⟨_, rfl, _, _, rfl, rfl, ⟨by decide, by decide⟩, _, _, rfl, rfl, (by show (0 : Int) < _; decide +kernel), rfl, _, rfl, ite2 (fun _ => ?_) (fun _ => ?_)⟩
    ·refine ⟨_, rfl, .inl ⟨rfl, _, Qb hg6⟩, _, rfl, _, rfl, _, _, rfl, rfl, ⟨by decide, by decide⟩, _, rfl, _, _, rfl, rfl, _, _, rfl, rfl, (by show 0 < n + 1; omega), _, rfl, _, _, rfl, rfl, ⟨by decide, by decide⟩, _, _, rfl, rfl, (by show (0 : Int) < _; decide +kernel), _, _, rfl, rfl, by show 4 ≤ sizeLine; decide, fun l7 hl7 => ?_⟩
     have lN7 : l7 ≠ N := fun e => by rw [e, hN6] at hl7; cases hl7
     have s7 := Qd hl7 (.lst [.str "late", .str w, .int (nb / 24 % (n + 1)), .int (1 + nb / 400 % 999)])
     have hl77 : upd H6 l7 (.lst [.str "late", .str w, .int (nb / 24 % (n + 1)), .int (1 + nb / 400 % 999)]) l7 = some (.lst ((BR.late w (nb / 24 % (n + 1)) (1 + nb / 400 % 999)).cells.map kV)) := Qe
     generalize upd H6 l7 (.lst [.str "late", .str w, .int (nb / 24 % (n + 1)), .int (1 + nb / 400 % 999)]) = H7 at s7 hl77 ⊢
     have hg7 := s7 _ _ hg6
     refine ⟨g6, _, _, rfl, rfl, hg7, by omega, REST _ _ ⟨_, _, _, g6, my6, _, BR.work w :: Y ++ [BR.late w (nb / 24 % (n + 1)) (1 + nb / 400 % 999)], rfl, Qe, gH6, gN6, ?_, ?_, fun h => ?_, hBk.snoc ⟨e0, by omega, by omega, by omega⟩ jY (fun x hx => ?_) (fun r hr => Yx (no10 r hr)) (gn1 hwl) (fun k hk => by rw [jQ.mp hk]; exact ⟨.work w, kZ _ jY, rfl⟩), yJ _ jY, fun r hr => ?_, ?_, fun c o e => ?_⟩⟩
     ·have h5 := ((hB6.same s7).snoc hl77).updL (zs := vs6 ++ [.ref l7]) hg7 hB6.noRow
      rw [jQc] at h5
      exact h5
     ·rw [Qq gN6.symm]; exact s7 _ _ hN6
     ·rcases kQ.mp h with h | h
      ·exact nN6 h
      ·have h2 := jQ.mp h
       injection h2 with h3
       exact lN7 h3.symm
     ·rw [jQ.mp hx]; exact kZ _ jY
     ·rcases kQ.mp hr with h | h
      ·exact no9 r h
      ·rw [jQ.mp h]; show (10 : Nat) ≠ 9; decide
     ·rw [jV, yZ]; show Y.length + 1 + 1 ≤ 71; omega
     ·rw [Qq (Qr e gH6)]; exact (s6'.trans s7) _ _ e
    ·exact REST _ _ ⟨_, _, _, g6, my6, vs6, BR.work w :: Y, rfl, hg6, gH6, gN6, hB6, hN6, nN6, hBk, jY, no9, by rw [yZ]; omega, s6'⟩
 ·rintro σ H1 ⟨v6, v7, v8, v9, v10, v11, g, my, vs, W, nm, rfl, hg1, gH, gN, hB1, hN1, nN1, hW, hnl, hfl, hlen, s1'⟩
  exact ⟨_, rfl, q g vs nm W H1 s1' gH hg1 hB1 hW (by omega) (by omega)⟩
end
abbrev Qmh : Stmt := top 29
theorem Wa {r : BR} (h : Thing r) : r.own = [] := by cases h <;> rfl
theorem Qgp {r : BR} (h : Thing r) : r.kind ≠ 0 := by
 cases h with
 | bench b r => show (1 : Nat) ≠ 0; decide
 | shut b f t => show (2 : Nat) ≠ 0; decide
 | store b m f => show (3 : Nat) ≠ 0; decide
theorem Qpi {n : Int} {nm : List Str} {T W : List BR} (tT : ThOk n T) (hW : WkOk n T nm W) (tl : T.length ≤ 11) (wl : W.length ≤ 370) (nl : nm.length ≤ 5) : WB n (.days n :: (T ++ W)) := by
 refine ⟨fun r hr => ?_, jJe.mpr ⟨fun r hr => ?_, wK.mpr ⟨tT.nd, hW.nd, fun r hr q hq => ?_⟩⟩, fun r hr w hw => ?_, ?_, nm, nl, fun r hr w hw => ?_⟩
 ·rcases jZ.mp hr with e | e
  ·rw [e]; rfl
  ·rcases kQ.mp e with e | e
   ·exact tT.ok r e
   ·exact hW.ok r e
 ·rcases kQ.mp hr with e | e
  ·exact Yx (fun z => Qgp (tT.th r e) z.symm)
  ·refine .inr (.inr fun z => ?_)
   cases ho : r.own with
   | nil => exact (hW.own r e).1 ho
   | cons w ws =>
    have h5 : w ∈ (BR.days n).own := Qdr z (by rw [ho]; exact jY)
    exact nomatch h5
 ·refine .inr (.inr fun z => ?_)
  cases ho : q.own with
  | nil => exact (hW.own q hq).1 ho
  | cons w ws =>
   have h5 : w ∈ r.own := Qdr z (by rw [ho]; exact jY)
   rw [Wa (tT.th r hr)] at h5
   exact nomatch h5
 ·rcases jZ.mp hr with e | e
  ·rw [e] at hw; exact nomatch hw
  ·rcases kQ.mp e with e | e
   ·rw [Wa (tT.th r e)] at hw; exact nomatch hw
   ·exact kX _ (kZ _ (hW.wk w ((hW.own r e).2 w hw)))
 ·rw [yZ, jV]; omega
 ·rcases jZ.mp hr with e | e
  ·rw [e] at hw; exact nomatch hw
  ·rcases kQ.mp e with e | e
   ·rw [Wa (tT.th r e)] at hw; exact nomatch hw
   ·exact (hW.own r e).2 w hw
theorem ah_at : ∀ {X S : List BR} {i : Nat} {r : BR}, Ahead S X → X[i]? = some r → ∀ k ∈ r.needs, Said (S ++ X.take i) k
 | x :: X, S, 0, r, h, e => by
  cases e
  rw [kZe, jZc]
  exact h.1
 | x :: X, S, i + 1, r, h, e => by
  have h5 := ah_at h.2 (show X[i]? = some r from e)
  rw [jQc] at h5
  exact h5
 | [], _, _, _, _, e => nomatch e
structure BookOk (n : Int) (B : List BR) : Prop where
 n1 : 1 ≤ n
 n12 : n ≤ 12
 wb : WB n B
 hd : B[0]? = some (.days n)
 gn : ∀ r ∈ B, r.gn
 ah : Ahead [] B
theorem Qpj {α : Type} (B : List α) (k : Nat) (r : α) : (B.take k ++ [r] ++ B.drop k).Perm (r :: B) := by
 have h := List.perm_middle (a := r) (l₁ := B.take k) (l₂ := B.drop k)
 rw [jKe] at h
 rwa [jQc]
def Qnl (K : Fg) : Sp := fun vs H Q _ => ∃ (a : Addr) (ns : List Int), vs = [.ref a] ∧ SqL K H a (ns.map V.int) ∧
 ∀ (g : Addr) (vs : List V) (n : Int) (B : List BR) (H' : Hp), Same H H' → H' g = some (.lst vs) → RowsB H' vs B → BookOk n B → Q (.ref g) H'
section
variable {P : Program} {w : World} {K : Fg} {mg : Str → Option Value} {base : Heap}
theorem scBook : FnScope ["_law_script", "_law_days", "_law_things_here", "_law_rows", "_law_mixed_here", "_law_k", "_law_row"] ["_law_script"] (Qh Qmh) := ⟨rfl, rfl, rfl, by decide +kernel, rfl, by decide +kernel, by decide +kernel⟩
theorem okBook (F : Fn K mg "_law_book" Qmh) (M : Mg mg) (cl_mixed : Cal P w K mg base 2 "_law_mixed" ["_law_script", "_law_k"] (Js K)) (cl_things : Cal P w K mg base 4 "_law_things" ["_law_script", "_law_days"] (Qex K)) (cl_works : Cal P w K mg base 4 "_law_works" ["_law_script", "_law_days", "_law_things_here"] (Qja K)) (cl_put : Cal P w K mg base 1 "_law_put" ["_law_rows", "_law_row", "_law_number_here"] (spPut K)) : Cal P w K mg base 5 "_law_book" ["_law_script"] (Qnl K) := by
 refine Xr F scBook (fun _ _ _ _ _ _ => bind1 (fun _ => rfl)) (fun vs H Q E h => ?_) (fun f cdv A outer s H vs Q E hr h => ?_)
 ·obtain ⟨a, ns, rfl, _⟩ := h
  rfl
 obtain ⟨a, ns, rfl, hS, q⟩ := h
 refine ⟨_, (Qg (Qs (i := 1) scBook.nd rfl (Or.inl rfl) (Qk Qw Qc (Qk Qy (Xd cl_mixed (hr.mono (by decide)) (Qa (pv 0) (Qa Qc Qf))) Qc)))
  (Qg (Qs (i := 2) scBook.nd rfl (Or.inl rfl) (Xd cl_things (hr.mono (by decide)) (Qa (pv 0) (Qa (pv 1) Qf))))
  (Qg (Qs (i := 3) scBook.nd rfl (Or.inl rfl) (Xa (Qa (Xa (Qa Qp (Qa (pv 1) Qf))) Qf)))
  (Qg (Qs (i := 4) scBook.nd rfl (Or.inl rfl) (Xn Xy (Qk Qy (Xd cl_mixed (hr.mono (by decide)) (Qa (pv 0) (Qa Qc Qf))) Qc) Qc (Qm _)))
  (Qg (Ze PassesOwn.never rfl (Qin true rfl M.enumerate_ (Qa (Qk Yt (pv 2) (Xd cl_works (hr.mono (by decide)) (Qa (pv 0) (Qa (pv 1) (Qa (pv 2) Qf))))) Qf)) (Qdj (K := K) (i := 5) (j := 6) rfl rfl scBook.nd rfl rfl rfl rfl) (Qi (Xi (Yn (pv 4)) (Qi (Qs (i := 3) scBook.nd rfl (Or.inl rfl) (Xd cl_put (hr.mono (by decide)) (Qa (pv 3) (Qa (pv 6) (Qa (Xd cl_mixed (hr.mono (by decide)) (Qa (pv 0) (Qa (Qk Qw Qc (pv 5)) Qf))) Qf)))))) (Qi (Qs (i := 3) scBook.nd rfl (Or.inl rfl) (Qk Yt (pv 3) (Xa (Qa (pv 6) Qf))))))))
  (Qi (Qv (pv 3)))))))), ?_⟩
 refine Qav ?_
 intro rT6 rT5 rT4 rT3 rT2
 have hz : (20000 : Nat) < sizeLine := by decide
 refine ⟨_, rfl, a, ns, 0, rfl, hS, by decide, by decide, fun z z0 z1 => ?_⟩
 refine ⟨_, _, rfl, rfl, (by show (0 : Int) < _; decide +kernel), _, _, rfl, rfl, ?_⟩
 dsimp only
 generalize hn : 1 + z % 12 = n
 have n1 : 1 ≤ n ∧ n ≤ 12 := by omega
 refine ⟨_, rfl, _, rfl, a, ns, n, rfl, hS, n1.1, n1.2, fun gt vt T H1 s1 fgt hgt hBT tT tl => ?_⟩
 refine ⟨_, rfl, by show 2 ≤ sizeLine; decide, fun l hl => ?_⟩
 have s2 := s1.trans (Qd hl (.lst [.str "days", .int n]))
 have s12 := Qd hl (.lst [.str "days", .int n])
 have hl2 : upd H1 l (.lst [.str "days", .int n]) l = some (.lst ((BR.days n).cells.map kV)) := Qe
 generalize upd H1 l (.lst [.str "days", .int n]) = H2 at s2 s12 hl2 ⊢
 refine ⟨by show 1 ≤ sizeLine; decide, fun g0 hg0 => ?_⟩
 have s23 := Qd hg0 (.lst [.ref l])
 have s3 := s2.trans s23
 have s13 := s12.trans s23
 have hg3 : upd H2 g0 (.lst [.ref l]) g0 = some (.lst [.ref l]) := Qe
 have hB3 : RowsB (upd H2 g0 (.lst [.ref l])) [.ref l] [.days n] := RowsB.snoc (vs := []) (B := []) .nil (s23 _ _ hl2)
 generalize upd H2 g0 (.lst [.ref l]) = H3 at s23 s3 s13 hg3 hB3 ⊢
 refine ⟨_, rfl, a, ns, 3, rfl, s3.seq hS, by decide, by decide, fun y y0 y1 => ?_⟩
 refine ⟨_, _, rfl, rfl, (by show (0 : Int) < _; decide +kernel), rfl, ?_⟩
 generalize decide (V.int (y % 2) = V.int 1) = bb
 refine ⟨_, rfl, _, rfl, _, rfl, _, rfl, a, gt, ns, n, vt, T, rfl, s3.seq hS, n1.1, n1.2, Qb (s13 _ _ hgt), hBT.same s13, tT, tl, fun gw vw nm W H4 s4 fgw hgw hBW hW wl nl => ?_⟩
 have lvt := hBT.length
 have lvw := hBW.length
 refine ⟨gt, gw, _, _, rfl, rfl, s4 _ _ (s13 _ _ hgt), hgw, by omega, fun p hp => ?_⟩
 have s45 := Qd hp (.lst (vt ++ vw))
 have hp5 : upd H4 p (.lst (vt ++ vw)) p = some (.lst (vt ++ vw)) := Qe
 have hX5 : RowsB (upd H4 p (.lst (vt ++ vw))) (vt ++ vw) (T ++ W) := ((hBT.same (s13.trans s4)).same s45).app (hBW.same s45)
 have s5 := (s3.trans s4).trans s45
 have hg5 := (s4.trans s45) _ _ hg3
 have hB5 := hB3.same (s4.trans s45)
 generalize upd H4 p (.lst (vt ++ vw)) = H5 at s45 hp5 hX5 s5 hg5 hB5 ⊢
 have lx := hX5.length
 let Pv11 : Nat → St → Hp → Prop := fun i σ H6 => ∃ (v5 v6 : Option V) (g : Addr) (vs : List V) (B : List BR), σ = [some (.ref a), some (.int n), some (.ref gt), some (.ref g), some (.bl bb), v5, v6] ∧ H6 g = some (.lst vs) ∧ RowsB H6 vs B ∧ B.Perm (BR.days n :: (T ++ W).take i) ∧ (B[0]? = some (.days n) ∧ Ahead [] B) ∧ Same H5 H6
 refine ⟨p, rfl, ⟨_, Qb hp5⟩, Qet (K := K) (m := true) (a := p) (xs := vt ++ vw) Pv11 ⟨none, none, g0, _, [.days n], rfl, hg5, hB5, .refl _, ⟨rfl, fun _ h => (nomatch h), True.intro⟩, Same.refl _⟩ (fun i σ H6 _ h => ?_) ?_ ?_⟩
 ·obtain ⟨v5, v6, g, vs, B, rfl, hg6, hB6, hpm, hB0, s6⟩ := h
  exact s6.seq (Qb hp5)
 ·rintro i x σ H6 T' e1 ⟨v5, v6, g, vs, B, rfl, hg6, hB6, hpm, ⟨hB0, hBa⟩, s6⟩ hT'
  obtain ⟨r, lr, er, rfl, hr5⟩ := hX5.get e1
  have hi := (kY.mp er).1
  rw [jV] at hi
  have lB : B.length = i + 1 := by
   rw [hpm.length_eq, yZ, zZ, jV]
   omega
  have lvs := hB6.length
  have s67 := Qd hT' (.tup [.int ((i : Nat) : Int), .ref lr])
  refine ⟨T', _, rfl, Zc Qe, rfl, _, _, rfl, _, _, rfl, rfl, ?_⟩
  generalize upd H6 T' (.tup [.int ((i : Nat) : Int), .ref lr]) = H7 at s67 ⊢
  have s57 := s6.trans s67
  have hr7 := s57 _ _ hr5
  have hg7 := s67 _ _ hg6
  have hB7 := hB6.same s67
  have hsd : ∀ k ∈ r.needs, Said B k := fun k hk => (ah_at (tT.ah.app hW.ah) er k hk).mono fun q hq => hpm.mem_iff.mpr hq
  have tk : (T ++ W).take (i + 1) = (T ++ W).take i ++ [r] := takeS er
  have fin : ∀ {B' : List BR}, B'.Perm (r :: B) → B'.Perm (BR.days n :: (T ++ W).take (i + 1)) := fun h => by
   rw [tk]
   refine h.trans ((List.Perm.cons r hpm).trans ?_)
   refine (List.Perm.swap _ _ _).trans (.cons _ ?_)
   have h5 := List.perm_append_comm (l₁ := [r]) (l₂ := (T ++ W).take i)
   exact h5
  refine ⟨_, rfl, _, rfl, ite2 (fun _ => ?_) (fun _ => ?_)⟩
  ·refine ⟨_, rfl, _, rfl, _, rfl, _, rfl, _, _, rfl, rfl, a, ns, _, rfl, (s5.trans s57).seq hS, by omega, by omega, fun y' y0' y1' => ?_⟩
   refine ⟨g, lr, _, vs, B, r, rfl, hg7, hB7, by omega, by omega, hr7, fun g8 k H8 k1 k2 hh s8 fg8 hg8 => ?_⟩
   refine ⟨_, _, g8, _, B.take k ++ [r] ++ B.drop k, rfl, hg8, (((hB7.same s8).take k).snoc (s8 _ _ hr7)).app ((hB7.same s8).drop k), fin (Qpj B k r), ⟨?_, Ahead.ins (by rw [jKe]; exact hBa) fun κ hκ => Qme hB0 k1 hh hκ (hsd κ hκ)⟩, s57.trans s8⟩
   rw [jQc, wY (by rw [zZ]; omega), List.getElem?_take]
   rw [if_pos (by omega)]
   exact hB0
  ·refine ⟨_, rfl, _, rfl, by show 1 ≤ sizeLine; decide, fun p9 hp9 => ?_⟩
   have s9 := Qd hp9 (.lst [.ref lr])
   refine ⟨g, p9, _, _, rfl, rfl, s9 _ _ hg7, Qe, by show vs.length + 1 ≤ _; omega, fun g8 hg8 => ?_⟩
   have s10 := s9.trans (Qd hg8 (.lst (vs ++ [.ref lr])))
   refine ⟨_, _, g8, _, B ++ [r], rfl, Qe, (hB7.same s10).snoc (s10 _ _ hr7), fin (List.perm_append_comm (l₁ := B) (l₂ := [r])), ⟨?_, hBa.app (Ahead.one (by rw [List.nil_append]; exact hsd))⟩, s57.trans s10⟩
   rw [wY (by omega)]
   exact hB0
 ·rintro σ H6 ⟨v5, v6, g, vs, B, rfl, hg6, hB6, hpm, ⟨hB0, hBa⟩, s6⟩
  rw [lx, wV] at hpm
  refine ⟨_, rfl, q g vs n B H6 (s5.trans s6) hg6 hB6 ⟨n1.1, n1.2, (Qpi tT hW tl wl nl).perm hpm.symm, hB0, fun r hr => ?_, hBa⟩⟩
  rcases jZ.mp (hpm.mem_iff.mp hr) with e | e
  ·rw [e]; exact fun _ h => nomatch h
  ·rcases kQ.mp e with e | e
   ·exact tT.gn r e
   ·exact hW.gn r e
end
end Nb
namespace L2
open PySem PySem.Spec PyProof.Rows
def ItS (x : Str) : It := ⟨fun i _ => i < x.cps.size, fun i H v H' => H' = H ∧ ∃ c, x.cps[i]? = some c ∧ v = .str ⟨#[c]⟩, fun i _ => x.cps.size ≤ i⟩
theorem Qmi {P : Program} {w : World} {K : Fg} {tg : Expr} {x : Str} {t : Tok} (it : Addr) : Turn P w K tg (ItS x) [it] it (fun i h => h.IsStrIter it "str_ascii_iterator" x t i) where
 mem := jY
 obj := fun i h st b hb => by
  rw [jQ.mp hb]
  obtain ⟨o, e, _, d⟩ := st
  exact ⟨o, e, fun v z => by rw [d] at z; cases z⟩
 keep := fun i h h' ⟨o, e, r⟩ k => ⟨o, k it jY o e, r⟩
 item := by
  intro X hP hw hK _ i pins s σ H E I hf st hg
  subst hP hw hK
  obtain ⟨f0, f1, f2, f3, f4, f5⟩ := hf it jY
  have hi : x.cps[i]? = some (x.cps[i]'hg) := Array.getElem?_eq_getElem hg
  refine wpAny_pyNext_ascii_item st hi fun h' st' sb => ?_
  have J : Inv X pins σ H { s with heap := h', toks := s.toks + 1 } := I.turned (t' := s.toks + 1) (fun b o hb e => (sb.2 b hb).trans e) f0 f1 f3 f4 f5
  obtain ⟨o, e, c, d⟩ := id st'
  exact ⟨_, rfl, Qlb (s := { s with heap := h', toks := s.toks + 1 }) e c d (by decide) ⟨.str _, H, J, ⟨_, rfl⟩, ⟨rfl, _, hi, rfl⟩, st', fun b hb => (hf b hb).1⟩⟩
 done := by
  intro X hP hw hK hc i pins s σ H E I hf st hg
  subst hP hw hK
  obtain ⟨f0, f1, f2, f3, f4, f5⟩ := hf it jY
  refine wpAny_pyNext_ascii_end (I.ok.hd hc) st (Array.getElem?_eq_none hg) fun h' ex => ⟨rfl, I.turned (t' := s.toks) (fun b o hb e => ex b o hb e) f0 f1 f3 f4 f5⟩
 self := fun A i s Q E st q => wpAny_pyIter_striter_ascii st q
section
variable {X : Cx} {tg : Expr}
theorem Qnm {l : Expr} {tl : TE} (hl : PE X l tl) : PI X tg l (fun σ H R => tl σ H fun v H1 => ∃ x : Str, v = .str x ∧ x.cps.all (· < 128) = true ∧ R (ItS x) H1) := by
 intro pins s σ H R I h
 refine thn (hl pins s σ H _ I h) fun v s1 hqP => ?_
 obtain ⟨z, H1, I1, r1, q1⟩ := hqP
 obtain ⟨x, rfl, ha, q⟩ := q1
 obtain ⟨t, rfl⟩ := (show ∃ t, v = Value.str x t from r1)
 refine wpAny_pyIter_ascii ha ?_
 refine ⟨s1.heap.objs.size, [s1.heap.objs.size], _, _, H1, rfl, I1.kept (t' := s1.toks) fun b o e => jK _ e, Qmi (t := t) _, ⟨_, yV _ rfl, rfl, rfl⟩, fun b hb => ?_, q⟩
 rw [jQ.mp hb]
 exact I1.fpOk (kK _) (I1.hok.fresh (kK _))
theorem Qcp : OpR X (compareOp .LtE) (fun a b H Q => ∃ i j, a = .str i ∧ b = .str j ∧ Q (.bl (!decide (j.cps.toList < i.cps.toList))) H) := by
 rintro pins s σ H a b u v Q I ra rb ⟨i, j, rfl, rfl, q⟩
 obtain ⟨t, rfl⟩ := (show ∃ t, u = Value.str i t from ra)
 obtain ⟨t', rfl⟩ := (show ∃ t', v = Value.str j t' from rb)
 exact PySem.P.le_str (Xj I q rfl)
end
section
variable {X : Cx} {pins : List (Addr × Obj)} {σ : St} {H : Hp} {s : Shared} {d : Addr} {kvs : List (Key × V)} {o : Obj}
end
section
variable {X : Cx}
end
end L2
namespace L2
open PySem PySem.Spec PyProof.Rows PySem.SeqAt
section
variable {X : Cx}
end
section
variable {X : Cx}
end
section
variable {X : Cx}
open PySem.W in
end
section
variable {prog : Program} {w : World} {A : Around} {E : Value → Shared → Prop} {s : Shared} {κ : KeyKind}
end
section
variable {a b out : Array Keyed} {ia ib k : Nat}
end
section
variable {prog : Program} {w : World} {A : Around} {E : Value → Shared → Prop} {s : Shared} {κ : KeyKind}
end
section
variable {a b out : Array Keyed} {na nb k : Nat}
end
section
variable {prog : Program} {w : World} {A : Around} {E : Value → Shared → Prop} {s : Shared} {κ : KeyKind}
end
section
variable {prog : Program} {w : World} {A : Around} {E : Value → Shared → Prop} {s : Shared} {κ : KeyKind} {a₀ : Array Keyed}
end
section
variable {prog : Program} {w : World} {A : Around} {E : Value → Shared → Prop} {s : Shared} {κ : KeyKind} {a₀ : Array Keyed}
end
section
variable {prog : Program} {w : World} {A : Around} {E : Value → Shared → Prop} {s : Shared} {κ : KeyKind} {a₀ : Array Keyed}
end
section
variable {prog : Program} {w : World} {A : Around} {E : Value → Shared → Prop} {s : Shared}
end
section
variable {X : Cx}
open PySem.W in
end
end L2
namespace L2
open PySem PySem.Spec PyProof.Rows PySem.SeqAt
section
variable {X : Cx} {pins : List (Addr × Obj)} {σ : St} {H : Hp} {s : Shared}
theorem Qba {v : V} (h : Yd v = true) : eqV v v = true := by
 cases v with
 | non => rfl
 | bl b => exact beq_self_eq_true b
 | int i => exact beq_self_eq_true i
 | str x => exact beq_self_eq_true x
 | _ => exact nomatch h
open PySem.W in
end
section
variable {X : Cx}
end
section
variable {X : Cx}
end
end L2
namespace Nb
open PySem L2
abbrev sg (x : Str) : List Nat := x.cps.toList
end Nb
namespace L2
open PySem PySem.Spec PyProof.Rows
theorem Yi {H H1 : Hp} {D : Addr} {o : HO} (s : Same H H1) (hD : H D = none) : Same H (upd H1 D o) := fun b u e => by
 rw [Qq (Qr e hD)]; exact s b u e
structure Walk {α : Type} (J : It) (H : Hp) (xs : List α) (val : α → V) : Prop where
 go : ∀ i H1, Same H H1 → i < xs.length → J.go i H1
 stop : ∀ H1, Same H H1 → J.stop xs.length H1
 yl : ∀ i H1 v H2, Same H H1 → J.yld i H1 v H2 → i < xs.length → H2 = H1 ∧ ∃ x, xs[i]? = some x ∧ v = val x
theorem Yj {α : Type} {K : Fg} {H : Hp} {a : Addr} {xs : List α} {val : α → V} (h : SqL K H a (xs.map val)) : Walk (Itl K a) H xs val where
 go i H1 s hi := ⟨_, _, s.seq h, gE (by rw [jW]; exact hi)⟩
 stop H1 s := ⟨_, s.seq h, by rw [jW]; exact kK _⟩
 yl i H1 v H2 s := by
  rintro ⟨rfl, e1⟩ hi
  have e := e1 _ (s.seq h)
  rw [zK] at e
  obtain ⟨x, ex, ev⟩ := jQe.mp e
  exact ⟨rfl, x, ex, ev.symm⟩
theorem Qfa {α : Type} {K : Fg} {H : Hp} {a : Addr} {xs : List α} {val : α → V} (h : SqT K H a (xs.map val)) : Walk (Itt K a) H xs val where
 go i H1 s hi := ⟨_, _, s.tup h, gE (by rw [jW]; exact hi)⟩
 stop H1 s := ⟨_, s.tup h, by rw [jW]; exact kK _⟩
 yl i H1 v H2 s := by
  rintro ⟨rfl, e1⟩ hi
  have e := e1 _ (s.tup h)
  rw [zK] at e
  obtain ⟨x, ex, ev⟩ := jQe.mp e
  exact ⟨rfl, x, ex, ev.symm⟩
theorem Qfb {H : Hp} {x : Str} : Walk (ItS x) H x.cps.toList (fun c => .str ⟨#[c]⟩) where
 go i H1 s hi := by rw [wZ] at hi; exact hi
 stop H1 s := by rw [wZ]; exact kK _
 yl i H1 v H2 s := by
  rintro ⟨rfl, c, ec, ev⟩ hi
  exact ⟨rfl, c, by rw [Array.getElem?_toList]; exact ec, ev⟩
theorem Qad {α : Type} {xs : List α} {i : Nat} {x : α} (h : xs[i]? = some x) : xs.take (i + 1) = xs.take i ++ [x] := by
 obtain ⟨hi, e⟩ := kY.mp h
 rw [List.take_succ, h]
 rfl
theorem Qds {α β : Type} {J : It} {H : Hp} {xs : List α} {val : α → V} {D : Addr} {cs τ0 : St} {te : TE} {Q : Addr → Hp → Prop} (R : Hp → V → β → Prop) (f : α → β) (hτ : τ0 = none :: cs) (hw : Walk J H xs val) (fw : xs.length < sizeLine) (hD : H D = none)
  (Rs : ∀ {H1 H2 v x}, Same H H1 → Same H1 H2 → R H1 v x → R H2 v x) (Ru : ∀ {H1 v x zs}, R H1 v x → R (upd H1 D (.lst zs)) v x)
  (hs : ∀ x ∈ xs, ∀ H1, Same H H1 → H1 D ≠ none → ∀ P : V → Hp → Prop, (∀ v H2, Same H1 H2 → R H2 v (f x) → P v H2) → te (some (val x) :: cs) H1 P)
  (hd : ∀ H1 ys, Same H H1 → H1 D = some (.lst ys) → Paired (R H1) ys (xs.map f) → Q D H1) :
  LcW J D τ0 H (Wr 0) tYes te Q := by
 subst hτ
 let Pv12 : Nat → St → List V → Hp → Prop := fun i τ ys H1 => ∃ v : Option V, τ = v :: cs ∧ H1 D = some (.lst ys) ∧ Same H H1 ∧ i ≤ xs.length ∧ Paired (R H1) ys ((xs.take i).map f)
 refine Qig (n := xs.length) Pv12 ?_ (fun i τ ys H1 hi h => ?_) (fun i τ ys H1 hi h => ?_) (fun τ ys H1 h => ?_) ?_ ?_
 ·exact ⟨none, rfl, Qe, Qd hD _, wQ _, .nil⟩
 ·obtain ⟨v, rfl, hD1, s1, _, hp⟩ := h
  refine ⟨hD1, ?_⟩
  have := Paired.length hp
  rw [jW, zZ] at this
  omega
 ·obtain ⟨v, rfl, hD1, s1, _, hp⟩ := h
  exact hw.go i H1 s1 hi
 ·obtain ⟨v, rfl, hD1, s1, _, hp⟩ := h
  exact hw.stop H1 s1
 ·rintro i τ ys H1 x H2 hi ⟨v, rfl, hD1, s1, _, hp⟩ hy
  obtain ⟨rfl, y, ey, rfl⟩ := hw.yl i H1 x H2 s1 hy hi
  refine hs y (yX ey) _ s1 (by rw [hD1]; exact Option.some_ne_none _) _ fun v' H3 s3 r => ⟨s3 _ _ hD1, _, rfl, Qe, Yi (s1.trans s3) hD, hi, ?_⟩
  rw [Qad ey, jXe]
  have h1 : Paired (R (upd H3 D (.lst (ys ++ [v'])))) ys ((xs.take i).map f) := by
   clear hD1
   generalize ((xs.take i).map f) = bs at hp
   generalize hz : (HO.lst (ys ++ [v'])) = o
   have : ∀ v b, R _ v b → R (upd H3 D o) v b := fun v b h => by rw [← hz]; exact Ru (Rs s1 s3 h)
   clear hz
   induction hp with
   | nil => exact .nil
   | cons z _ ih => exact .cons (this _ _ z) ih
  exact Paired.snoc h1 (Ru r)
 ·rintro τ ys H1 ⟨v, rfl, hD1, s1, _, hp⟩
  rw [wV] at hp
  exact hd H1 ys s1 hD1 hp
theorem Qae {α : Type} {g : α → V} : ∀ {ys : List V} {xs : List α}, Paired (fun v x => v = g x) ys xs → ys = xs.map g
 | _, _, .nil => rfl
 | _, _, .cons e t => by rw [e, Qae t]; rfl
theorem Wb {α β : Type} {J : It} {H : Hp} {xs : List α} {val : α → V} {D : Addr} {cs τ0 : St} {te : TE} {Q : Addr → Hp → Prop} (g : β → V) (f : α → β) (hτ : τ0 = none :: cs) (hw : Walk J H xs val) (fw : xs.length < sizeLine) (hD : H D = none)
  (hs : ∀ x ∈ xs, ∀ H1, Same H H1 → ∀ P : V → Hp → Prop, (∀ H2, Same H1 H2 → P (g (f x)) H2) → te (some (val x) :: cs) H1 P)
  (hd : ∀ H1, Same H H1 → H1 D = some (.lst ((xs.map f).map g)) → Q D H1) :
  LcW J D τ0 H (Wr 0) tYes te Q :=
 Qds (fun _ v x => v = g x) f hτ hw fw hD (fun _ _ h => h) (fun h => h) (fun x hx H1 s1 _ P h => hs x hx H1 s1 P fun H2 s2 => h _ H2 s2 rfl) fun H1 ys s1 h1 h2 => hd H1 s1 (by rw [h1, Qae h2])
theorem le1 (a b : Nat) : (!decide (([b] : List Nat) < [a])) = decide (a ≤ b) := by
 rw [StrLaws.lt_cons_cons, StrLaws.lt_nil_nil, Bool.and_false, Bool.or_false]
 by_cases h : a ≤ b
 ·rw [yK h, zW (by omega)]; rfl
 ·rw [zW h, yK (by omega)]; rfl
end L2
namespace L2
open PySem PySem.Spec PyProof.Rows PySem.W
inductive TV where
 | non | int (i : Int) | str (x : Str) | tup (l : List TV)
def all2 {α β : Type} (p : α → β → Bool) : List α → List β → Bool
 | [], [] => true
 | a :: as, b :: bs => p a b && all2 p as bs
 | _, _ => false
def chkV (K : Frag) : Nat → TV → Value → Bool
 | _ + 1, .non, .none => true
 | _ + 1, .int i, .int j _ => i == j
 | _ + 1, .str x, .str y _ => x == y
 | n + 1, .tup l, .ref a => match K.lookup a with
  | some ⟨.type c, _, .seq its _, _⟩ => c == "tuple" && Nat.ble its.toList.length 100 && all2 (chkV K n) l its.toList
  | _ => false
 | _, _, _ => false
def TvAt (K : Frag) : Nat → TV → V → Prop
 | 0, _, _ => False
 | _ + 1, .non, x => x = .non
 | _ + 1, .int i, x => x = .int i
 | _ + 1, .str s, x => x = .str s
 | n + 1, .tup l, x => ∃ (a : Addr) (xs : List V), x = .ref a ∧ (∀ H, SqT K H a xs) ∧ Paired (fun x t => TvAt K n t x) xs l
theorem Qnn {K : Frag} : ∀ {n : Nat} {t : TV} {v : Value}, chkV K n t v = true → ∃ x, RelV x v ∧ TvAt K n t x
 | 0, t, v, h => by
  cases t <;> cases v <;> cases h
 | n + 1, .non, v, h => by
  cases v with
  | none => exact ⟨.non, rfl, rfl⟩
  | _ => cases h
 | n + 1, .int i, v, h => by
  cases v with
  | int j t =>
   have e : i = j := eq_of_beq h
   exact ⟨.int i, ⟨t, by rw [e]⟩, rfl⟩
  | _ => cases h
 | n + 1, .str x, v, h => by
  cases v with
  | str y t =>
   have e : x = y := eq_of_beq h
   exact ⟨.str x, ⟨t, by rw [e]⟩, rfl⟩
  | _ => cases h
 | n + 1, .tup l, v, h => by
  cases v with
  | ref a =>
   have h' : (match K.lookup a with
    | some ⟨.type c, _, .seq its _, _⟩ => c == "tuple" && Nat.ble its.toList.length 100 && all2 (chkV K n) l its.toList
    | _ => false) = true := h
   split at h'
   ·rename_i c d its m sl hk
    rw [zY, zY] at h'
    obtain ⟨⟨h1, h2⟩, h3⟩ := h'
    have e1 : c = "tuple" := eq_of_beq h1
    have h2' : its.toList.length ≤ 100 := jKf h2
    have key : ∀ (l : List TV) (us : List Value), all2 (chkV K n) l us = true → ∃ xs, Vals xs us ∧ Paired (fun x t => TvAt K n t x) xs l := by
     intro l
     induction l with
     | nil =>
      intro us h
      cases us with
      | nil => exact ⟨[], .nil, .nil⟩
      | cons _ _ => cases h
     | cons t l ih =>
      intro us h
      cases us with
      | nil => cases h
      | cons u us =>
       have h5 : (chkV K n t u && all2 (chkV K n) l us) = true := h
       rw [zY] at h5
       obtain ⟨x, r, hx⟩ := Qnn h5.1
       obtain ⟨xs, rs, hxs⟩ := ih us h5.2
       exact ⟨x :: xs, .cons r rs, .cons hx hxs⟩
    obtain ⟨xs, rs, hxs⟩ := key l its.toList h3
    have hz : (100 : Nat) < sizeLine := by decide
    refine ⟨.ref a, rfl, a, xs, rfl, fun H => .inr ⟨_, its, m, hk, by rw [e1], rfl, ?_, rs⟩, hxs⟩
    rw [wZ] at h2'
    omega
   ·cases h'
  | _ => cases h
def Qno (x : Str) : Value → Bool
 | .str y _ => x == y
 | _ => false
def Qfc (K : Frag) (n : Nat) (ts : List (Str × TV)) (es : List DictEntry) : Bool := all2 (fun t e => Qno t.1 e.key && chkV K n t.2 e.val) ts es
theorem Qbb {K : Frag} {n : Nat} : ∀ {ts : List (Str × TV)} {es : List DictEntry}, Qfc K n ts es = true →
  (∀ x t, ts.lookup x = some t → ∃ v y, findBy Value.isStrOf ⟨es⟩ x = some v ∧ RelV y v ∧ TvAt K n t y) ∧ ∀ x, ts.lookup x = none → findBy Value.isStrOf ⟨es⟩ x = none
 | [], [], _ => ⟨fun x t h => (nomatch h), fun x h => rfl⟩
 | [], _ :: _, h => nomatch h
 | _ :: _, [], h => nomatch h
 | (k, t) :: ts, e :: es, h => by
  have h' : ((Qno k e.key && chkV K n t e.val) && Qfc K n ts es) = true := h
  rw [zY, zY] at h'
  obtain ⟨⟨h1, h2⟩, h3⟩ := h'
  obtain ⟨i1, i2⟩ := Qbb h3
  have hk : ∃ tk, e.key = .str k tk := by
   cases e5 : e.key with
   | str y tk =>
    rw [e5] at h1
    exact ⟨tk, by rw [show k = y from eq_of_beq h1]⟩
   | _ => rw [e5] at h1; cases h1
  obtain ⟨tk, hk⟩ := hk
  have fc : ∀ x, findBy Value.isStrOf ⟨e :: es⟩ x = if x = k then some e.val else findBy Value.isStrOf ⟨es⟩ x := fun x => by
   unfold findBy
   rw [← Array.find?_toList, ← Array.find?_toList]
   show Option.map _ (List.find? _ (e :: es)) = _
   rw [jZd, hk]
   by_cases hs : x = k
   ·subst hs
    rw [if_pos rfl]
    have : Value.isStrOf x (.str x tk) = true := by simp [Value.isStrOf]
    rw [this]
    rfl
   ·rw [if_neg hs]
    have : Value.isStrOf x (.str k tk) = false := by simp [Value.isStrOf]; exact fun z => hs z.symm
    rw [this]
  have lc : ∀ x, List.lookup x ((k, t) :: ts) = if x = k then some t else ts.lookup x := fun x => by
   rw [xJ]
   by_cases hs : x = k
   ·rw [if_pos hs, hs, beq_self_eq_true]
   ·rw [if_neg hs, beq_false_of_ne hs]
  refine ⟨fun x t' h => ?_, fun x h => ?_⟩
  ·rw [lc] at h
   rw [fc]
   by_cases hs : x = k
   ·rw [if_pos hs] at h ⊢
    cases h
    obtain ⟨y, r, hy⟩ := Qnn h2
    exact ⟨_, y, rfl, r, hy⟩
   ·rw [if_neg hs] at h ⊢
    exact i1 x t' h
  ·rw [lc] at h
   rw [fc]
   by_cases hs : x = k
   ·rw [if_pos hs] at h; cases h
   ·rw [if_neg hs] at h ⊢
    exact i2 x h
structure TvTab (w : World) (K : Frag) (mg : Str → Option Value) (x : Str) (n : Nat) (ts : List (Str × TV)) (a : Addr) (f : Str → Option Value) : Prop where
 tab : Tab w K mg x a f
 yes : ∀ s t, ts.lookup s = some t → ∃ v y, f s = some v ∧ RelV y v ∧ TvAt K n t y
 no : ∀ s, ts.lookup s = none → f s = none
theorem tv_tab {w : World} {K : Frag} {mg : Str → Option Value} {x : Str} {a : Addr} {es : List DictEntry} {m n : Nat} {ts : List (Str × TV)} (b1 : mg x = some (.ref a)) (l1 : K.lookup a = some ⟨.type "dict", none, .dict ⟨es⟩ m, #[]⟩) (k1 : KeysLit w.params es) (o1 : (a == sysModules) = false) (c1 : Qfc K n ts es = true) :
  ∃ f, TvTab w K mg x n ts a f := ⟨_, tab_mk b1 l1 k1 o1, (Qbb c1).1, (Qbb c1).2⟩
section
variable {X : Cx}
theorem Qgq {x : Str} {n : Nat} {ts : List (Str × TV)} {a : Addr} {f : Str → Option Value} (T : TvTab X.w X.K X.mg x n ts a f) : IxR X (fun x y H Q => ∃ s t, x = .ref a ∧ y = .str s ∧ ts.lookup s = some t ∧ ∀ v, TvAt X.K n t v → Q v H) := by
 intro value slice pins s σ H x y v u Q I rx ry h hs
 obtain ⟨z, t, rfl, rfl, ht, q⟩ := h
 obtain ⟨v', y', e1, r, hy⟩ := T.yes z t ht
 exact ix_tab T.tab value slice pins s σ H _ _ v u Q I rx ry ⟨z, v', y', rfl, rfl, e1, r, q y' hy⟩ hs
end
end L2
namespace L2
open PySem PySem.W
theorem Qdt {w : World} {K : Frag} {mg : Str → Option Value} {x : Str} {a : Addr} {es : Array DictEntry} {m n : Nat} {ts : List (Str × TV)} (b1 : mg x = some (.ref a)) (l1 : K.lookup a = some ⟨.type "dict", none, .dict es m, #[]⟩) (k1 : KeysLit w.params es.toList) (o1 : (a == sysModules) = false) (c1 : Qfc K n ts es.toList = true) :
  ∃ f, TvTab w K mg x n ts a f := tv_tab (es := es.toList) b1 l1 k1 o1 c1
end L2
namespace Nb
open PySem L2
def namesT : List (Str × TV) := [("days", .int 0), ("bench", .int 1), ("shut", .int 1), ("store", .int 1), ("work", .int 1), ("way", .int 2), ("uses", .int 3), ("takes", .int 3), ("gives", .int 3), ("after", .int 2), ("late", .int 1)]
def tvB (b : Int × Option Int) : TV := .tup [.int b.1, match b.2 with | none => .non | some h => .int h]
def bdsK : Nat → List (Int × Option Int)
 | 0 => [(1, some 12)]
 | 1 => [(0, some 99)]
 | 2 => [(0, none), (0, none)]
 | 3 => [(0, some 999), (0, some 999)]
 | 4 => []
 | 5 => [(1, none), (0, some 999999)]
 | 6 => [(1, some 99)]
 | 7 => [(1, some 99)]
 | 8 => [(1, some 99)]
 | 9 => [(0, none)]
 | _ => [(0, none), (1, some 999999)]
def boundsT : List (Str × TV) := (List.range 11).map fun i => (wordOf i, .tup ((bdsK i).map tvB))
def ndsK : Nat → List (Str × List Nat)
 | 0 => []
 | 1 => [("days", [])]
 | 2 => [("bench", [1])]
 | 3 => [("days", [])]
 | 4 => [("days", [])]
 | 5 => [("work", [1])]
 | 6 => [("way", [1, 2]), ("bench", [3])]
 | 7 => [("way", [1, 2]), ("store", [3])]
 | 8 => [("way", [1, 2]), ("store", [3])]
 | 9 => [("work", [1]), ("work", [2])]
 | _ => [("work", [1])]
def tvN (b : Str × List Nat) : TV := .tup (.str b.1 :: b.2.map fun (p : Nat) => .int (p : Int))
def needsT : List (Str × TV) := (List.range 11).map fun i => (wordOf i, .tup ((ndsK i).map tvN))
theorem Ki {f : Nat → TV} : ∀ i, i < 11 → ((List.range 11).map fun i => (wordOf i, f i)).lookup (wordOf i) = some (f i) := by
 have key : ∀ (l : List Nat), (∀ i ∈ l, i < 11) → ∀ i ∈ l, (l.map fun i => (wordOf i, f i)).lookup (wordOf i) = some (f i) := by
  intro l
  induction l with
  | nil => exact fun _ i hi => nomatch hi
  | cons a l ih =>
   intro hl i hi
   rw [xQ, xJ]
   by_cases e : wordOf i = wordOf a
   ·have e2 : i = a := Yl i (hl i hi) a (hl a jY) e
    rw [e2, beq_self_eq_true]
   ·rw [beq_false_of_ne e]
    refine ih (fun j hj => hl j (kX _ hj)) i ?_
    rcases jZ.mp hi with z | z
    ·exact absurd (by rw [z]) e
    ·exact z
 intro i hi
 exact key (List.range 11) (fun j hj => kQf.mp hj) i (kQf.mpr hi)
theorem Qdu (r : BR) : boundsT.lookup r.word = some (.tup ((bdsK r.kind).map tvB)) := by rw [Xz]; exact Ki (f := fun i => .tup ((bdsK i).map tvB)) _ (Ye r)
theorem Qgr (r : BR) : needsT.lookup r.word = some (.tup ((ndsK r.kind).map tvN)) := by rw [Xz]; exact Ki (f := fun i => .tup ((ndsK i).map tvN)) _ (Ye r)
theorem Qbc : namesT = (List.range 11).map fun i => (wordOf i, .int (([0, 1, 1, 1, 1, 2, 3, 3, 3, 2, 1] : List Int).getD i 0)) := rfl
theorem Qaf (r : BR) : namesT.lookup r.word = some (.int ((r.names.length : Nat) : Int)) := by
 rw [Qbc, Xz, Ki (f := fun i => .int (([0, 1, 1, 1, 1, 2, 3, 3, 3, 2, 1] : List Int).getD i 0)) _ (Ye r)]
 cases r with
 | use k w v t m => match k with | 0 => rfl | 1 => rfl | 2 => rfl
 | _ => rfl
theorem Qfd (r : BR) : r.needs = (ndsK r.kind).map fun b => (Sum.inr b.1 : Key) :: b.2.map fun p => r.cells.getD p (Sum.inl 0) := by
 cases r with
 | use k w v t m => match k with | 0 => rfl | 1 => rfl | 2 => rfl
 | _ => rfl
theorem Qmj (r : BR) : ∀ b ∈ ndsK r.kind, ∀ p ∈ b.2, p < r.cells.length := by
  cases r with
  | use k w v t m => match k with
    | 0 => intro b hb p hp; have : p = 1 ∨ p = 2 ∨ p = 3 := (by
            rcases jZ.mp hb with e | e
            · rw [e] at hp; rcases jZ.mp hp with h | h
              · exact .inl h
              · exact .inr (.inl (jQ.mp h))
            · rw [jQ.mp e] at hp; exact .inr (.inr (jQ.mp hp)))
           show p < 5; omega
    | 1 => intro b hb p hp; have : p = 1 ∨ p = 2 ∨ p = 3 := (by
            rcases jZ.mp hb with e | e
            · rw [e] at hp; rcases jZ.mp hp with h | h
              · exact .inl h
              · exact .inr (.inl (jQ.mp h))
            · rw [jQ.mp e] at hp; exact .inr (.inr (jQ.mp hp)))
           show p < 5; omega
    | 2 => intro b hb p hp; have : p = 1 ∨ p = 2 ∨ p = 3 := (by
            rcases jZ.mp hb with e | e
            · rw [e] at hp; rcases jZ.mp hp with h | h
              · exact .inl h
              · exact .inr (.inl (jQ.mp h))
            · rw [jQ.mp e] at hp; exact .inr (.inr (jQ.mp hp)))
           show p < 5; omega
  | after w x g => intro b hb p hp; have : p = 1 ∨ p = 2 := (by
            rcases jZ.mp hb with e | e
            · rw [e] at hp; exact .inl (jQ.mp hp)
            · rw [jQ.mp e] at hp; exact .inr (jQ.mp hp))
                   show p < 4; omega
  | days n => exact fun b hb => nomatch hb
  | bench b r => intro b hb p hp; rw [jQ.mp hb] at hp; exact nomatch hp
  | store b r f => intro b hb p hp; rw [jQ.mp hb] at hp; exact nomatch hp
  | work w => intro b hb p hp; rw [jQ.mp hb] at hp; exact nomatch hp
  | shut b f t => intro b hb p hp; rw [jQ.mp hb] at hp; rw [jQ.mp hp]; show 1 < 4; decide
  | way w v l c => intro b hb p hp; rw [jQ.mp hb] at hp; rw [jQ.mp hp]; show 1 < 5; decide
  | late w d c => intro b hb p hp; rw [jQ.mp hb] at hp; rw [jQ.mp hp]; show 1 < 4; decide
theorem Za (r : BR) : r.cells ≠ [] := by cases r <;> exact kXf _ _
structure LkOk (n : Int) (B : List BR) : Prop where
 n1 : 1 ≤ n
 n12 : n ≤ 12
 ok : ∀ r ∈ B, r.ok n
 gn : ∀ r ∈ B, r.gn
 nd : B.Pairwise Apart
 ah : Ahead [] B
 hd : ∀ r, B[0]? = some r → r = .days n
 len : B.length ≤ 400
theorem BookOk.lk {n : Int} {B : List BR} (h : BookOk n B) : LkOk n B := ⟨h.n1, h.n12, h.wb.ok, h.gn, h.wb.nd, h.ah, fun r e => by rw [h.hd] at e; exact (Option.some.inj e).symm, h.wb.len⟩
end Nb
namespace L2
open PySem PySem.Spec PyProof.Rows
def TrG (h base : Heap) (e : Addr) (G : Obj → Prop) (fl : Value) : Prop := ∃ oe vs T oT ts, h.get? e = some oe ∧ G oe ∧ oe.data = .fields vs ∧ vs[1]? = some (.ref T) ∧ base.get? T = none ∧ T ≠ e ∧ h.get? T = some oT ∧ oT.data = .fields ts ∧ ts[3]? = some fl
def Kj (G : Obj → Prop) : Prop := ∀ o v, G o → G (o.mapFields (·.setIfInBounds 1 v))
section
variable {M : Model} {A : Around} {E : Value → Shared → Prop} {s : Shared} {base : Heap} {env : Env} {outer : List Env} {L e : Addr} {oe : Obj} {vs : Array Value} {G : Obj → Prop}
theorem Qnp {hd : Value} {nx : Bool} {Q : Unit → Shared → Prop} (u : Kj G) (fr : A.frames = some (env :: outer)) (fs : s.heap.FunFrames base (env :: outer)) (fm : env.frame = some L) (he : s.heap.get? e = some oe) (st : base.StaysIn s.heap) (new : base.get? e = none) (dt : oe.data = .fields vs) (two : 1 < vs.size) (g : G oe)
  (q : ∀ h', base.StaysIn h' → h'.FunFrames base (env :: outer) → TrG h' base e G (rawInt L) → s.heap.UpToSlots h' → Q () { s with heap := h' }) :
  wpAny M A (do let a ← frameOf env; let pl ← entryPlaceOf L nx; let b ← EntryCells.newEntry hd a .none (rawInt L) .none pl; setField (.ref e) 1 b) Q E s := by
 have out : e ∉ (env :: outer).filterMap (·.frame) := fun z => by
  obtain ⟨_, o, ho, no⟩ := fs.mem z
  rw [he] at ho
  cases ho
  exact no vs dt
 refine jX (wpAny_frameOf_fun fr fs fm fun h1 k1 => jX (wpAny_entryPlaceOf fun pl hp => ?_))
 unfold EntryCells.newEntry newFields
 refine jX (wpAny_newObj_type ?_ (hp.sizeOk5 _ _ _ _ _))
 have e1 : h1.get? e = some oe := (k1.2.1 e out).trans he
 have b1 : base.StaysIn h1 := fun b o z => (k1.2.1 b fun y => by rw [(fs.mem y).1] at z; cases z).trans (st b o z)
 have ne : h1.objs.size ≠ e := jKb (kJ e1)
 obtain ⟨tb, etb⟩ : ∃ tb : Obj, tb = { cls := .type "traceback", dict := none, data := .fields ([hd, .ref L, .none, rawInt L, .none] ++ (if pl.isEmpty then List.replicate 6 Value.none else pl)).toArray } := ⟨_, rfl⟩
 have tf : tb.isFreed = false := by rw [etb]; rfl
 have tdt : tb.data = .fields ([hd, .ref L, .none, rawInt L, .none] ++ (if pl.isEmpty then List.replicate 6 Value.none else pl)).toArray := by rw [etb]
 rw [← etb]
 have e2 := jK tb e1
 have t2 := yV h1 tf
 obtain ⟨up, eup⟩ : ∃ f : Obj → Obj, f = Obj.mapFields (·.setIfInBounds 1 (Value.ref h1.objs.size)) := ⟨_, rfl⟩
 refine wpAny_setField e2 dt two ?_
 show Q () { s with heap := (h1.push tb).update e (Obj.mapFields (·.setIfInBounds 1 (Value.ref h1.objs.size))) }
 have d3 := Obj.data_mapFields dt (·.setIfInBounds 1 (Value.ref h1.objs.size))
 have e3 := jZf (Obj.mapFields (·.setIfInBounds 1 (Value.ref h1.objs.size))) e2 (Obj.isFreed_of_fields d3)
 have t3 := (jQd (h1.push tb) (Obj.mapFields (·.setIfInBounds 1 (Value.ref h1.objs.size))) (Ne.symm ne)).trans t2
 have keep : ∀ b o, b ≠ e → h1.get? b = some o → ((h1.push tb).update e (Obj.mapFields (·.setIfInBounds 1 (Value.ref h1.objs.size)))).get? b = some o := fun b o nb z => (jQd _ _ (Ne.symm nb)).trans (jK _ z)
 have apart : ∀ b o, s.heap.get? b = some o → (∀ ws, o.data ≠ .fields ws) → b ≠ e := fun b o z no y => by
  rw [y, he] at z
  cases z
  exact no vs dt
 refine q _ (fun b o z => keep b o (fun y => by rw [y, new] at z; cases z) (b1 b o z)) (fs.of_keeps fun b o z no => ?_) ⟨_, _, _, tb, _, e3, u _ _ g, d3, by rw [kZb two], b1.fresh, ne, t3, tdt, ?_⟩ fun b o z no => ?_
 ·obtain ⟨sl, y⟩ := k1.2.2 b o z
  exact ⟨_, keep b _ (apart b o z no) y, rfl⟩
 ·rw [List.getElem?_toArray]; rfl
 ·obtain ⟨sl, y⟩ := k1.2.2 b o z
  exact ⟨sl, keep b _ (apart b o z no) y⟩
theorem Qdv {Q : Unit → Shared → Prop} (u : Kj G) (fr : A.frames = some (env :: outer)) (fs : s.heap.FunFrames base (env :: outer)) (fm : env.frame = some L) (he : s.heap.get? e = some oe) (st : base.StaysIn s.heap) (new : base.get? e = none) (dt : oe.data = .fields vs) (one : vs[1]? = some .none) (g : G oe)
  (q : ∀ h', base.StaysIn h' → h'.FunFrames base (env :: outer) → TrG h' base e G (rawInt L) → s.heap.UpToSlots h' → Q () { s with heap := h' }) : wpAny M A (noteFrame (.ref e) env) Q E s := by
 unfold noteFrame
 simp only [fm]
 refine jX (wpAny_field he dt one ?_)
 rw [if_neg (by decide)]
 exact Qnp u fr fs fm he st new dt (jJb.mp one).1 g q
theorem Qgs {Q : Unit → Shared → Prop} (u : Kj G) (fr : A.frames = some (env :: outer)) (fs : s.heap.FunFrames base (env :: outer)) (fm : env.frame = some L) (t : TrG s.heap base e G .none) (st : base.StaysIn s.heap) (new : base.get? e = none)
  (q : ∀ h', base.StaysIn h' → h'.FunFrames base (env :: outer) → TrG h' base e G (rawInt L) → s.heap.UpToSlots h' → Q () { s with heap := h' }) : wpAny M A (noteFrame (.ref e) env) Q E s := by
 obtain ⟨oe, vs, T, oT, ts, he, g, dt, one, nT, Te, hT, dT, four⟩ := t
 have other : ∀ b, b ≠ T → (s.heap.update T (Obj.mapFields (·.setIfInBounds 3 Value.none))).get? b = s.heap.get? b := fun b z => jQd _ _ (Ne.symm z)
 have apart : ∀ b o, s.heap.get? b = some o → (∀ ws, o.data ≠ .fields ws) → b ≠ T := fun b o z no y => by
  rw [y, hT] at z
  cases z
  exact no ts dT
 unfold noteFrame
 simp only [fm]
 refine jX (wpAny_field he dt one ?_)
 rw [if_pos (show (Value.ref T != Value.none) = true from rfl)]
 refine jX (wpAny_field hT dT four ?_)
 rw [if_neg (show ¬ ((Value.none == rawInt L) = true) by unfold rawInt; exact yQ)]
 refine jX (wpAny_setField hT dT (jJb.mp four).1 ?_)
 refine Qnp u fr (fs.of_keeps fun b o z no => ⟨o, (other b (apart b o z no)).trans z, rfl⟩) fm ((other e (Ne.symm Te)).trans he) (fun b o z => (other b fun y => by rw [y, nT] at z; cases z).trans (st b o z)) new dt (jJb.mp one).1 g fun h' z1 z2 z3 z4 => ?_
 exact q h' z1 z2 z3 fun b o z no => z4 b o ((other b (apart b o z no)).trans z) no
theorem Qdw {l : List Env} {fl : Value} {Q : Unit → Shared → Prop} (st : base.StaysIn s.heap) (fs : s.heap.FunFrames base l) (t : TrG s.heap base e G fl)
  (q : ∀ h', base.StaysIn h' → h'.FunFrames base l → TrG h' base e G .none → s.heap.UpToSlots h' → Q () { s with heap := h' }) : wpAny M A (setFlight (.ref e) none) Q E s := by
 obtain ⟨oe, vs, T, oT, ts, he, g, dt, one, nT, Te, hT, dT, four⟩ := t
 have sz := (jJb.mp four).1
 have other : ∀ b, b ≠ T → (s.heap.update T (Obj.mapFields (·.setIfInBounds 3 Value.none))).get? b = s.heap.get? b := fun b z => jQd _ _ (Ne.symm z)
 have apart : ∀ b o, s.heap.get? b = some o → (∀ ws, o.data ≠ .fields ws) → b ≠ T := fun b o z no y => by
  rw [y, hT] at z
  cases z
  exact no ts dT
 unfold setFlight
 refine jX (wpAny_field he dt one ?_)
 rw [if_pos (show (Value.ref T != Value.none) = true from rfl)]
 refine wpAny_setField hT dT sz (q (s.heap.update T (Obj.mapFields (·.setIfInBounds 3 Value.none))) (fun b o z => (other b fun y => by rw [y, nT] at z; cases z).trans (st b o z)) (fs.of_keeps fun b o z no => ⟨o, (other b (apart b o z no)).trans z, rfl⟩) ?_ fun b o z no => ⟨o.slots, (other b (apart b o z no)).trans z⟩)
 exact ⟨oe, vs, T, _, _, (other e (Ne.symm Te)).trans he, g, dt, one, nT, Te, jZf _ hT (Obj.isFreed_of_fields (Obj.data_mapFields dT _)), Obj.data_mapFields dT _, by rw [kZb sz]⟩
def FlyG (base : Heap) (l : List Env) (e : Addr) (G : Obj → Prop) (h : Heap) : Prop := base.StaysIn h ∧ base.get? e = none ∧ h.FunFrames base l ∧ TrG h base e G .none
theorem FlyG.there {l : List Env} {h : Heap} (x : FlyG base l e G h) : ∃ ob vs, h.get? e = some ob ∧ G ob ∧ ob.data = .fields vs := by obtain ⟨_, _, _, oe, vs, _, _, _, he, g, d, _⟩ := x; exact ⟨oe, vs, he, g, d⟩
theorem Qbd {Q : Unit → Shared → Prop} (u : Kj G) (fr : A.frames = some (env :: outer)) (fm : env.frame = some L) (fs : s.heap.FunFrames base (env :: outer)) (he : s.heap.get? e = some oe) (st : base.StaysIn s.heap) (new : base.get? e = none) (dt : oe.data = .fields vs) (one : vs[1]? = some .none) (g : G oe) (q : ∀ h', FlyG base outer e G h' → s.heap.UpToSlots h' → Q () { s with heap := h' }) : wpAny M A (leaving env (.ref e)) Q E s := by
 unfold leaving
 refine jX (Qdv u fr fs fm he st new dt one g fun h1 a1 a2 a3 a4 => Qdw a1 a2 a3 fun h2 b1 b2 b3 b4 => ?_)
 exact q h2 ⟨b1, new, b2.2.2, b3⟩ (a4.trans b4)
end
abbrev exT (us : List Value) : Obj := ⟨.type "tuple", none, .seq us.toArray, #[]⟩
abbrev exE (C n : Addr) : Obj := ⟨.ref C, none, .fields #[.ref n, .none, .none, .none, .bool false, .none], #[]⟩
abbrev exH (h : Heap) (C : Addr) (us : List Value) : Heap := (h.push (exT us)).push (exE C h.objs.size)
theorem Wc {h : Heap} {C b : Addr} {us : List Value} {o : Obj} (e : h.get? b = some o) : (exH h C us).get? b = some o := jK _ (jK _ e)
theorem Qjb {h : Heap} {C : Addr} {us : List Value} : (exH h C us).get? (h.objs.size + 1) = some (exE C h.objs.size) := Heap.get?_push_at (by simp) rfl
section
variable {P : Program} {w : World} {A : Around} {E : Value → Shared → Prop} {s : Shared} {a : Str} {b : Str} {C N f : Addr} {x1 x2 x3 : List Value} {x4 : Bool} {x5 : List Str} {x6 : List Value} {x7 : Bool} {x8 : Option Bool} {x9 : Option Addr} {y0 y1 y2 y3 y5 : Option Value} {T nw ini : String} {m : Str → Option Value} {us : List Value} {fo : Obj}
theorem Qjc {Q : Fin → Shared → Prop} (F : ExcBaseFacts T nw ini x3) (tl : OwnTail s.heap x3 x2) (hC : s.heap.get? C = some (excClassObj a b C N x1 x2 x4 x5 x6 x7 x8 x9 y0 y1 y2 y3 y5 nw)) (hN : s.heap.Ns N m) (hm : m "__init__" = some (.ref f)) (hf : s.heap.get? f = some fo) (ht : fo.cls = .type "function") (hu : us.length ≤ sizeLine)
  (q : wpAny (model P w) A (call (.ref f) (.ref (s.heap.objs.size + 1) :: us)) (fun r s' => r = .none ∧ Q (.done (.ret (.ref (s.heap.objs.size + 1)))) s') E { s with heap := exH s.heap C us }) : wpAny (model P w) A (Builtin.«type.__call__» ⟨.ref C :: us, []⟩) Q E s := by
 obtain ⟨h, g, d, k, os⟩ := s
 dsimp only at *
 repeat first
  | with_reducible refine wpAny_loadPart_at hC ?_
  | with_reducible refine wpAny_madeBy_exc hC ?_
  | wp_step
 refine codeAny_call_builtin_code (Code.quiet_builtin _ F.quiet) (wpAny_check_new_subT F tl hC (codeAny_exc_new_subT F tl hC ?_ hu))
 show wpAny (model P w) A _ _ E ⟨exH h C us, g, d, k, os⟩
 have one := Qjb (h := h) (C := C) (us := us)
 have cls := Wc (C := C) (us := us) hC
 have mine : (Value.ref C :: x2).contains (.ref C) = true := by rw [jJf, beq_self_eq_true, Bool.true_or]
 unfold isInstance
 repeat first
  | with_reducible refine wpAny_loadPart_at one ?_
  | (with_reducible refine wpAny_isSubtype_exc cls ?_; rw [mine])
  | wp_step
 refine wpAny_typeLookup_tail cls (let ⟨o, es, ep, e, r⟩ := hN; ⟨o, es, ep, Wc e, r⟩) (tl.keeps fun _ _ e => Wc e) F.mroIs F.init.lookup ?_
 rw [hm]
 refine wpAny_holding (jX ?_)
 unfold bindSpecial
 refine jX (wpAny_typeOf (T := "function") ⟨_, Wc hf, ht⟩ ?_)
 rw [if_pos (by decide)]
 refine kW (jX (wpAny_mono q (fun r s' z => ?_) fun _ _ z => z))
 obtain ⟨rfl, z⟩ := z
 wp_walk
 exact z
theorem Qjd {Q : Value → Shared → Prop} (F : ExcBaseFacts T nw ini x3) (tl : OwnTail s.heap x3 x2) (hC : s.heap.get? C = some (excClassObj a b C N x1 x2 x4 x5 x6 x7 x8 x9 y0 y1 y2 y3 y5 nw)) (hN : s.heap.Ns N m) (hm : m "__init__" = some (.ref f)) (hf : s.heap.get? f = some fo) (ht : fo.cls = .type "function") (hu : us.length ≤ sizeLine)
  (q : wpAny (model P w) (A.under (.builtin "type.__call__" ⟨.ref C :: us, []⟩)) (call (.ref f) (.ref (s.heap.objs.size + 1) :: us)) (fun r s' => r = .none ∧ Q (.ref (s.heap.objs.size + 1)) s') E { s with heap := exH s.heap C us }) : wpAny (model P w) A (call (.ref C) us) Q E s := by
 have z1 := tc_lookup
 have z2 := tc_bind (.ref C)
 have z3 : s.TypeIs (.ref C) "type" := ⟨_, hC, rfl⟩
 obtain ⟨h, g, d, k, os⟩ := s
 dsimp only at *
 refine wpAny_call (codeAny_of_tree ?_)
 show wpAny _ _ (callAny (.ref C) _) _ _ _
 repeat any_goals first
  | assumption
  | with_reducible refine wpAny_loadPart_at hC ?_
  | wp_step
 exact ⟨rfl, codeAny_call_builtin_at (Code.quiet_builtin _ (by decide +kernel)) entry_typeCall (wpAny_check_type_call_sub hC (Qjc F tl hC hN hm hf ht hu q))⟩
end
inductive TailN (h : Heap) (ns : List Str) (z : List Value) : List Value → Prop
 | base : TailN h ns z z
 | own {a : Addr} {c : Value} {dd : Option Addr} {cd : ClassData} {sl : Array (Option Value)} {m : Str → Option Value} {l : List Value} (e : h.get? a = some ⟨c, dd, .cls cd, sl⟩) (hN : h.Ns cd.ns m) (no : ∀ n ∈ ns, m n = none) (t : TailN h ns z l) : TailN h ns z (.ref a :: l)
theorem TailN.own_tail {h : Heap} {ns : List Str} {z l : List Value} (t : TailN h ns z l) (hi : ("__init__" : Str) ∈ ns) : OwnTail h z l := by
 induction t with
 | base => exact .base
 | own e hN no _ ih => exact .own e hN (no _ hi) ih
theorem TailN.has {h : Heap} {ns : List Str} {z l : List Value} (t : TailN h ns z l) {X : String} (hb : z.contains (.type X) = true) : l.contains (.type X) = true := by
 induction t with
 | base => exact hb
 | own _ _ _ _ ih => rw [jJf, ih, Bool.or_true]
theorem TailN.refuse {h : Heap} {ns : List Str} {z l : List Value} (t : TailN h ns z l) {v : Value} {n : Str} (hz : refuseLoop v n z = pure ()) : refuseLoop v n l = pure () := by
 induction t with
 | base => exact hz
 | own _ _ _ _ ih => rw [refuseLoop_ref]; exact ih
section
variable {M : Model} {P : Program} {w : World} {A : Around} {E : Value → Shared → Prop} {s : Shared} {a : Str} {b : Str} {C N x : Addr} {x1 x2 x3 : List Value} {x4 : Bool} {x5 : List Str} {x6 : List Value} {x7 : Bool} {x8 : Option Bool} {x9 : Option Addr} {y0 y1 y2 y3 y5 : Option Value} {T nw sa ow : String} {m : Str → Option Value} {ns : List Str} {n : Str} {v : Value}
theorem Qdx {l z : List Value} {y : Option Value} {Q : Option Value → Shared → Prop} (t : TailN s.heap ns z l) (hn : n ∈ ns) (hz : lookupAlong z n = pure y) (q : Q y s) : wpAny M A (lookupAlong l n) Q E s := by
 induction t with
 | base => rw [hz]; exact kW q
 | own e hN no _ ih =>
  rw [lookupAlong_cons]
  refine jX (wpAny_classOwn_cls e hN ?_)
  rw [no _ hn]
  exact ih
theorem Kw {y : Option Value} {Q : Option Value → Shared → Prop} (hC : s.heap.get? C = some (excClassObj a b C N x1 x2 x4 x5 x6 x7 x8 x9 y0 y1 y2 y3 y5 nw)) (hN : s.heap.Ns N m) (t : TailN s.heap ns x3 x2) (hn : n ∈ ns) (hT : mroOf (.type T) = pure x3) (hy : typeLookup (.type T) n = pure y) (q : Q (match m n with | some u => some u | none => y) s) : wpAny M A (typeLookup (.ref C) n) Q E s := by
 rw [typeLookup_eq, hT] at hy
 rw [typeLookup_eq]
 refine jX (wpAny_mroOf_exc hC ?_)
 rw [lookupAlong_cons]
 refine jX (wpAny_classOwn_exc hC hN ?_)
 revert q
 cases m n with
 | some u => exact fun q => kW q
 | none => exact fun q => Qdx t hn hy q
theorem Qje {o : Obj} {nv : Value} {Q : Unit → Shared → Prop} (F : StoreFacts T x3 sa ow) (hC : s.heap.get? C = some (excClassObj a b C N x1 x2 x4 x5 x6 x7 x8 x9 y0 y1 y2 y3 y5 nw)) (t : TailN s.heap ns x3 x2) (hx : s.heap.get? x = some o) (hc : o.cls = .ref C) (q : Q () s) : wpAny M A (checkBuiltinCall sa ⟨[.ref x, nv, v], []⟩) Q E s := by
 have yes : (Value.ref C :: x2).contains (.type ow) = true := by rw [jJf, t.has F.hasOwner, Bool.or_true]
 have fit := F.args (.ref x) nv v
 simp only [checkBuiltinCall, F.kind, F.split]
 refine jX ?_
 unfold isInstance
 repeat first
  | (with_reducible refine wpAny_loadPart_at hx ?_; rw [hc])
  | (with_reducible refine wpAny_isSubtype_exc hC ?_; rw [yes])
  | wp_step
 revert fit
 unfold argsOk
 cases Manifest.signature? sa with
 | none => exact fun _ => kW q
 | some sg => exact fun fit => wpAny_of_eq fit q
abbrev wD (h : Heap) (x : Addr) : Heap := (h.push ⟨.type "dict", none, .dict #[], #[]⟩).update x fun o => { o with dict := some h.objs.size }
theorem wD_new {h : Heap} {o : Obj} (hx : h.get? x = some o) : (wD h x).Ns1 h.objs.size fun _ => none :=
 Heap.Ns1.of_empty ⟨_, #[], _, (Heap.get?_update_ne _ _ _ _ (jKb (kJ hx))).trans (Heap.get?_push_at rfl rfl), rfl, fun e he => absurd he (by simp), fun _ => rfl⟩
theorem Qcq {tk : Tok} {fs : Array Value} {sl : Array (Option Value)} {Q : Fin → Shared → Prop} (F : StoreFacts T x3 sa ow) (hC : s.heap.get? C = some (excClassObj a b C N x1 x2 true x5 x6 x7 x8 x9 y0 y1 y2 y3 y5 nw)) (t : TailN s.heap ns x3 x2) (hN : s.heap.Ns N m) (hn : n ∈ ns) (hm : m n = none) (hT : typeLookup (.type T) n = pure none) (hx : s.heap.get? x = some ⟨.ref C, none, .fields fs, sl⟩)
  (q : ∀ h tk, h.Ns1 s.heap.objs.size (fun y => if y = n then some v else none) → h.get? x = some ⟨.ref C, some s.heap.objs.size, .fields fs, sl⟩ → (∀ c o, c ≠ x → s.heap.get? c = some o → h.get? c = some o) → Q (.done (.ret .none)) { s with heap := h, toks := tk }) :
  wpAny (model P w) A (Builtin.«object.__setattr__» ⟨[.ref x, .str n tk, v], []⟩) Q E s := by
 have pass := t.refuse (F.passes (.ref x))
 obtain ⟨h, g, d, k, os⟩ := s
 dsimp only at *
 have emp := wD_new hx
 unfold Builtin.«object.__setattr__»
 repeat first
  | with_reducible refine wpAny_nsSet1 emp fun h1 k1 s1 => ?_
  | rw [refuse_eq]
  | rw [refuseLoop_ref, pass]
  | with_reducible refine wpAny_loadPart_at hx ?_
  | with_reducible refine wpAny_mroOf_exc hC ?_
  | (with_reducible refine Kw (s := ⟨h, g, d, _, os⟩) hC hN t hn F.mro hT ?_; rw [hm])
  | wp_step
 obtain ⟨oD, eD, pD, z1, z2, z3⟩ := k1.count (Within.cons n v Within.nil)
 refine wpAny_loadPart_at z1 ?_
 rw [z2, pastItsLine_dict (xW z3 (by rw [yZ, List.length_nil, sizeLine_eq]; omega))]
 have up := jK ⟨.type "dict", none, .dict #[], #[]⟩ hx
 have lt := kJ hx
 refine kW ?_
 wp_walk
 exact q h1 _ k1 ((s1.2 x (zQ lt)).trans (jZf _ up rfl)) fun c o hc e => (s1.2 c (zQ (kJ e))).trans ((Heap.get?_update_ne _ _ _ _ hc).trans (jK _ e))
theorem Qcr {fs : Array Value} {sl : Array (Option Value)} {Q : Unit → Shared → Prop} (F : StoreFacts T x3 sa ow) (hC : s.heap.get? C = some (excClassObj a b C N x1 x2 true x5 x6 x7 x8 x9 y0 y1 y2 y3 y5 nw)) (t : TailN s.heap ns x3 x2) (hN : s.heap.Ns N m) (hn : n ∈ ns) (hm : m n = none) (hs : ("__setattr__" : Str) ∈ ns) (hms : m "__setattr__" = none) (hT : typeLookup (.type T) n = pure none) (hx : s.heap.get? x = some ⟨.ref C, none, .fields fs, sl⟩)
  (q : ∀ h tk, h.Ns1 s.heap.objs.size (fun y => if y = n then some v else none) → h.get? x = some ⟨.ref C, some s.heap.objs.size, .fields fs, sl⟩ → (∀ c o, c ≠ x → s.heap.get? c = some o → h.get? c = some o) → Q () { s with heap := h, toks := tk }) :
  wpAny (model P w) A (setAttr (.ref x) n v) Q E s := by
 have bd := F.slot.bind (.ref x)
 obtain ⟨h, g, d, k, os⟩ := s
 dsimp only at *
 unfold setAttr callSpecial? specialOf
 repeat any_goals first
  | assumption
  | with_reducible refine wpAny_loadPart_at hx ?_
  | (with_reducible refine Kw (s := ⟨h, g, d, _, os⟩) hC hN t hs F.mro F.slot.lookup ?_; rw [hms])
  | wp_step
 refine codeAny_call_builtin F.slot.plain F.entry (Qje F hC t hx rfl (Qcq (s := ⟨h, g, d, _, os⟩) F hC t hN hn hm hT hx fun h' tk' z1 z2 z3 => ?_))
 repeat any_goals first
  | assumption
  | wp_step
 exact q h' tk' z1 z2 z3
end
end L2
namespace L2
open PySem PySem.Spec PySem.Calls PyProof.Rows PySem.W
structure ExcFld (K : Frag) (C : Addr) (n : Str) : Prop where
 ga : findIn K (.ref C) "__getattribute__" = some (some (.builtin "BaseException.__getattribute__"))
 gn : findIn K (.ref C) "__getattr__" = some none
 fn : findIn K (.ref C) n = some none
 mb : mroIn K C (.type "BaseException") = some true
 hd : ∃ c dd cd sl, K.lookup C = some ⟨c, dd, .cls cd, sl⟩ ∧ cd.hasDict = true
section
variable {prog : Program} {w : World} {A : Around} {E : Value → Shared → Prop} {h : Heap} {g : Array GenState} {d : Drawn} {t : Nat} {os : OsState} {a C dx : Addr} {fs : Array Value} {sl : Array (Option Value)} {K : Frag} {n : Str} {v : Value} {mA : Str → Option Value}
theorem Qmk {tk : Tok} {Q : Fin → Shared → Prop} (X : K.In h) (Z : ExcFld K C n) (hx : h.get? a = some ⟨.ref C, some dx, .fields fs, sl⟩) (hN : h.Ns dx mA) (hv : mA n = some v) (hh : handedOut v = pure v) (hq : Q (.done (.ret v)) ⟨h, g, d, t, os⟩) :
  wpAny (model prog w) A (Builtin.«object.__getattribute__» ⟨[.ref a, .str n tk], []⟩) Q E ⟨h, g, d, t, os⟩ := by
 have L0 := Zw (M := model prog w) hx rfl
 have L1 := looks_findIn (M := model prog w) X Z.fn
 obtain ⟨c, dd, cd, sl', lk, hd⟩ := Z.hd
 have hC := X _ _ lk
 unfold Builtin.«object.__getattribute__»
 repeat (any_goals (first | assumption | with_reducible refine wpAny_loadPart_at hx ?_ | with_reducible refine Looks.at (by assumption) ?_ | (with_reducible refine wpAny_nsGet hN ?_; rw [hv]) | with_reducible refine wpAny_loadPart_at hC ?_ | wp_step))
theorem Qpk {tk : Tok} {R : Result → Shared → Prop} (X : K.In h) (Z : ExcFld K C n) (hx : h.get? a = some ⟨.ref C, some dx, .fields fs, sl⟩) (hN : h.Ns dx mA) (hv : mA n = some v) (hh : handedOut v = pure v) (hq : R (.ok (.ret v)) ⟨h, g, d, t, os⟩) :
  codeAny (model prog w) A (.call (.builtin "BaseException.__getattribute__") ⟨[.ref a, .str n tk], []⟩) R ⟨h, g, d, t, os⟩ := by
 refine codeAny_call_builtin F.excAttr_ValueError.ga.plain F.entry_bexc_ga ?_
 have b1 : builtinKind "BaseException.__getattribute__" = some .slot := by decide +kernel
 have b5 : splitId "BaseException.__getattribute__" = some ("BaseException", "__getattribute__") := by decide +kernel
 have ha := F.args_bexc_ga (.ref a) (.str n tk)
 have L0 := Zw (M := model prog w) hx rfl
 have L1 := looks_mroIn (M := model prog w) X Z.mb
 have L2 : Looks (model prog w) h (isInstance (.ref a) (.type "BaseException")) true := L0.andThen L1
 simp only [checkBuiltinCall, b1, b5]
 refine jX (L2.at ?_)
 repeat (first | exact Qmk X Z hx hN hv hh hq | wp_step)
theorem Qjf {expr : Bool} {Q : Value → Shared → Prop} (X : K.In h) (Z : ExcFld K C n) (hx : h.get? a = some ⟨.ref C, some dx, .fields fs, sl⟩) (hN : h.Ns dx mA) (hv : mA n = some v) (hh : handedOut v = pure v) (hq : Q v ⟨h, g, d, t + 1, os⟩) :
  wpAny (model prog w) A (getAttr (.ref a) n expr) Q E ⟨h, g, d, t, os⟩ := by
 have L0 := Zw (M := model prog w) hx rfl
 have L1 := looks_findIn (M := model prog w) X Z.ga
 have L2 := looks_findIn (M := model prog w) X Z.gn
 have f3 := F.excAttr_ValueError.ga.bind (.ref a)
 have b2 : (expr && onTheHeap (Value.builtin "BaseException.__getattribute__")) = false := by cases expr <;> rfl
 have b3 : (Value.builtin "BaseException.__getattribute__" == Value.builtin "object.__getattribute__") = false := by decide +kernel
 have b4 : (onTheHeap (Value.ref C) && Value.builtin "BaseException.__getattribute__" == Value.builtin "object.__getattribute__") = false := by rw [b3]; rfl
 unfold getAttr
 repeat (any_goals (first | assumption | with_reducible refine Looks.at (by assumption) ?_ | wp_step))
 refine Qpk X Z hx hN hv hh ?_
 repeat (any_goals (first | assumption | wp_step))
end
def exG (C dx : Addr) : Obj → Prop := fun o => o.cls = .ref C ∧ o.dict = some dx
theorem Qnq {C dx : Addr} : Kj (exG C dx) := fun o v g => by
 obtain ⟨c, d, dt, sl⟩ := o
 obtain ⟨g1, g2⟩ := g
 cases dt <;> exact ⟨g1, g2⟩
def CXg (P : Program) (w : World) (C : Addr) : CXT := fun outer H s E ev s' => ∃ (e dx : Addr) (H' : Hp) (B : Heap), ev = .ref e ∧ E (.ref C) (some dx) H' ∧ s'.os = s.os ∧ AllBare s'.gens ∧ Un (frs outer) [] H H' s.heap s'.heap ∧ HOk P w H' s'.heap ∧
 (∀ b, b ∉ frs outer → ((∃ o, s.heap.get? b = some o) ∨ H' b ≠ none) → ∃ o, B.get? b = some o) ∧ FlyG B outer e (exG C dx) s'.heap
section
variable {P : Program} {w : World} {K : Fg} {mg : Str → Option Value} {base : Heap} {N : List Str} {qual : Str} {scope : Scope} {f : Addr} {cd : Value} {A : Around} {outer : List Env} {s₀ : Shared} {H₀ : Hp} {E : XK} {C : Addr}
 {pins : List (Addr × Obj)} {σ : St} {H : Hp} {s : Shared}
abbrev cxG (P : Program) (w : World) (C : Addr) (K : Fg) (mg : Str → Option Value) (base : Heap) (N : List Str) (qual : Str) (scope : Scope) (f : Addr) (cd : Value) (A : Around) (outer : List Env) (s : Shared) (H : Hp) (E : XK) : Cx := cxOf (CXg P w C) P w K mg base N qual scope f cd A outer s H E
theorem Qpl (I : Inv (cxG P w C K mg base N qual scope f cd A outer s₀ H₀ E) pins σ H s) {b : Addr} {o : Obj} (e : s₀.heap.get? b = some o) (hb : b ∉ frs outer) : b ∉ frs (envOfC qual scope s₀.heap.objs.size f cd :: outer) := fun z => by
 have z' : b ∈ (envOfC qual scope s₀.heap.objs.size f cd :: outer).filterMap (·.frame) := z
 obtain ⟨env, he, hf⟩ := jXc.mp z'
 rcases jZ.mp he with rfl | he
 ·have : s₀.heap.objs.size = b := Option.some.inj hf
  exact absurd (kJ e) (by rw [← this]; exact jQf _)
 ·exact hb (jXc.mpr ⟨env, he, hf⟩)
end
def excN (e C : Addr) : HO := .ext fun h => ∃ t, h.get? e = some (exE C t)
def excM (e C dx : Addr) : HO := .ext fun h => ∃ t, h.get? e = some { exE C t with dict := some dx }
def excD (e C dx : Addr) : HO := .ext fun h => ∃ fs sl, h.get? e = some ⟨.ref C, some dx, .fields fs, sl⟩
theorem Qpm {P : Program} {w : World} {H : Hp} {h : Heap} {e C dx t : Addr} (he : h.get? e = some { exE C t with dict := some dx }) : ObjOk P w H h e (excM e C dx) := ⟨⟨t, he⟩, ⟨_, he⟩, fun _ _ ⟨t, z⟩ k => ⟨t, k _ z⟩⟩
theorem Qpn {P : Program} {w : World} {H : Hp} {h : Heap} {e C dx : Addr} {fs : Array Value} {sl : Array (Option Value)} (he : h.get? e = some ⟨.ref C, some dx, .fields fs, sl⟩) : ObjOk P w H h e (excD e C dx) := ⟨⟨fs, sl, he⟩, ⟨_, he⟩, fun _ _ ⟨fs, sl, z⟩ k => ⟨fs, sl, k _ z⟩⟩
theorem Qpo {P : Program} {w : World} {H : Hp} {h : Heap} {e C t : Addr} (he : h.get? e = some (exE C t)) : ObjOk P w H h e (excN e C) := ⟨⟨t, he⟩, ⟨_, he⟩, fun _ _ ⟨t, z⟩ k => ⟨t, k _ z⟩⟩
section
variable {X : Cx} {pins : List (Addr × Obj)} {σ : St} {H : Hp} {s : Shared} {e C : Addr} {n : Str} {y : V} {u : Value}
theorem Inv.excAt (I : Inv X pins σ H s) (hx : H e = some (excN e C)) : ∃ t, s.heap.get? e = some (exE C t) := (I.hok e _ hx).1
theorem Inv.fieldX {h' : Heap} {tk : Nat} {t : Addr} (I : Inv X pins σ H s) (hx : H e = some (excN e C)) (ry : RelV y u) (a1 : h'.Ns1 s.heap.objs.size (fun z => if z = n then some u else none)) (a2 : h'.get? e = some { exE C t with dict := some s.heap.objs.size }) (a3 : ∀ c o, c ≠ e → s.heap.get? c = some o → h'.get? c = some o) :
  H s.heap.objs.size = none ∧ Inv X pins σ (upd (upd H e (excM e C s.heap.objs.size)) s.heap.objs.size (.xd [(n, y)])) { s with heap := h', toks := tk } := by
 have mu : Mut (H e) := by rw [hx]; exact True.intro
 have fr := I.hok.fresh (kK s.heap.objs.size)
 obtain ⟨t0, e0⟩ := I.excAt hx
 have ne : s.heap.objs.size ≠ e := jKb (kJ e0)
 have fr2 : upd H e (excM e C s.heap.objs.size) s.heap.objs.size = none := by rw [Qq ne]; exact fr
 refine ⟨fr, I.un (Un.track (Un.write mu (.inl rfl) a3 ⟨_, a2⟩) (kZc (kK _)) fr2) (HOk.track (I.hok.write mu (.inl rfl) a3 ⟨_, a2⟩ (Qpm a2)) fr2 ⟨_, a1, fun g => ?_⟩)⟩
 show RelO ([(n, y)].lookup g) (if g = n then some u else none)
 by_cases z : g = n
 ·subst z
  rw [if_pos rfl, xJ, beq_self_eq_true]
  exact ry
 ·rw [if_neg z, xJ, show (g == n) = false from beq_false_of_ne z]
  exact True.intro
end
open PySem.W in
theorem Qpp {K : Frag} {h : Heap} {N : Addr} {m : Str → Option Value} {n : Str} {v : Value} (X : K.In h) (g : h.Ns N m) (e : nsIn K N n = some (some v)) : m n = some v := by
 obtain ⟨o, es, ep, ho, hd, _, hf⟩ := g
 unfold nsIn at e
 split at e
 ·rename_i q
  have z := X _ _ q
  rw [ho] at z
  cases z
  cases hd
  rw [← hf]
  unfold nsFind findBy
  rw [← Array.find?_toList]
  split at e
  ·rename_i he
   rw [he]
   exact Option.some.inj e
  ·split at e <;> cases e
 ·cases e
structure ErrI (K : Fg) (mg : Str → Option Value) (x : Str) (C D f : Addr) (n : Str) : Prop where
 bound : mg x = some (.ref C)
 cls : ∃ a b N x1 x5 x6 x7 x8 x9 y0 y1 y2 y3 y5, K.lookup C = some (excClassObj a b C N x1 (.ref D :: vErr) true x5 x6 x7 x8 x9 y0 y1 y2 y3 y5 "ValueError.__new__") ∧ PySem.W.nsOkIn K N = true ∧ PySem.W.nsIn K N "__init__" = some (some (.ref f)) ∧ PySem.W.nsIn K N n = some none ∧ PySem.W.nsIn K N "__setattr__" = some none
 mid : ∃ c dd cd sl, K.lookup D = some ⟨c, dd, .cls cd, sl⟩ ∧ PySem.W.nsOkIn K cd.ns = true ∧ PySem.W.nsIn K cd.ns "__init__" = some none ∧ PySem.W.nsIn K cd.ns n = some none ∧ PySem.W.nsIn K cd.ns "__setattr__" = some none
 none' : typeLookup (.type "ValueError") n = pure none
theorem ErrI.tail {K : Fg} {mg : Str → Option Value} {x : Str} {C D f : Addr} {n : Str} {h : Heap} (F : ErrI K mg x C D f n) (X : K.In h) : TailN h ["__init__", n, "__setattr__"] vErr (.ref D :: vErr) := by
 obtain ⟨c, dd, cd, sl, lk, ok, z1, z2, z3⟩ := F.mid
 refine .own (X _ _ lk) (.of_isNs (PySem.W.isNs_of_in X ok)) (fun m hm => ?_) .base
 rcases jZ.mp hm with rfl | hm
 ·exact PySem.W.nsMap_none_of_in X ok z1
 rcases jZ.mp hm with rfl | hm
 ·exact PySem.W.nsMap_none_of_in X ok z2
 ·rw [jQ.mp hm]; exact PySem.W.nsMap_none_of_in X ok z3
section
variable {X : Cx} {pins : List (Addr × Obj)} {σ : St} {H : Hp} {s : Shared} {e C D f : Addr} {x n : Str} {y : V} {u : Value} {A : Around} {E : Value → Shared → Prop}
theorem Qdy {Q : Unit → Shared → Prop} (F : ErrI X.K X.mg x C D f n) (I : Inv X pins σ H s) (hx : H e = some (excN e C)) (ry : RelV y u) (q : ∀ s' dx, H dx = none → Inv X pins σ (upd (upd H e (excM e C dx)) dx (.xd [(n, y)])) s' → Q () s') : wpAny (model X.prog X.w) A (setAttr (.ref e) n u) Q E s := by
 obtain ⟨a, b, N, x1, x5, x6, x7, x8, x9, y0, y1, y2, y3, y5, lk, ok, z1, z2, z3⟩ := F.cls
 obtain ⟨t, e0⟩ := I.excAt hx
 have kin := I.kIn
 refine Qcr PySem.F.store_ValueError (kin _ _ lk) (F.tail kin) (.of_isNs (PySem.W.isNs_of_in kin ok)) (kX _ jY) (PySem.W.nsMap_none_of_in kin ok z2) (kX _ (kX _ jY)) (PySem.W.nsMap_none_of_in kin ok z3) F.none' e0 fun h' tk a1 a2 a3 => ?_
 obtain ⟨fr, J⟩ := I.fieldX (tk := tk) hx ry a1 a2 a3
 exact q _ _ fr J
theorem Qpq {o value : Expr} {ta tv : TE} {pos pos' : Pos} (F : ErrI X.K X.mg x C D f n) (ha : PE X o ta) (hv : PE X value tv) (hs : swapsWith value (some (.Attribute o n pos')) pos.line X.env = pure false) :
  PS X (.Assign [.Attribute o n pos'] value pos) (fun D' σ H => tv σ H fun y H1 => ta σ H1 fun z H2 => ∃ e, z = .ref e ∧ H2 e = some (excN e C) ∧ ∀ dx, H2 dx = none → D'.nx σ (upd (upd H2 e (excM e C dx)) dx (.xd [(n, y)]))) := by
 intro pins s σ H D' I h
 refine plainObj_wpAny_Assign_Attribute (thn (hv pins s σ H _ I h) fun u s1 ⟨y, H1, I1, ry, q⟩ => thn (ha pins s1 σ H1 _ I1 q) fun ov s2 hqP => ?_) hs
 obtain ⟨z, H2, I2, rz, e, ez, ee, q2⟩ := hqP
 subst ez
 obtain rfl : ov = Value.ref e := rz
 exact Qdy F I2 ee ry fun s3 dx fr I3 => ⟨σ, _, I3, q2 dx fr⟩
def spXI (C : Addr) (n : Str) : Sp := fun vs H Q _ => ∃ (e : Addr) (y : V), vs = [.ref e, y] ∧ H e = some (excN e C) ∧ ∀ dx, H dx = none → Q .non (upd (upd H e (excM e C dx)) dx (.xd [(n, y)]))
theorem Qjg {k : Nat} {fd : FuncData} {p : Str} {Q : Value → Shared → Prop} {fo : Obj} (F : ErrI X.K X.mg x C D f n) (G : FnOk X.prog X.w X.K X.mg X.base CX0 k f fd ["self", p] (spXI C n)) (hr : Room (k + 1) X.A) (hb : Binds X.K fd ["self", p] []) (hf : X.K.lookup f = some fo) (hc : fo.cls = .type "function") (I : Inv X pins σ H s) (r : RelV y u)
  (h : ∀ dx s', H dx = none → dx ≠ s.heap.objs.size + 1 → Inv X pins σ (upd (upd H (s.heap.objs.size + 1) (excM (s.heap.objs.size + 1) C dx)) dx (.xd [(n, y)])) s' → Q (.ref (s.heap.objs.size + 1)) s') : wpAny (model X.prog X.w) X.A (call (.ref C) [u]) Q X.xe s := by
 obtain ⟨a, b, N, x1, x5, x6, x7, x8, x9, y0, y1, y2, y3, y5, lk, ok, z1, z2, z3⟩ := F.cls
 have kin := I.kIn
 have I2 := I.laid (a := s.heap.objs.size + 1) (o := excN (s.heap.objs.size + 1) C) (h' := exH s.heap C [u]) (t' := s.toks) (fun _ _ z => Wc z) (Nat.le_succ _) (Qpo Qjb)
 have ns : s.heap.Ns N _ := .of_isNs (PySem.W.isNs_of_in kin ok)
 have r2 : Vals [V.ref (s.heap.objs.size + 1), y] [Value.ref (s.heap.objs.size + 1), u] := .cons rfl (.cons r .nil)
 refine Qjd PySem.F.excBase_ValueError ((F.tail kin).own_tail jY) (kin _ _ lk) ns (Qpp kin ns z1) (kin _ _ hf) hc (by show 1 ≤ sizeLine; decide) ?_
 refine wpAny_call (codeAny_mono (G.run _ X.stack _ _ ⟨[Value.ref (s.heap.objs.size + 1), u], []⟩ _ _ (fun v H2 => v = .non ∧ ∃ dx, H dx = none ∧ dx ≠ s.heap.objs.size + 1 ∧ H2 = upd (upd H (s.heap.objs.size + 1) (excM (s.heap.objs.size + 1) C dx)) dx (.xd [(n, y)])) E0 (hr.make C [u] []) (I2.env0.make C [u] []) (hb _ [Value.ref (s.heap.objs.size + 1), u] I2.kIn rfl) r2 ⟨_, _, rfl, Qe, fun dx hdx => ⟨rfl, dx, ?_⟩⟩) fun r s' hq' => ?_)
 ·have ne : dx ≠ s.heap.objs.size + 1 := fun z => by rw [z, Qe] at hdx; cases hdx
  rw [Qq ne] at hdx
  exact ⟨hdx, ne, by rw [Qnx]⟩
 cases r with
 | error e => exact hq'.elim
 | ok fl =>
  cases fl with
  | ret v =>
   obtain ⟨v', H', I3, rv, ev, dx, q1, q2, rfl⟩ := I2.after hq'
   subst ev
   exact ⟨rv, h dx s' q1 q2 I3⟩
  | next => exact False.elim hq'
  | brk => exact False.elim hq'
  | cont => exact False.elim hq'
end
theorem Qgt {M : Model} {A : Around} {E : Value → Shared → Prop} {s : Shared} {env : Env} {go : Sem Value} {Q : Flow → Shared → Prop} {a b : Str} {C N : Addr} {x1 x2 : List Value} {x4 : Bool} {x5 : List Str} {x6 : List Value} {x7 : Bool} {x8 : Option Bool} {x9 : Option Addr} {y0 y1 y2 y3 y5 : Option Value} {nw : String} (hb : x2.contains (.type "BaseException") = true) (hh : A.handled = none)
  (h : wpAny M A go (fun v s1 => ∃ e t dx, v = .ref e ∧ s1.heap.get? C = some (excClassObj a b C N x1 x2 x4 x5 x6 x7 x8 x9 y0 y1 y2 y3 y5 nw) ∧ s1.heap.get? e = some { exE C t with dict := dx } ∧ E (.ref e) s1) E s) : wpAny M A (raiseStmt env (some go) none) Q E s := by
 have yes : (Value.ref C :: x2).contains (.type "BaseException") = true := by rw [jJf, hb, Bool.or_true]
 unfold raiseStmt
 refine jX (wpAny_mono h (fun v s1 z => ?_) fun _ _ z => z)
 obtain ⟨e, t, dx, rfl, hC, he, z⟩ := z
 obtain ⟨h1, g, d, k, os⟩ := s1
 dsimp only at *
 repeat first
  | with_reducible refine wpAny_loadPart_at he ?_
  | with_reducible refine wpAny_loadPart_at hC ?_
  | (with_reducible refine wpAny_isSubtype_exc hC ?_; rw [yes])
  | wp_step
 exact wpAny_raiseNew_none hh z
end L2
namespace L2
open PySem PySem.Spec PySem.Calls PyProof.Rows PySem.W
def rm (H : Hp) (e : Addr) : Hp := fun b => if b = e then none else H b
theorem Wd {H : Hp} {e : Addr} : rm H e e = none := if_pos rfl
theorem Wu {H : Hp} {e b : Addr} (h : b ≠ e) : rm H e b = H b := if_neg h
section
variable {P : Program} {w : World} {K : Fg} {mg : Str → Option Value} {base : Heap} {N : List Str} {qual : Str} {scope : Scope} {f : Addr} {cd : Value} {A : Around} {outer : List Env} {s₀ : Shared} {H₀ : Hp} {E : XK} {C D f2 : Addr}
 {pins : List (Addr × Obj)} {σ : St} {H : Hp} {s : Shared} {n : Str}
theorem Un.rm {fs : List Addr} {h h' : Heap} {e : Addr} {φ : Heap → Prop} (u : Un fs [] H₀ H h h') (hx : H e = some (.ext φ)) : Un fs [] H₀ (L2.rm H e) h h' where
 keep := u.keep
 slot := u.slot
 free := fun b o e1 z nx => by
  by_cases c : b = e
  ·rw [c]; exact Wd
  ·rw [Wu c]; exact u.free b o e1 z nx
 there := u.there
 tups := fun b xs z => by
  have t := u.tups b xs z
  rw [Wu fun c => by rw [c, hx] at t; cases t]; exact t
 frzs := fun b o v z => by
  have t := u.frzs b o v z
  rw [Wu fun c => by rw [c, hx] at t; cases t]; exact t
 tbls := fun b ps z => by
  obtain ⟨m, t⟩ := u.tbls b ps z
  exact ⟨m, by rw [Wu fun c => by rw [c, hx] at t; cases t]; exact t⟩
theorem HOk.rm {h : Heap} {e : Addr} {φ : Heap → Prop} (x : HOk P w H h) (hx : H e = some (.ext φ)) : HOk P w (L2.rm H e) h := fun b o z => by
 have nb : b ≠ e := fun c => by rw [c, Wd] at z; cases z
 rw [Wu nb] at z
 exact (x b o z).stay (fun _ _ _ q => q) (fun c q => by rw [Wu fun y => by rw [y, hx] at q; cases q]; exact q) fun c xs q => by rw [Wu fun y => by rw [y, hx] at q; cases q]; exact q
theorem Qpr {e dx : Addr} (I : Inv (cxG P w C K mg base N qual scope f cd A outer s₀ H₀ E) pins σ H s) (new : s₀.heap.get? e = none) (hx : H e = some (excM e C dx)) (q : E (.ref C) (some dx) (L2.rm H e)) : (cxG P w C K mg base N qual scope f cd A outer s₀ H₀ E).xe (.ref e) s := by
 obtain ⟨t, he⟩ := (I.hok e _ hx).1
 show wpAny _ _ (leaving (envOfC qual scope s₀.heap.objs.size f cd) (.ref e)) _ _ _
 have ff : s.heap.FunFrames base (envOfC qual scope s₀.heap.objs.size f cd :: outer) := I.stack
 have sf : ∀ b ∈ frs (envOfC qual scope s₀.heap.objs.size f cd :: outer), H b = none := I.stkFree
 have st : (hideAll s.heap (e :: frs (envOfC qual scope s₀.heap.objs.size f cd :: outer))).StaysIn s.heap := fun b o z => of_hideAll _ z
 refine Qbd (base := hideAll s.heap (e :: frs (envOfC qual scope s₀.heap.objs.size f cd :: outer))) (G := exG C dx) Qnq I.ok.frames rfl (funFrames_hide ff fun env he b hb => kX _ (jXc.mpr ⟨env, he, hb⟩)) he st (hideAll_none _ jY) rfl rfl ⟨rfl, rfl⟩ fun h2 fl up => ?_
 have sub : ∀ b ∈ frs outer, b ∈ frs (envOfC qual scope s₀.heap.objs.size f cd :: outer) := fun b hb => jXc.mpr (let ⟨env, he, hf⟩ := jXc.mp hb; ⟨env, kX _ he, hf⟩)
 have hc : ∀ b, b ∉ frs outer → ((∃ o, s₀.heap.get? b = some o) ∨ L2.rm H e b ≠ none) → ∃ o, (hideAll s.heap (e :: frs (envOfC qual scope s₀.heap.objs.size f cd :: outer))).get? b = some o := fun b hb z => by
  rcases z with ⟨o, e0⟩ | z
  ·obtain ⟨o', e1⟩ := I.base.there b o e0 (by intro z; cases z)
   refine ⟨o', hideAll_get _ e1 fun y => ?_⟩
   rcases jZ.mp y with y | y
   ·rw [y, new] at e0; cases e0
   ·exact Qpl I e0 hb y
  ·have nb : b ≠ e := fun c => z (by rw [c]; exact Wd)
   rw [Wu nb] at z
   cases eH : H b with
   | none => exact absurd eH z
   | some ob =>
    obtain ⟨o', e1⟩ := (I.hok b ob eH).ex
    refine ⟨o', hideAll_get _ e1 fun y => ?_⟩
    rcases jZ.mp y with y | y
    ·exact nb y
    ·exact z (sf b y)
 refine ⟨e, dx, L2.rm H e, _, rfl, q, I.os, I.bare, Qou (Un.rm I.base hx) hc st fl.1 up fun b hb => Yz ff b (sub b hb), Qiq (HOk.rm I.hok hx) hc st fl.1 fun b hb => ?_, hc, fl⟩
 by_cases c : b = e
 ·rw [c]; exact Wd
 ·rw [Wu c]; exact sf b (sub b hb)
theorem Qcs {k : Nat} {fd : FuncData} {p x : Str} {fo : Obj} {np cpos pos : Pos} {a : Expr} {ta : TA} (F : ErrI K mg x C D f2 n) (G : FnOk P w K mg base CX0 k f2 fd ["self", p] (spXI C n)) (hb : Binds K fd ["self", p] []) (hf : K.lookup f2 = some fo) (hl : fo.cls = .type "function") (kp : keepIn K (.ref C) = true)
  (hr : Room (k + 1) (A.deeper (envOfC qual scope s₀.heap.objs.size f cd))) (ha : PA (cxG P w C K mg base N qual scope f cd A outer s₀ H₀ E) [a] ta) (hg : autoParam (Gl (cxG P w C K mg base N qual scope f cd A outer s₀ H₀ E) x) L2.aRfl._auto_1) (hd : autoParam ((x == ("__debug__" : Str)) = false) L2.aDec._auto_1)
  (he : autoParam (starEach [a] (envOfC qual scope s₀.heap.objs.size f cd) = (false, eval a (envOfC qual scope s₀.heap.objs.size f cd)) :: starEach [] (envOfC qual scope s₀.heap.objs.size f cd)) L2.aRfl._auto_1) :
  PS (cxG P w C K mg base N qual scope f cd A outer s₀ H₀ E) (.Raise (some (.Call (.Name x np) [a] [] cpos)) none pos) (fun _ σ H => ta σ H fun vs H1 => ∃ y, vs = [y] ∧ ∀ dx, H1 dx = none → E (.ref C) (some dx) (upd H1 dx (.xd [(n, y)]))) := by
 intro pins s σ H D' I h
 obtain ⟨c1, c2, N', c3, c4, c5, c6, c7, c8, c9, d1, d2, d3, d4, lk, ok, z1, z2, z3⟩ := F.cls
 rw [arm_exec_Raise]
 refine jX (wpAny_standAt (Qgt (C := C) (a := c1) (b := c2) (N := N') (x1 := c3) (x2 := .ref D :: vErr) (x4 := true) (x5 := c4) (x6 := c5) (x7 := c6) (x8 := c7) (x9 := c8) (y0 := c9) (y1 := d1) (y2 := d2) (y3 := d3) (y5 := d4) (nw := "ValueError.__new__") (by rw [jJf]; exact Bool.or_eq_true_iff.mpr (.inr (by decide +kernel))) (I.ok.hd rfl) (jX (wpAny_mono (wpAny_Call_Name_kw (Kn I hg F.bound ?_ hd)) (fun v s3 z => jX (wpAny_standAt (kW z))) fun _ _ z => z))))
 refine callWith_K (h₀ := base) I.ok.mod.kin kp (thn (ha cpos pins s σ H _ I h) fun us s1 ⟨vs, H1, I1, r, y, ey, q⟩ => ⟨I1.kIn, ?_⟩) he rfl
 subst ey
 cases r with
 | cons r0 rr =>
  cases rr
  have big : s₀.heap.objs.size ≤ s1.heap.objs.size + 1 := by
   obtain ⟨m, ⟨o, _, _, ho, _⟩, _⟩ := I1.loc
   exact Nat.le_of_lt (Nat.lt_succ_of_lt (kJ ho))
  refine Qjg F G hr hb hf hl I1 r0 fun dx s' q1 q2 J => ?_
  have hx : upd (upd H1 (s1.heap.objs.size + 1) (excM (s1.heap.objs.size + 1) C dx)) dx (.xd [(n, y)]) (s1.heap.objs.size + 1) = some (excM (s1.heap.objs.size + 1) C dx) := by rw [Qq (Ne.symm q2)]; exact Qe
  obtain ⟨t, e1⟩ := (J.hok _ _ hx).1
  refine ⟨_, t, some dx, rfl, J.kIn _ _ lk, e1, Qpr J (kZc big) hx ?_⟩
  have eq : L2.rm (upd (upd H1 (s1.heap.objs.size + 1) (excM (s1.heap.objs.size + 1) C dx)) dx (.xd [(n, y)])) (s1.heap.objs.size + 1) = upd H1 dx (.xd [(n, y)]) := by
   funext b
   by_cases c : b = s1.heap.objs.size + 1
   ·rw [c, Wd, Qq (Ne.symm q2)]
    exact (I1.hok.fresh (Nat.le_succ _)).symm
   ·rw [Wu c]
    by_cases c' : b = dx
    ·rw [c', Qe, Qe]
    ·rw [Qq c', Qq c', Qq c]
  rw [eq]
  exact q dx q1
end
end L2
namespace L2
open PySem PySem.Spec PySem.Calls PyProof.Rows PySem.W
section
variable {X : Cx} {k : Nat} {f C D : Addr} {fd : FuncData} {ps : List Str} {sp : Sp} {g x n c : Str} {p np pc pn cpos epos hpos apos pos : Pos} {a : Expr} {es : List Expr} {t : TA} {i j : Nat}
theorem Qjh (hxe : X.xe = fun _ _ => False) (hst : X.stack = X.env :: X.outer) (hfm : X.env.frame = some X.env.locals) (F : FnOk X.prog X.w X.K X.mg X.base (CXg X.prog X.w C) k f fd ps sp) (hr : Room k X.A) (hm : X.mg g = some (.ref f)) (hk : PySem.W.keepIn X.K (.ref f) = true) (hb : Binds X.K fd ps [])
  (hmx : X.mg x = some (.ref D)) (hCD : IsA X.K C D) (hN : X.N.Nodup) (ha : PA X (a :: es) t) (hi : X.N[i]? = some c) (hj : X.N[j]? = some n) (hij : i ≠ j) (hic : X.env.scope.names.lookup c = some .local) (hjn : X.env.scope.names.lookup n = some .local)
  (hg : autoParam (Gl X g) L2.aRfl._auto_1) (hgx : autoParam (Gl X x) L2.aRfl._auto_1) (hdb : autoParam ((g == ("__debug__" : Str)) = false) L2.aDec._auto_1) (hdx : autoParam ((x == ("__debug__" : Str)) = false) L2.aDec._auto_1) (hdn : autoParam ((n == ("__debug__" : Str)) = false) L2.aDec._auto_1) (hcd : autoParam ((n == ("__classdict__" : Str)) = false) L2.aDec._auto_1)
  (he : autoParam (starEach (a :: es) X.env = (false, eval a X.env) :: starEach es X.env) L2.aRfl._auto_1) (hpl : autoParam ((backTo cpos (starEach es X.env)).any (·.1) = false) L2.aRfl._auto_1) (hs : autoParam (swapsWith (.Call (.Name g p) (a :: es) [] cpos) none epos.line X.env = pure false) L2.aRfl._auto_1) :
  PS X (.Try [.Expr (.Call (.Name g p) (a :: es) [] cpos) epos] [.ExceptHandler (some (.Name x np)) (some n) [.Assign [.Name c pc] (.Name n pn) apos] hpos] [] [] pos)
   (fun D σ H => t σ H fun vs H1 => sp vs H1 (fun _ H2 => D.nx σ H2) (fun _ od H2 => ∀ e dx, od = some dx → H2 e = none → D.nx (((σ.set j (some (.ref e))).set i (some (.ref e))).set j none) (upd H2 e (excD e C dx)))) := by
 intro pins s σ H Ds I h
 refine wpAny_Try_except (wpAny_execs_cons (wpAny_Expr_any ?_ I.quiet hs))
 refine wpAny_Call_Name_kw (Kn I hg hm ?_ hdb)
 refine PySem.W.callWith_K (h₀ := X.base) I.ok.mod.kin hk (wpAny_mono (ha cpos pins s σ H _ I h) (fun us s1 ⟨vs, H1, I1, r, q⟩ => ⟨I1.kIn, ?_⟩) fun ev s1 z => by rw [hxe] at z; exact z.elim) he hpl
 have hl : us.length = ps.length := by rw [← r.length]; exact F.len _ _ _ _ q
 have bd := hb s1 us I1.kIn (by rw [jZc]; exact hl)
 rw [jZc] at bd
 refine wpAny_call (codeAny_mono (F.run X.A X.stack s1 H1 ⟨us, []⟩ us vs _ _ hr I1.env0 bd r q) fun rr s' hq => ?_)
 cases rr with
 | ok fl =>
  cases fl with
  | ret u =>
   obtain ⟨v, H', I', r', q'⟩ := I1.after hq
   exact wpAny_execs_nil (wpAny_execs_nil ⟨σ, H', I', q'⟩)
  | next => exact False.elim hq
  | brk => exact False.elim hq
  | cont => exact False.elim hq
 | error ev =>
  obtain ⟨e, dx, H', B, rfl, q, os, bare, un, hok, hc, fl⟩ := hq
  have fr1 := Yz I1.stack
  have fH' : ∀ b ∈ frs X.stack, H' b = none := fun b hb => by
   obtain ⟨o1, e1, _⟩ := fr1 b hb
   exact un.free b o1 e1 (I1.stkFree b hb) (by intro z; cases z)
  have inv_at : ∀ h2 : Heap, B.StaysIn h2 → s'.heap.UpToSlots h2 → Inv X pins σ H' { s' with heap := h2 } := fun h2 b2 up =>
   I1.call' (ch := []) os (Qou un hc fl.1 b2 up (Yz fl.2.2.1)) (Qiq hok hc fl.1 b2 fH') bare (fun b z => absurd z (by simp))
  have fl' : FlyG B (X.env :: X.outer) e (exG C dx) s'.heap := hst ▸ fl
  have hfr : X.A.frames = some (X.env :: X.outer) := hst ▸ I.ok.frames
  refine Qgs Qnq hfr fl'.2.2.1 hfm fl'.2.2.2 fl'.1 fl'.2.1 fun h4 k1 k2 k3 up4 => ?_
  refine Qdw k1 k2 k3 fun h5 j1 j2 j3 up5 => ?_
  have fl5 : FlyG B (X.env :: X.outer) e (exG C dx) h5 := ⟨j1, fl'.2.1, j2, j3⟩
  have I5 := inv_at h5 fl5.1 (up4.trans up5)
  refine wpAny_handleBy_cons (codeAny_handlers_test (Kn (I5.suite e) hgx hmx ?_ hdx)) (by intro z; cases z)
  obtain ⟨ob, _, hob, ⟨hobc, _⟩, _⟩ := fl5.there
  refine hCD _ _ _ { s' with heap := h5 } e ob _ I5.kIn hob hobc (codeAny_handlers_suite_as ?_)
  refine Qdw fl5.1 fl5.2.2.1 fl5.2.2.2 fun h6 i1 i2 i3 up6 => ?_
  have fl6 : FlyG B (X.env :: X.outer) e (exG C dx) h6 := ⟨i1, fl'.2.1, i2, i3⟩
  have hBe : B.get? e = none := fl.2.1
  have oldE : s1.heap.get? e = none := by
   cases q1 : s1.heap.get? e with
   | none => rfl
   | some o =>
    exfalso
    by_cases hf : e ∈ frs X.stack
    ·obtain ⟨o1, e1, nf⟩ := Yz fl.2.2.1 e hf
     obtain ⟨oe, ws, he1, _, hed⟩ := fl.there
     rw [e1] at he1
     cases he1
     exact nf _ hed
    ·obtain ⟨o2, e2⟩ := hc e hf (.inl ⟨o, q1⟩)
     rw [hBe] at e2
     cases e2
  have newE : H' e = none := by
   cases q1 : H' e with
   | none => rfl
   | some o =>
    exfalso
    obtain ⟨o2, e2⟩ := hc e (fun z => by rw [fH' e z] at q1; cases q1) (.inr (by rw [q1]; simp))
    rw [hBe] at e2
    cases e2
  have I6 : Inv X pins σ (upd H' e (excD e C dx)) { s' with heap := h6 } := I1.call' (ch := []) os (Un.track (Qou un hc fl.1 fl6.1 ((up4.trans up5).trans up6) (Yz fl.2.2.1)) oldE newE)
   (HOk.track (Qiq hok hc fl.1 fl6.1 fH') newE (by
    obtain ⟨ob6, ws6, g1, ⟨g2, g3⟩, g4⟩ := fl6.there
    obtain ⟨p1, p2, p3, p4⟩ := ob6
    dsimp only at g2 g3 g4
    subst g2 g3 g4
    exact Qpn g1)) bare (fun b z => absurd z (by simp))
  have hjσ : j < σ.length := by rw [I.len]; exact (kY.mp hj).1
  refine Vc I6 hN hj (.inl hjn) (v := .ref e) rfl (fun s7 I7' => ?_) (.inr hjn)
  have I7 := I7'.suite e
  have P := Qi (Qs (X := X.suite e) (i := i) (pos := apos) (pos' := pc) hN hi (.inl hic) (Qmx (pos := pn) hj (.inl hjn) hdn hcd) rfl (.inr hic))
  refine wpAny_mono (P pins s7 _ _ { nx := fun σ' H2 => σ' = (σ.set j (some (.ref e))).set i (some (.ref e)) ∧ H2 = upd H' e (excD e C dx), rt := fun _ _ => False } I7 ⟨.ref e, by rw [jZa hjσ], rfl, rfl⟩) (fun fl8 s8 h8 => ?_) (fun _ _ z => z.elim)
  cases fl8 with
  | ret u => obtain ⟨_, _, _, _, _, z⟩ := h8; exact z.elim
  | brk => obtain ⟨_, _, _, z⟩ := h8; exact z.elim
  | cont => obtain ⟨_, _, _, z⟩ := h8; exact z.elim
  | next =>
   obtain ⟨σ8, H8, I8, rfl, rfl⟩ := h8
   have I8' := I8.unsuite I.ok
   show wpAny _ _ (bindName X.env n Value.none >>= fun _ => unbindBehindTheSuite X.env n hpos) _ _ _
   refine jX ?_
   unfold bindName
   refine jX (wpAny_holding (wpAny_point ?_))
   refine jX (Vc I8' hN hj (.inl hjn) (v := .non) rfl (fun s9 I9 => wpAny_point ?_) (.inr hjn))
   unfold unbindBehindTheSuite
   have hjσ' : j < (((σ.set j (some (.ref e))).set i (some (.ref e))).set j (some V.non)).length := by simp; exact hjσ
   refine wpAny_onRaise (Qir I9 hN hj hjn (v := .non) (by rw [jZa (by simp; exact hjσ)]) fun s10 I10 => ?_)
   rw [List.set_set] at I10
   exact ⟨_, _, I10, q e dx rfl newE⟩
end
section
variable {X : Cx}
theorem We : CallR X (.builtin "isinstance") (fun xs H Q => ∃ (e C dx : Addr), H e = some (excD e C dx) ∧ ExcIn X.K C ∧ ((∃ D b, xs = [.ref e, .ref D] ∧ kitOne X.K (.ref C) (.ref D) = some b ∧ Q (.bl b) H) ∨ (∃ T b, xs = [.ref e, .ty T] ∧ kitOne X.K (.ref C) (.type T) = some b ∧ Q (.bl b) H) ∨
  ∃ (p : Addr) (Ds : List Addr) (b : Bool), xs = [.ref e, .ref p] ∧ H p = some (.tup (Ds.map V.ref)) ∧ kitAny X.K (.ref C) (Ds.map Value.ref) = some b ∧ Q (.bl b) H)) := by
 intro pins s σ H xs us Q I rv h
 obtain ⟨e, C, dx, he, Z, h⟩ := h
 have φ : ∃ o, s.heap.get? e = some o ∧ o.cls = .ref C := (let ⟨fs, sl, z⟩ := (I.hok e _ he).1; ⟨_, z, rfl⟩)
 rcases h with ⟨D, b, rfl, hk, q⟩ | ⟨T, b, rfl, hk, q⟩ | ⟨p, Ds, b, rfl, hp, hk, q⟩
 ·obtain ⟨u, v, rfl, ru, rT⟩ := rv.two
  cases ru
  cases rT
  exact kia_one (Qat Z) I.kIn φ hk (fun z => nomatch z) fun tk => ⟨.bl b, H, I.tok tk, rfl, q⟩
 ·obtain ⟨u, v, rfl, ru, rT⟩ := rv.two
  cases ru
  cases rT
  exact kia_one (Qat Z) I.kIn φ hk (fun z => nomatch z) fun tk => ⟨.bl b, H, I.tok tk, rfl, q⟩
 ·obtain ⟨u, v, rfl, ru, rT⟩ := rv.two
  cases ru
  cases rT
  obtain ⟨_, its, r, ob, e1, e2, e3⟩ := (show ObjOk X.prog X.w H s.heap p (.tup (Ds.map V.ref)) from I.hok p _ hp)
  have ei := Qdm r
  subst ei
  obtain ⟨n, e3⟩ := e3
  obtain ⟨cls, dct, dat, sl⟩ := ob
  simp only at e2 e3
  subst e2 e3
  exact kia_tup (Qat Z) I.kIn φ e1 hk (fun z => nomatch z) fun tk => ⟨.bl b, H, I.tok tk, rfl, q⟩
def tFldD (K : Fg) (ta : TE) (n : Str) : TE := fun σ H Q => ta σ H fun z H1 => ∃ (e C dx : Addr) (fs : List (Str × V)) (v : V), z = .ref e ∧ H1 e = some (excD e C dx) ∧ H1 dx = some (.xd fs) ∧ ExcFld K C n ∧ fs.lookup n = some v ∧ Q v H1
theorem Qji {o : Expr} {n : Str} {pos : Pos} {ta : TE} (ho : PE X o ta) (hb : attributeBase o n X.env (eval o X.env) = eval o X.env) : PE X (.Attribute o n pos) (tFldD X.K ta n) := by
 intro pins s σ H Q I h
 refine Qhq hb (thn (ho pins s σ H _ I h) fun u s1 hqP => ?_)
 obtain ⟨z, H1, I1, rz, e, C, dx, fs, v, ez, ee, ed, Z, l, q⟩ := hqP
 subst ez
 obtain rfl : u = Value.ref e := rz
 obtain ⟨fs0, sl, e1⟩ := (I1.hok e _ ee).1
 obtain ⟨mA, N1, r⟩ := (show ObjOk X.prog X.w H1 s1.heap dx (.xd fs) from I1.hok dx _ ed)
 obtain ⟨u', hu, ru⟩ := RelO.some_of (v := v) (o := mA n) (by rw [← l]; exact r n)
 exact Qjf I1.kIn Z e1 N1.ns hu (handedOut_of (Qbv ru)) ⟨v, H1, I1.tok _, ru, q⟩
end
section
variable {P : Program} {w : World} {K : Fg} {mg : Str → Option Value} {base : Heap} {N : List Str} {qual : Str} {scope : Scope} {f : Addr} {cd : Value} {A : Around} {outer : List Env} {s₀ : Shared} {H₀ : Hp} {E : XK} {C : Addr}
theorem Fun.okG {x qual : Str} {st : Stmt} {f : Addr} {fd : FuncData} {N ps : List Str} {k : Nat} {sp : Sp} (F : Fun K x qual st f fd) (S : FnScope N ps (Qh st)) (len : ∀ vs H Q E, sp vs H Q E → vs.length = ps.length)
  (hbody : ∀ (cdv : Value) (A : Around) (outer : List Env) (s : Shared) (H : Hp) (vs : List V) (Q : VK) (E : XK), Room k (A.deeper (envOfC qual (Qh st) s.heap.objs.size f cdv)) → sp vs H Q E →
   ∃ t, PSs (cxG P w C K mg base N qual (Qh st) f cdv A outer s H E) (Qx st) t ∧ t { nx := fun _ H' => Q .non H', rt := Q } (start N vs) H) : FnOk P w K mg base (CXg P w C) (k + 1) f fd ps sp := by
 obtain ⟨oc, od, kV, doc, pm, an, cdv, ct, osl, rfl, lk, hcd⟩ := F.ex
 exact fn_of lk hcd S len fun A outer s H vs Q E hr hsp => hbody cdv A outer s H vs Q E hr hsp
structure CalG (P : Program) (w : World) (K : Fg) (mg : Str → Option Value) (base : Heap) (C : Addr) (k : Nat) (x : Str) (ps : List Str) (sp : Sp) : Prop where
 ex : ∃ f fd, FnOk P w K mg base (CXg P w C) k f fd ps sp ∧ mg x = some (.ref f) ∧ PySem.W.keepIn K (.ref f) = true ∧ Binds K fd ps []
theorem CalG.calm {k : Nat} {x : Str} {ps : List Str} {sp : Sp} (c : CalG P w K mg base C k x ps sp) : Cal P w K mg base k x ps (fun vs H Q _ => sp vs H Q fun _ _ _ => False) := by
 obtain ⟨f, fd, F, m, kp, b⟩ := c.ex
 refine ⟨f, fd, ⟨fun vs H Q E h => F.len vs H Q _ h, fun A outer s H args us vs Q E hr he hb hv h => codeAny_mono (F.run A outer s H args us vs Q _ hr he hb hv h) fun r s' hq => ?_⟩, m, kp, b⟩
 cases r with
 | ok fl =>
  cases fl with
  | ret u => exact hq
  | next => exact False.elim hq
  | brk => exact False.elim hq
  | cont => exact False.elim hq
 | error e => obtain ⟨_, _, _, _, _, z, _⟩ := hq; exact z.elim
theorem Qps {k : Nat} {x : Str} {st : Stmt} {N ps : List Str} {sp : Sp} (F : Fn K mg x st) (S : FnScope N ps (Qh st))
  (hb : ∀ (kV doc pm : Value) (an : Option Addr) (cdv ct : Value) (us : List Value), us.length = ps.length → bindArgs (PySem.W.fnOf x x (Xc st) (Qx st) (Qh st) .none kV doc pm an cdv ct) ⟨us, []⟩ = pure (ps.zip us)) (len : ∀ vs H Q E, sp vs H Q E → vs.length = ps.length)
  (hbody : ∀ (f : Addr) (cdv : Value) (A : Around) (outer : List Env) (s : Shared) (H : Hp) (vs : List V) (Q : VK) (E : XK), Room k (A.deeper (envOfC x (Qh st) s.heap.objs.size f cdv)) → sp vs H Q E →
   ∃ t, PSs (cxG P w C K mg base N x (Qh st) f cdv A outer s H E) (Qx st) t ∧ t { nx := fun _ H' => Q .non H', rt := Q } (start N vs) H) : CalG P w K mg base C (k + 1) x ps sp := by
 obtain ⟨f, fd, F, m⟩ := F
 exact ⟨f, fd, Fun.okG F S len fun cdv => hbody f cdv, m, F.kp, F.binds hb⟩
end
end L2
namespace L2
open PySem PySem.Spec PySem.Calls PyProof.Rows PySem.W
section
variable {X : Cx}
theorem Qjj : MtM X "list.index" (fun x vs H Q => ∃ (l : Addr) (ns : List Str) (k : Str) (j : Nat), x = .ref l ∧ vs = [.str k] ∧ SqL X.K H l (ns.map V.str) ∧ ns[j]? = some k ∧ (∀ m, m < j → ns[m]? ≠ some k) ∧ Q (.int j) H) := by
 intro pins s σ H x vs v us Q I rx rv h
 obtain ⟨l, ns, k, j, rfl, rfl, hq, hj, hno, q⟩ := h
 cases rx
 obtain ⟨u, rfl, t, rfl⟩ := rv.one
 obtain ⟨its, r, ⟨o, n, e, c, d, sl⟩, hz⟩ := I.list hq
 have hl := r.length
 rw [jW] at hl hz
 have hjl : j < ns.length := (kY.mp hj).1
 have vat : ∀ (m : Nat) (hm : m < its.toArray.size), ∃ i t', its.toArray[m] = Value.str i t' ∧ ns[m]? = some i := fun m hm => by
  rw [jJ] at hm
  have hm' : m < ns.length := by omega
  obtain ⟨u, e1, t', e2⟩ := r.get (i := m) (x := .str ns[m]) (by rw [zK, gE hm']; rfl)
  rw [gE hm] at e1
  refine ⟨ns[m], t', ?_, gE hm'⟩
  have : its[m] = u := Option.some.inj e1
  simp [this, e2]
 obtain ⟨cls, dd, data, sls⟩ := o
 simp only at c d sl
 subst c
 have hz' : (sizeLine : Nat) = 16777216 := by decide
 have hjs : (j : Int) < 2 ^ 63 - 1 := by omega
 have fin := PySem.SeqAt.list_indexAt l its.toArray n dd sls (.str k t) (fun v => match v with | .str i _ => i == k | _ => false) j (by rw [jJ]; omega) hjs
  (by obtain ⟨i, t', e1, e2⟩ := vat j (by rw [jJ]; omega); rw [e1]; rw [hj] at e2; cases e2; simp)
  (fun m hm hmj => by obtain ⟨i, t', e1, e2⟩ := vat m hm; rw [e1]; have := hno m hmj; rw [e2] at this; simpa using fun z => this (congrArg some z))
 refine call_meets F.slot_list_index ⟨_, e, rfl⟩ F.entry_list_index (F.args_list_index_2 _ _) fin ⟨by rw [e, sl], fun y hy => ?_, ?_⟩
 ·obtain ⟨m, hm, rfl⟩ := Array.getElem_of_mem hy
  obtain ⟨i, t', e1, e2⟩ := vat m hm
  rw [e1]
  exact Vn (y := .str i) (x := .str k) ⟨_, rfl⟩ ⟨_, rfl⟩ rfl rfl
 ·exact ⟨.int j, H, I.tok _, ⟨_, rfl⟩, q⟩
theorem Qjk : MtM X "list.count" (fun x ws H Q => ∃ (l : Addr) (y : V) (vs : List V), x = .ref l ∧ ws = [y] ∧ SqL X.K H l vs ∧ Yd y = true ∧ vs.all Yd = true ∧ ∀ c : Nat, Q (.int (c : Int)) H) := by
 intro pins s σ H x ws v us Q I rx rv h
 obtain ⟨l, y, vs, rfl, rfl, hH, fy, fv, q⟩ := h
 cases rx
 obtain ⟨u, rfl, ru⟩ := rv.one
 obtain ⟨its, rr, pl, hz⟩ := I.list hH
 obtain ⟨⟨c1, d1, da1, sl1⟩, ho, hc, n, hd⟩ := id pl.isList
 simp only at hc hd
 subst hc hd
 refine call_meets F.slot_list_count ⟨_, ho, rfl⟩ F.entry_list_count (F.args_list_count_2 _ _) (PySem.SeqAt.list_countAt l its.toArray n d1 sl1 u (fun v => match absV v with | some z => eqV z y | none => false)) ⟨ho, fun w hy => ?_, ⟨.int _, H, I.tok _, ⟨_, rfl⟩, q _⟩⟩
 obtain ⟨i, hi, rfl⟩ := List.getElem_of_mem (show w ∈ its by simpa using hy)
 have hl := rr.length
 have hi' : i < vs.length := by omega
 obtain ⟨u2, e1, r2⟩ := rr.get (gE hi')
 rw [gE hi] at e1
 have e2 : its[i] = u2 := Option.some.inj e1
 have fz : Yd vs[i] = true := (xK.mp fv) _ (jQa hi')
 rw [e2]
 have := Vn (A := X.A.in1) (s := s) r2 ru fz fy
 rw [show (match absV u2 with | some z => eqV z y | none => false) = eqV vs[i] y by rw [r2.abs]]
 exact this
theorem Qjl : CallR X (.builtin "isinstance") (fun xs H Q => ∃ (p : Addr) (Ds : List Addr) (b : Bool), xs = [.non, .ref p] ∧ H p = some (.tup (Ds.map V.ref)) ∧ kitAny X.K (.type "NoneType") (Ds.map Value.ref) = some b ∧ Q (.bl b) H) := by
 intro pins s σ H xs us Q I rv h
 obtain ⟨p, Ds, b, rfl, hp, hk, q⟩ := h
 obtain ⟨u, v, rfl, ru, rT⟩ := rv.two
 cases ru
 cases rT
 obtain ⟨_, its, r, ob, e1, e2, e3⟩ := (show ObjOk X.prog X.w H s.heap p (.tup (Ds.map V.ref)) from I.hok p _ hp)
 have ei := Qdm r
 subst ei
 obtain ⟨n, e3⟩ := e3
 obtain ⟨cls, dct, dat, sl⟩ := ob
 simp only at e2 e3
 subst e2 e3
 exact kia_tup kitx_none I.kIn trivial e1 hk (fun z => nomatch z) fun tk => ⟨.bl b, H, I.tok tk, rfl, q⟩
end
end L2
namespace Nb
open PySem L2
abbrev sIN : Stmt := top 12
abbrev Qml : Stmt := top 15
abbrev sNee : Stmt := top 16
def Plain (x : Str) : Prop := x.cps.all (· < 128) = true ∧ x.length ≤ 100000
def KeyPl : Key → Prop
 | .inl _ => True
 | .inr x => Plain x
def isInt : Key → Bool
 | .inl _ => true
 | .inr _ => false
def IsNm (k : Key) : Prop := ∃ x, k = .inr x ∧ NmOk x
open Classical in
open Classical in
theorem Qjm {b c : Bool} {P : Prop} (h1 : b = true ↔ P) (h2 : c = true ↔ P) : b = c := by
 cases b <;> cases c
 ·rfl
 ·exact absurd (h1.mpr (h2.mp rfl)) yQ
 ·exact absurd (h2.mpr (h1.mp rfl)) yQ
 ·rfl
theorem Qjn {x : Str} {lo hi : Nat} : (((sg x).map fun c => decide (lo ≤ c) && decide (c ≤ hi)).all id = true) ↔ ∀ c ∈ sg x, lo ≤ c ∧ c ≤ hi := by
 rw [List.all_map, xK]
 constructor
 ·intro h c hc
  have := h c hc
  simp only [Function.comp, id, zY, decide_eq_true_eq] at this
  exact this
 ·intro h c hc
  simp only [Function.comp, id, zY, decide_eq_true_eq]
  exact h c hc
theorem Jt (r : BR) : r.key.length = 1 + r.names.length := by
 unfold BR.key
 rw [yZ, jW]
 omega
theorem Qpt (r : BR) : cutV (r.cells.map kV) none (some (1 + ((r.names.length : Nat) : Int))) = r.key.map kV := by
 unfold cutV
 have h1 : (1 : Int) + ((r.names.length : Nat) : Int) = ((r.key.length : Nat) : Int) := by rw [Jt]; omega
 have h2 : r.key.length ≤ r.cells.length := by unfold BR.cells; rw [jV]; omega
 rw [HT.sIx_none, List.drop_zero, Nat.sub_zero, h1, HT.sIx_nat, jW, xX h2, ← kQb]
 unfold BR.cells
 rw [kYf]
 rfl
theorem Qmm (r : BR) : cutV (r.cells.map kV) (some (1 + ((r.names.length : Nat) : Int))) none = r.nums.map V.int := by
 unfold cutV
 have h1 : (1 : Int) + ((r.names.length : Nat) : Int) = ((r.key.length : Nat) : Int) := by rw [Jt]; omega
 have h2 : r.key.length ≤ r.cells.length := by unfold BR.cells; rw [jV]; omega
 rw [HT.sIx_none, h1, HT.sIx_nat, jW, xX h2, ← List.map_drop]
 unfold BR.cells
 rw [List.drop_left', jV, Nat.add_sub_cancel_left, kQe, jZb (by rw [jW, jW]; exact kK _)]
 ·rfl
 ·rfl
def Qjo : Sp := fun vs H Q _ => ∃ (l : Addr) (r : BR), vs = [.ref l] ∧ H l = some (.lst (r.cells.map kV)) ∧ ∀ (t : Addr) (H' : Hp), Same H H' → H t = none → H' t = some (.tup (r.key.map kV)) → Q (.ref t) H'
theorem not_true {b : Bool} (h : (!b) = true) : ¬ b = true := by cases b <;> simp_all
theorem Qmn {x : Str} (h : NmOk x) : Plain x := by
 refine ⟨?_, by have := h.2.1; omega⟩
 rw [← Array.all_toList, xK]
 intro c hc
 have := h.2.2 c hc
 exact yK (by omega)
theorem Qbe (r : BR) : (bdsK r.kind).length = r.nums.length := by
 cases r with
 | use k w v t m => match k with | 0 => rfl | 1 => rfl | 2 => rfl
 | _ => rfl
theorem Kx (r : BR) : (r.cells.map kV).length = 1 + r.names.length + r.nums.length := by
 rw [Kh, jV, jW, jW, Jt]
theorem Wf {r : BR} (h : r.kind = 2) : ∃ b f t, r = .shut b f t := by
 cases r with
 | shut b f t => exact ⟨b, f, t, rfl⟩
 | use k _ _ _ _ => exact absurd (show 6 + k.val = 2 from h) (by omega)
 | _ => exact nomatch h
theorem Jl {r : BR} (h : r.kind = 3) : ∃ b m f, r = .store b m f := by
 cases r with
 | store b m f => exact ⟨b, m, f, rfl⟩
 | use k _ _ _ _ => exact absurd (show 6 + k.val = 3 from h) (by omega)
 | _ => exact nomatch h
theorem Qjp {r : BR} (h : r.word = "shut") : ∃ b f t, r = .shut b f t := Wf ((Kf r (k := 2) (by decide)).mp h)
theorem Qgu {r : BR} (h : r.word = "store") : ∃ b m f, r = .store b m f := Jl ((Kf r (k := 3) (by decide)).mp h)
def Qfe (H : Hp) : List V → List (List Key) → Prop := Paired fun v k => ∃ t, v = .ref t ∧ H t = some (.tup (k.map kV))
def Qff : Sp := fun vs H Q _ => ∃ (l : Addr) (r : BR), vs = [.ref l] ∧ H l = some (.lst (r.cells.map kV)) ∧ ∀ (g : Addr) (ys : List V) (H' : Hp), Same H H' → H' g = some (.lst ys) → Qfe H' ys r.needs → Q (.ref g) H'
theorem Qfg {K : Fg} : ∀ {ys : List V} {ps : List Nat}, Paired (fun x t => TvAt K 1 t x) ys (ps.map fun (p : Nat) => TV.int (p : Int)) → ys = ps.map fun (p : Nat) => V.int (p : Int)
 | _, [], .nil => rfl
 | _, q :: ps, .cons h t => by
  cases h
  rw [Qfg t]
  rfl
theorem Qfh {K : Fg} : ∀ {xs : List V} {nds : List (Str × List Nat)}, Paired (fun x t => TvAt K 2 t x) xs (nds.map tvN) → ∃ zs : List (Addr × Str × List Nat), xs = zs.map (fun z => V.ref z.1) ∧ zs.map (·.2) = nds ∧ ∀ z ∈ zs, ∀ H, SqT K H z.1 (V.str z.2.1 :: z.2.2.map fun (p : Nat) => V.int (p : Int))
 | _, [], .nil => ⟨[], rfl, rfl, fun _ h => nomatch h⟩
 | _, b :: nds, .cons h t => by
  obtain ⟨zs, e1, e2, hz⟩ := Qfh t
  obtain ⟨a, ys, rfl, hy, hp⟩ := h
  have ey : ys = V.str b.1 :: b.2.map fun (p : Nat) => V.int (p : Int) := by
   cases hp with
   | cons h1 h2 =>
    cases h1
    rw [Qfg h2]
  subst ey
  refine ⟨(a, b) :: zs, by rw [e1]; rfl, by rw [xQ, e2], fun z h5 => ?_⟩
  rcases jZ.mp h5 with e | e
  ·rw [e]; exact hy
  ·exact hz z e
theorem Qmo {X : Cx} {K : Fg} (hK : X.K = K) : OpR X (binaryOp .Add) (rCatT K) := by subst hK; exact Qoe
theorem tvB_at {K : Fg} {x : V} {b : Int × Option Int} (h : TvAt K 2 (tvB b) x) : ∃ a, x = .ref a ∧ ∀ H, SqT K H a [.int b.1, match b.2 with | none => V.non | some z => V.int z] := by
 obtain ⟨a, ys, rfl, hy, hp⟩ := h
 refine ⟨a, rfl, ?_⟩
 have ey : ys = [.int b.1, match b.2 with | none => V.non | some z => V.int z] := by
  cases hp with
  | cons h1 h2 =>
   cases h1
   cases h2 with
   | cons h3 h4 =>
    cases h4
    cases e : b.2 with
    | none => rw [e] at h3; cases h3; rfl
    | some z => rw [e] at h3; cases h3; rfl
 rw [← ey]
 exact hy
theorem Qpu {X : Cx} {K : Fg} (hK : X.K = K) : SlR X (rSlT K) := by subst hK; exact sl_tup
theorem cut1' (x : V) (xs : List V) : cutV (x :: xs) (some 1) none = xs := cut1 (α := V) x xs
theorem Qct (r : BR) : (ndsK r.kind).length ≤ 2 ∧ ∀ b ∈ ndsK r.kind, b.2.length ≤ 2 := by
 have : ∀ i, i < 11 → (ndsK i).length ≤ 2 ∧ ∀ b ∈ ndsK i, b.2.length ≤ 2 := by decide +kernel
 exact this _ (Ye r)
theorem getD_at {ks : List Key} {p : Nat} (h : p < ks.length) : atI (ks.map kV) (p : Int) = some (kV (ks.getD p (Sum.inl 0))) := by
 refine Zp ?_
 rw [zK, gE h, wW, gE h]
 rfl
def BR.ext : BR → Prop
 | .shut _ f t => f < t
 | .store _ m f => f ≤ m
 | .after w x _ => w ≠ x
 | _ => True
def InB (d : Int) (z : Int) (b : Int × Option Int) : Prop := b.1 ≤ z ∧ z ≤ b.2.getD d
def BR.inn (d : Int) (r : BR) : Prop := Paired (InB d) r.nums (bdsK r.kind) ∧ r.ext
def Ym : List BR → Int
 | .days n :: _ => n
 | _ => 0
structure Fit (A : List BR) (ks : List Key) (r : BR) : Prop where
 eq : ks = r.cells
 gn : r.gn
 inn : r.inn (Ym A)
 nw : r.word ≠ "shut" → ¬ Said A r.key
 nd : ∀ k ∈ r.needs, Said A k
def Good (A : List BR) : Prop := ∀ i r, A[i]? = some r → Fit (A.take i) r.cells r
theorem Wg {r : BR} (h : r.kind = 0) : ∃ n, r = .days n := by
 cases r with
 | days n => exact ⟨n, rfl⟩
 | use k _ _ _ _ => exact absurd (show 6 + k.val = 0 from h) (by omega)
 | _ => exact nomatch h
theorem Kr {r : BR} (h : r.kind = 1) : ∃ b n, r = .bench b n := by
 cases r with
 | bench b n => exact ⟨b, n, rfl⟩
 | use k _ _ _ _ => exact absurd (show 6 + k.val = 1 from h) (by omega)
 | _ => exact nomatch h
theorem Qfi {r : BR} (k : Fin 3) (h : r.kind = 6 + k.val) : ∃ w v t m, r = .use k w v t m := by
 have hk := k.isLt
 cases r with
 | use j w v t m =>
  have e : j = k := Fin.ext (by have : 6 + j.val = 6 + k.val := h; omega)
  exact ⟨w, v, t, m, by rw [e]⟩
 | days n => have : 0 = 6 + k.val := h; omega
 | bench b n => have : 1 = 6 + k.val := h; omega
 | shut b f t => have : 2 = 6 + k.val := h; omega
 | store b f t => have : 3 = 6 + k.val := h; omega
 | work w => have : 4 = 6 + k.val := h; omega
 | way w v l c => have : 5 = 6 + k.val := h; omega
 | after w x g => have : 9 = 6 + k.val := h; omega
 | late w d c => have : 10 = 6 + k.val := h; omega
theorem Ks {r : BR} {a : Str} {ks : List Key} (h : r.cells = .inr a :: ks) : r.word = a := by
 have h' : (Sum.inr r.word : Key) :: (r.names.map Sum.inr ++ r.nums.map Sum.inl) = .inr a :: ks := h
 injection h' with h1 _
 exact Sum.inr.inj h1
theorem Qjq {r q : BR} (h : r.word = q.word) : r.kind = q.kind := Yl _ (Ye r) _ (Ye q) (by rw [← Xz, ← Xz]; exact h)
theorem Qgv {r q : BR} (h : r.cells = q.cells) : r.kind = q.kind := Qjq (Ks (h.trans (show q.cells = .inr q.word :: (q.names.map Sum.inr ++ q.nums.map Sum.inl) from rfl)))
theorem Zb (r : BR) : r.names.length = ([0, 1, 1, 1, 1, 2, 3, 3, 3, 2, 1] : List Nat).getD r.kind 0 := by
 cases r with
 | use k w v t m => match k with | 0 => rfl | 1 => rfl | 2 => rfl
 | _ => rfl
theorem Qdz {r q : BR} (h : r.cells = q.cells) : r.kind = q.kind ∧ r.names = q.names ∧ r.nums = q.nums := by
 have hk := Qgv h
 have h' : r.key ++ r.nums.map Sum.inl = q.key ++ q.nums.map Sum.inl := h
 have hl : r.key.length = q.key.length := by rw [Jt, Jt, Zb, Zb, hk]
 obtain ⟨h1, h2⟩ := List.append_inj h' hl
 have h1' : (Sum.inr r.word : Key) :: r.names.map Sum.inr = Sum.inr q.word :: q.names.map Sum.inr := h1
 injection h1' with _ h3
 exact ⟨hk, (List.map_inj_right fun x y e => Sum.inr.inj e).mp h3, (List.map_inj_right fun x y e => Sum.inl.inj e).mp h2⟩
theorem br_ext {r q : BR} (hk : r.kind = q.kind) (hn : r.names = q.names) (hz : r.nums = q.nums) : r = q := by
 cases r with
 | days n =>
  obtain ⟨m, rfl⟩ := Wg hk.symm
  have : [n] = [m] := hz
  injection this with e
  rw [e]
 | bench b n =>
  obtain ⟨c, m, rfl⟩ := Kr hk.symm
  have h1 : [b] = [c] := hn
  have h2 : [n] = [m] := hz
  injection h1 with e1
  injection h2 with e2
  rw [e1, e2]
 | shut b f t =>
  obtain ⟨c, f', t', rfl⟩ := Wf hk.symm
  have h1 : [b] = [c] := hn
  have h2 : [f, t] = [f', t'] := hz
  injection h1 with e1
  injection h2 with e2 h3
  injection h3 with e3
  rw [e1, e2, e3]
 | store b m f =>
  obtain ⟨c, m', f', rfl⟩ := Jl hk.symm
  have h1 : [b] = [c] := hn
  have h2 : [m, f] = [m', f'] := hz
  injection h1 with e1
  injection h2 with e2 h3
  injection h3 with e3
  rw [e1, e2, e3]
 | work w =>
  obtain ⟨c, rfl⟩ := Vw hk.symm
  have h1 : [w] = [c] := hn
  injection h1 with e1
  rw [e1]
 | way w v l c =>
  obtain ⟨w', v', l', c', rfl⟩ := Qaw hk.symm
  have h1 : [w, v] = [w', v'] := hn
  have h2 : [l, c] = [l', c'] := hz
  injection h1 with e1 h3
  injection h3 with e2
  injection h2 with e3 h4
  injection h4 with e4
  rw [e1, e2, e3, e4]
 | use k w v t m =>
  obtain ⟨w', v', t', m', rfl⟩ := Qfi k hk.symm
  have h1 : [w, v, t] = [w', v', t'] := hn
  have h2 : [m] = [m'] := hz
  injection h1 with e1 h3
  injection h3 with e2 h4
  injection h4 with e3
  injection h2 with e4
  rw [e1, e2, e3, e4]
 | after w x g =>
  obtain ⟨w', x', g', rfl⟩ := Kq hk.symm
  have h1 : [w, x] = [w', x'] := hn
  have h2 : [g] = [g'] := hz
  injection h1 with e1 h3
  injection h3 with e2
  injection h2 with e3
  rw [e1, e2, e3]
 | late w d c =>
  obtain ⟨w', d', c', rfl⟩ := Qco hk.symm
  have h1 : [w] = [w'] := hn
  have h2 : [d, c] = [d', c'] := hz
  injection h1 with e1
  injection h2 with e2 h3
  injection h3 with e3
  rw [e1, e2, e3]
theorem Wh {r q : BR} (h : r.cells = q.cells) : r = q := let ⟨a, b, c⟩ := Qdz h; br_ext a b c
def nmK (i : Nat) : Nat := ([0, 1, 1, 1, 1, 2, 3, 3, 3, 2, 1] : List Nat).getD i 0
theorem l0 {α : Type} {l : List α} (h : l.length = 0) : l = [] := jQb.mp h
theorem l1 {α : Type} {l : List α} (h : l.length = 1) : ∃ a, l = [a] := List.length_eq_one_iff.mp h
theorem l2 {α : Type} {l : List α} (h : l.length = 2) : ∃ a b, l = [a, b] := by
 match l, h with
 | [a, b], _ => exact ⟨a, b, rfl⟩
theorem l3 {α : Type} {l : List α} (h : l.length = 3) : ∃ a b c, l = [a, b, c] := by
 match l, h with
 | [a, b, c], _ => exact ⟨a, b, c, rfl⟩
theorem mk_row {i : Nat} (hi : i < 11) {xs : List Str} {zs : List Int} (hx : xs.length = nmK i) (hz : zs.length = (bdsK i).length) : ∃ r : BR, r.kind = i ∧ r.names = xs ∧ r.nums = zs := by
 rcases (show i = 0 ∨ i = 1 ∨ i = 2 ∨ i = 3 ∨ i = 4 ∨ i = 5 ∨ i = 6 ∨ i = 7 ∨ i = 8 ∨ i = 9 ∨ i = 10 by omega) with rfl | rfl | rfl | rfl | rfl | rfl | rfl | rfl | rfl | rfl | rfl
 ·obtain rfl := l0 hx; obtain ⟨a, rfl⟩ := l1 hz; exact ⟨.days a, rfl, rfl, rfl⟩
 ·obtain ⟨x, rfl⟩ := l1 hx; obtain ⟨a, rfl⟩ := l1 hz; exact ⟨.bench x a, rfl, rfl, rfl⟩
 ·obtain ⟨x, rfl⟩ := l1 hx; obtain ⟨a, b, rfl⟩ := l2 hz; exact ⟨.shut x a b, rfl, rfl, rfl⟩
 ·obtain ⟨x, rfl⟩ := l1 hx; obtain ⟨a, b, rfl⟩ := l2 hz; exact ⟨.store x a b, rfl, rfl, rfl⟩
 ·obtain ⟨x, rfl⟩ := l1 hx; obtain rfl := l0 hz; exact ⟨.work x, rfl, rfl, rfl⟩
 ·obtain ⟨x, y, rfl⟩ := l2 hx; obtain ⟨a, b, rfl⟩ := l2 hz; exact ⟨.way x y a b, rfl, rfl, rfl⟩
 ·obtain ⟨x, y, w, rfl⟩ := l3 hx; obtain ⟨a, rfl⟩ := l1 hz; exact ⟨.use 0 x y w a, rfl, rfl, rfl⟩
 ·obtain ⟨x, y, w, rfl⟩ := l3 hx; obtain ⟨a, rfl⟩ := l1 hz; exact ⟨.use 1 x y w a, rfl, rfl, rfl⟩
 ·obtain ⟨x, y, w, rfl⟩ := l3 hx; obtain ⟨a, rfl⟩ := l1 hz; exact ⟨.use 2 x y w a, rfl, rfl, rfl⟩
 ·obtain ⟨x, y, rfl⟩ := l2 hx; obtain ⟨a, rfl⟩ := l1 hz; exact ⟨.after x y a, rfl, rfl, rfl⟩
 ·obtain ⟨x, rfl⟩ := l1 hx; obtain ⟨a, b, rfl⟩ := l2 hz; exact ⟨.late x a b, rfl, rfl, rfl⟩
theorem Qgw {f : Nat → TV} {w : Str} (h : ∀ i, i < 11 → w ≠ wordOf i) : ((List.range 11).map fun i => (wordOf i, f i)).lookup w = none := by
 have key : ∀ l : List Nat, (∀ i ∈ l, i < 11) → (l.map fun i => (wordOf i, f i)).lookup w = none := by
  intro l
  induction l with
  | nil => exact fun _ => rfl
  | cons a l ih =>
   intro hl
   rw [xQ, xJ, beq_false_of_ne (h a (hl a jY))]
   exact ih fun j hj => hl j (kX _ hj)
 exact key _ fun i hi => kQf.mp hi
theorem Qgx {w : Str} (h : ∀ i, i < 11 → w ≠ wordOf i) : namesT.lookup w = none := by rw [Qbc]; exact Qgw h
theorem Qfj {i : Nat} (hi : i < 11) : namesT.lookup (wordOf i) = some (.int ((nmK i : Nat) : Int)) := by
 rw [Qbc, Ki (f := fun i => .int (([0, 1, 1, 1, 1, 2, 3, 3, 3, 2, 1] : List Int).getD i 0)) _ hi]
 rcases (show i = 0 ∨ i = 1 ∨ i = 2 ∨ i = 3 ∨ i = 4 ∨ i = 5 ∨ i = 6 ∨ i = 7 ∨ i = 8 ∨ i = 9 ∨ i = 10 by omega) with rfl | rfl | rfl | rfl | rfl | rfl | rfl | rfl | rfl | rfl | rfl <;> rfl
theorem Qjr {i : Nat} (hi : i < 11) : boundsT.lookup (wordOf i) = some (.tup ((bdsK i).map tvB)) := Ki (f := fun i => .tup ((bdsK i).map tvB)) _ hi
theorem Qcu {r : BR} (h : r.needs = []) : ∃ n, r = .days n := by
 cases r with
 | days n => exact ⟨n, rfl⟩
 | use k w v t m => match k, h with | 0, h => exact nomatch h | 1, h => exact nomatch h | 2, h => exact nomatch h
 | _ => exact nomatch h
theorem Good.head {A : List BR} (h : Good A) {r : BR} (e : A[0]? = some r) : ∃ n, r = .days n ∧ 1 ≤ n ∧ n ≤ 12 := by
 have f := h 0 r e
 obtain ⟨n, rfl⟩ := Qcu (r := r) (by
  cases hn : r.needs with
  | nil => rfl
  | cons k ks =>
   obtain ⟨q, hq, _⟩ := f.nd k (by rw [hn]; exact jY)
   exact nomatch hq)
 cases f.inn.1 with
 | cons z _ => exact ⟨n, rfl, z.1, z.2⟩
theorem Good.days {A : List BR} (h : Good A) : (A = [] ∧ Ym A = 0) ∨ ∃ n B, A = .days n :: B ∧ Ym A = n ∧ 1 ≤ n ∧ n ≤ 12 := by
 cases A with
 | nil => exact .inl ⟨rfl, rfl⟩
 | cons r B =>
  obtain ⟨n, rfl, h1, h2⟩ := h.head (r := r) rfl
  exact .inr ⟨n, B, rfl, rfl, h1, h2⟩
theorem Good.nil : Good [] := fun _ _ h => nomatch h
theorem Good.snoc {A : List BR} {ks : List Key} {r : BR} (h : Good A) (f : Fit A ks r) : Good (A ++ [r]) := fun i q e => by
 by_cases hi : i < A.length
 ·rw [wY hi] at e
  rw [List.take_append_of_le_length (by omega)]
  exact h i q e
 ·have hi2 := (kY.mp e).1
  rw [jV] at hi2
  have ei : i = A.length := by
   have : i < A.length + 1 := hi2
   omega
  subst ei
  rw [kXa (kK _), Nat.sub_self] at e
  cases e
  rw [List.take_left]
  have := f.eq
  subst this
  exact f
section
variable {P : Program} {w : World} {K : Fg} {mg : Str → Option Value} {base : Heap}
theorem scIN : FnScope ["thing"] ["thing"] (Qh sIN) := ⟨rfl, rfl, rfl, by decide +kernel, rfl, by decide +kernel, by decide +kernel⟩
theorem scSaid : FnScope ["row"] ["row"] (Qh Qml) := ⟨rfl, rfl, rfl, by decide +kernel, rfl, by decide +kernel, by decide +kernel⟩
theorem okSaid {aN : Addr} {fN : Str → Option Value} (TN : TvTab w K mg "NAMES" 1 namesT aN fN) (F : Fn K mg "said_by" Qml) (M : Mg mg) : Cal P w K mg base 1 "said_by" ["row"] (Qjo) := by
 refine Xr F scSaid (fun _ _ _ _ _ _ => bind1 (fun _ => rfl)) (fun vs H Q E h => ?_) (fun f cdv A outer s H vs Q E hr h => ?_)
 ·obtain ⟨l, r, rfl, _⟩ := h
  rfl
 obtain ⟨l, r, rfl, hl, q⟩ := h
 refine ⟨_, (Qi (Qv (Zl Jx rfl M.tuple_ Qeq (Qa (Xe Xl (pv 0) Xm (Xg (Qk Qw Qc (Qn (Qgq TN) (Zh (v := .ref aN) rfl TN.tab.bound rfl) (Qn Qj (pv 0) Qc (fun _ _ => rfl)) (fun _ _ => rfl))))) Qf)))), ?_⟩
 refine ⟨_, rfl, _, rfl, l, _, _, _, rfl, rfl, Qb hl, Zr r, _, _, rfl, rfl, Qaf r, fun v hv => ?_⟩
 cases hv
 refine ⟨_, _, rfl, rfl, _, rfl, l, _, rfl, Qb hl, fun p1 hp1 => ?_⟩
 rw [Qpt]
 have s1 := Qd hp1 (.lst (r.key.map kV))
 refine ⟨p1, _, rfl, .inl ⟨Qb Qe, fun t1 ht1 => ?_⟩⟩
 refine q t1 _ (s1.trans (Qd ht1 _)) ?_ Qe
 cases e5 : H t1 with
 | none => rfl
 | some o => rw [s1 _ _ e5] at ht1; cases ht1
theorem scNee : FnScope ["row"] ["row"] (Qh sNee) := ⟨rfl, rfl, rfl, by decide +kernel, rfl, by decide +kernel, by decide +kernel⟩
theorem okNee {aD : Addr} {fD : Str → Option Value} (TD : TvTab w K mg "NEEDS" 3 needsT aD fD) (F : Fn K mg "needed_by" sNee) (M : Mg mg) : Cal P w K mg base 1 "needed_by" ["row"] (Qff) := by
 refine Xr F scNee (fun _ _ _ _ _ _ => bind1 (fun _ => rfl)) (fun vs H Q E h => ?_) (fun f cdv A outer s H vs Q E hr h => ?_)
 ·obtain ⟨l, r, rfl, _⟩ := h
  rfl
 obtain ⟨l, r, rfl, hl, q⟩ := h
 refine ⟨_, (Qi (Qv (Ko ["need", "row"] [none, some 0] rfl (Qna (Qn (Qgq TD) (Zh (v := .ref aD) rfl TD.tab.bound rfl) (Qn Qj (pv 0) Qc (fun _ _ => rfl)) (fun _ _ => rfl))) (fun _ _ _ => (Xf (i := 0) (show (["need", "row"] : List Str).Nodup by decide +kernel) rfl (Or.inl rfl) (Or.inr rfl))) (fun _ _ _ => Vr) (fun _ _ _ => (Qk (Qmo (K := K) rfl) (Qej (Qa (Qn (Qom (K := K) rfl) (pv 0) Qc (fun _ _ => rfl)) Qf)) (Zl (Wt (K := K) rfl) rfl M.tuple_ Qeq (Qa (Ko ["place", "row"] [none, some 1] rfl (Qot (K := K) rfl (Xe (Qpu (K := K) rfl) (pv 0) (Xg Qc) Xm)) (fun _ _ _ => (Xf (i := 0) (show (["place", "row"] : List Str).Nodup by decide +kernel) rfl (Or.inl rfl) (Or.inr rfl))) (fun _ _ _ => Vr) (fun _ _ _ => (Qn (Xv (K := K) rfl) (pv 1) (pv 0) (fun _ _ => rfl)))) Qf))))))), ?_⟩
 have hz : (2000000 : Nat) < sizeLine := by decide
 refine ⟨_, rfl, l, _, _, _, rfl, rfl, Qb hl, Zr r, _, _, rfl, rfl, Qgr r, fun v hv => ?_⟩
 obtain ⟨a, xs, rfl, hx, hp⟩ := hv
 obtain ⟨zs, rfl, e2, hzs⟩ := Qfh hp
 obtain ⟨few1, few2⟩ := Qct r
 have lz : zs.length ≤ 2 := by rw [← e2, jW] at few1; exact few1
 refine ⟨a, rfl, ⟨_, hx _⟩, fun D hD => ?_⟩
 refine Qds (fun H v (k : List Key) => ∃ t, v = .ref t ∧ t ≠ D ∧ H t = some (.tup (k.map kV))) (fun z : Addr × Str × List Nat => (Sum.inr z.2.1 : Key) :: z.2.2.map fun p => r.cells.getD p (Sum.inl 0)) rfl (Qfa (val := fun z : Addr × Str × List Nat => V.ref z.1) (hx H)) (by omega) hD (fun _ s2 h => ?_) (fun h => ?_) (fun z hz' H1 s1 nD P h => ?_) fun H1 ys s1 h1 h2 => ?_
 ·obtain ⟨t, e, nt, h⟩ := h
  exact ⟨t, e, nt, s2 _ _ h⟩
 ·obtain ⟨t, e, nt, h⟩ := h
  exact ⟨t, e, nt, by rw [Qq nt]; exact h⟩
 ·obtain ⟨za, zw, zp⟩ := z
  have hq : ∀ H, SqT K H za (V.str zw :: zp.map fun (p : Nat) => V.int (p : Int)) := hzs _ hz'
  have mz : (zw, zp) ∈ ndsK r.kind := by rw [← e2]; exact jYd hz'
  have pz := Qmj r _ mz
  have lp : zp.length ≤ 2 := few2 _ mz
  have hl1 := s1 _ _ hl
  refine ⟨_, rfl, za, _, _, _, rfl, rfl, hq _, (show atI (V.str zw :: zp.map fun (p : Nat) => V.int (p : Int)) 0 = some (.str zw) from Zp (k := 0) rfl), by show 1 ≤ sizeLine; decide, fun p1 hp1 => ?_⟩
  have s2 := Qd hp1 (.tup [.str zw])
  have hp11 : upd H1 p1 (.tup [.str zw]) p1 = some (.tup [.str zw]) := Qe
  have n1D : p1 ≠ D := fun e => nD (by rw [← e]; exact hp1)
  generalize upd H1 p1 (.tup [.str zw]) = H2 at s2 hp11 ⊢
  refine ⟨_, rfl, _, rfl, za, _, rfl, hq _, fun e => ?_, fun p2 hp2 => ?_⟩
  ·have e1 := e.1
   rw [show (1 : Int) = ((1 : Nat) : Int) from rfl, HT.sIx_nat, yZ, xX (by omega)] at e1
   exact absurd e1 (by decide)
  rw [cut1']
  have s3 := Qd hp2 (.tup (zp.map fun (p : Nat) => V.int (p : Int)))
  have hp22 : upd H2 p2 (.tup (zp.map fun (p : Nat) => V.int (p : Int))) p2 = some (.tup (zp.map fun (p : Nat) => V.int (p : Int))) := Qe
  generalize upd H2 p2 (.tup (zp.map fun (p : Nat) => V.int (p : Int))) = H3 at s3 hp22 ⊢
  refine ⟨p2, rfl, ⟨_, Zc hp22⟩, fun D2 hD2 => ?_⟩
  have hl3 := (s2.trans s3) _ _ hl1
  refine Wb kV (fun p : Nat => r.cells.getD p (Sum.inl 0)) rfl (Qfa (val := fun (p : Nat) => V.int (p : Int)) (Zc hp22)) (by omega) hD2 (fun x hx' H4 s4 P' h' => ?_) fun H4 s4 h4 => ?_
  ·exact ⟨_, rfl, _, rfl, l, _, _, _, rfl, rfl, Qb (s4 _ _ hl3), getD_at (pz x hx'), h' H4 (Same.refl _)⟩
  refine ⟨D2, _, rfl, .inl ⟨Qb h4, fun t ht => ?_⟩⟩
  have s34 := s3.trans s4
  have s5 := Qd ht (.tup ((zp.map fun p : Nat => r.cells.getD p (Sum.inl 0)).map kV))
  have sA := (s2.trans s34).trans s5
  refine ⟨p1, t, _, _, rfl, rfl, Zc (s5 _ _ (s34 _ _ hp11)), Zc Qe, kXf _ _, by rw [jW, jW]; show 1 + zp.length ≤ _; omega, fun e => ?_, fun _ p6 hp6 => ?_⟩
  ·refine h _ _ sA ⟨p1, rfl, n1D, ?_⟩
   rw [s5 _ _ (s34 _ _ hp11), xQ, e]
   rfl
  ·refine h _ _ (sA.trans (Qd hp6 _)) ⟨p6, rfl, fun e => ?_, ?_⟩
   ·rw [e] at hp6
    cases e7 : H1 D with
    | none => exact nD e7
    | some o => rw [sA _ _ e7] at hp6; cases hp6
   ·rw [Qe]
    rfl
 ·refine q D ys H1 s1 h1 ?_
  have e3 : zs.map (fun z : Addr × Str × List Nat => (Sum.inr z.2.1 : Key) :: z.2.2.map fun p => r.cells.getD p (Sum.inl 0)) = r.needs := by
   rw [Qfd, ← e2, kQe]
   rfl
  rw [e3] at h2
  unfold Qfe
  clear e3
  generalize r.needs = ks at h2
  clear h1
  induction h2 with
  | nil => exact .nil
  | cons z _ ih => exact .cons (let ⟨t, e, _, h⟩ := z; ⟨t, e, h⟩) ih
end
abbrev sIWi : Stmt := top 14
def Formed (ks : List Key) : Prop := ∃ r : BR, ks = r.cells ∧ r.gn
def Qcv : Sp := fun vs H Q _ => ∃ (l : Addr) (d : Int) (r : BR), vs = [.ref l, .int d] ∧ H l = some (.lst (r.cells.map kV)) ∧ ∀ (b : Bool) (H' : Hp), Same H H' → (b = true ↔ r.inn d) → Q (.bl b) H'
theorem all_f {α : Type} {f : α → Bool} {xs : List α} : ((xs.map f).all id = true) ↔ ∀ x ∈ xs, f x = true := by
 rw [List.all_map, xK]
 exact Iff.rfl
theorem Qnr : ∀ {ks : List Key}, (∀ k ∈ ks, IsNm k) → ∃ xs : List Str, ks = xs.map Sum.inr ∧ ∀ x ∈ xs, NmOk x
 | [], _ => ⟨[], rfl, fun _ h => nomatch h⟩
 | k :: ks, h => by
  obtain ⟨xs, e, hx⟩ := Qnr fun j hj => h j (kX _ hj)
  obtain ⟨x, rfl, h1⟩ := h k jY
  refine ⟨x :: xs, by rw [e]; rfl, fun y hy => ?_⟩
  rcases jZ.mp hy with e | e
  ·rw [e]; exact h1
  ·exact hx y e
theorem Qjs : ∀ {ks : List Key}, (∀ k ∈ ks, isInt k = true) → ∃ zs : List Int, ks = zs.map Sum.inl
 | [], _ => ⟨[], rfl⟩
 | .inl z :: ks, h => by
  obtain ⟨zs, e⟩ := Qjs fun j hj => h j (kX _ hj)
  exact ⟨z :: zs, by rw [e]; rfl⟩
 | .inr x :: ks, h => nomatch h _ jY
theorem Qjt {i : Nat} (hi : i < 11) {ks : List Key} (hl : ks.length = nmK i + (bdsK i).length) (h1 : ∀ k ∈ ks.take (nmK i), IsNm k) (h2 : ∀ k ∈ ks.drop (nmK i), isInt k = true) : Formed (.inr (wordOf i) :: ks) := by
 obtain ⟨xs, e1, hx⟩ := Qnr h1
 obtain ⟨zs, e2⟩ := Qjs h2
 have lx : xs.length = nmK i := by rw [← jW (f := (Sum.inr : Str → Key)), ← e1, zZ]; omega
 have lz : zs.length = (bdsK i).length := by rw [← jW (f := (Sum.inl : Int → Key)), ← e2, jXa]; omega
 obtain ⟨r, hk, hn, hz⟩ := mk_row hi lx lz
 refine ⟨r, ?_, by unfold BR.gn; rw [hn]; exact hx⟩
 have : r.cells = .inr r.word :: (r.names.map Sum.inr ++ r.nums.map Sum.inl) := rfl
 rw [this, Xz, hk, hn, hz, ← e1, ← e2, jKe]
theorem Qcw {α β : Type} {R : α → β → Prop} : ∀ {xs : List α} {ys : List β}, xs.length = ys.length → (∀ (i : Nat) x y, xs[i]? = some x → ys[i]? = some y → R x y) → Paired R xs ys
 | [], [], _, _ => .nil
 | x :: xs, y :: ys, hl, h => .cons (h 0 x y rfl rfl) (Qcw (by simpa using hl) fun i a b ea eb => h (i + 1) a b ea eb)
 | [], _ :: _, hl, _ => nomatch hl
 | _ :: _, [], hl, _ => nomatch hl
theorem Qju {α β : Type} {R : α → β → Prop} {xs : List α} {ys : List β} (h : Paired R xs ys) {i : Nat} {x : α} {y : β} (e1 : xs[i]? = some x) (e2 : ys[i]? = some y) : R x y := by
 obtain ⟨y', e3, hr⟩ := Jj h e1
 rw [e2] at e3
 cases e3
 exact hr
section
variable {P : Program} {w : World} {K : Fg} {mg : Str → Option Value} {base : Heap}
theorem scIWi : FnScope ["row", "days", "word", "number", "bounds", "most"] ["row", "days"] (Qh sIWi) := ⟨rfl, rfl, rfl, by decide +kernel, rfl, by decide +kernel, by decide +kernel⟩
theorem okIWi {aN aB : Addr} {fN fB : Str → Option Value} (TN : TvTab w K mg "NAMES" 1 namesT aN fN) (TB : TvTab w K mg "BOUNDS" 3 boundsT aB fB) (F : Fn K mg "is_within" sIWi) (M : Mg mg) : Cal P w K mg base 1 "is_within" ["row", "days"] (Qcv) := by
 refine Xr F scIWi (fun _ _ _ _ _ _ => Qcm (fun _ _ => rfl)) (fun vs H Q E h => ?_) (fun f cdv A outer s H vs Q E hr h => ?_)
 ·obtain ⟨l, d, r, rfl, _⟩ := h
  rfl
 obtain ⟨l, d, r, rfl, hl, q⟩ := h
 refine ⟨_, (Qg (Qs (i := 2) scIWi.nd rfl (Or.inl rfl) (Qn Qj (pv 0) Qc (fun _ _ => rfl)))
  (Qg (Ze PassesOwn.never rfl (pi_zip true false rfl M.zip_ (Qa (Xe Xl (pv 0) (Xg (Qk Qw Qc (Qn (Qgq TN) (Zh (v := .ref aN) rfl TN.tab.bound rfl) (pv 2) (fun _ _ => rfl)))) Xm) (Qa (Qn (Qgq TB) (Zh (v := .ref aB) rfl TB.tab.bound rfl) (pv 2) (fun _ _ => rfl)) Qf))) (Qdj (K := K) (i := 3) (j := 4) rfl rfl scIWi.nd rfl rfl rfl rfl) (Qg (Qs (i := 5) scIWi.nd rfl (Or.inl rfl) (Qla (Ql Qbs (Qn Qel (pv 4) Qc (fun _ _ => rfl)) Jv (Qm _)) (pv 1) (Qn Qel (pv 4) Qc (fun _ _ => rfl))))
  (Qi (Xi (Zj (Qle Qbr Qbr (Qn Qel (pv 4) Qc (fun _ _ => rfl)) (pv 3) (pv 5))) (Qi (Qv Zm)) Qu))))
  (Qg (Xi (Ql Xy (pv 2) Qp (Qm _)) (Qi (Qv (Xn Qld (Qn Qj (pv 0) Qc (fun _ _ => rfl)) (Qn Qj (pv 0) Qc (fun _ _ => rfl)) (Qm _)))) Qu)
  (Qg (Xi (Ql Xy (pv 2) Qp (Qm _)) (Qi (Qv (Xn Qbr (Qn Qj (pv 0) Qc (fun _ _ => rfl)) (Qn Qj (pv 0) Qc (fun _ _ => rfl)) (Qm _)))) Qu)
  (Qi (Qv (pe_or (Xn Qal (pv 2) Qp (Qm _)) (Zd (Xn Qal (Qn Qj (pv 0) Qc (fun _ _ => rfl)) (Qn Qj (pv 0) Qc (fun _ _ => rfl)) (Qm _)))))))))), ?_⟩
 refine Ke ?_
 intro rT5 rT4 rT3 rT2
 have hz : (2000000 : Nat) < sizeLine := by decide
 refine ⟨_, rfl, l, _, _, _, rfl, rfl, Qb hl, Zr r, ?_⟩
 refine ⟨_, rfl, _, rfl, _, _, rfl, rfl, Qaf r, fun v hv => ?_⟩
 cases hv
 refine ⟨_, _, rfl, rfl, _, rfl, l, _, rfl, Qb hl, fun p1 hp1 => ?_⟩
 rw [Qmm]
 have s1 := Qd hp1 (.lst (r.nums.map V.int))
 have hp11 : upd H p1 (.lst (r.nums.map V.int)) p1 = some (.lst (r.nums.map V.int)) := Qe
 generalize upd H p1 (.lst (r.nums.map V.int)) = H1 at s1 hp11 ⊢
 refine ⟨_, rfl, _, _, rfl, rfl, Qdu r, fun v hv => ?_⟩
 obtain ⟨a, xs, rfl, hx, hp⟩ := hv
 have lx := Paired.length hp
 rw [jW, Qbe] at lx
 let Pv13 : Nat → St → Hp → Prop := fun i σ H2 => ∃ u1 u2 u3 : Option V, σ = [some (.ref l), some (.int d), some (.str r.word), u1, u2, u3] ∧ (∀ j z b, j < i → r.nums[j]? = some z → (bdsK r.kind)[j]? = some b → InB d z b) ∧ Same H1 H2
 refine ⟨p1, a, rfl, ⟨_, Qb hp11⟩, ⟨_, hx _⟩, Qol (K := K) (m1 := true) (m2 := false) (a := p1) (b := a) (xs := r.nums.map V.int) (ys := xs) Pv13 ⟨none, none, none, rfl, fun _ _ _ h => absurd h (kYe _), Same.refl _⟩ (fun i σ H2 _ h => ?_) ?_ ?_⟩
 ·obtain ⟨u1, u2, u3, rfl, _, s2⟩ := h
  exact ⟨s2.seq (Qb hp11), hx _⟩
 ·rintro i x y σ H2 T' e1 e2 ⟨u1, u2, u3, rfl, hj, s2⟩ hT'
  rw [zK] at e1
  obtain ⟨z, ez, rfl⟩ := jQe.mp e1
  obtain ⟨t, et, ht⟩ := Jj hp e2
  rw [zK] at et
  obtain ⟨b, eb, rfl⟩ := jQe.mp et
  obtain ⟨c, rfl, hc⟩ := tvB_at ht
  have s3 := Qd hT' (.tup [.int z, .ref c])
  refine ⟨T', _, rfl, Zc Qe, rfl, _, _, rfl, _, _, rfl, rfl, ?_⟩
  generalize upd H2 T' (.tup [.int z, .ref c]) = H3 at s3 ⊢
  have no : (¬ InB d z b) → Q (.bl false) H3 := fun h => q false H3 (s1.trans (s2.trans s3)) ⟨fun e => (nomatch e), fun hi => absurd (Qju hi.1 ez eb) h⟩
  have yes : InB d z b → ∀ j z' b', j < i + 1 → r.nums[j]? = some z' → (bdsK r.kind)[j]? = some b' → InB d z' b' := fun h j z' b' hj1 e5 e6 => by
   by_cases hj2 : j < i
   ·exact hj j z' b' hj2 e5 e6
   ·have : j = i := by omega
    subst this
    rw [ez] at e5
    rw [eb] at e6
    cases e5
    cases e6
    exact h
  obtain ⟨lo, hi⟩ := b
  cases hi with
  | none =>
   refine ⟨_, rfl, c, _, _, _, rfl, rfl, hc _, at1, rfl, _, rfl, iteT ⟨_, rfl, ?_⟩⟩
   refine ⟨_, rfl, c, _, _, _, rfl, rfl, hc _, at0, _, rfl, _, _, rfl, rfl, _, rfl, ite2 (fun c1 => ?_) (fun c1 => ⟨false, rfl, iteT (no fun h => c1 (yK h.1))⟩)⟩
   refine ⟨_, rfl, _, _, rfl, rfl, _, rfl, ite2 (fun c2 => no fun h => not_true c2 (yK h.2)) (fun c2 => ?_)⟩
   exact ⟨_, _, _, rfl, yes ⟨yY c1, by
    by_cases e : z ≤ d
    ·exact e
    ·exact absurd (by rw [zW e]; rfl) c2⟩, s2.trans s3⟩
  | some hi =>
   refine ⟨_, rfl, c, _, _, _, rfl, rfl, hc _, at1, rfl, _, rfl, ite2 (fun c0 => absurd (yY c0) (fun e => nomatch e)) (fun _ => ⟨_, rfl, c, _, _, _, rfl, rfl, hc _, at1, ?_⟩)⟩
   refine ⟨_, rfl, c, _, _, _, rfl, rfl, hc _, at0, _, rfl, _, _, rfl, rfl, _, rfl, ite2 (fun c1 => ?_) (fun c1 => ⟨false, rfl, iteT (no fun h => c1 (yK h.1))⟩)⟩
   refine ⟨_, rfl, _, _, rfl, rfl, _, rfl, ite2 (fun c2 => no fun h => not_true c2 (yK h.2)) (fun c2 => ?_)⟩
   exact ⟨_, _, _, rfl, yes ⟨yY c1, by
    by_cases e : z ≤ hi
    ·exact e
    ·exact absurd (by rw [zW e]; rfl) c2⟩, s2.trans s3⟩
 ·rintro σ H2 ⟨u1, u2, u3, rfl, hj, s2⟩
  have sH := s1.trans s2
  have hl2 := sH _ _ hl
  have hp2 : Paired (InB d) r.nums (bdsK r.kind) := Qcw (Qbe r).symm fun i z b e1 e2 => hj i z b (by
   rw [jW, lx, Nat.min_self]
   exact (kY.mp e1).1) e1 e2
  have fin : ∀ b : Bool, (b = true ↔ r.ext) → Q (.bl b) H2 := fun b hb => q b H2 sH ⟨fun h => ⟨hp2, hb.mp h⟩, fun h => hb.mpr h.2⟩
  refine ⟨_, rfl, rfl, _, rfl, ite2 (fun c => ?_) (fun n1 => ?_)⟩
  ·obtain ⟨b, f, t, rfl⟩ := Qjp (eqS c)
   refine ⟨_, rfl, l, _, _, _, rfl, rfl, Qb hl2, (show atI ((BR.shut b f t).cells.map kV) 2 = some (.int f) from rfl), _, rfl, l, _, _, _, rfl, rfl, Qb hl2, (show atI ((BR.shut b f t).cells.map kV) 3 = some (.int t) from rfl), _, _, rfl, rfl, ?_⟩
   exact fin _ ⟨fun h => yY (p := f < t) h, fun h => yK (p := f < t) h⟩
  refine ⟨_, rfl, rfl, _, rfl, ite2 (fun c => ?_) (fun n2 => ?_)⟩
  ·obtain ⟨b, m, f, rfl⟩ := Qgu (eqS c)
   refine ⟨_, rfl, l, _, _, _, rfl, rfl, Qb hl2, (show atI ((BR.store b m f).cells.map kV) 3 = some (.int f) from rfl), _, rfl, l, _, _, _, rfl, rfl, Qb hl2, (show atI ((BR.store b m f).cells.map kV) 2 = some (.int m) from rfl), _, _, rfl, rfl, ?_⟩
   exact fin _ ⟨fun h => yY (p := f ≤ m) h, fun h => yK (p := f ≤ m) h⟩
  refine ⟨_, rfl, rfl, _, rfl, ite2 (fun c => ?_) (fun c => ?_)⟩
  ·refine fin true ⟨fun _ => ?_, fun _ => rfl⟩
   cases r with
   | shut b f t => exact absurd (yesS _) n1
   | store b m f => exact absurd (yesS _) n2
   | after x y g => exact absurd (yesS _) (not_true c)
   | _ => exact True.intro
  have hw : r.word = "after" := by
   by_cases e : r.word = "after"
   ·exact e
   ·exact absurd (show (!decide (V.str r.word = V.str "after")) = true by rw [jXf, decide_eq_false_iff_not]; exact fun z => e (V.str.inj z)) c
  obtain ⟨x, y, g, rfl⟩ := Qgm hw
  refine ⟨_, rfl, l, _, _, _, rfl, rfl, Qb hl2, (show atI ((BR.after x y g).cells.map kV) 1 = some (.str x) from rfl), _, rfl, l, _, _, _, rfl, rfl, Qb hl2, (show atI ((BR.after x y g).cells.map kV) 2 = some (.str y) from rfl), rfl, ?_⟩
  refine fin _ ⟨fun h e => not_true h (by rw [show x = y from e]; exact yesS _), fun h => ?_⟩
  rw [jXf, decide_eq_false_iff_not]
  exact fun z => h (V.str.inj z)
end
abbrev sNBI : Stmt := inClass (top 5) 0
def RE (C : Addr) (H : Hp) (z : Int) (E : XK) : Prop := ∀ dx H', Same H H' → H' dx = some (.xd [("row", .int z)]) → E (.ref C) (some dx) H'
theorem RE.raise {C : Addr} {H H1 : Hp} {z : Int} {E : XK} (h : RE C H z E) (s : Same H H1) : ∀ dx, H1 dx = none → E (.ref C) (some dx) (upd H1 dx (.xd [("row", .int z)])) := fun dx hdx => h dx _ (s.trans (Qd hdx _)) Qe
structure NBk (P : Program) (w : World) (K : Fg) (mg : Str → Option Value) (base : Heap) (C D f : Addr) (fd : FuncData) (fo : Obj) : Prop where
 ei : ErrI K mg "NoBook" C D f "row"
 gi : FnOk P w K mg base CX0 1 f fd ["self", "row"] (spXI C "row")
 bi : Binds K fd ["self", "row"] []
 lk : K.lookup f = some fo
 fc : fo.cls = .type "function"
 kc : PySem.W.keepIn K (.ref C) = true
theorem Qjv {H : Hp} : ∀ {ys : List V} {ks : List (List Key)}, Qfe H ys ks → ∃ zs : List (Addr × List Key), ys = zs.map (fun z => V.ref z.1) ∧ zs.map (·.2) = ks ∧ ∀ z ∈ zs, H z.1 = some (.tup (z.2.map kV)) := by
 intro ys ks h
 unfold Qfe at h
 induction h with
 | nil => exact ⟨[], rfl, rfl, fun _ h => nomatch h⟩
 | cons z _ ih =>
  obtain ⟨t, rfl, ht⟩ := z
  obtain ⟨zs, e1, e2, hz⟩ := ih
  refine ⟨(t, _) :: zs, by rw [e1]; rfl, by rw [xQ, e2], fun z h5 => ?_⟩
  rcases jZ.mp h5 with e | e
  ·rw [e]; exact ht
  ·exact hz z e
section
variable {P : Program} {w : World} {K : Fg} {mg : Str → Option Value} {base : Heap}
theorem scNBI : FnScope ["self", "row"] ["self", "row"] (Qh sNBI) := ⟨rfl, rfl, rfl, by decide +kernel, rfl, by decide +kernel, by decide +kernel⟩
theorem okNBI {f C D : Addr} {fd : FuncData} (F : Fun K "__init__" "NoBook.__init__" sNBI f fd) (EI : ErrI K mg "NoBook" C D f "row") : FnOk P w K mg base CX0 1 f fd ["self", "row"] (spXI C "row") := by
 refine F.ok scNBI (fun vs H Q E h => ?_) (fun cdv A outer s H vs Q E hr h => ?_)
 ·obtain ⟨e, y, rfl, _⟩ := h
  rfl
 obtain ⟨e, y, rfl, he, q⟩ := h
 refine ⟨_, (Qi (Qpq EI (pv 0) (pv 1) rfl)), ?_⟩
 exact ⟨_, rfl, _, rfl, e, rfl, he, q⟩
end
end Nb
namespace L2
open PySem PySem.Spec PyProof.Rows PySem.SeqAt
section
variable {X : Cx} {pins : List (Addr × Obj)} {σ : St} {H : Hp} {s : Shared}
end
section
variable {K : Fg} {H : Hp}
end
end L2
namespace L2
open PySem PySem.Spec PyProof.Rows PySem.SeqAt
def OdV (K : Fg) (H : Hp) (v : V) : Prop := Yd v = true ∨ ∃ a xs, v = .ref a ∧ (SqL K H a xs ∨ SqT K H a xs)
section
variable {X : Cx} {pins : List (Addr × Obj)} {σ : St} {H : Hp} {s : Shared}
theorem Qns {A : Around} {y x : V} {u v : Value} (hu : A.units < cLine) (I : Inv X pins σ H s) (ry : RelV y u) (rx : RelV x v) (fy : Yd y = true) (ox : OdV X.K H x) : EqAt A s u v (eqV y x) := by
 rcases ox with fx | ⟨a, xs, rfl, hq⟩
 ·exact Vn ry rx fy fx
 cases rx
 rcases hq with hq | hq
 ·obtain ⟨its, r, pl, _⟩ := I.list hq
  cases y with
  | non => cases ry; exact EqAt.none_list pl.isList hu
  | bl b => cases ry; exact EqAt.bool_list b pl.isList hu
  | int i => obtain ⟨t, rfl⟩ := ry; exact EqAt.int_list i t pl.isList hu
  | str z => obtain ⟨t, rfl⟩ := ry; exact EqAt.str_list z t pl.isList hu
  | _ => exact nomatch fy
 ·obtain ⟨its, r, pl, _⟩ := I.tuple hq
  cases y with
  | non => cases ry; exact EqAt.none_tuple pl hu
  | bl b => cases ry; exact EqAt.bool_tuple b pl hu
  | int i => obtain ⟨t, rfl⟩ := ry; exact EqAt.int_tuple i t pl hu
  | str z => obtain ⟨t, rfl⟩ := ry; exact EqAt.str_tuple z t pl hu
  | _ => exact nomatch fy
theorem Wi {A : Around} {x : V} {v : Value} (hu : A.units < cLine) (I : Inv X pins σ H s) (rx : RelV x v) (ox : OdV X.K H x) : ∀ {xs : List V} {us : List Value}, Vals xs us → xs.all Yd = true → ∀ u ∈ us, EqAt A s u v (eqU x u)
 | _, _, .nil, _ => fun u hu => by cases hu
 | y :: xs, u :: us, .cons r t, f => fun u' hu' => by
  rw [List.all_cons, zY] at f
  rcases jZ.mp hu' with rfl | hu'
  ·rw [Qhu r f.1]; exact Qns hu I r rx f.1 ox
  ·exact Wi hu I rx ox t f.2 u' hu'
end
section
variable {X : Cx}
def rInO (K : Fg) (neg : Bool) : R2 := fun x y H Q => ∃ p xs, y = .ref p ∧ SqL K H p xs ∧ OdV K H x ∧ xs.all Yd = true ∧ Q (.bl (if neg then !inV x xs else inV x xs)) H
theorem Qjw {n : Nat} (hu : X.A.units + (n + 1) < cLine) : OpR X (compareOp .In) (rInO X.K false) := by
 intro pins s σ H x y v u Q I rx ry h
 obtain ⟨p, xs, rfl, hq, ox, fs, q⟩ := h
 cases ry
 obtain ⟨its, r, pl, hz⟩ := I.list hq
 refine SeqAt.in_listAt (eqU x) pl.isList (fun w hw => Wi (by show X.A.units + 1 < cLine; omega) I rx ox r fs w (by simpa using hw)) ⟨.bl _, H, I, rfl, ?_⟩
 rw [show its.toArray.any (eqU x) = its.any (eqU x) by simp, Vo r fs]
 exact q
theorem Wj {n : Nat} (hu : X.A.units + (n + 1) < cLine) : OpR X (compareOp .NotIn) (rInO X.K true) := by
 intro pins s σ H x y v u Q I rx ry h
 obtain ⟨p, xs, rfl, hq, ox, fs, q⟩ := h
 cases ry
 obtain ⟨its, r, pl, hz⟩ := I.list hq
 refine SeqAt.notIn_listAt (eqU x) pl.isList (fun w hw => Wi (by show X.A.units + 1 < cLine; omega) I rx ox r fs w (by simpa using hw)) ⟨.bl _, H, I, rfl, ?_⟩
 rw [show its.toArray.any (eqU x) = its.any (eqU x) by simp, Vo r fs]
 exact q
theorem Qfk {K : Fg} {n : Nat} (hK : X.K = K) (hu : X.A.units + n < cLine) : OpR X (compareOp .Eq) (fun x y H Q => ∃ z : Str, x = .str z ∧ OdV K H y ∧ Q (.bl (decide (y = .str z))) H) := by
 subst hK
 intro pins s σ H x y v u Q I rx ry h
 obtain ⟨z, rfl, oy, q⟩ := h
 obtain ⟨t, rfl⟩ := rx
 rcases oy with fy | ⟨a, xs, rfl, hq⟩
 ·cases y with
  | non => cases ry; exact RcAt.str_none z t _ _ _ _ ⟨.bl _, H, I, rfl, by rw [zW (by intro h; cases h)] at q; exact q⟩
  | bl b => cases ry; exact RcAt.str_bool z t b _ _ _ _ ⟨.bl _, H, I, rfl, by rw [zW (by intro h; cases h)] at q; exact q⟩
  | int i => obtain ⟨t', rfl⟩ := ry; exact RcAt.str_int z t i t' _ _ _ _ ⟨.bl _, H, I, rfl, by rw [zW (by intro h; cases h)] at q; exact q⟩
  | str z' =>
   obtain ⟨t', rfl⟩ := ry
   refine RcAt.str_str z t z' t' _ _ _ _ ⟨.bl _, H, I, rfl, ?_⟩
   have e : (z == z') = decide (V.str z' = V.str z) := by
    rw [jXd, beq_iff_eq, decide_eq_true_iff]
    exact ⟨fun h => by rw [h], fun h => (V.str.inj h).symm⟩
   rw [e]
   exact q
  | _ => exact nomatch fy
 ·cases ry
  rw [zW (by intro h; cases h)] at q
  rcases hq with hq | hq
  ·obtain ⟨its, r, pl, _⟩ := I.list hq
   exact RcAt.str_list z t pl.isList (by omega) _ _ _ _ ⟨.bl _, H, I, rfl, q⟩
  ·obtain ⟨its, r, pl, _⟩ := I.tuple hq
   exact RcAt.str_tuple z t pl (by omega) _ _ _ _ ⟨.bl _, H, I, rfl, q⟩
theorem Qpv {K : Fg} {n : Nat} (hK : X.K = K) (hu : X.A.units + (n + 1) < cLine) : OpR X (compareOp .Eq) (fun x y H Q => ∃ (a b : Addr) (xs ys : List V), x = .ref a ∧ y = .ref b ∧ SqL K H a xs ∧ SqL K H b ys ∧ (∀ x ∈ xs, Yd x = true) ∧ (∀ x ∈ ys, OdV K H x) ∧
  ∀ c : Bool, (c = true ↔ xs.length = ys.length ∧ ∀ j, j < xs.length → eqV (xs.getD j .non) (ys.getD j .non) = true) → Q (.bl c) H) := by
 subst hK
 intro pins s σ H x y v u Q I rx ry h
 obtain ⟨a, b, xs, ys, rfl, rfl, h1, h2, f1, f2, q⟩ := h
 cases rx
 cases ry
 obtain ⟨its, r, pt, _⟩ := I.list h1
 obtain ⟨its', r', pt', _⟩ := I.list h2
 have l1 := r.length
 have l2 := r'.length
 have key : ∀ j (h1 : j < its.toArray.size) (h2 : j < its'.toArray.size), EqAt X.A.in1 s its.toArray[j] its'.toArray[j] (eqV (xs.getD j .non) (ys.getD j .non)) := fun j h1 h2 => by
  rw [jJ] at h1 h2
  have j1 : j < xs.length := by omega
  have j2 : j < ys.length := by omega
  obtain ⟨u1, e1, ru1⟩ := r.get (i := j) (x := xs[j]) (gE j1)
  obtain ⟨u2, e2, ru2⟩ := r'.get (i := j) (x := ys[j]) (gE j2)
  have z1 : its.toArray[j] = u1 := by rw [gE (by omega)] at e1; simpa using e1
  have z2 : its'.toArray[j] = u2 := by rw [gE (by omega)] at e2; simpa using e2
  rw [z1, z2, wW, wW, gE j1, gE j2]
  exact Qns (by show X.A.units + 1 < cLine; omega) I ru1 ru2 (f1 _ (jQa j1)) (f2 _ (jQa j2))
 by_cases hsz : its.toArray.size = its'.toArray.size
 ·refine RcAt.lists pt.isList pt'.isList hsz (by omega) key _ _ _ _ ⟨.bl _, H, I, rfl, q _ ?_⟩
  rw [Ka, jJ]
  rw [jJ, jJ] at hsz
  exact ⟨fun z => ⟨by omega, fun j hj => z j (by omega)⟩, fun z j hj => z.2 j (by omega)⟩
 ·have hne : (its.toArray.size != its'.toArray.size) = true := by simpa using hsz
  refine RcAt.lists_lengths pt.isList pt'.isList hne (by omega) _ _ _ _ ⟨.bl false, H, I, rfl, q _ ⟨fun z => (nomatch z), fun z => ?_⟩⟩
  rw [jJ, jJ] at hsz
  omega
theorem Qpw {K : Fg} {n : Nat} (hK : X.K = K) (hu : X.A.units + (n + 1) < cLine) : OpR X (compareOp .Eq) (fun x y H Q => ∃ (a b : Addr) (xs ys : List V), x = .ref a ∧ y = .ref b ∧ SqL K H a xs ∧ SqL K H b ys ∧ (∀ x ∈ ys, Yd x = true ∨ ∃ l, x = .ref l) ∧
  ((xs = ys ∧ Q (.bl true) H) ∨ (xs.length ≠ ys.length ∧ Q (.bl false) H))) := by
 subst hK
 intro pins s σ H x y v u Q I rx ry h
 obtain ⟨a, b, xs, ys, rfl, rfl, h1, h2, f2, q⟩ := h
 cases rx
 cases ry
 obtain ⟨its, r, pt, _⟩ := I.list h1
 obtain ⟨its', r', pt', _⟩ := I.list h2
 have l1 := r.length
 have l2 := r'.length
 rcases q with ⟨rfl, q⟩ | ⟨hl, q⟩
 ·have key : ∀ j (h1 : j < its.toArray.size) (h2 : j < its'.toArray.size), EqAt X.A.in1 s its.toArray[j] its'.toArray[j] ((fun _ => true) j) := fun j h1 h2 => by
   rw [jJ] at h1 h2
   have j1 : j < xs.length := by omega
   obtain ⟨u1, e1, ru1⟩ := r.get (i := j) (x := xs[j]) (gE j1)
   obtain ⟨u2, e2, ru2⟩ := r'.get (i := j) (x := xs[j]) (gE j1)
   have z1 : its.toArray[j] = u1 := by rw [gE (by omega)] at e1; simpa using e1
   have z2 : its'.toArray[j] = u2 := by rw [gE (by omega)] at e2; simpa using e2
   rw [z1, z2]
   rcases f2 _ (jQa j1) with hf | ⟨l, e⟩
   ·have := Vn (A := X.A.in1) (s := s) ru1 ru2 hf hf
    rw [Qba hf] at this
    exact this
   ·rw [e] at ru1 ru2
    cases ru1
    cases ru2
    exact EqAt.same _
  have hsz : its.toArray.size = its'.toArray.size := by rw [jJ, jJ]; omega
  have hb : ((List.range its.toArray.size).all (fun _ => true)) = true := by
   rw [Ka]
   exact fun _ _ => rfl
  have t1 := RcAt.lists pt.isList pt'.isList hsz (by omega) key
  rw [hb] at t1
  exact t1 _ _ _ _ ⟨.bl true, H, I, rfl, q⟩
 ·have hne : (its.toArray.size != its'.toArray.size) = true := by
   rw [jJ, jJ, bne_iff_ne]
   omega
  exact RcAt.lists_lengths pt.isList pt'.isList hne (by omega) _ _ _ _ ⟨.bl false, H, I, rfl, q⟩
end
end L2
namespace Nb
open PySem L2
abbrev sIWv : Stmt := top 7
def CellV (K : Fg) (H : Hp) (v : V) : Prop := OdV K H v ∧ ∀ x, v = .str x → Plain x
def Qfl : V → Bool
 | .int _ => true
 | _ => false
def Ju (v : V) : Prop := ∃ x, v = .str x ∧ NmOk x
def Qjx (K : Fg) : Sp := fun vs H Q _ => ∃ v : V, vs = [v] ∧ OdV K H v ∧ Q (.bl (Qfl v)) H
def Qbf (K : Fg) : Sp := fun vs H Q _ => ∃ v : V, vs = [v] ∧ CellV K H v ∧ ∀ (b : Bool) (H' : Hp), Same H H' → (b = true ↔ Ju v) → Q (.bl b) H'
theorem Qjy {K : Fg} {H H' : Hp} {v : V} (h : OdV K H v) (s : Same H H') : OdV K H' v := by
 rcases h with h | ⟨a, xs, rfl, h | h⟩
 ·exact .inl h
 ·exact .inr ⟨a, xs, rfl, .inl (s.seq h)⟩
 ·exact .inr ⟨a, xs, rfl, .inr (s.tup h)⟩
theorem CellV.same {K : Fg} {H H' : Hp} {v : V} (h : CellV K H v) (s : Same H H') : CellV K H' v := ⟨Qjy h.1 s, h.2⟩
theorem Qpx {K : Fg} {H : Hp} {k : Key} (h : KeyPl k) : CellV K H (kV k) := by
 cases k with
 | inl z => exact ⟨.inl rfl, fun x e => nomatch e⟩
 | inr x => exact ⟨.inl rfl, fun y e => by cases e; exact h⟩
section
variable {P : Program} {w : World} {K : Fg} {mg : Str → Option Value} {base : Heap}
theorem scIWv : FnScope ["thing"] ["thing"] (Qh sIWv) := ⟨rfl, rfl, rfl, by decide +kernel, rfl, by decide +kernel, by decide +kernel⟩
theorem okIWv  (F : Fn K mg "is_whole" sIWv) (M : Mg mg) : Cal P w K mg base 1 "is_whole" ["thing"] (Qjx K) := by
 refine Xr F scIWv (fun _ _ _ _ _ _ => bind1 (fun _ => rfl)) (fun vs H Q E h => ?_) (fun f cdv A outer s H vs Q E hr h => ?_)
 ·obtain ⟨v, rfl, _⟩ := h
  rfl
 obtain ⟨v, rfl, hv, q⟩ := h
 refine ⟨_, (Qi (Qv (Yo (Qo Xu rfl M.isinstance Qz (Qa (pv 0) (Qa (Kp M.int_ Qep) Qf))) (Zd (Qmz (Qo Xu rfl M.isinstance Qz (Qa (pv 0) (Qa (Kp M.bool_ Qif) Qf)))))))), ?_⟩
 rcases hv with hf | ⟨a, xs, rfl, hq⟩
 ·cases v with
  | int i =>
   refine ⟨_, rfl, _, "int", true, rfl, .int, rfl, true, rfl, iteT ?_⟩
   exact ⟨_, rfl, _, "bool", false, rfl, .bool, rfl, false, rfl, q⟩
  | bl i =>
   refine ⟨_, rfl, _, "int", true, rfl, .int, rfl, true, rfl, iteT ?_⟩
   exact ⟨_, rfl, _, "bool", true, rfl, .bool, rfl, true, rfl, q⟩
  | str x => exact ⟨_, rfl, _, "int", false, rfl, .int, rfl, false, rfl, iteF q⟩
  | non => exact ⟨_, rfl, _, "int", false, rfl, .int, rfl, false, rfl, iteF q⟩
  | _ => exact nomatch hf
 ·rcases hq with hq | hq
  ·exact ⟨_, rfl, _, "int", false, rfl, .int, .inr ⟨⟨_, hq⟩, rfl⟩, false, rfl, iteF q⟩
  ·exact ⟨_, rfl, _, "int", false, rfl, .int, .inl ⟨⟨_, hq⟩, rfl⟩, false, rfl, iteF q⟩
theorem okINv (F : Fn K mg "is_name" sIN) (M : Mg mg) : Cal P w K mg base 1 "is_name" ["thing"] (Qbf K) := by
 refine Xr F scIN (fun _ _ _ _ _ _ => bind1 (fun _ => rfl)) (fun vs H Q E h => ?_) (fun f cdv A outer s H vs Q E hr h => ?_)
 ·obtain ⟨v, rfl, _⟩ := h
  rfl
 obtain ⟨v, rfl, ⟨hv, hp⟩, q⟩ := h
 refine ⟨_, (Qi (Qv (Yo (Qo Xu rfl M.isinstance Qz (Qa (pv 0) (Qa (Kp M.str_ Qeu) Qf))) (Yo (Qei Qbr Qbr Qc (Qo Jc rfl M.len Xt (Qa (pv 0) Qf)) Qc) (Zd (Qo (Jz rfl) rfl M.all Qeo (Qa (Ko ["sign"] [none] rfl (Qnm (pv 0)) (fun _ _ _ => (Xf (i := 0) (show (["sign"] : List Str).Nodup by decide +kernel) rfl (Or.inl rfl) (Or.inr rfl))) (fun _ _ _ => Vr) (fun _ _ _ => (Qei Qcp Qcp Qp (pv 0) Qp))) Qf))))))), ?_⟩
 have no : (∀ x, v ≠ .str x) → Q (.bl false) H := fun h => q false H (Same.refl _) ⟨fun z => (nomatch z), fun ⟨x, e, _⟩ => absurd e (h x)⟩
 rcases hv with hf | ⟨a, xs, rfl, hq⟩
 ·cases v with
  | str x =>
   obtain ⟨pl, pz⟩ := hp x rfl
   have q : ∀ (b : Bool) (H' : Hp), Same H H' → (b = true ↔ NmOk x) → Q (.bl b) H' := fun b H' s' hb => q b H' s' (hb.trans ⟨fun h => ⟨x, rfl, h⟩, fun ⟨y, e, h⟩ => by cases e; exact h⟩)
   have hz : (2000000 : Nat) < sizeLine := by decide
   refine ⟨_, rfl, _, "str", true, rfl, .str, rfl, true, rfl, iteT ?_⟩
   refine ⟨_, rfl, x, rfl, by omega, _, _, rfl, rfl, _, rfl, ite2 (fun c1 => ?_) (fun c1 => ?_)⟩
   ·refine ⟨_, _, rfl, rfl, _, rfl, ite2 (fun c2 => ?_) (fun c2 => ?_)⟩
    ·refine ⟨_, rfl, x, rfl, pl, fun D hD => ?_⟩
     refine Wb V.bl (fun c => decide (97 ≤ c) && decide (c ≤ 122)) rfl Qfb (by rw [wZ]; show x.length < _; omega) hD (fun c hc H1 s1 P h => ?_) fun H1 s1 h1 => ?_
     ·refine ⟨_, rfl, _, _, rfl, rfl, _, rfl, ?_⟩
      rw [show (!decide ((⟨#[c]⟩ : Str).cps.toList < ("a" : Str).cps.toList)) = decide (97 ≤ c) from le1 97 c]
      refine ite2 (fun c1 => ⟨_, _, rfl, rfl, ?_⟩) (fun c1 => ?_)
      ·dsimp only
       rw [show (!decide (("z" : Str).cps.toList < (⟨#[c]⟩ : Str).cps.toList)) = decide (c ≤ 122) from le1 c 122]
       have h5 := h H1 (Same.refl _)
       rw [c1, jZe] at h5
       exact h5
      ·have h5 := h H1 (Same.refl _)
       rw [jYa.mpr c1, jKc] at h5
       exact h5
     ·have c1' := yY c1
      have c2' := yY c2
      refine ⟨D, _, rfl, Qb h1, q _ H1 s1 ?_⟩
      rw [Qjn]
      exact ⟨fun h => ⟨by omega, by omega, h⟩, fun h => h.2.2⟩
    ·refine q false H (Same.refl _) ⟨fun h => (nomatch h), fun h => absurd ?_ c2⟩
     have h2 := h.2.1
     exact yK (by show ((x.length : Nat) : Int) ≤ 12; omega)
   ·refine ⟨false, rfl, iteF (q false H (Same.refl _) ⟨fun h => (nomatch h), fun h => absurd ?_ c1⟩)⟩
    have h1 := h.1
    exact yK (by show (1 : Int) ≤ ((x.length : Nat) : Int); omega)
  | int i => exact ⟨_, rfl, _, "str", false, rfl, .str, rfl, false, rfl, iteF (no fun x e => nomatch e)⟩
  | bl i => exact ⟨_, rfl, _, "str", false, rfl, .str, rfl, false, rfl, iteF (no fun x e => nomatch e)⟩
  | non => exact ⟨_, rfl, _, "str", false, rfl, .str, rfl, false, rfl, iteF (no fun x e => nomatch e)⟩
  | _ => exact nomatch hf
 ·rcases hq with hq | hq
  ·exact ⟨_, rfl, _, "str", false, rfl, .str, .inr ⟨⟨_, hq⟩, rfl⟩, false, rfl, iteF (no fun x e => nomatch e)⟩
  ·exact ⟨_, rfl, _, "str", false, rfl, .str, .inl ⟨⟨_, hq⟩, rfl⟩, false, rfl, iteF (no fun x e => nomatch e)⟩
end
abbrev sIFv : Stmt := top 13
def RowV (K : Fg) (H : Hp) (v : V) : Prop := Yd v = true ∨ (∃ l xs, v = .ref l ∧ H l = some (.tup xs)) ∨ ∃ l xs, v = .ref l ∧ H l = some (.lst xs) ∧ xs.length ≤ 1000 ∧ ∀ c ∈ xs, CellV K H c
theorem RowV.same {K : Fg} {H H' : Hp} {v : V} (h : RowV K H v) (s : Same H H') : RowV K H' v := by
 rcases h with h | ⟨l, xs, rfl, h⟩ | ⟨l, xs, rfl, h, hl, hc⟩
 ·exact .inl h
 ·exact .inr (.inl ⟨l, xs, rfl, s _ _ h⟩)
 ·exact .inr (.inr ⟨l, xs, rfl, s _ _ h, hl, fun c hm => (hc c hm).same s⟩)
def RowIs (H : Hp) (v : V) (r : BR) : Prop := ∃ l, v = .ref l ∧ H l = some (.lst (r.cells.map kV))
theorem RowIs.same {H H' : Hp} {v : V} {r : BR} (h : RowIs H v r) (s : Same H H') : RowIs H' v r := by obtain ⟨l, e, h⟩ := h; exact ⟨l, e, s _ _ h⟩
def Qbg (H : Hp) (v : V) : Prop := ∃ r : BR, RowIs H v r ∧ r.gn
def Kk (H : Hp) (A : List BR) (v : V) : Prop := ∃ r, RowIs H v r ∧ Fit A r.cells r
def Qcx (K : Fg) : Sp := fun vs H Q _ => ∃ v, vs = [v] ∧ RowV K H v ∧ ∀ (b : Bool) (H' : Hp), Same H H' → (b = true ↔ Qbg H v) → Q (.bl b) H'
theorem cutm {x : V} {xs : List V} {n : Nat} (h : n ≤ xs.length) : cutV (x :: xs) (some 1) (some (1 + ((n : Nat) : Int))) = xs.take n := by
 have h1 : (1 : Int) + ((n : Nat) : Int) = ((1 + n : Nat) : Int) := by omega
 rw [h1]
 unfold cutV
 rw [show (1 : Int) = ((1 : Nat) : Int) from rfl, HT.sIx_nat, HT.sIx_nat, yZ, xX (by omega), xX (by omega), Nat.add_sub_cancel_left]
 rfl
theorem cute {x : V} {xs : List V} {n : Nat} (h : n ≤ xs.length) : cutV (x :: xs) (some (1 + ((n : Nat) : Int))) none = xs.drop n := by
 have h1 : (1 : Int) + ((n : Nat) : Int) = ((1 + n : Nat) : Int) := by omega
 rw [h1]
 unfold cutV
 rw [HT.sIx_none, HT.sIx_nat, yZ, xX (by omega), Nat.add_comm 1 n]
 show List.take (xs.length + 1 - (n + 1)) (xs.drop n) = _
 rw [jZb (by rw [jXa]; omega)]
open Classical in
def nmBv (v : V) : Bool := decide (Ju v)
open Classical in
theorem Vg (v : V) : nmBv v = true ↔ Ju v := by unfold nmBv; exact decide_eq_true_iff
theorem Qfm : ∀ {cs : List V}, (∀ v ∈ cs, Ju v ∨ Qfl v = true) → ∃ ks : List Key, cs = ks.map kV
 | [], _ => ⟨[], rfl⟩
 | v :: cs, h => by
  obtain ⟨ks, e⟩ := Qfm fun u hu => h u (kX _ hu)
  rcases h v jY with ⟨x, rfl, _⟩ | h1
  ·exact ⟨.inr x :: ks, by rw [e]; rfl⟩
  ·cases v with
   | int z => exact ⟨.inl z :: ks, by rw [e]; rfl⟩
   | _ => exact nomatch h1
theorem Qnt {k : Key} (h : Ju (kV k)) : IsNm k := by
 obtain ⟨x, e, h⟩ := h
 cases k with
 | inl z => exact nomatch e
 | inr y => cases e; exact ⟨_, rfl, h⟩
theorem Qpy {k : Key} (h : Qfl (kV k) = true) : isInt k = true := by
 cases k with
 | inl z => rfl
 | inr y => exact nomatch h
theorem Qjz (v : V) : (∃ x, v = .str x) ∨ ∀ x, v ≠ .str x := by
 cases v with
 | str x => exact .inl ⟨x, rfl⟩
 | _ => exact .inr fun x e => nomatch e
theorem Qea {K : Fg} {H : Hp} {v : V} (h : OdV K H v) (hn : ∀ x, v ≠ .str x) : isiW K H v "str" false := by
 rcases h with hf | ⟨a, xs, rfl, hq | hq⟩
 ·cases v with
  | str x => exact absurd rfl (hn x)
  | non => rfl
  | int i => rfl
  | bl i => rfl
  | _ => exact nomatch hf
 ·exact .inr ⟨⟨_, hq⟩, rfl⟩
 ·exact .inl ⟨⟨_, hq⟩, rfl⟩
section
variable {P : Program} {w : World} {K : Fg} {mg : Str → Option Value} {base : Heap}
theorem scIFv : FnScope ["row", "behind"] ["row"] (Qh sIFv) := ⟨rfl, rfl, rfl, by decide +kernel, rfl, by decide +kernel, by decide +kernel⟩
theorem okIFv {aN aB : Addr} {fN fB : Str → Option Value} (TN : TvTab w K mg "NAMES" 1 namesT aN fN) (TB : TvTab w K mg "BOUNDS" 3 boundsT aB fB) (F : Fn K mg "is_formed" sIFv) (M : Mg mg) (c_is_name : Cal P w K mg base 1 "is_name" ["thing"] (Qbf K)) (c_is_whole : Cal P w K mg base 1 "is_whole" ["thing"] (Qjx K)) : Cal P w K mg base 2 "is_formed" ["row"] (Qcx K) := by
 refine Xr F scIFv (fun _ _ _ _ _ _ => bind1 (fun _ => rfl)) (fun vs H Q E h => ?_) (fun f cdv A outer s H vs Q E hr h => ?_)
 ·obtain ⟨v, rfl, _⟩ := h
  rfl
 obtain ⟨v, rfl, hv, q⟩ := h
 refine ⟨_, (Qg (Xi (PW.pt (Jb (Zj (Yn (Qo Xu rfl M.isinstance Qz (Qa (pv 0) (Qa (Kp M.list_ Jr) Qf))))) (Jb (Ql Xy (Qo Qt rfl M.len Xt (Qa (pv 0) Qf)) Qc (Qm _)) (Jb (Zj (Yn (Qo Xu rfl M.isinstance Qz (Qa (Qn Qj (pv 0) Qc (fun _ _ => rfl)) (Qa (Kp M.str_ Qeu) Qf))))) (Ja (Qmy (Qis TN.tab (Qn Qj (pv 0) Qc (fun _ _ => rfl))) rfl)))))) (Qi (Qv Zm)) Qu)
  (Qg (Qs (i := 1) scIFv.nd rfl (Or.inl rfl) (Qk Qw Qc (Qn (Qgq TN) (Zh (v := .ref aN) rfl TN.tab.bound rfl) (Qn Qj (pv 0) Qc (fun _ _ => rfl)) (fun _ _ => rfl))))
  (Qg (Xi (Ql Qal (Qo Qt rfl M.len Xt (Qa (pv 0) Qf)) (Qk Qw (pv 1) (Qo Qt rfl M.len Xt (Qa (Qn (Qgq TB) (Zh (v := .ref aB) rfl TB.tab.bound rfl) (Qn Qj (pv 0) Qc (fun _ _ => rfl)) (fun _ _ => rfl)) Qf))) (Qm _)) (Qi (Qv Zm)) Qu)
  (Qi (Qv (Yo (Qo (Jz rfl) rfl M.all Qeo (Qa (Ko ["name"] [none] rfl (Yv (Xe Xl (pv 0) (Xg Qc) (Xg (pv 1)))) (fun _ _ _ => (Xf (i := 0) (show (["name"] : List Str).Nodup by decide +kernel) rfl (Or.inl rfl) (Or.inr rfl))) (fun _ _ _ => Vr) (fun _ _ _ => (Xd c_is_name (hr.mono (by decide)) (Qa (pv 0) Qf)))) Qf)) (Zd (Qo (Jz rfl) rfl M.all Qeo (Qa (Ko ["number"] [none] rfl (Yv (Xe Xl (pv 0) (Xg (pv 1)) Xm)) (fun _ _ _ => (Xf (i := 0) (show (["number"] : List Str).Nodup by decide +kernel) rfl (Or.inl rfl) (Or.inr rfl))) (fun _ _ _ => Vr) (fun _ _ _ => (Xd c_is_whole (hr.mono (by decide)) (Qa (pv 0) Qf)))) Qf))))))))), ?_⟩
 refine Jk ?_
 intro rT4 rT3 rT2
 have hz : (2000000 : Nat) < sizeLine := by decide
 have no : (¬ Qbg H v) → ∀ H', Same H H' → Q (.bl false) H' := fun h H' s' => q false H' s' ⟨fun z => (nomatch z), fun z => absurd z h⟩
 rcases hv with hf | ⟨l, xs, rfl, hl⟩ | ⟨l, xs, rfl, hl, hlen, hc⟩
 ·have nf : ¬ Qbg H v := fun ⟨r, ⟨l, e, _⟩, _⟩ => by rw [e] at hf; exact nomatch hf
  cases v with
  | str x => exact ⟨_, rfl, _, "list", false, rfl, .list, rfl, false, rfl, iteT (iteT (no nf H (Same.refl _)))⟩
  | non => exact ⟨_, rfl, _, "list", false, rfl, .list, rfl, false, rfl, iteT (iteT (no nf H (Same.refl _)))⟩
  | int i => exact ⟨_, rfl, _, "list", false, rfl, .list, rfl, false, rfl, iteT (iteT (no nf H (Same.refl _)))⟩
  | bl i => exact ⟨_, rfl, _, "list", false, rfl, .list, rfl, false, rfl, iteT (iteT (no nf H (Same.refl _)))⟩
  | _ => exact nomatch hf
 ·have nf : ¬ Qbg H (.ref l) := fun ⟨r, ⟨l', e, h⟩, _⟩ => by cases e; rw [hl] at h; exact nomatch h
  exact ⟨_, rfl, _, "list", false, rfl, .list, .inl ⟨⟨_, Zc hl⟩, rfl⟩, false, rfl, iteT (iteT (no nf H (Same.refl _)))⟩
 have is : ∀ r : BR, RowIs H (.ref l) r → xs = r.cells.map kV := fun r ⟨l', e, h⟩ => by cases e; rw [hl] at h; exact HO.lst.inj (Option.some.inj h)
 refine ⟨_, rfl, _, "list", true, rfl, .list, .inr ⟨⟨_, Qb hl⟩, rfl⟩, true, rfl, iteF ?_⟩
 refine ⟨_, rfl, l, _, rfl, .inl (Qb hl), rfl, _, rfl, ite2 (fun c => ?_) (fun c => ?_)⟩
 ·have e := yY c
  injection e with e
  have e0 : xs = [] := jQb.mp (by omega)
  exact no (fun ⟨r, h1, _⟩ => Za r (List.map_eq_nil_iff.mp (by rw [← is r h1, e0]))) H (Same.refl _)
 cases xs with
 | nil => exact absurd (yK rfl) c
 | cons c0 cs =>
  clear c
  have a0 : atI (c0 :: cs) 0 = some c0 := Zp (k := 0) rfl
  rcases Qjz c0 with ⟨w, rfl⟩ | hn
  rotate_left
  ·refine ⟨_, rfl, l, _, _, _, rfl, rfl, Qb hl, a0, _, "str", false, rfl, .str, Qea (hc c0 jY).1 hn, false, rfl, iteT (iteT ?_)⟩
   exact no (fun ⟨r, h1, _⟩ => by
    have := is r h1
    rw [Yc] at this
    exact hn _ (List.cons.inj this).1) H (Same.refl _)
  ·refine ⟨_, rfl, l, _, _, _, rfl, rfl, Qb hl, a0, _, "str", true, rfl, .str, rfl, true, rfl, iteF ?_⟩
   by_cases hw : ∃ i, i < 11 ∧ w = wordOf i
   ·obtain ⟨i, hi, rfl⟩ := hw
    obtain ⟨v0, y0, e0, _⟩ := TN.yes _ _ (Qfj hi)
    refine ⟨_, rfl, l, _, _, _, rfl, rfl, Qb hl, a0, _, rfl, _, rfl, ite2 (fun c => ?_) (fun _ => ?_)⟩
    ·rw [e0] at c; exact absurd (show false = true from c) yQ
    refine ⟨_, rfl, l, _, _, _, rfl, rfl, Qb hl, a0, _, _, rfl, rfl, Qfj hi, fun v hv => ?_⟩
    cases hv
    refine ⟨_, _, rfl, rfl, ?_⟩
    refine ⟨_, rfl, l, _, rfl, .inl (Qb hl), _, rfl, _, rfl, l, _, _, _, rfl, rfl, Qb hl, a0, _, _, rfl, rfl, Qjr hi, fun v hv => ?_⟩
    obtain ⟨a, ys, rfl, hx, hpx⟩ := hv
    have lx := Paired.length hpx
    rw [jW] at lx
    have kfr : ∀ {r : BR}, (V.str (wordOf i)) :: cs = r.cells.map kV → r.kind = i ∧ cs = r.names.map V.str ++ r.nums.map V.int := fun {r} e1 => by
     rw [Yc] at e1
     have h1 := V.str.inj (List.cons.inj e1).1
     rw [Xz] at h1
     exact ⟨(Yl _ hi _ (Ye r) h1).symm, (List.cons.inj e1).2⟩
    refine ⟨a, ys, rfl, .inr (hx _), _, _, rfl, rfl, rfl, _, rfl, ite2 (fun c => ?_) (fun c => ?_)⟩
    ·refine no (fun ⟨r, h1, _⟩ => not_true c (yK ?_)) H (Same.refl _)
     have e1 := is r h1
     have hk := (kfr e1).1
     rw [e1, Kx, lx, Zb, ← Qbe, hk]
     congr 1
    have hlen2 : cs.length = nmK i + (bdsK i).length := by
     by_cases e : cs.length = nmK i + (bdsK i).length
     ·exact e
     ·refine absurd (show (!decide _) = true from ?_) c
      rw [jXf, decide_eq_false_iff_not]
      intro z
      injection z with z
      rw [yZ, lx] at z
      omega
    clear c
    have hl5 : cs.length ≤ 1000 := by rw [yZ] at hlen; omega
    refine ⟨_, rfl, _, rfl, _, rfl, _, rfl, l, _, rfl, Qb hl, fun p1 hp1 => ?_⟩
    dsimp only
    rw [cutm (by omega)]
    have s1 := Qd hp1 (.lst (cs.take (nmK i)))
    have hp11 : upd H p1 (.lst (cs.take (nmK i))) p1 = some (.lst (cs.take (nmK i))) := Qe
    generalize upd H p1 (.lst (cs.take (nmK i))) = H1 at s1 hp11 ⊢
    refine ⟨p1, rfl, ⟨_, Qb hp11⟩, fun D hD => ?_⟩
    refine Wb V.bl nmBv rfl (Yj (xs := cs.take (nmK i)) (val := id) (Qb (by rw [jKa]; exact hp11))) (by rw [zZ]; omega) hD (fun x hx H2 s2 P h => ?_) fun H2 s2 h2 => ?_
    ·exact ⟨_, rfl, x, rfl, (hc x (kX _ (jYb hx))).same (s1.trans s2), fun b H3 s3 hb => by rw [Qjm hb (Vg x)]; exact h H3 s3⟩
    refine ⟨D, _, rfl, Qb h2, _, rfl, ite2 (fun c1 => ?_) (fun c1 => ?_)⟩
    ·have hl2 := (s1.trans s2) _ _ hl
     refine ⟨_, rfl, _, rfl, _, rfl, l, _, rfl, Qb hl2, fun p3 hp3 => ?_⟩
     dsimp only
     rw [cute (by omega)]
     have s3 := Qd hp3 (.lst (cs.drop (nmK i)))
     have hp33 : upd H2 p3 (.lst (cs.drop (nmK i))) p3 = some (.lst (cs.drop (nmK i))) := Qe
     generalize upd H2 p3 (.lst (cs.drop (nmK i))) = H3 at s3 hp33 ⊢
     refine ⟨p3, rfl, ⟨_, Qb hp33⟩, fun D2 hD2 => ?_⟩
     refine Wb V.bl Qfl rfl (Yj (xs := cs.drop (nmK i)) (val := id) (Qb (by rw [jKa]; exact hp33))) (by rw [jXa]; omega) hD2 (fun x hx H4 s4 P h => ?_) fun H4 s4 h4 => ?_
     ·exact ⟨_, rfl, x, rfl, Qjy (hc x (kX _ (List.mem_of_mem_drop hx))).1 (((s1.trans s2).trans s3).trans s4), h H4 (Same.refl _)⟩
     refine ⟨D2, _, rfl, Qb h4, q _ H4 (((s1.trans s2).trans s3).trans s4) ?_⟩
     constructor
     ·intro h
      obtain ⟨ks, rfl⟩ : ∃ ks : List Key, cs = ks.map kV := Qfm fun v hv => by
       rw [← jKe (nmK i) cs] at hv
       rcases kQ.mp hv with hv | hv
       ·exact .inl ((Vg v).mp (all_f.mp c1 v hv))
       ·exact .inr (all_f.mp h v hv)
      rw [jW] at hlen2
      obtain ⟨r, e, hg⟩ := Qjt hi hlen2 (fun k hk => Qnt ((Vg _).mp (all_f.mp c1 _ (by rw [← kQb]; exact jYd hk)))) (fun k hk => Qpy (all_f.mp h _ (by rw [← List.map_drop]; exact jYd hk)))
      exact ⟨r, ⟨l, rfl, by rw [hl, ← e]; rfl⟩, hg⟩
     ·rintro ⟨r, h1, hg⟩
      refine all_f.mpr fun k hk => ?_
      obtain ⟨hkd, e3⟩ := kfr (is r h1)
      have ln : (r.names.map V.str).length = nmK i := by rw [jW, Zb, hkd]; rfl
      rw [e3, List.drop_left' ln] at hk
      obtain ⟨z, _, rfl⟩ := xZ.mp hk
      rfl
    ·refine no (fun ⟨r, h1, hg⟩ => c1 (all_f.mpr fun k hk => ?_)) H2 (s1.trans s2)
     obtain ⟨hkd, e3⟩ := kfr (is r h1)
     have ln : (r.names.map V.str).length = nmK i := by rw [jW, Zb, hkd]; rfl
     rw [e3, kYf ln] at hk
     obtain ⟨x, hx, rfl⟩ := xZ.mp hk
     exact (Vg _).mpr ⟨x, rfl, hg x hx⟩
   ·refine ⟨_, rfl, l, _, _, _, rfl, rfl, Qb hl, a0, _, rfl, _, rfl, ?_⟩
    rw [TN.no _ (Qgx fun i hi e => hw ⟨i, hi, e⟩)]
    refine iteT ?_
    exact no (fun ⟨r, h1, _⟩ => hw ⟨r.kind, Ye r, by
     have := is r h1
     rw [Yc] at this
     rw [← Xz]
     exact V.str.inj (List.cons.inj this).1⟩) H (Same.refl _)
end
abbrev sIRw : Stmt := top 17
abbrev sLov : Stmt := top 18
def Qfn (K : Fg) : Sp := fun vs H Q _ => ∃ (v : V) (sd : Addr) (d : Int) (kvs : List (List Key × V)) (A : List BR), vs = [v, .int d, .ref sd] ∧ H sd = some (.dT kvs) ∧ RowV K H v ∧ (∀ κ, (valV kvs κ).isSome = true ↔ Said A κ) ∧ d = Ym A ∧
 ∀ (b : Bool) (H' : Hp), Same H H' → (b = true ↔ Kk H A v) → Q (.bl b) H'
theorem Qag {H : Hp} {v : V} {r q : BR} (h : RowIs H v r) (h' : RowIs H v q) : q = r := by
 obtain ⟨l, rfl, h⟩ := h
 obtain ⟨l', e, h'⟩ := h'
 cases e
 rw [h] at h'
 exact (Wh (Qac (HO.lst.inj (Option.some.inj h')))).symm
theorem Qgy {K : Fg} {H H' : Hp} {v : V} {r : BR} (hv : RowV K H v) (s : Same H H') (h : RowIs H' v r) : RowIs H v r := by
 obtain ⟨l, rfl, h⟩ := h
 rcases hv with hf | ⟨l', xs, e, hl⟩ | ⟨l', xs, e, hl, _⟩
 ·exact nomatch hf
 ·cases e; have := s _ _ hl; rw [h] at this; exact nomatch this
 ·cases e; have := s _ _ hl; rw [h] at this; exact ⟨l, rfl, by rw [hl, HO.lst.inj (Option.some.inj this)]⟩
theorem Wk {K : Fg} {H H' : Hp} {v : V} {A : List BR} (hv : RowV K H v) (s : Same H H') : Kk H' A v ↔ Kk H A v := ⟨fun ⟨r, h, f⟩ => ⟨r, Qgy hv s h, f⟩, fun ⟨r, h, f⟩ => ⟨r, h.same s, f⟩⟩
def Wl (K : Fg) (C : Addr) : Sp := fun vs H Q E => ∃ (d : Addr) (us : List V), vs = [.ref d] ∧ H d = some (.lst us) ∧ (∀ v ∈ us, RowV K H v) ∧ us.length ≤ 200000 ∧
 (us = [] → RE C H 0 E) ∧
 (∀ A, us ≠ [] → Good A → RowsB H us A → ∀ H', Same H H' → Q .non H') ∧
 (∀ A i v, Good A → A.length = i → RowsB H (us.take i) A → us[i]? = some v → (¬ Kk H A v) → RE C H (i : Int) E)
section
variable {P : Program} {w : World} {K : Fg} {mg : Str → Option Value} {base : Heap}
theorem scIRw : FnScope ["row", "days", "said"] ["row", "days", "said"] (Qh sIRw) := ⟨rfl, rfl, rfl, by decide +kernel, rfl, by decide +kernel, by decide +kernel⟩
theorem okIRw  (F : Fn K mg "is_row_of_book" sIRw) (M : Mg mg) (c_is_formed : Cal P w K mg base 2 "is_formed" ["row"] (Qcx K)) (c_is_within : Cal P w K mg base 1 "is_within" ["row", "days"] (Qcv)) (c_said_by : Cal P w K mg base 1 "said_by" ["row"] (Qjo)) (c_needed_by : Cal P w K mg base 1 "needed_by" ["row"] (Qff)) : Cal P w K mg base 3 "is_row_of_book" ["row", "days", "said"] (Qfn K) := by
 refine Xr F scIRw (fun _ _ _ _ _ _ => Qcn (fun _ _ _ => rfl)) (fun vs H Q E h => ?_) (fun f cdv A outer s H vs Q E hr h => ?_)
 ·obtain ⟨v, sd, d, kvs, A, rfl, _⟩ := h
  rfl
 obtain ⟨v, sd, d, kvs, B, rfl, hsd, hv, hsaid, hd, q⟩ := h
 have hu : (A.deeper (PyProof.Rows.envOfC "is_row_of_book" (Qh sIRw) s.heap.objs.size f cdv)).units + 1 < cLine := zV (zX (by decide) _) hr.un
 refine ⟨_, (Qg (Xi (PW.pt (Jb (Zj (Yn (Xd c_is_formed (hr.mono (by decide)) (Qa (pv 0) Qf)))) (Ja (Zj (Yn (Xd c_is_within (hr.mono (by decide)) (Qa (pv 0) (Qa (pv 1) Qf)))))))) (Qi (Qv Zm)) Qu)
  (Qg (Xi (PW.pt (Zi (Ql Qal (Qn Qj (pv 0) Qc (fun _ _ => rfl)) Qp (Qm _)) (Yu (Qmy (Qni hu (Xd c_said_by (hr.mono (by decide)) (Qa (pv 0) Qf)) (pv 2)))))) (Qi (Qv Zm)) Qu)
  (Qi (Qv (Qo (Jz rfl) rfl M.all Qeo (Qa (Ko ["need", "said"] [none, some 2] rfl (Yv (Xd c_needed_by (hr.mono (by decide)) (Qa (pv 0) Qf))) (fun _ _ _ => (Xf (i := 0) (show (["need", "said"] : List Str).Nodup by decide +kernel) rfl (Or.inl rfl) (Or.inr rfl))) (fun _ _ _ => Vr) (fun _ _ _ => (pe_cmp (Qni hu (pv 0) (pv 1))))) Qf)))))), ?_⟩
 refine Qau ?_
 intro rT3 rT2
 have hz : (2000000 : Nat) < sizeLine := by decide
 refine ⟨_, rfl, v, rfl, hv, fun b1 H1 s1 hb1 => ?_⟩
 refine ⟨b1, rfl, ?_⟩
 cases b1 with
 | false => exact iteT (iteT (q false H1 s1 ⟨fun z => (nomatch z), fun ⟨r, hi, f⟩ => hb1.mpr ⟨r, hi, f.gn⟩⟩))
 | true =>
  refine iteF ?_
  obtain ⟨r, hi, hg⟩ := hb1.mp rfl
  obtain ⟨l, rfl, hl⟩ := id hi
  have eqv : Kk H B (.ref l) ↔ ∃ q, Fit B r.cells q := ⟨fun ⟨q, h, f⟩ => by rw [Qag hi h] at f; exact ⟨r, f⟩, fun ⟨q, f⟩ => by have e := Wh f.eq; subst e; exact ⟨r, hi, f⟩⟩
  have q : ∀ (b : Bool) (H' : Hp), Same H H' → (b = true ↔ ∃ q, Fit B r.cells q) → Q (.bl b) H' := fun b H' s' hb => q b H' s' (hb.trans eqv.symm)
  have no : (¬ ∃ q, Fit B r.cells q) → ∀ H', Same H H' → Q (.bl false) H' := fun h H' s' => q false H' s' ⟨fun z => (nomatch z), fun z => absurd z h⟩
  have uniq : ∀ {q : BR}, Fit B r.cells q → q = r := fun f => Wh f.eq.symm
  have hl1 := s1 _ _ hl
  refine ⟨_, rfl, _, rfl, l, d, r, rfl, hl1, fun b2 H2 s2 hb2 => ?_⟩
  have s12 := s1.trans s2
  refine ⟨b2, rfl, ?_⟩
  cases b2 with
  | false => exact iteT (no (fun ⟨q', f⟩ => yQ (hb2.mpr (by have := f.inn; rw [uniq f, ← hd] at this; exact this))) H2 s12)
  | true =>
   refine iteF ?_
   have hin := hb2.mp rfl
   rw [hd] at hin
   have hl2 := s12 _ _ hl
   have rest : (r.word ≠ "shut" → ¬ Said B r.key) → ∀ H3, Same H H3 → rT3 { nx := fun x H' => Q V.non H', rt := Q } (L2.start ["row", "days", "said"] [V.ref l, V.int d, V.ref sd]) H3 := fun hnw H3 s3 => by
    refine ⟨_, rfl, l, r, rfl, s3 _ _ hl, fun g ys H4 s4 hg4 ht4 => ?_⟩
    refine ⟨g, rfl, ⟨_, Qb hg4⟩, fun D hD => ?_⟩
    obtain ⟨zs, rfl, ezs, hzs⟩ := Qjv ht4
    have few := (Qct r).1
    have lz : zs.length ≤ 2 := by
     have e5 := congrArg List.length ezs
     rw [jW, Qfd, jW] at e5
     omega
    refine Wb V.bl (fun z : Addr × List Key => (valV kvs z.2).isSome) rfl (Yj (val := fun z : Addr × List Key => V.ref z.1) (Qb hg4)) (by omega) hD (fun z hz' H5 s5 P h => ?_) fun H5 s5 h5 => ?_
    ·exact ⟨_, rfl, _, rfl, sd, _, rfl, DGet.t (((s3.trans s4).trans s5) _ _ hsd) (s5 _ _ (hzs z hz')), h H5 (Same.refl _)⟩
    refine ⟨D, _, rfl, Qb h5, q _ H5 ((s3.trans s4).trans s5) ?_⟩
    constructor
    ·intro h
     refine ⟨r, rfl, hg, hin, hnw, fun k hk => ?_⟩
     rw [← ezs] at hk
     obtain ⟨z, hz', rfl⟩ := xZ.mp hk
     exact (hsaid _).mp (all_f.mp h z hz')
    ·rintro ⟨q', f⟩
     refine all_f.mpr fun z hz' => (hsaid _).mpr ?_
     have := f.nd z.2 (by rw [uniq f, ← ezs]; exact jYd (f := (·.2)) hz')
     exact this
   refine ⟨_, rfl, l, _, _, _, rfl, rfl, Qb hl2, Zr r, rfl, _, rfl, ite2 (fun c => ?_) (fun c => ?_)⟩
   ·have hw : r.word ≠ "shut" := fun e => not_true c (by rw [e]; exact yesS _)
    refine ⟨_, rfl, l, r, rfl, hl2, fun t H3 s3 ft ht => ?_⟩
    refine ⟨_, rfl, sd, _, rfl, DGet.t ((s12.trans s3) _ _ hsd) ht, _, rfl, ite2 (fun c5 => ?_) (fun c5 => ?_)⟩
    ·exact no (fun ⟨q', f⟩ => by
      have h7 := f.nw
      rw [uniq f] at h7
      exact h7 hw ((hsaid _).mp c5)) H3 (s12.trans s3)
    ·exact rest (fun _ hs => c5 ((hsaid _).mpr hs)) H3 (s12.trans s3)
   ·refine rest (fun hw => ?_) H2 s12
    exact absurd (show (!decide (V.str r.word = V.str "shut")) = true by rw [jXf, decide_eq_false_iff_not]; exact fun z => hw (V.str.inj z)) c
theorem scLov : FnScope ["rows", "said", "days", "number", "row"] ["rows"] (Qh sLov) := ⟨rfl, rfl, rfl, by decide +kernel, rfl, by decide +kernel, by decide +kernel⟩
theorem okLov {C D fI : Addr} {fdI : FuncData} {fo : Obj} (NB : NBk P w K mg base C D fI fdI fo) (F : Fn K mg "looked" sLov) (M : Mg mg) (c_is_row_of_book : Cal P w K mg base 3 "is_row_of_book" ["row", "days", "said"] (Qfn K)) (c_said_by : Cal P w K mg base 1 "said_by" ["row"] (Qjo)) : CalG P w K mg base C 4 "looked" ["rows"] (Wl K C) := by
 refine Qps F scLov (fun _ _ _ _ _ _ => bind1 (fun _ => rfl)) (fun vs H Q E h => ?_) (fun f cdv A outer s H vs Q E hr h => ?_)
 ·obtain ⟨d, us, rfl, _⟩ := h
  rfl
 obtain ⟨d, us, rfl, hd, hV, hlen, h0, hok, hbad⟩ := h
 have hu : (A.deeper (PyProof.Rows.envOfC "looked" (Qh sLov) s.heap.objs.size f cdv)).units + 1 < cLine := zV (zX (by decide) _) hr.un
 refine ⟨_, (Qg (Xi (Ql Xy (Qo Qt rfl M.len Xt (Qa (pv 0) Qf)) Qc (Qm _)) (Qi (Qcs NB.ei NB.gi NB.bi NB.lk NB.fc NB.kc (hr.mono (by decide)) (Qa Qc Qf))) Qu)
  (Qg (Qs (i := 1) scLov.nd rfl (Or.inl rfl) Qls)
  (Qg (Qs (i := 2) scLov.nd rfl (Or.inl rfl) Qc)
  (Qi (Ze PassesOwn.leaving rfl (Qin true rfl M.enumerate_ (Qa (pv 0) Qf)) (Qdj (K := K) (i := 3) (j := 4) rfl rfl scLov.nd rfl rfl rfl rfl) (Qg (Xi (Zj (Yn (Xd c_is_row_of_book (hr.mono (by decide)) (Qa (pv 4) (Qa (pv 2) (Qa (pv 1) Qf)))))) (Qi (Qcs NB.ei NB.gi NB.bi NB.lk NB.fc NB.kc (hr.mono (by decide)) (Qa (pv 3) Qf))) Qu)
  (Qg (Qop hu (pv 1) (Xd c_said_by (hr.mono (by decide)) (Qa (pv 4) Qf)) Zm rfl)
  (Qi (Qs (i := 2) scLov.nd rfl (Or.inl rfl) (Qn Qj (Qn Qj (pv 0) Qc (fun _ _ => rfl)) Qc (fun _ _ => rfl))))))))))), ?_⟩
 refine Jk ?_
 intro rT4 rT3 rT2
 have hz : (2000000 : Nat) < sizeLine := by decide
 refine ⟨_, rfl, d, _, rfl, .inl (Qb hd), rfl, _, rfl, ite2 (fun c => ?_) (fun c => ?_)⟩
 ·have e := yY c
  injection e with e
  exact ⟨_, rfl, (h0 (jQb.mp (by omega))).raise (Same.refl _)⟩
 have hne : us ≠ [] := fun e => c (yK (by rw [e]; rfl))
 intro sd hsd0
 have s0 := Qd hsd0 (.dT [])
 have hsd : upd H sd (.dT []) sd = some (.dT []) := Qe
 generalize upd H sd (.dT []) = H0 at s0 hsd ⊢
 let Pv14 : Nat → St → Hp → Prop := fun i σ H1 => ∃ (u3 u4 : Option V) (kvs : List (List Key × V)) (B : List BR), σ = [some (.ref d), some (.ref sd), some (.int (Ym B)), u3, u4] ∧ H1 sd = some (.dT kvs) ∧ (∀ k, (valV kvs k).isSome = true ↔ Said B k) ∧ kvs.length ≤ i ∧ Good B ∧ B.length = i ∧ RowsB H (us.take i) B ∧ Same H H1
 refine ⟨_, rfl, d, rfl, ⟨_, Qb (s0 _ _ hd)⟩, Qet (K := K) (m := true) (a := d) (xs := us) Pv14 ⟨none, none, [], [], rfl, hsd, fun k => ⟨fun h => (nomatch h), fun ⟨q, hq, _⟩ => (nomatch hq)⟩, wQ _, Good.nil, rfl, .nil, s0⟩ (fun i σ H1 _ h => ?_) ?_ ?_⟩
 ·obtain ⟨u3, u4, kvs, B, rfl, h1, h2, h3, h4, h5, h6, s1⟩ := h
  exact s1.seq (Qb hd)
 ·rintro i x σ H1 T' e1 ⟨u3, u4, kvs, B, rfl, h1, h2, h3, h4, h5, h6, s1⟩ hT'
  have hi := (kY.mp e1).1
  have s2 := Qd hT' (.tup [.int ((i : Nat) : Int), x])
  refine ⟨T', _, rfl, Zc Qe, rfl, _, _, rfl, _, _, rfl, rfl, ?_⟩
  generalize upd H1 T' (.tup [.int ((i : Nat) : Int), x]) = H2 at s2 ⊢
  have s12 := s1.trans s2
  have hs2 := s2 _ _ h1
  have hx := hV x (yX e1)
  refine ⟨_, rfl, _, rfl, _, rfl, x, sd, _, kvs, B, rfl, hs2, hx.same s12, h2, rfl, fun b H3 s3 hb => ?_⟩
  have s13 := s12.trans s3
  have hb := hb.trans (Wk hx s12)
  refine ⟨b, rfl, ?_⟩
  cases b with
  | false => exact iteT ⟨_, rfl, _, rfl, (hbad B i x h4 h5 h6 e1 (fun h => yQ (hb.mpr h))).raise s13⟩
  | true =>
   refine iteF ?_
   obtain ⟨r, ⟨l, rfl, hl⟩, f⟩ := hb.mp rfl
   refine ⟨_, rfl, _, rfl, l, r, rfl, s13 _ _ hl, fun t H4 s4 ft ht => ?_⟩
   have s14 := s13.trans s4
   refine ⟨sd, _, rfl, DPut.t ((s3.trans s4) _ _ hs2) ht (by omega), ?_⟩
   have s15 : Same H (upd H4 sd (.dT (putK kvs r.key (.bl true)))) := Yi s14 hsd0
   have hs5 : upd H4 sd (.dT (putK kvs r.key (.bl true))) sd = some (.dT (putK kvs r.key (.bl true))) := Qe
   generalize upd H4 sd (.dT (putK kvs r.key (.bl true))) = H5 at s15 hs5 ⊢
   have hG := h4.snoc f
   have tk : RowsB H (us.take (i + 1)) (B ++ [r]) := by rw [Qad e1]; exact h6.snoc hl
   obtain ⟨n, B', eB, hn⟩ : ∃ n B', B ++ [r] = .days n :: B' ∧ Ym (B ++ [r]) = n := by
    rcases hG.days with ⟨e, _⟩ | ⟨n, B', e, e2, _⟩
    ·exact absurd e (by simp)
    ·exact ⟨n, B', e, e2⟩
   obtain ⟨l0, e0, hl0⟩ : ∃ l0, us[0]? = some (.ref l0) ∧ H l0 = some (.lst [.str "days", .int n]) := by
    obtain ⟨v0, ev0⟩ : ∃ v0, us[0]? = some v0 := ⟨_, gE (by omega)⟩
    have e7 : (us.take (i + 1))[0]? = some v0 := by rw [List.getElem?_take, if_pos (Nat.succ_pos _)]; exact ev0
    obtain ⟨r0, l0, er0, rfl, hl0⟩ := tk.get e7
    rw [eB] at er0
    cases er0
    exact ⟨l0, ev0, hl0⟩
   refine ⟨_, rfl, d, _, _, _, rfl, rfl, Qb (s15 _ _ hd), Zp (k := 0) e0, l0, _, _, _, rfl, rfl, Qb (s15 _ _ hl0), at1, ?_⟩
   refine ⟨_, _, _, B ++ [r], by rw [hn]; rfl, hs5, fun k => ?_, ?_, hG, by rw [jV, h5]; rfl, tk, s15⟩
   ·rw [Qln]
    have e9 : Said (B ++ [r]) k ↔ k = r.key ∨ Said B k := by
     constructor
     ·rintro ⟨q, hq, rfl⟩
      rcases kQ.mp hq with h | h
      ·exact .inr ⟨q, h, rfl⟩
      ·rw [jQ.mp h]; exact .inl rfl
     ·rintro (rfl | ⟨q, hq, rfl⟩)
      ·exact ⟨r, kZ _ jY, rfl⟩
      ·exact ⟨q, yJ _ hq, rfl⟩
    rw [e9]
    by_cases e5 : k = r.key
    ·rw [if_pos e5]; exact ⟨fun _ => .inl e5, fun _ => rfl⟩
    ·rw [if_neg e5, h2]; exact ⟨.inr, fun h => h.resolve_left e5⟩
   ·have := Zv kvs r.key (.bl true); omega
 ·rintro σ H1 ⟨u3, u4, kvs, B, rfl, h1, h2, h3, h4, h5, h6, s1⟩
  rw [wV] at h6
  exact hok B hne h4 h6 H1 s1
end
end Nb
namespace L2
open PySem PySem.Spec PyProof.Rows
theorem Wm {α β : Type} {xs : List α} {i : Nat} {x : α} (h : xs[i]? = some x) (pr : α → Bool) : (xs.take (i + 1)).filter pr = (xs.take i).filter pr ++ (if pr x = true then [x] else []) := by
 rw [Qad h, List.filter_append]
 congr 1
 by_cases c : pr x = true
 ·rw [if_pos c, List.filter_cons_of_pos c]; rfl
 ·rw [if_neg c, List.filter_cons_of_neg c]; rfl
theorem Kt {α β : Type} {J : It} {H : Hp} {xs : List α} {val : α → V} {D : Addr} {cs τ0 : St} {tt : TT} {te : TE} {Q : Addr → Hp → Prop} (g : β → V) (f : α → β) (pr : α → Bool) (hτ : τ0 = none :: cs) (hw : Walk J H xs val) (fw : xs.length < sizeLine) (hD : H D = none)
  (ht : ∀ x ∈ xs, ∀ H1, Same H H1 → ∀ P : Bool → Hp → Prop, (∀ H2, Same H1 H2 → P (pr x) H2) → tt (some (val x) :: cs) H1 P)
  (hs : ∀ x ∈ xs, pr x = true → ∀ H1, Same H H1 → ∀ P : V → Hp → Prop, (∀ H2, Same H1 H2 → P (g (f x)) H2) → te (some (val x) :: cs) H1 P)
  (hd : ∀ H1, Same H H1 → H1 D = some (.lst (((xs.filter pr).map f).map g)) → Q D H1) :
  LcW J D τ0 H (Wr 0) tt te Q := by
 subst hτ
 let Pv15 : Nat → St → List V → Hp → Prop := fun i τ ys H1 => ∃ v : Option V, τ = v :: cs ∧ H1 D = some (.lst ys) ∧ Same H H1 ∧ i ≤ xs.length ∧ ys = (((xs.take i).filter pr).map f).map g
 refine Qig (n := xs.length) Pv15 ?_ (fun i τ ys H1 hi h => ?_) (fun i τ ys H1 hi h => ?_) (fun τ ys H1 h => ?_) ?_ ?_
 ·exact ⟨none, rfl, Qe, Qd hD _, wQ _, rfl⟩
 ·obtain ⟨v, rfl, hD1, s1, _, rfl⟩ := h
  refine ⟨hD1, ?_⟩
  rw [jW, jW]
  have h1 := List.length_filter_le pr (xs.take i)
  rw [zZ] at h1
  omega
 ·obtain ⟨v, rfl, hD1, s1, _, hp⟩ := h
  exact hw.go i H1 s1 hi
 ·obtain ⟨v, rfl, hD1, s1, _, hp⟩ := h
  exact hw.stop H1 s1
 ·rintro i τ ys H1 x H2 hi ⟨v, rfl, hD1, s1, _, rfl⟩ hy
  obtain ⟨rfl, y, ey, rfl⟩ := hw.yl i H1 x H2 s1 hy hi
  refine ht y (yX ey) _ s1 _ fun H3 s3 => ?_
  by_cases c : pr y = true
  ·rw [c]
   refine iteT ?_
   refine hs y (yX ey) c _ (s1.trans s3) _ fun H4 s4 => ⟨(s3.trans s4) _ _ hD1, _, rfl, Qe, Yi ((s1.trans s3).trans s4) hD, hi, ?_⟩
   rw [Wm (β := β) ey pr, if_pos c, jXe, jXe]
   rfl
  ·rw [jYa.mpr c]
   refine iteF ⟨_, rfl, s3 _ _ hD1, s1.trans s3, hi, ?_⟩
   rw [Wm (β := β) ey pr, if_neg c, jZc]
 ·rintro τ ys H1 ⟨v, rfl, hD1, s1, _, rfl⟩
  rw [wV] at hD1
  exact hd H1 s1 hD1
end L2
namespace Nb
open PySem L2
abbrev sWhV : Stmt := top 21
abbrev sLNu : Stmt := top 30
abbrev sLNm : Stmt := top 31
abbrev sLTo : Stmt := top 32
theorem Jf {H : Hp} : ∀ {us : List V} {B : List BR}, RowsB H us B → ∃ zs : List (Addr × BR), us = zs.map (fun z => V.ref z.1) ∧ zs.map (·.2) = B ∧ ∀ z ∈ zs, H z.1 = some (.lst (z.2.cells.map kV)) := by
 intro us B h
 unfold RowsB at h
 induction B generalizing us with
 | nil => cases h; exact ⟨[], rfl, rfl, fun _ h => nomatch h⟩
 | cons r B ih =>
  cases h with
  | cons z t =>
   obtain ⟨l, rfl, hl⟩ := z
   obtain ⟨zs, e1, e2, hz⟩ := ih t
   refine ⟨(l, r) :: zs, by rw [e1]; rfl, by rw [xQ, e2], fun z h5 => ?_⟩
   rcases jZ.mp h5 with e | e
   ·rw [e]; exact hl
   ·exact hz z e
theorem plain_iff {x : Str} : (x.cps.all (· < 128) = true) ↔ ∀ c ∈ sg x, c < 128 := by
 rw [← Array.all_toList, xK]
 exact ⟨fun h c hc => yY (h c hc), fun h c hc => yK (h c hc)⟩
theorem Qbh {X : Cx} : OpR X (compareOp .NotIn) (fun x y H Q => ∃ i j, x = .str i ∧ y = .str j ∧ Q (.bl (!(!(Builtin.Str.occurrences j i 0 j.length 1).isEmpty))) H) := Qbt
def Wn (k : Key) (a b : Int) : Prop := ∃ z, k = .inl z ∧ a ≤ z ∧ z ≤ b
def BR.c1 (r : BR) : Key := r.cells.getD 1 (.inl 0)
theorem Qpz (r : BR) : atI (r.cells.map kV) 1 = some (kV r.c1) := by cases r <;> rfl
def isW (w : Str) (r : BR) : Bool := decide (V.str r.word = V.str w)
def thOf (A : List BR) (w : Str) : List Key := (A.filter (isW w)).map BR.c1
def Qka : Sp := fun vs H Q _ => ∃ (d : Addr) (us : List V) (A : List BR) (w : Str), vs = [.ref d, .str w] ∧ H d = some (.lst us) ∧ RowsB H us A ∧ A.length ≤ 200000 ∧ ∀ (g : Addr) (H' : Hp), Same H H' → H' g = some (.lst ((thOf A w).map kV)) → Q (.ref g) H'
theorem in_abc : ∀ c, c < 128 → (Builtin.Str.occurrences ("abcdefghijklmnopqrstuvwxyz" : Str) ⟨#[c]⟩ 0 ("abcdefghijklmnopqrstuvwxyz" : Str).length 1).isEmpty = !(decide (97 ≤ c) && decide (c ≤ 122)) := by decide +kernel
theorem Qgz {xs : List Nat} {lo hi : Nat} : ((xs.filter fun c => !(decide (lo ≤ c) && decide (c ≤ hi))).isEmpty = true) ↔ ∀ c ∈ xs, lo ≤ c ∧ c ≤ hi := by
 rw [jXb, kYa]
 constructor
 ·intro h c hc
  have := h c hc
  simpa using this
 ·intro h c hc
  have := h c hc
  simp [this.1, this.2]
def Zt (v : V) (a b : Int) : Prop := ∃ z, v = .int z ∧ a ≤ z ∧ z ≤ b
def Qfo (K : Fg) : Sp := fun vs H Q _ => ∃ (v : V) (a b : Int), vs = [v, .int a, .int b] ∧ OdV K H v ∧ ∀ c : Bool, (c = true ↔ Zt v a b) → Q (.bl c) H
section
variable {P : Program} {w : World} {K : Fg} {mg : Str → Option Value} {base : Heap}
theorem scWhV : FnScope ["_law_found"] ["_law_found"] (Qh sWhV) := ⟨rfl, rfl, rfl, by decide +kernel, rfl, by decide +kernel, by decide +kernel⟩
theorem okWhV  (F : Fn K mg "_law_whole" sWhV) (M : Mg mg) : Cal P w K mg base 1 "_law_whole" ["_law_found"] (Qjx K) := by
 refine Xr F scWhV (fun _ _ _ _ _ _ => bind1 (fun _ => rfl)) (fun vs H Q E h => ?_) (fun f cdv A outer s H vs Q E hr h => ?_)
 ·obtain ⟨v, rfl, _⟩ := h
  rfl
 obtain ⟨v, rfl, hv, q⟩ := h
 refine ⟨_, (Qi (Qv (Yo (Qo Xu rfl M.isinstance Qz (Qa (pv 0) (Qa (Kp M.int_ Qep) Qf))) (Zd (Qmz (Qo Xu rfl M.isinstance Qz (Qa (pv 0) (Qa (Kp M.bool_ Qif) Qf)))))))), ?_⟩
 rcases hv with hf | ⟨a, xs, rfl, hq⟩
 ·cases v with
  | int i =>
   refine ⟨_, rfl, _, "int", true, rfl, .int, rfl, true, rfl, iteT ?_⟩
   exact ⟨_, rfl, _, "bool", false, rfl, .bool, rfl, false, rfl, q⟩
  | bl i =>
   refine ⟨_, rfl, _, "int", true, rfl, .int, rfl, true, rfl, iteT ?_⟩
   exact ⟨_, rfl, _, "bool", true, rfl, .bool, rfl, true, rfl, q⟩
  | str x => exact ⟨_, rfl, _, "int", false, rfl, .int, rfl, false, rfl, iteF q⟩
  | non => exact ⟨_, rfl, _, "int", false, rfl, .int, rfl, false, rfl, iteF q⟩
  | _ => exact nomatch hf
 ·rcases hq with hq | hq
  ·exact ⟨_, rfl, _, "int", false, rfl, .int, .inr ⟨⟨_, hq⟩, rfl⟩, false, rfl, iteF q⟩
  ·exact ⟨_, rfl, _, "int", false, rfl, .int, .inl ⟨⟨_, hq⟩, rfl⟩, false, rfl, iteF q⟩
theorem scLNu : FnScope ["_law_thing", "_law_least", "_law_greatest"] ["_law_thing", "_law_least", "_law_greatest"] (Qh sLNu) := ⟨rfl, rfl, rfl, by decide +kernel, rfl, by decide +kernel, by decide +kernel⟩
theorem okLNu  (F : Fn K mg "_law_number" sLNu) (M : Mg mg) (cl_whole : Cal P w K mg base 1 "_law_whole" ["_law_found"] (Qjx K)) : Cal P w K mg base 2 "_law_number" ["_law_thing", "_law_least", "_law_greatest"] (Qfo K) := by
 refine Xr F scLNu (fun _ _ _ _ _ _ => Qcn (fun _ _ _ => rfl)) (fun vs H Q E h => ?_) (fun f cdv A outer s H vs Q E hr h => ?_)
 ·obtain ⟨v, a, b, rfl, _⟩ := h
  rfl
 obtain ⟨v, a, b, rfl, hv, q⟩ := h
 refine ⟨_, (Qi (Qv (Yo (Xd cl_whole (hr.mono (by decide)) (Qa (pv 0) Qf)) (Yo (Xn Qbr (pv 1) (pv 0) (Qm _)) (Zd (Xn Qbr (pv 0) (pv 2) (Qm _))))))), ?_⟩
 refine ⟨_, rfl, v, rfl, hv, ?_⟩
 refine ⟨_, rfl, ite2 (fun c => ?_) (fun c => ?_)⟩
 ·cases v with
  | int z =>
   refine ⟨_, rfl, _, rfl, _, _, rfl, rfl, _, rfl, ite2 (fun c1 => ?_) (fun c1 => ?_)⟩
   ·refine ⟨_, rfl, _, rfl, _, _, rfl, rfl, q _ ⟨fun h => ⟨z, rfl, yY c1, yY h⟩, fun hqP => ?_⟩⟩
    obtain ⟨y, e, _, h⟩ := hqP
    cases e
    exact yK h
   ·refine q false ⟨fun h => (nomatch h), fun hqP => ?_⟩
    obtain ⟨y, e, h, _⟩ := hqP
    cases e
    exact absurd (yK h) c1
  | _ => exact nomatch c
 ·refine q false ⟨fun h => (nomatch h), fun hqP => ?_⟩
  obtain ⟨z, e, _⟩ := hqP
  subst e
  exact absurd rfl c
theorem scLNm : FnScope ["_law_word"] ["_law_word"] (Qh sLNm) := ⟨rfl, rfl, rfl, by decide +kernel, rfl, by decide +kernel, by decide +kernel⟩
theorem okLNm  (F : Fn K mg "_law_named" sLNm) (M : Mg mg) : Cal P w K mg base 1 "_law_named" ["_law_word"] (Qbf K) := by
 refine Xr F scLNm (fun _ _ _ _ _ _ => bind1 (fun _ => rfl)) (fun vs H Q E h => ?_) (fun f cdv A outer s H vs Q E hr h => ?_)
 ·obtain ⟨v, rfl, _⟩ := h
  rfl
 obtain ⟨v, rfl, ⟨hv, hp⟩, q⟩ := h
 have hu6 : (A.deeper (PyProof.Rows.envOfC "_law_named" (Qh sLNm) s.heap.objs.size f cdv)).units + 6 < cLine := zV (zX (by decide) _) hr.un
 refine ⟨_, (Qg (Xi (PW.pt (Jb (Zj (Yn (Qo Xu rfl M.isinstance Qz (Qa (pv 0) (Qa (Kp M.str_ Qeu) Qf))))) (Jb (Ql Qld (Qo Jc rfl M.len Xt (Qa (pv 0) Qf)) Qc (Qm _)) (Ja (Ql Vj (Qo Jc rfl M.len Xt (Qa (pv 0) Qf)) Qc (Qm _)))))) (Qi (Qv Zm)) Qu)
  (Qi (Qv (Xn (Kc (K := K) (n := 6) rfl hu6) (Ko ["_law_sign"] [none] rfl (Qnm (pv 0)) (fun _ _ _ => (Xf (i := 0) (show (["_law_sign"] : List Str).Nodup by decide +kernel) rfl (Or.inl rfl) (Or.inr rfl))) (fun _ _ _ => (Vs (Ql Qbh (pv 0) Qp rfl))) (fun _ _ _ => (pv 0))) (Xa Qf) (Qm _))))), ?_⟩
 have hz : (2000000 : Nat) < sizeLine := by decide
 have no0 : (∀ x, v ≠ .str x) → Q (.bl false) H := fun h => q false H (Same.refl _) ⟨fun z => (nomatch z), fun ⟨x, e, _⟩ => absurd e (h x)⟩
 rcases Qjz v with ⟨x, rfl⟩ | hn
 ·obtain ⟨pl, pz⟩ := hp x rfl
  have q : ∀ (b : Bool) (H' : Hp), Same H H' → (b = true ↔ NmOk x) → Q (.bl b) H' := fun b H' s' hb => q b H' s' (hb.trans ⟨fun h => ⟨x, rfl, h⟩, fun ⟨y, e, h⟩ => by cases e; exact h⟩)
  have no : (¬ NmOk x) → ∀ H', Same H H' → Q (.bl false) H' := fun h H' s' => q false H' s' ⟨fun z => (nomatch z), fun z => absurd z h⟩
  refine ⟨_, rfl, _, "str", true, rfl, .str, rfl, true, rfl, iteF ?_⟩
  refine ⟨_, rfl, x, rfl, by omega, _, _, rfl, rfl, _, rfl, ite2 (fun c1 => ?_) (fun c1 => ?_)⟩
  ·refine iteT (no (fun h => ?_) H (Same.refl _))
   have h1 := h.1
   have h2 : ((x.length : Nat) : Int) < 1 := yY c1
   omega
  refine ⟨_, rfl, x, rfl, by omega, _, _, rfl, rfl, _, rfl, ite2 (fun c2 => ?_) (fun c2 => ?_)⟩
  ·refine no (fun h => ?_) H (Same.refl _)
   have h1 := h.2.1
   have h2 : (12 : Int) < ((x.length : Nat) : Int) := yY c2
   omega
  have k1 : 1 ≤ x.length := by
   by_cases e : 1 ≤ x.length
   ·exact e
   ·exact absurd (yK (show ((x.length : Nat) : Int) < 1 by omega)) c1
  have k2 : x.length ≤ 12 := by
   by_cases e : x.length ≤ 12
   ·exact e
   ·exact absurd (yK (show (12 : Int) < ((x.length : Nat) : Int) by omega)) c2
  refine ⟨_, rfl, x, rfl, pl, fun D hD => ?_⟩
  refine Kt V.str (fun c : Nat => (⟨#[c]⟩ : Str)) (fun c => !(decide (97 ≤ c) && decide (c ≤ 122))) rfl Qfb (by rw [wZ]; show x.length < _; omega) hD (fun c hc H1 s1 P h => ?_) (fun c hc _ H1 s1 P h => ?_) fun H1 s1 h1 => ?_
  ·have c128 := plain_iff.mp pl c hc
   refine ⟨_, rfl, _, _, rfl, rfl, _, rfl, ?_⟩
   rw [in_abc c c128, Bool.not_not]
   exact h H1 (Same.refl _)
  ·exact ⟨_, rfl, h H1 (Same.refl _)⟩
  ·refine ⟨by show 0 ≤ sizeLine; decide, fun e he => ?_⟩
   refine ⟨D, e, _, rfl, rfl, Qb (Qd he _ _ _ h1), Qb Qe, q _ _ (s1.trans (Qd he _)) ?_⟩
   rw [wX, wX, Qgz]
   exact ⟨fun h => ⟨k1, k2, h⟩, fun h => h.2.2⟩
 ·exact ⟨_, rfl, _, "str", false, rfl, .str, Qea hv hn, false, rfl, iteT (iteT (no0 hn))⟩
theorem scLTo : FnScope ["_law_rows", "_law_word"] ["_law_rows", "_law_word"] (Qh sLTo) := ⟨rfl, rfl, rfl, by decide +kernel, rfl, by decide +kernel, by decide +kernel⟩
theorem okLTo  (F : Fn K mg "_law_things_of" sLTo) (M : Mg mg) : Cal P w K mg base 1 "_law_things_of" ["_law_rows", "_law_word"] (Qka) := by
 refine Xr F scLTo (fun _ _ _ _ _ _ => Qcm (fun _ _ => rfl)) (fun vs H Q E h => ?_) (fun f cdv A outer s H vs Q E hr h => ?_)
 ·obtain ⟨d, us, B, w, rfl, _⟩ := h
  rfl
 obtain ⟨d, us, B, w, rfl, hd, hB, hl, q⟩ := h
 refine ⟨_, (Qi (Qv (Ko ["_law_row", "_law_word"] [none, some 1] rfl (Yv (pv 0)) (fun _ _ _ => (Xf (i := 0) (show (["_law_row", "_law_word"] : List Str).Nodup by decide +kernel) rfl (Or.inl rfl) (Or.inr rfl))) (fun _ _ _ => (Vs (Ql Xy (Qn (Xv (K := K) rfl) (pv 0) Qc (fun _ _ => rfl)) (pv 1) (Qm _)))) (fun _ _ _ => (Qn (Xv (K := K) rfl) (pv 0) Qc (fun _ _ => rfl)))))), ?_⟩
 have hz : (2000000 : Nat) < sizeLine := by decide
 obtain ⟨zs, rfl, rfl, hzs⟩ := Jf hB
 rw [jW] at hl
 refine ⟨_, rfl, d, rfl, ⟨_, Qb hd⟩, fun D hD => ?_⟩
 refine Kt kV (fun z : Addr × BR => z.2.c1) (fun z : Addr × BR => isW w z.2) rfl (Yj (val := fun z : Addr × BR => V.ref z.1) (Qb hd)) (by omega) hD (fun z hz' H1 s1 P h => ?_) (fun z hz' _ H1 s1 P h => ?_) fun H1 s1 h1 => ?_
 ·exact ⟨_, rfl, z.1, _, _, _, rfl, rfl, Qb (s1 _ _ (hzs z hz')), Zr z.2, _, rfl, rfl, _, rfl, h H1 (Same.refl _)⟩
 ·exact ⟨_, rfl, z.1, _, _, _, rfl, rfl, Qb (s1 _ _ (hzs z hz')), Qpz z.2, h H1 (Same.refl _)⟩
 ·refine q D H1 s1 ?_
  rw [h1]
  unfold thOf
  simp only [kZa, kQe]
  rfl
end
theorem kV_in {k : Key} : ∀ {ks : List Key}, (inV (kV k) (ks.map kV) = true) ↔ k ∈ ks := by
 intro ks
 unfold inV
 rw [List.any_map, List.any_eq_true]
 have e : ∀ a b : Key, eqV (kV a) (kV b) = true ↔ a = b := fun a b => by
  cases a with
  | inl x =>
   cases b with
   | inl y => show ((x == y) = true) ↔ _; rw [beq_iff_eq]; exact ⟨fun h => by rw [h], fun h => Sum.inl.inj h⟩
   | inr y => exact ⟨fun h => (nomatch h), fun h => (nomatch h)⟩
  | inr x =>
   cases b with
   | inl y => exact ⟨fun h => (nomatch h), fun h => (nomatch h)⟩
   | inr y => show ((x == y) = true) ↔ _; rw [beq_iff_eq]; exact ⟨fun h => by rw [h], fun h => Sum.inr.inj h⟩
 constructor
 ·rintro ⟨j, hj, h⟩
  rw [← (e j k).mp h]
  exact hj
 ·intro h
  exact ⟨k, h, (e k k).mpr rfl⟩
theorem isW_iff {w : Str} {r : BR} : isW w r = true ↔ r.word = w := ⟨fun h => eqS h, fun h => by unfold isW; rw [h]; exact yesS _⟩
theorem Zu {r : BR} {i : Nat} (hi : i < 11) (h : r.word = wordOf i) : r.kind = i := (Kf r hi).mp h
theorem Qkb {r : BR} (h : r.kind = 1 ∨ r.kind = 3 ∨ r.kind = 4) : r.key = [.inr r.word, r.c1] := by
 rcases h with h | h | h
 ·obtain ⟨b, n, rfl⟩ := Kr h; rfl
 ·obtain ⟨b, m, f, rfl⟩ := Jl h; rfl
 ·obtain ⟨w, rfl⟩ := Vw h; rfl
theorem Qnu {A : List BR} {w : Str} {i : Nat} (hi : i = 1 ∨ i = 3 ∨ i = 4) (hw : w = wordOf i) {k : Key} : k ∈ thOf A w ↔ Said A [.inr w, k] := by
 have i11 : i < 11 := by omega
 unfold thOf
 rw [xZ]
 constructor
 ·rintro ⟨r, hr, rfl⟩
  obtain ⟨hr1, hr2⟩ := kQc.mp hr
  have e := isW_iff.mp hr2
  refine ⟨r, hr1, ?_⟩
  have hk := Zu i11 (e.trans hw)
  rw [Qkb (by rw [hk]; exact hi), e]
 ·rintro ⟨q, hq, e⟩
  have e1 : q.word = w := Vf e
  have hk := Zu i11 (e1.trans hw)
  refine ⟨q, kQc.mpr ⟨hq, isW_iff.mpr e1⟩, ?_⟩
  rw [Qkb (by rw [hk]; exact hi)] at e
  injection e with _ e2
  injection e2
theorem Jg {A : List BR} (hA : Good A) {w : Str} {ks : List Key} (h : Said A (.inr w :: ks)) : ∀ k ∈ ks, IsNm k := by
 obtain ⟨q, hq, e⟩ := h
 obtain ⟨i, ei⟩ := wJ.mp hq
 have hg := (hA i q ei).gn
 have e' : (Sum.inr q.word : Key) :: q.names.map Sum.inr = .inr w :: ks := e
 injection e' with _ e2
 intro k hk
 rw [← e2] at hk
 obtain ⟨x, hx, rfl⟩ := xZ.mp hk
 exact ⟨x, rfl, hg x hx⟩
theorem Kl {A : List BR} (hA : Good A) (hne : A ≠ []) : Said A [.inr "days"] := by
 rcases hA.days with ⟨e, _⟩ | ⟨n, B, rfl, _⟩
 ·exact absurd e hne
 ·exact ⟨.days n, jY, rfl⟩
theorem Yy {A : List BR} {i : Nat} (hi : i < 11) {ks : List Key} {r : BR} (f : Fit A (.inr (wordOf i) :: ks) r) : r.kind = i ∧ ks.length = nmK i + (bdsK i).length := by
 have hk := Zu hi (Ks f.eq.symm)
 refine ⟨hk, ?_⟩
 have h1 := congrArg List.length f.eq
 have h2 := Kx r
 rw [jW] at h2
 rw [yZ, h2, Zb, ← Qbe, hk] at h1
 have h3 : ks.length + 1 = 1 + nmK i + (bdsK i).length := h1
 omega
section
variable {A : List BR} {a b c m : Key}
theorem Qkc (hA : Good A) (hne : A ≠ []) : (∃ r, Fit A [.inr "bench", a, b] r) ↔ IsNm a ∧ ¬ Said A [.inr "bench", a] ∧ Wn b 0 99 := by
 constructor
 ·rintro ⟨r, f⟩
  obtain ⟨hk, _⟩ := Yy (i := 1) (by decide) f
  obtain ⟨x, z, rfl⟩ := Kr hk
  have e : [Sum.inr ("bench" : Str), a, b] = [Sum.inr ("bench" : Str), .inr x, .inl z] := f.eq
  injection e with _ e
  injection e with e1 e
  injection e with e2
  subst e1 e2
  cases f.inn.1 with
  | cons h _ => exact ⟨⟨x, rfl, f.gn x jY⟩, f.nw (by show ¬ (("bench" : Str) = "shut"); decide +kernel), z, rfl, h.1, h.2⟩
 ·rintro ⟨⟨x, rfl, hx⟩, hn, z, rfl, z0, z1⟩
  exact ⟨.bench x z, rfl, gn1 hx, ⟨.cons ⟨z0, z1⟩ .nil, True.intro⟩, fun _ => hn, fun k hk => by rw [jQ.mp hk]; exact Kl hA hne⟩
theorem Qkd (hA : Good A) (hne : A ≠ []) : (∃ r, Fit A [.inr "store", a, b, c] r) ↔ IsNm a ∧ ¬ Said A [.inr "store", a] ∧ ∃ z, b = .inl z ∧ 0 ≤ z ∧ z ≤ 999 ∧ Wn c 0 z := by
 constructor
 ·rintro ⟨r, f⟩
  obtain ⟨hk, _⟩ := Yy (i := 3) (by decide) f
  obtain ⟨x, z, y, rfl⟩ := Jl hk
  have e : [Sum.inr ("store" : Str), a, b, c] = [Sum.inr ("store" : Str), .inr x, .inl z, .inl y] := f.eq
  injection e with _ e
  injection e with e1 e
  injection e with e2 e
  injection e with e3
  subst e1 e2 e3
  cases f.inn.1 with
  | cons h t =>
   cases t with
   | cons h2 _ => exact ⟨⟨x, rfl, f.gn x jY⟩, f.nw (by show ¬ (("store" : Str) = "shut"); decide +kernel), z, rfl, h.1, h.2, y, rfl, h2.1, f.inn.2⟩
 ·rintro ⟨⟨x, rfl, hx⟩, hn, z, rfl, z0, z1, y, rfl, y0, y1⟩
  exact ⟨.store x z y, rfl, gn1 hx, ⟨.cons ⟨z0, z1⟩ (.cons ⟨y0, by show y ≤ 999; omega⟩ .nil), y1⟩, fun _ => hn, fun k hk => by rw [jQ.mp hk]; exact Kl hA hne⟩
theorem Qmp (hA : Good A) (hne : A ≠ []) : (∃ r, Fit A [.inr "work", a] r) ↔ IsNm a ∧ ¬ Said A [.inr "work", a] := by
 constructor
 ·rintro ⟨r, f⟩
  obtain ⟨hk, _⟩ := Yy (i := 4) (by decide) f
  obtain ⟨x, rfl⟩ := Vw hk
  have e : [Sum.inr ("work" : Str), a] = [Sum.inr ("work" : Str), .inr x] := f.eq
  injection e with _ e
  injection e with e1
  subst e1
  exact ⟨⟨x, rfl, f.gn x jY⟩, f.nw (by show ¬ (("work" : Str) = "shut"); decide +kernel)⟩
 ·rintro ⟨⟨x, rfl, hx⟩, hn⟩
  exact ⟨.work x, rfl, gn1 hx, ⟨.nil, True.intro⟩, fun _ => hn, fun k hk => by rw [jQ.mp hk]; exact Kl hA hne⟩
theorem gn2 {x y : Str} (h1 : NmOk x) (h2 : NmOk y) : ∀ z ∈ [x, y], NmOk z := fun z hz => by
 rcases jZ.mp hz with e | e
 ·rw [e]; exact h1
 ·rw [jQ.mp e]; exact h2
theorem gn3 {x y t : Str} (h1 : NmOk x) (h2 : NmOk y) (h3 : NmOk t) : ∀ z ∈ [x, y, t], NmOk z := fun z hz => by
 rcases jZ.mp hz with e | e
 ·rw [e]; exact h1
 ·exact gn2 h2 h3 z e
theorem Qqa (hA : Good A) : (∃ r, Fit A [.inr "way", a, b, c, m] r) ↔ Said A [.inr "work", a] ∧ IsNm b ∧ ¬ Said A [.inr "way", a, b] ∧ Wn c 1 (Ym A) ∧ Wn m 0 999999 := by
 constructor
 ·rintro ⟨r, f⟩
  obtain ⟨hk, _⟩ := Yy (i := 5) (by decide) f
  obtain ⟨x, y, z, u, rfl⟩ := Qaw hk
  have e : [Sum.inr ("way" : Str), a, b, c, m] = [Sum.inr ("way" : Str), .inr x, .inr y, .inl z, .inl u] := f.eq
  injection e with _ e
  injection e with e1 e
  injection e with e2 e
  injection e with e3 e
  injection e with e4
  subst e1 e2 e3 e4
  cases f.inn.1 with
  | cons h t =>
   cases t with
   | cons h2 _ => exact ⟨f.nd _ jY, ⟨y, rfl, f.gn y (kX _ jY)⟩, f.nw (by show ¬ (("way" : Str) = "shut"); decide +kernel), ⟨z, rfl, h.1, h.2⟩, u, rfl, h2.1, h2.2⟩
 ·rintro ⟨hs, ⟨y, rfl, hy⟩, hn, ⟨z, rfl, z0, z1⟩, u, rfl, u0, u1⟩
  obtain ⟨x, rfl, hx⟩ := Jg hA hs a jY
  exact ⟨.way x y z u, rfl, gn2 hx hy, ⟨.cons ⟨z0, z1⟩ (.cons ⟨u0, u1⟩ .nil), True.intro⟩, fun _ => hn, fun k hk => by rw [jQ.mp hk]; exact hs⟩
theorem Qmq (hA : Good A) : (∃ r, Fit A [.inr "shut", a, b, c] r) ↔ Said A [.inr "bench", a] ∧ ∃ z, b = .inl z ∧ 0 ≤ z ∧ z ≤ Ym A ∧ Wn c (z + 1) (Ym A) := by
 constructor
 ·rintro ⟨r, f⟩
  obtain ⟨hk, _⟩ := Yy (i := 2) (by decide) f
  obtain ⟨x, z, y, rfl⟩ := Wf hk
  have e : [Sum.inr ("shut" : Str), a, b, c] = [Sum.inr ("shut" : Str), .inr x, .inl z, .inl y] := f.eq
  injection e with _ e
  injection e with e1 e
  injection e with e2 e
  injection e with e3
  subst e1 e2 e3
  cases f.inn.1 with
  | cons h t =>
   cases t with
   | cons h2 _ =>
    have h3 : z < y := f.inn.2
    exact ⟨f.nd _ jY, z, rfl, h.1, h.2, y, rfl, by omega, h2.2⟩
 ·rintro ⟨hs, z, rfl, z0, z1, y, rfl, y0, y1⟩
  obtain ⟨x, rfl, hx⟩ := Jg hA hs a jY
  exact ⟨.shut x z y, rfl, gn1 hx, ⟨.cons ⟨z0, z1⟩ (.cons ⟨by show 0 ≤ y; omega, y1⟩ .nil), by show z < y; omega⟩, fun h => absurd rfl h, fun k hk => by rw [jQ.mp hk]; exact hs⟩
theorem Qfp (hA : Good A) : (∃ r, Fit A [.inr "late", a, b, c] r) ↔ ¬ Said A [.inr "late", a] ∧ Said A [.inr "work", a] ∧ Wn b 0 (Ym A) ∧ Wn c 1 999999 := by
 constructor
 ·rintro ⟨r, f⟩
  obtain ⟨hk, _⟩ := Yy (i := 10) (by decide) f
  obtain ⟨x, z, y, rfl⟩ := Qco hk
  have e : [Sum.inr ("late" : Str), a, b, c] = [Sum.inr ("late" : Str), .inr x, .inl z, .inl y] := f.eq
  injection e with _ e
  injection e with e1 e
  injection e with e2 e
  injection e with e3
  subst e1 e2 e3
  cases f.inn.1 with
  | cons h t =>
   cases t with
   | cons h2 _ => exact ⟨f.nw (by show ¬ (("late" : Str) = "shut"); decide +kernel), f.nd _ jY, ⟨z, rfl, h.1, h.2⟩, y, rfl, h2.1, h2.2⟩
 ·rintro ⟨hn, hs, ⟨z, rfl, z0, z1⟩, y, rfl, y0, y1⟩
  obtain ⟨x, rfl, hx⟩ := Jg hA hs a jY
  exact ⟨.late x z y, rfl, gn1 hx, ⟨.cons ⟨z0, z1⟩ (.cons ⟨y0, y1⟩ .nil), True.intro⟩, fun _ => hn, fun k hk => by rw [jQ.mp hk]; exact hs⟩
theorem Qcy (hA : Good A) : (∃ r, Fit A [.inr "after", a, b, c] r) ↔ ¬ Said A [.inr "after", a, b] ∧ Said A [.inr "work", a] ∧ Said A [.inr "work", b] ∧ b ≠ a ∧ Wn c 0 (Ym A) := by
 constructor
 ·rintro ⟨r, f⟩
  obtain ⟨hk, _⟩ := Yy (i := 9) (by decide) f
  obtain ⟨x, y, z, rfl⟩ := Kq hk
  have e : [Sum.inr ("after" : Str), a, b, c] = [Sum.inr ("after" : Str), .inr x, .inr y, .inl z] := f.eq
  injection e with _ e
  injection e with e1 e
  injection e with e2 e
  injection e with e3
  subst e1 e2 e3
  cases f.inn.1 with
  | cons h t =>
   have h3 : x ≠ y := f.inn.2
   exact ⟨f.nw (by show ¬ (("after" : Str) = "shut"); decide +kernel), f.nd _ jY, f.nd _ (kX _ jY), fun e => h3 (Sum.inr.inj e).symm, z, rfl, h.1, h.2⟩
 ·rintro ⟨hn, hs, hs2, hab, z, rfl, z0, z1⟩
  obtain ⟨x, rfl, hx⟩ := Jg hA hs a jY
  obtain ⟨y, rfl, hy⟩ := Jg hA hs2 b jY
  refine ⟨.after x y z, rfl, gn2 hx hy, ⟨.cons ⟨z0, z1⟩ .nil, fun e => hab (by rw [show x = y from e])⟩, fun _ => hn, fun k hk => ?_⟩
  rcases jZ.mp hk with e | e
  ·rw [e]; exact hs
  ·rw [jQ.mp e]; exact hs2
def thK : Fin 3 → Str
 | 0 => "bench"
 | _ => "store"
theorem Qcz (k : Fin 3) (x y t : Str) (z : Int) : (BR.use k x y t z).needs = [[.inr "way", .inr x, .inr y], [.inr (thK k), .inr t]] := by
 match k with | 0 => rfl | 1 => rfl | 2 => rfl
theorem Qqb (k : Fin 3) : useW k ≠ "shut" := by match k with | 0 => decide +kernel | 1 => decide +kernel | 2 => decide +kernel
theorem Qke (k : Fin 3) : useW k = wordOf (6 + k.val) := by match k with | 0 => rfl | 1 => rfl | 2 => rfl
theorem Qeb (k : Fin 3) : bdsK (6 + k.val) = [(1, some 99)] := by match k with | 0 => rfl | 1 => rfl | 2 => rfl
theorem Qbi (hA : Good A) (k : Fin 3) : (∃ r, Fit A [.inr (useW k), a, b, c, m] r) ↔ ¬ Said A [.inr (useW k), a, b, c] ∧ Said A [.inr "way", a, b] ∧ Said A [.inr (thK k), c] ∧ Wn m 1 99 := by
 constructor
 ·rintro ⟨r, f⟩
  rw [Qke] at f
  obtain ⟨hk, _⟩ := Yy (i := 6 + k.val) (by have := k.isLt; omega) f
  obtain ⟨x, y, t, z, rfl⟩ := Qfi k hk
  have e : [Sum.inr (wordOf (6 + k.val)), a, b, c, m] = [Sum.inr (useW k), .inr x, .inr y, .inr t, .inl z] := f.eq
  injection e with _ e
  injection e with e1 e
  injection e with e2 e
  injection e with e3 e
  injection e with e4
  subst e1 e2 e3 e4
  have hi := f.inn.1
  rw [hk, Qeb] at hi
  have hn := f.nd
  rw [Qcz] at hn
  cases hi with
  | cons h _ => exact ⟨f.nw (Qqb k), hn _ jY, hn _ (kX _ jY), z, rfl, h.1, h.2⟩
 ·rintro ⟨hn, hs, hs2, z, rfl, z0, z1⟩
  obtain ⟨x, rfl, hx⟩ := Jg hA hs a jY
  obtain ⟨y, rfl, hy⟩ := Jg hA hs b (kX _ jY)
  obtain ⟨t, rfl, ht⟩ := Jg hA hs2 c jY
  refine ⟨.use k x y t z, rfl, gn3 hx hy ht, ⟨?_, True.intro⟩, fun _ => hn, fun κ hκ => ?_⟩
  ·show Paired (InB _) [z] (bdsK (6 + k.val))
   rw [Qeb]
   exact .cons ⟨z0, z1⟩ .nil
  ·rw [Qcz] at hκ
   rcases jZ.mp hκ with e | e
   ·rw [e]; exact hs
   ·rw [jQ.mp e]; exact hs2
end
theorem fit_days {a : Key} : (∃ r, Fit [] [.inr "days", a] r) ↔ Wn a 1 12 := by
 constructor
 ·rintro ⟨r, f⟩
  obtain ⟨hk, _⟩ := Yy (i := 0) (by decide) f
  obtain ⟨z, rfl⟩ := Wg hk
  have e : [Sum.inr ("days" : Str), a] = [Sum.inr ("days" : Str), .inl z] := f.eq
  injection e with _ e
  injection e with e1
  subst e1
  cases f.inn.1 with
  | cons h _ => exact ⟨z, rfl, h.1, h.2⟩
 ·rintro ⟨z, rfl, z0, z1⟩
  exact ⟨.days z, rfl, fun _ h => (nomatch h), ⟨.cons ⟨z0, z1⟩ .nil, True.intro⟩, fun _ ⟨_, h, _⟩ => (nomatch h), fun _ h => (nomatch h)⟩
theorem Qkf {ks : List Key} {r : BR} (f : Fit [] ks r) : ∃ n, r = .days n := Qcu (by
 cases hn : r.needs with
 | nil => rfl
 | cons k l =>
  obtain ⟨q, hq, _⟩ := f.nd k (by rw [hn]; exact jY)
  exact nomatch hq)
theorem Qqc {A : List BR} (hA : Good A) (hne : A ≠ []) {ks : List Key} : ¬ ∃ r, Fit A (.inr "days" :: ks) r := fun ⟨r, f⟩ => by
 obtain ⟨hk, _⟩ := Yy (i := 0) (by decide) f
 obtain ⟨z, rfl⟩ := Wg hk
 exact f.nw (by show ¬ (("days" : Str) = "shut"); decide +kernel) (Kl hA hne)
def BR.c2 (r : BR) : Key := r.cells.getD 2 (.inl 0)
def Ya (A : List BR) (vs : List V) : Prop := ∃ ks : List Key, vs = ks.map kV ∧ Said A ks
def FV (A : List BR) (vs : List V) : Prop := ∃ r : BR, vs = r.cells.map kV ∧ Fit A r.cells r
def IsK (v : V) : Prop := ∃ k : Key, v = kV k
theorem Zx {A : List BR} {ks : List Key} : FV A (ks.map kV) ↔ ∃ r, Fit A ks r := by
 constructor
 ·rintro ⟨r, e, f⟩
  have := Qac e
  subst this
  exact ⟨r, f⟩
 ·rintro ⟨r, f⟩
  have e := f.eq
  subst e
  exact ⟨r, rfl, f⟩
theorem fv_at {H : Hp} {A : List BR} {l : Addr} {xs : List V} (hl : H l = some (.lst xs)) : Kk H A (.ref l) ↔ FV A xs := by
 constructor
 ·rintro ⟨r, ⟨l', e, h⟩, f⟩
  cases e
  rw [hl] at h
  exact ⟨r, HO.lst.inj (Option.some.inj h), f⟩
 ·rintro ⟨r, rfl, f⟩
  exact ⟨r, ⟨l, rfl, hl⟩, f⟩
theorem Xw {A : List BR} {vs : List V} (h : FV A vs) : ∀ v ∈ vs, IsK v := by
 obtain ⟨r, rfl, _⟩ := h
 intro v hv
 obtain ⟨k, _, rfl⟩ := xZ.mp hv
 exact ⟨k, rfl⟩
theorem Zo {A : List BR} {vs : List V} (h : Ya A vs) : ∀ v ∈ vs, IsK v := by
 obtain ⟨ks, rfl, _⟩ := h
 intro v hv
 obtain ⟨k, _, rfl⟩ := xZ.mp hv
 exact ⟨k, rfl⟩
theorem Qfq {v : V} (h : Ju v) : IsK v := by obtain ⟨x, e, _⟩ := h; exact ⟨.inr x, e⟩
theorem Zs {v : V} {a b : Int} (h : Zt v a b) : IsK v := by obtain ⟨z, e, _⟩ := h; exact ⟨.inl z, e⟩
theorem Xk {A : List BR} {ks : List Key} : Ya A (ks.map kV) ↔ Said A ks := ⟨fun ⟨ls, e, h⟩ => by rw [Qac e]; exact h, fun h => ⟨ks, rfl, h⟩⟩
theorem Qbj {k : Key} : Ju (kV k) ↔ IsNm k := ⟨Qnt, fun ⟨x, e, h⟩ => ⟨x, by rw [e]; rfl, h⟩⟩
theorem numV_iff {k : Key} {a b : Int} : Zt (kV k) a b ↔ Wn k a b := by
 constructor
 ·rintro ⟨z, e, h⟩
  cases k with
  | inl y => cases e; exact ⟨_, rfl, h⟩
  | inr y => exact nomatch e
 ·rintro ⟨z, rfl, h⟩
  exact ⟨z, rfl, h⟩
theorem Qqd {A : List BR} {w : Str} {i : Nat} (hi : i = 1 ∨ i = 3 ∨ i = 4) (hw : w = wordOf i) : ∀ k ∈ thOf A w, ∃ x, k = .inr x := by
 intro k hk
 unfold thOf at hk
 obtain ⟨r, hr, rfl⟩ := xZ.mp hk
 have h1 := isW_iff.mp (kQc.mp hr).2
 rw [hw, Xz] at h1
 have h2 := Yl _ (Ye r) _ (by omega) h1
 cases r with
 | bench b _ => exact ⟨b, rfl⟩
 | store b _ _ => exact ⟨b, rfl⟩
 | work b => exact ⟨b, rfl⟩
 | shut b _ _ => exact ⟨b, rfl⟩
 | way b _ _ _ => exact ⟨b, rfl⟩
 | use _ b _ _ _ => exact ⟨b, rfl⟩
 | after b _ _ => exact ⟨b, rfl⟩
 | late b _ _ => exact ⟨b, rfl⟩
 | days n => exact absurd (show 0 = i from h2) (by omega)
theorem th_V {A : List BR} {w : Str} {i : Nat} (hi : i = 1 ∨ i = 3 ∨ i = 4) (hw : w = wordOf i) {a : V} : (inV a ((thOf A w).map kV) = true) ↔ Ya A [.str w, a] := by
 constructor
 ·intro h
  unfold inV at h
  obtain ⟨y, hy, he⟩ := List.any_eq_true.mp h
  obtain ⟨k, hk, rfl⟩ := xZ.mp hy
  obtain ⟨x, rfl⟩ := Qqd hi hw k hk
  have ea : a = .str x := by
   cases a with
   | str z => rw [show x = z from beq_iff_eq.mp he]
   | _ => exact nomatch he
  rw [ea]
  exact ⟨[.inr w, .inr x], rfl, (Qnu hi hw).mp hk⟩
 ·rintro ⟨ks, e, h⟩
  cases ks with
  | nil => exact nomatch e
  | cons k0 ks =>
   cases ks with
   | nil => exact absurd (congrArg List.length e) (by simp)
   | cons k ks =>
    cases ks with
    | cons _ _ => exact absurd (congrArg List.length e) (by simp)
    | nil =>
     have h0 : V.str w = kV k0 := (List.cons.inj e).1
     have h1 : a = kV k := (List.cons.inj (List.cons.inj e).2).1
     have e0 : k0 = .inr w := by
      cases k0 with
      | inl z => exact nomatch h0
      | inr z => cases h0; rfl
     subst e0
     rw [h1]
     exact kV_in.mpr ((Qnu hi hw).mpr h)
section
variable {A : List BR} {a b c m : V}
theorem Vh (hA : Good A) (hne : A ≠ []) : FV A [.str "bench", a, b] ↔ Ju a ∧ ¬ Ya A [.str "bench", a] ∧ Zt b 0 99 := by
 by_cases ha : IsK a
 ·by_cases hb : IsK b
  ·obtain ⟨a, rfl⟩ := ha
   obtain ⟨b, rfl⟩ := hb
   exact (Zx (ks := [.inr "bench", a, b])).trans ((Qkc hA hne).trans (and_congr Qbj (and_congr (not_congr (Xk (ks := [.inr "bench", a]))) numV_iff)).symm)
  ·exact ⟨fun h => absurd (Xw h b (by simp)) hb, fun h => absurd (Zs h.2.2) hb⟩
 ·exact ⟨fun h => absurd (Xw h a (by simp)) ha, fun h => absurd (Qfq h.1) ha⟩
theorem Qec (hA : Good A) (hne : A ≠ []) : FV A [.str "work", a] ↔ Ju a ∧ ¬ Ya A [.str "work", a] := by
 by_cases ha : IsK a
 ·obtain ⟨a, rfl⟩ := ha
  exact (Zx (ks := [.inr "work", a])).trans ((Qmp hA hne).trans (and_congr Qbj (not_congr (Xk (ks := [.inr "work", a])))).symm)
 ·exact ⟨fun h => absurd (Xw h a (by simp)) ha, fun h => absurd (Qfq h.1) ha⟩
theorem Km (hA : Good A) (hne : A ≠ []) : FV A [.str "store", a, b, c] ↔ Ju a ∧ ¬ Ya A [.str "store", a] ∧ ∃ z, b = .int z ∧ 0 ≤ z ∧ z ≤ 999 ∧ Zt c 0 z := by
 by_cases ha : IsK a
 ·by_cases hb : IsK b
  ·by_cases hc : IsK c
   ·obtain ⟨a, rfl⟩ := ha
    obtain ⟨b, rfl⟩ := hb
    obtain ⟨c, rfl⟩ := hc
    refine (Zx (ks := [.inr "store", a, b, c])).trans ((Qkd hA hne).trans (and_congr Qbj (and_congr (not_congr (Xk (ks := [.inr "store", a]))) ?_)).symm)
    constructor
    ·rintro ⟨z, e, h0, h1, h2⟩
     cases b with
     | inl y => cases e; exact ⟨_, rfl, h0, h1, numV_iff.mp h2⟩
     | inr y => exact nomatch e
    ·rintro ⟨z, rfl, h0, h1, h2⟩
     exact ⟨z, rfl, h0, h1, numV_iff.mpr h2⟩
   ·exact ⟨fun h => absurd (Xw h c (by simp)) hc, fun ⟨_, _, z, _, _, _, h⟩ => absurd (Zs h) hc⟩
  ·exact ⟨fun h => absurd (Xw h b (by simp)) hb, fun ⟨_, _, z, e, _⟩ => absurd ⟨.inl z, e⟩ hb⟩
 ·exact ⟨fun h => absurd (Xw h a (by simp)) ha, fun h => absurd (Qfq h.1) ha⟩
theorem Qah (hA : Good A) : FV A [.str "way", a, b, c, m] ↔ Ya A [.str "work", a] ∧ Ju b ∧ ¬ Ya A [.str "way", a, b] ∧ Zt c 1 (Ym A) ∧ Zt m 0 999999 := by
 by_cases ha : IsK a
 ·by_cases hb : IsK b
  ·by_cases hc : IsK c
   ·by_cases hm : IsK m
    ·obtain ⟨a, rfl⟩ := ha
     obtain ⟨b, rfl⟩ := hb
     obtain ⟨c, rfl⟩ := hc
     obtain ⟨m, rfl⟩ := hm
     exact (Zx (ks := [.inr "way", a, b, c, m])).trans ((Qqa hA).trans (and_congr (Xk (ks := [.inr "work", a])) (and_congr Qbj (and_congr (not_congr (Xk (ks := [.inr "way", a, b]))) (and_congr numV_iff numV_iff)))).symm)
    ·exact ⟨fun h => absurd (Xw h m (by simp)) hm, fun h => absurd (Zs h.2.2.2.2) hm⟩
   ·exact ⟨fun h => absurd (Xw h c (by simp)) hc, fun h => absurd (Zs h.2.2.2.1) hc⟩
  ·exact ⟨fun h => absurd (Xw h b (by simp)) hb, fun h => absurd (Qfq h.2.1) hb⟩
 ·exact ⟨fun h => absurd (Xw h a (by simp)) ha, fun h => absurd (Zo h.1 a (by simp)) ha⟩
theorem Qbk (hA : Good A) : FV A [.str "shut", a, b, c] ↔ Ya A [.str "bench", a] ∧ ∃ z, b = .int z ∧ 0 ≤ z ∧ z ≤ Ym A ∧ Zt c (z + 1) (Ym A) := by
 by_cases ha : IsK a
 ·by_cases hb : IsK b
  ·by_cases hc : IsK c
   ·obtain ⟨a, rfl⟩ := ha
    obtain ⟨b, rfl⟩ := hb
    obtain ⟨c, rfl⟩ := hc
    refine (Zx (ks := [.inr "shut", a, b, c])).trans ((Qmq hA).trans (and_congr (Xk (ks := [.inr "bench", a])) ?_).symm)
    constructor
    ·rintro ⟨z, e, h0, h1, h2⟩
     cases b with
     | inl y => cases e; exact ⟨_, rfl, h0, h1, numV_iff.mp h2⟩
     | inr y => exact nomatch e
    ·rintro ⟨z, rfl, h0, h1, h2⟩
     exact ⟨z, rfl, h0, h1, numV_iff.mpr h2⟩
   ·exact ⟨fun h => absurd (Xw h c (by simp)) hc, fun ⟨_, z, _, _, _, h⟩ => absurd (Zs h) hc⟩
  ·exact ⟨fun h => absurd (Xw h b (by simp)) hb, fun ⟨_, z, e, _⟩ => absurd ⟨.inl z, e⟩ hb⟩
 ·exact ⟨fun h => absurd (Xw h a (by simp)) ha, fun h => absurd (Zo h.1 a (by simp)) ha⟩
theorem Qed (hA : Good A) : FV A [.str "late", a, b, c] ↔ ¬ Ya A [.str "late", a] ∧ Ya A [.str "work", a] ∧ Zt b 0 (Ym A) ∧ Zt c 1 999999 := by
 by_cases ha : IsK a
 ·by_cases hb : IsK b
  ·by_cases hc : IsK c
   ·obtain ⟨a, rfl⟩ := ha
    obtain ⟨b, rfl⟩ := hb
    obtain ⟨c, rfl⟩ := hc
    exact (Zx (ks := [.inr "late", a, b, c])).trans ((Qfp hA).trans (and_congr (not_congr (Xk (ks := [.inr "late", a]))) (and_congr (Xk (ks := [.inr "work", a])) (and_congr numV_iff numV_iff))).symm)
   ·exact ⟨fun h => absurd (Xw h c (by simp)) hc, fun h => absurd (Zs h.2.2.2) hc⟩
  ·exact ⟨fun h => absurd (Xw h b (by simp)) hb, fun h => absurd (Zs h.2.2.1) hb⟩
 ·exact ⟨fun h => absurd (Xw h a (by simp)) ha, fun h => absurd (Zo h.2.1 a (by simp)) ha⟩
theorem Vi (hA : Good A) : FV A [.str "after", a, b, c] ↔ ¬ Ya A [.str "after", a, b] ∧ Ya A [.str "work", a] ∧ Ya A [.str "work", b] ∧ b ≠ a ∧ Zt c 0 (Ym A) := by
 by_cases ha : IsK a
 ·by_cases hb : IsK b
  ·by_cases hc : IsK c
   ·obtain ⟨a, rfl⟩ := ha
    obtain ⟨b, rfl⟩ := hb
    obtain ⟨c, rfl⟩ := hc
    have e : kV b ≠ kV a ↔ b ≠ a := not_congr ⟨fun h => List.head_eq_of_cons_eq (Qac (show [b].map kV = [a].map kV by show [kV b] = [kV a]; rw [h])), fun h => by rw [h]⟩
    exact (Zx (ks := [.inr "after", a, b, c])).trans ((Qcy hA).trans (and_congr (not_congr (Xk (ks := [.inr "after", a, b]))) (and_congr (Xk (ks := [.inr "work", a])) (and_congr (Xk (ks := [.inr "work", b])) (and_congr e numV_iff)))).symm)
   ·exact ⟨fun h => absurd (Xw h c (by simp)) hc, fun h => absurd (Zs h.2.2.2.2) hc⟩
  ·exact ⟨fun h => absurd (Xw h b (by simp)) hb, fun h => absurd (Zo h.2.2.1 b (by simp)) hb⟩
 ·exact ⟨fun h => absurd (Xw h a (by simp)) ha, fun h => absurd (Zo h.2.1 a (by simp)) ha⟩
theorem Qfr (hA : Good A) (k : Fin 3) : FV A [.str (useW k), a, b, c, m] ↔ ¬ Ya A [.str (useW k), a, b, c] ∧ Ya A [.str "way", a, b] ∧ Ya A [.str (thK k), c] ∧ Zt m 1 99 := by
 by_cases ha : IsK a
 ·by_cases hb : IsK b
  ·by_cases hc : IsK c
   ·by_cases hm : IsK m
    ·obtain ⟨a, rfl⟩ := ha
     obtain ⟨b, rfl⟩ := hb
     obtain ⟨c, rfl⟩ := hc
     obtain ⟨m, rfl⟩ := hm
     exact (Zx (ks := [.inr (useW k), a, b, c, m])).trans ((Qbi hA k).trans (and_congr (not_congr (Xk (ks := [.inr (useW k), a, b, c]))) (and_congr (Xk (ks := [.inr "way", a, b])) (and_congr (Xk (ks := [.inr (thK k), c])) numV_iff))).symm)
    ·exact ⟨fun h => absurd (Xw h m (by simp)) hm, fun h => absurd (Zs h.2.2.2) hm⟩
   ·exact ⟨fun h => absurd (Xw h c (by simp)) hc, fun h => absurd (Zo h.2.2.1 c (by simp)) hc⟩
  ·exact ⟨fun h => absurd (Xw h b (by simp)) hb, fun h => absurd (Zo h.2.1 b (by simp)) hb⟩
 ·exact ⟨fun h => absurd (Xw h a (by simp)) ha, fun h => absurd (Zo h.2.1 a (by simp)) ha⟩
theorem fv_days : FV [] [.str "days", a] ↔ Zt a 1 12 := by
 by_cases ha : IsK a
 ·obtain ⟨a, rfl⟩ := ha
  exact (Zx (ks := [.inr "days", a])).trans (fit_days.trans numV_iff.symm)
 ·exact ⟨fun h => absurd (Xw h a (by simp)) ha, fun h => absurd (Zs h) ha⟩
end
abbrev sLFn : Stmt := top 33
structure AskV (K : Fg) (H : Hp) (d l : Addr) (us : List V) (A : List BR) (xs : List V) : Prop where
 hd : H d = some (.lst us)
 hB : RowsB H us A
 hA : Good A
 len : A.length ≤ 150000
 hl : H l = some (.lst xs)
 pl : (∀ c ∈ xs, CellV K H c) ∧ xs.length ≤ 1000
theorem AskV.same {K : Fg} {H H' : Hp} {d l : Addr} {us : List V} {A : List BR} {xs : List V} (h : AskV K H d l us A xs) (s : Same H H') : AskV K H' d l us A xs := ⟨s _ _ h.hd, h.hB.same s, h.hA, h.len, s _ _ h.hl, fun c hc => (h.pl.1 c hc).same s, h.pl.2⟩
theorem AskV.od {K : Fg} {H : Hp} {d l : Addr} {us : List V} {A : List BR} {xs : List V} (h : AskV K H d l us A xs) (c : V) (hc : c ∈ xs) : OdV K H c := (h.pl.1 c hc).1
def Qkg (K : Fg) : Sp := fun vs H Q _ => ∃ (d l : Addr) (us : List V) (A : List BR) (w : Str) (ks : List V), vs = [.ref d, .ref l, .int (Ym A)] ∧ AskV K H d l us A (.str w :: ks) ∧ A ≠ [] ∧ (w = "bench" ∨ w = "store" ∨ w = "work" ∨ w = "way") ∧ ∀ (b : Bool) (H' : Hp), Same H H' → (b = true ↔ FV A (.str w :: ks)) → Q (.bl b) H'
theorem Qkh {A : List BR} {i : Nat} (hi : i < 11) {ks : List V} (f : FV A (.str (wordOf i) :: ks)) : ks.length = nmK i + (bdsK i).length := by
 obtain ⟨r, e, f⟩ := f
 cases hc : r.cells with
 | nil => exact absurd hc (Za r)
 | cons k0 cs =>
  rw [hc] at e
  have h0 : V.str (wordOf i) = kV k0 := (List.cons.inj e).1
  have h1 : ks = cs.map kV := (List.cons.inj e).2
  have e0 : k0 = .inr (wordOf i) := by
   cases k0 with
   | inl z => exact nomatch h0
   | inr z => cases h0; rfl
  rw [hc, e0] at f
  rw [h1, jW]
  exact (Yy hi f).2
theorem yB {b : Bool} (h : ¬ (!b) = true) : b = true := by cases b with | true => rfl | false => exact absurd rfl h
def Zf (a b : V) (r : BR) : Bool := isW "way" r && (decide (a = kV r.c1) && decide (b = kV r.c2))
theorem wayV_in {A : List BR} {a b : V} : ((A.filter (Zf a b)).isEmpty = true) ↔ ¬ Ya A [.str "way", a, b] := by
 rw [jXb, kYa]
 constructor
 ·rintro h ⟨ks, e, q, hq, ek⟩
  rw [← ek] at e
  obtain ⟨x, y, l, c, rfl⟩ := Kg (V.str.inj (List.cons.inj e).1).symm
  have e1 : a = .str x := (List.cons.inj (List.cons.inj e).2).1
  have e2 : b = .str y := (List.cons.inj (List.cons.inj (List.cons.inj e).2).2).1
  refine h _ hq ?_
  unfold Zf
  rw [isW_iff.mpr (show (BR.way x y l c).word = "way" from rfl), jZe, zY]
  exact ⟨yK e1, yK e2⟩
 ·intro h r hr c
  unfold Zf at c
  rw [zY, zY] at c
  obtain ⟨x, y, l, z, rfl⟩ := Kg (isW_iff.mp c.1)
  refine h ⟨_, ?_, _, hr, rfl⟩
  rw [yY c.2.1, yY c.2.2]
  rfl
section
variable {P : Program} {w : World} {K : Fg} {mg : Str → Option Value} {base : Heap}
theorem scLFn : FnScope ["_law_rows", "_law_row", "_law_days", "_law_word"] ["_law_rows", "_law_row", "_law_days"] (Qh sLFn) := ⟨rfl, rfl, rfl, by decide +kernel, rfl, by decide +kernel, by decide +kernel⟩
theorem okLFn  (F : Fn K mg "_law_fits_new" sLFn) (M : Mg mg) (cl_number : Cal P w K mg base 2 "_law_number" ["_law_thing", "_law_least", "_law_greatest"] (Qfo K)) (cl_named : Cal P w K mg base 1 "_law_named" ["_law_word"] (Qbf K)) (cl_things_of : Cal P w K mg base 1 "_law_things_of" ["_law_rows", "_law_word"] (Qka)) : Cal P w K mg base 3 "_law_fits_new" ["_law_rows", "_law_row", "_law_days"] (Qkg K) := by
 refine Xr F scLFn (fun _ _ _ _ _ _ => Qcn (fun _ _ _ => rfl)) (fun vs H Q E h => ?_) (fun f cdv A outer s H vs Q E hr h => ?_)
 ·obtain ⟨d, l, us, B, w, ks, rfl, _⟩ := h
  rfl
 obtain ⟨d, l, us, B, w, ks, rfl, hq, hne, hw, q⟩ := h
 have hu6 : (A.deeper (PyProof.Rows.envOfC "_law_fits_new" (Qh sLFn) s.heap.objs.size f cdv)).units + 6 < cLine := zV (zX (by decide) _) hr.un
 refine ⟨_, (Qg (Qs (i := 3) scLFn.nd rfl (Or.inl rfl) (Qn Qj (pv 1) Qc (fun _ _ => rfl)))
  (Qg (Xi (Ql Qal (Qo Qt rfl M.len Xt (Qa (pv 1) Qf)) (Qn Qj (Xa (Qa Qc (Qa Qc (Qa Qc (Qa Qc Qf))))) (Zz PySem.F.plainAttrs_list PySem.F.slot_list_index PySem.F.type_list_index Qjj (Xa (Qa Qp (Qa Qp (Qa Qp (Qa Qp Qf))))) (Qa (pv 3) Qf)) (fun _ _ => rfl)) (Qm _)) (Qi (Qv Zm)) Qu)
  (Qg (Xi (Ql Xy (pv 3) Qp (Qm _)) (Qg (Xi (PW.pt (Jb (Ql (Wj (n := 5) hu6) (Qn Qj (pv 1) Qc (fun _ _ => rfl)) (Xd cl_things_of (hr.mono (by decide)) (Qa (pv 0) (Qa Qp Qf))) rfl) (Ja (Zj (Yn (Xd cl_named (hr.mono (by decide)) (Qa (Qn Qj (pv 1) Qc (fun _ _ => rfl)) Qf))))))) (Qi (Qv Zm)) Qu)
  (Qg (Xi (Ql (Kd (K := K) (n := 6) rfl hu6) (Ko ["_law_one", "_law_row"] [none, some 1] rfl (Yv (pv 0)) (fun _ _ _ => (Xf (i := 0) (show (["_law_one", "_law_row"] : List Str).Nodup by decide +kernel) rfl (Or.inl rfl) (Or.inr rfl))) (fun _ _ _ => (Vs (PW.pt (Zi (Ql Xy (Qn (Xv (K := K) rfl) (pv 0) Qc (fun _ _ => rfl)) Qp (Qm _)) (Zi (Ql (Qfk (K := K) (n := 6) rfl hu6) (Qn (Xv (K := K) rfl) (pv 0) Qc (fun _ _ => rfl)) (Qn (Xv (K := K) rfl) (pv 1) Qc (fun _ _ => rfl)) (Qm _)) (Yu (Ql (Qfk (K := K) (n := 6) rfl hu6) (Qn (Xv (K := K) rfl) (pv 0) Qc (fun _ _ => rfl)) (Qn (Xv (K := K) rfl) (pv 1) Qc (fun _ _ => rfl)) (Qm _)))))))) (fun _ _ _ => (pv 0))) (Xa Qf) (Qm _)) (Qi (Qv Zm)) Qu)
  (Qi (Qv (Yo (Xd cl_number (hr.mono (by decide)) (Qa (Qn Qj (pv 1) Qc (fun _ _ => rfl)) (Qa Qc (Qa (pv 2) Qf)))) (Zd (Xd cl_number (hr.mono (by decide)) (Qa (Qn Qj (pv 1) Qc (fun _ _ => rfl)) (Qa Qc (Qa Qc Qf)))))))))) Qu)
  (Qg (Xi (PW.pt (Jb (Zj (Yn (Xd cl_named (hr.mono (by decide)) (Qa (Qn Qj (pv 1) Qc (fun _ _ => rfl)) Qf)))) (Ja (Ql (Qjw (n := 5) hu6) (Qn Qj (pv 1) Qc (fun _ _ => rfl)) (Xd cl_things_of (hr.mono (by decide)) (Qa (pv 0) (Qa (pv 3) Qf))) rfl)))) (Qi (Qv Zm)) Qu)
  (Qg (Xi (Ql Xy (pv 3) Qp (Qm _)) (Qi (Qv (Xd cl_number (hr.mono (by decide)) (Qa (Qn Qj (pv 1) Qc (fun _ _ => rfl)) (Qa Qc (Qa Qc Qf)))))) Qu)
  (Qi (Qv (pe_or (Xn Xy (pv 3) Qp (Qm _)) (Zd (Yo (Xd cl_number (hr.mono (by decide)) (Qa (Qn Qj (pv 1) Qc (fun _ _ => rfl)) (Qa Qc (Qa Qc Qf)))) (Zd (Xd cl_number (hr.mono (by decide)) (Qa (Qn Qj (pv 1) Qc (fun _ _ => rfl)) (Qa Qc (Qa (Qn Qj (pv 1) Qc (fun _ _ => rfl)) Qf))))))))))))))), ?_⟩
 refine Qav ?_
 intro rT6 rT5 rT4 rT3 rT2
 have hz : (2000000 : Nat) < sizeLine := by decide
 have hA := hq.hA
 obtain ⟨i, j, Ln, hi, rfl, hj, hno, hL, eL, hij⟩ : ∃ (i j : Nat) (Ln : Int), i < 11 ∧ w = wordOf i ∧ (["bench", "store", "work", "way"] : List Str)[j]? = some w ∧ (∀ m, m < j → (["bench", "store", "work", "way"] : List Str)[m]? ≠ some w) ∧ atI [V.int 3, V.int 4, V.int 2, V.int 5] (j : Int) = some (.int Ln) ∧ Ln = ((1 + nmK i + (bdsK i).length : Nat) : Int) ∧ (i = 1 ∨ i = 3 ∨ i = 4 ∨ i = 5) := by
  rcases hw with rfl | rfl | rfl | rfl
  ·exact ⟨1, 0, 3, by decide, rfl, rfl, fun m h => absurd h (kYe _), rfl, rfl, .inl rfl⟩
  ·exact ⟨3, 1, 4, by decide, rfl, rfl, fun m h => by rw [show m = 0 by omega]; show some _ ≠ some _; decide +kernel, rfl, rfl, .inr (.inl rfl)⟩
  ·refine ⟨4, 2, 2, by decide, rfl, rfl, fun m h => ?_, rfl, rfl, .inr (.inr (.inl rfl))⟩
   rcases (show m = 0 ∨ m = 1 by omega) with rfl | rfl <;> (show some _ ≠ some _; decide +kernel)
  ·refine ⟨5, 3, 5, by decide, rfl, rfl, fun m h => ?_, rfl, rfl, .inr (.inr (.inr rfl))⟩
   rcases (show m = 0 ∨ m = 1 ∨ m = 2 by omega) with rfl | rfl | rfl <;> (show some _ ≠ some _; decide +kernel)
 have no : ∀ H', Same H H' → (¬ FV B (.str (wordOf i) :: ks)) → Q (.bl false) H' := fun H' s' h => q false H' s' ⟨fun z => (nomatch z), fun z => absurd z h⟩
 refine ⟨_, rfl, l, _, _, _, rfl, rfl, Qb hq.hl, (show atI (V.str (wordOf i) :: ks) 0 = some (.str (wordOf i)) from Zp (k := 0) rfl), ?_⟩
 refine ⟨_, rfl, l, _, rfl, .inl (Qb hq.hl), by show 4 ≤ sizeLine; decide, fun p1 hp1 => ?_⟩
 have s1 := Qd hp1 (.lst [.int 3, .int 4, .int 2, .int 5])
 have h1 : upd H p1 (.lst [.int 3, .int 4, .int 2, .int 5]) p1 = some (.lst [.int 3, .int 4, .int 2, .int 5]) := Qe
 generalize upd H p1 (.lst [.int 3, .int 4, .int 2, .int 5]) = H1 at s1 h1 ⊢
 refine ⟨by show 4 ≤ sizeLine; decide, fun p2 hp2 => ?_⟩
 have s2 := Qd hp2 (.lst [.str "bench", .str "store", .str "work", .str "way"])
 have h2 : upd H1 p2 (.lst [.str "bench", .str "store", .str "work", .str "way"]) p2 = some (.lst ((["bench", "store", "work", "way"] : List Str).map V.str)) := Qe
 generalize upd H1 p2 (.lst [.str "bench", .str "store", .str "work", .str "way"]) = H2 at s2 h2 ⊢
 refine ⟨.inl ⟨rfl, _, Qb h2⟩, _, rfl, p2, _, _, j, rfl, rfl, Qb h2, hj, hno, p1, _, _, _, rfl, rfl, Qb (s2 _ _ h1), hL, rfl, _, rfl, ite2 (fun c => ?_) (fun c => ?_)⟩
 ·refine no H2 (s1.trans s2) fun f => not_true c (yK ?_)
  rw [eL, yZ, Qkh hi f]
  congr 1
  omega
 have hlk : ks.length = nmK i + (bdsK i).length := by
  by_cases e : ks.length = nmK i + (bdsK i).length
  ·exact e
  ·refine absurd (show (!decide _) = true from ?_) c
   rw [jXf, decide_eq_false_iff_not]
   intro z
   injection z with z
   rw [eL, yZ] at z
   omega
 clear c h1 h2 hL hj hno eL
 have s02 := s1.trans s2
 replace hq := hq.same s02
 replace no : ∀ H', Same H2 H' → (¬ FV B (.str (wordOf i) :: ks)) → Q (.bl false) H' := fun H' s' h => no H' (s02.trans s') h
 replace q : ∀ (b : Bool) (H' : Hp), Same H2 H' → (b = true ↔ FV B (.str (wordOf i) :: ks)) → Q (.bl b) H' := fun b H' s' h => q b H' (s02.trans s') h
 clear s1 s2 s02 hp1 hp2 hw
 rcases hij with rfl | rfl | rfl | rfl
 ·obtain ⟨a, b, rfl⟩ := l2 (show ks.length = 2 from hlk)
  refine ⟨_, rfl, rfl, _, rfl, ite2 (fun c => absurd c (by decide +kernel)) (fun _ => ?_)⟩
  refine ⟨_, rfl, l, _, _, _, rfl, rfl, Qb hq.hl, (show atI [V.str (wordOf 1), a, b] 1 = some a from rfl), a, rfl, hq.pl.1 a (by simp), fun b1 H3 s3 hb1 => ?_⟩
  refine ⟨b1, rfl, ite2 (fun c => ?_) (fun c => ?_)⟩
  ·exact iteT (no H3 s3 fun h => not_true c (hb1.mpr ((Vh hA hne).mp h).1))
  have nm : Ju a := hb1.mp (by cases b1 with | true => rfl | false => exact absurd rfl c)
  replace hq := hq.same s3
  refine ⟨_, rfl, l, _, _, _, rfl, rfl, Qb hq.hl, (show atI [V.str (wordOf 1), a, b] 1 = some a from rfl), _, rfl, _, rfl, d, us, B, "bench", rfl, hq.hd, hq.hB, by have := hq.len; omega, fun g H4 s4 hg => ?_⟩
  have s34 := s3.trans s4
  refine ⟨g, _, rfl, Qb hg, (hq.same s4).od a (by simp), flat_keys _, _, rfl, ite2 (fun c5 => ?_) (fun c5 => ?_)⟩
  ·exact no H4 s34 fun h => ((Vh hA hne).mp h).2.1 ((th_V (.inl rfl) rfl).mp c5)
  have nS : ¬ Ya B [.str "bench", a] := fun h => c5 ((th_V (.inl rfl) rfl).mpr h)
  replace hq := hq.same s4
  refine ⟨_, rfl, rfl, _, rfl, iteT ?_⟩
  refine ⟨_, rfl, l, _, _, _, rfl, rfl, Qb hq.hl, (show atI [V.str (wordOf 1), a, b] 2 = some b from rfl), b, 0, 99, rfl, hq.od b (by simp), fun b2 hb2 => q b2 H4 s34 (hb2.trans ⟨fun h => (Vh hA hne).mpr ⟨nm, nS, h⟩, fun h => ((Vh hA hne).mp h).2.2⟩)⟩
 ·obtain ⟨a, b, c, rfl⟩ := l3 (show ks.length = 3 from hlk)
  refine ⟨_, rfl, rfl, _, rfl, ite2 (fun c => absurd c (by decide +kernel)) (fun _ => ?_)⟩
  refine ⟨_, rfl, l, _, _, _, rfl, rfl, Qb hq.hl, (show atI [V.str (wordOf 3), a, b, c] 1 = some a from rfl), a, rfl, hq.pl.1 a (by simp), fun b1 H3 s3 hb1 => ?_⟩
  refine ⟨b1, rfl, ite2 (fun c9 => ?_) (fun c9 => ?_)⟩
  ·exact iteT (no H3 s3 fun h => not_true c9 (hb1.mpr ((Km hA hne).mp h).1))
  have nm : Ju a := hb1.mp (by cases b1 with | true => rfl | false => exact absurd rfl c9)
  replace hq := hq.same s3
  refine ⟨_, rfl, l, _, _, _, rfl, rfl, Qb hq.hl, (show atI [V.str (wordOf 3), a, b, c] 1 = some a from rfl), _, rfl, _, rfl, d, us, B, "store", rfl, hq.hd, hq.hB, by have := hq.len; omega, fun g H4 s4 hg => ?_⟩
  have s34 := s3.trans s4
  refine ⟨g, _, rfl, Qb hg, (hq.same s4).od a (by simp), flat_keys _, _, rfl, ite2 (fun c5 => ?_) (fun c5 => ?_)⟩
  ·exact no H4 s34 fun h => ((Km hA hne).mp h).2.1 ((th_V (.inr (.inl rfl)) rfl).mp c5)
  have nS : ¬ Ya B [.str "store", a] := fun h => c5 ((th_V (.inr (.inl rfl)) rfl).mpr h)
  replace hq := hq.same s4
  refine ⟨_, rfl, rfl, _, rfl, ite2 (fun c => absurd c (by decide +kernel)) (fun _ => ?_)⟩
  refine ⟨_, rfl, rfl, _, rfl, ite2 (fun c => absurd c (by decide +kernel)) (fun _ => ?_)⟩
  refine ⟨_, rfl, l, _, _, _, rfl, rfl, Qb hq.hl, (show atI [V.str (wordOf 3), a, b, c] 2 = some b from rfl), b, 0, 999, rfl, hq.od b (by simp), fun b2 hb2 => ⟨b2, rfl, ite2 (fun c6 => ?_) (fun c6 => ?_)⟩⟩
  ·obtain ⟨z, rfl, z0, z1⟩ := hb2.mp c6
   refine ⟨_, rfl, l, _, _, _, rfl, rfl, Qb hq.hl, (show atI [V.str (wordOf 3), a, .int z, c] 3 = some c from rfl), _, rfl, l, _, _, _, rfl, rfl, Qb hq.hl, (show atI [V.str (wordOf 3), a, .int z, c] 2 = some (.int z) from rfl), c, 0, z, rfl, hq.od c (by simp), fun b3 hb3 => q b3 H4 s34 (hb3.trans ⟨fun h => (Km hA hne).mpr ⟨nm, nS, z, rfl, z0, z1, h⟩, fun h => ?_⟩)⟩
   obtain ⟨_, _, z', e, _, _, h'⟩ := (Km hA hne).mp h
   cases e
   exact h'
  ·exact no H4 s34 fun h => by
    obtain ⟨_, _, z', rfl, z0, z1, h'⟩ := (Km hA hne).mp h
    exact c6 (hb2.mpr ⟨z', rfl, z0, z1⟩)
 ·obtain ⟨a, rfl⟩ := l1 (show ks.length = 1 from hlk)
  refine ⟨_, rfl, rfl, _, rfl, ite2 (fun c => absurd c (by decide +kernel)) (fun _ => ?_)⟩
  refine ⟨_, rfl, l, _, _, _, rfl, rfl, Qb hq.hl, (show atI [V.str (wordOf 4), a] 1 = some a from rfl), a, rfl, hq.pl.1 a (by simp), fun b1 H3 s3 hb1 => ?_⟩
  refine ⟨b1, rfl, ite2 (fun c9 => ?_) (fun c9 => ?_)⟩
  ·exact iteT (no H3 s3 fun h => not_true c9 (hb1.mpr ((Qec hA hne).mp h).1))
  have nm : Ju a := hb1.mp (by cases b1 with | true => rfl | false => exact absurd rfl c9)
  replace hq := hq.same s3
  refine ⟨_, rfl, l, _, _, _, rfl, rfl, Qb hq.hl, (show atI [V.str (wordOf 4), a] 1 = some a from rfl), _, rfl, _, rfl, d, us, B, "work", rfl, hq.hd, hq.hB, by have := hq.len; omega, fun g H4 s4 hg => ?_⟩
  have s34 := s3.trans s4
  refine ⟨g, _, rfl, Qb hg, (hq.same s4).od a (by simp), flat_keys _, _, rfl, ite2 (fun c5 => ?_) (fun c5 => ?_)⟩
  ·exact no H4 s34 fun h => ((Qec hA hne).mp h).2 ((th_V (.inr (.inr rfl)) rfl).mp c5)
  have nS : ¬ Ya B [.str "work", a] := fun h => c5 ((th_V (.inr (.inr rfl)) rfl).mpr h)
  refine ⟨_, rfl, rfl, _, rfl, ite2 (fun c => absurd c (by decide +kernel)) (fun _ => ?_)⟩
  refine ⟨_, rfl, rfl, _, rfl, iteT ?_⟩
  exact q true H4 s34 ⟨fun _ => (Qec hA hne).mpr ⟨nm, nS⟩, fun _ => rfl⟩
 ·obtain ⟨a, b, c, m, rfl⟩ := len4 (show ks.length = 4 from hlk)
  refine ⟨_, rfl, rfl, _, rfl, iteT ?_⟩
  refine ⟨_, rfl, l, _, _, _, rfl, rfl, Qb hq.hl, (show atI [V.str (wordOf 5), a, b, c, m] 1 = some a from rfl), _, rfl, d, us, B, "work", rfl, hq.hd, hq.hB, by have := hq.len; omega, fun g H3 s3 hg => ?_⟩
  refine ⟨g, _, rfl, Qb hg, (hq.same s3).od a (by simp), flat_keys _, _, rfl, ite2 (fun c5 => ?_) (fun c5 => ?_)⟩
  ·exact iteT (no H3 s3 fun h => not_true c5 ((th_V (.inr (.inr rfl)) rfl).mpr ((Qah hA).mp h).1))
  have hS : Ya B [.str "work", a] := (th_V (.inr (.inr rfl)) rfl).mp (yB c5)
  replace hq := hq.same s3
  refine ⟨_, rfl, l, _, _, _, rfl, rfl, Qb hq.hl, (show atI [V.str (wordOf 5), a, b, c, m] 2 = some b from rfl), b, rfl, hq.pl.1 b (by simp), fun b1 H4 s4 hb1 => ?_⟩
  have s34 := s3.trans s4
  refine ⟨b1, rfl, ite2 (fun c9 => ?_) (fun c9 => ?_)⟩
  ·exact no H4 s34 fun h => not_true c9 (hb1.mpr ((Qah hA).mp h).2.1)
  have nm : Ju b := hb1.mp (by cases b1 with | true => rfl | false => exact absurd rfl c9)
  replace hq := hq.same s4
  replace no : ∀ H', Same H4 H' → (¬ FV B [.str (wordOf 5), a, b, c, m]) → Q (.bl false) H' := fun H' s' h => no H' (s34.trans s') h
  replace q : ∀ (b' : Bool) (H' : Hp), Same H4 H' → (b' = true ↔ FV B [.str (wordOf 5), a, b, c, m]) → Q (.bl b') H' := fun b' H' s' h => q b' H' (s34.trans s') h
  clear s3 s4 s34 hg hb1 c9 c5
  refine ⟨_, rfl, d, rfl, ⟨_, Qb hq.hd⟩, fun D hD => ?_⟩
  obtain ⟨zs, eu, eA, hzs⟩ := Jf hq.hB
  have lz : zs.length ≤ 150000 := by have := hq.len; rw [← eA, jW] at this; exact this
  refine Kt (fun z : Addr × BR => V.ref z.1) id (fun z : Addr × BR => Zf a b z.2) rfl (Yj (val := fun z : Addr × BR => V.ref z.1) (Qb (by rw [← eu]; exact hq.hd))) (by omega) hD (fun z hz' H6 s6 P h => ?_) (fun z hz' _ H6 s6 P h => ?_) fun H6 s6 h6 => ?_
  ·have hzr := s6 _ _ (hzs z hz')
   have hl6 := s6 _ _ hq.hl
   refine ⟨_, rfl, z.1, _, _, _, rfl, rfl, Qb hzr, Zr z.2, rfl, _, rfl, ite2 (fun c1 => ?_) (fun c1 => ?_)⟩
   ·have w1 : isW "way" z.2 = true := c1
    obtain ⟨x, y, l', c', er⟩ := Kg (isW_iff.mp w1)
    have ex : kV z.2.c1 = .str x := by rw [er]; rfl
    have ey : kV z.2.c2 = .str y := by rw [er]; rfl
    refine ⟨_, rfl, z.1, _, _, _, rfl, rfl, Qb hzr, Qpz z.2, _, rfl, l, _, _, _, rfl, rfl, Qb hl6, (show atI [V.str (wordOf 5), a, b, c, m] 1 = some a from rfl), x, ex, (hq.same s6).od a (by simp), _, rfl, ite2 (fun c2 => ?_) (fun c2 => ?_)⟩
    ·refine ⟨_, rfl, z.1, _, _, _, rfl, rfl, Qb hzr, (show atI (z.2.cells.map kV) 2 = some (kV z.2.c2) by rw [er]; rfl), _, rfl, l, _, _, _, rfl, rfl, Qb hl6, (show atI [V.str (wordOf 5), a, b, c, m] 2 = some b from rfl), y, ey, (hq.same s6).od b (by simp), _, rfl, ?_⟩
     have h5 := h H6 (Same.refl _)
     unfold Zf at h5
     rw [w1, ex, ey, c2, jZe, jZe] at h5
     exact h5
    ·have h5 := h H6 (Same.refl _)
     unfold Zf at h5
     rw [w1, ex, jYa.mpr c2, jZe, jKc] at h5
     exact h5
   ·have w1 : isW "way" z.2 = false := jYa.mpr c1
    have h5 := h H6 (Same.refl _)
    unfold Zf at h5
    rw [w1, jKc] at h5
    exact h5
  ·exact ⟨_, rfl, h H6 (Same.refl _)⟩
  refine ⟨by show 0 ≤ sizeLine; decide, fun e he => ?_⟩
  have s7 := s6.trans (Qd he (.lst []))
  refine ⟨D, e, _, rfl, rfl, Qb (Qd he _ _ _ h6), Qb Qe, ?_⟩
  generalize upd H6 e (.lst []) = H7 at s7 ⊢
  have em : ((zs.filter fun z : Addr × BR => Zf a b z.2).map id |>.map fun z : Addr × BR => V.ref z.1).isEmpty = (B.filter (Zf a b)).isEmpty := by
   rw [wX, wX, ← eA, kZa, wX]
   rfl
  rw [em]
  refine ⟨_, rfl, ite2 (fun c5 => ?_) (fun c5 => ?_)⟩
  ·exact no H7 s7 fun h => not_true c5 (wayV_in.mpr ((Qah hA).mp h).2.2.1)
  have nW : ¬ Ya B [.str "way", a, b] := wayV_in.mp (by
   cases hb : (B.filter (Zf a b)).isEmpty with
   | true => rfl
   | false => exact absurd (by rw [hb]; rfl) c5)
  replace hq := hq.same s7
  refine ⟨_, rfl, l, _, _, _, rfl, rfl, Qb hq.hl, (show atI [V.str (wordOf 5), a, b, c, m] 3 = some c from rfl), _, rfl, c, 1, _, rfl, hq.od c (by simp), fun b2 hb2 => ⟨b2, rfl, ite2 (fun c6 => ?_) (fun c6 => ?_)⟩⟩
  ·refine ⟨_, rfl, l, _, _, _, rfl, rfl, Qb hq.hl, (show atI [V.str (wordOf 5), a, b, c, m] 4 = some m from rfl), m, 0, 999999, rfl, hq.od m (by simp), fun b3 hb3 => q b3 H7 s7 (hb3.trans ⟨fun h => (Qah hA).mpr ⟨hS, nm, nW, hb2.mp c6, h⟩, fun h => ((Qah hA).mp h).2.2.2.2⟩)⟩
  ·exact no H7 s7 fun h => c6 (hb2.mpr ((Qah hA).mp h).2.2.2.1)
end
abbrev sLFo : Stmt := top 34
def Qki (K : Fg) : Sp := fun vs H Q _ => ∃ (d l : Addr) (us : List V) (A : List BR) (w : Str) (ks : List V), vs = [.ref d, .ref l, .int (Ym A)] ∧ AskV K H d l us A (.str w :: ks) ∧ A ≠ [] ∧ (w = "shut" ∨ w = "uses" ∨ w = "takes" ∨ w = "gives" ∨ w = "after" ∨ w = "late") ∧ ∀ (b : Bool) (H' : Hp), Same H H' → (b = true ↔ FV A (.str w :: ks)) → Q (.bl b) H'
theorem Qfs {X : Cx} {K : Fg} (hK : X.K = K) : SlR X (rSlL K) := by subst hK; exact Xl
theorem Wo (xs : List V) (m : Nat) : cutV xs none (some ((m : Nat) : Int)) = xs.take m := by
 unfold cutV
 rw [HT.sIx_none, HT.sIx_nat, List.drop_zero, Nat.sub_zero]
 by_cases h : m ≤ xs.length
 ·rw [xX h]
 ·rw [Nat.min_eq_right (by omega), wV, jZb (by omega)]
def PreV (m : Nat) (vs : List V) (r : BR) : Prop := ((r.cells.map kV).take m).length = (vs.take m).length ∧ ∀ j, j < ((r.cells.map kV).take m).length → eqV (((r.cells.map kV).take m).getD j .non) ((vs.take m).getD j .non) = true
open Classical in
def Ky (m : Nat) (vs : List V) (r : BR) : Bool := decide (PreV m vs r)
open Classical in
theorem Qbl (m : Nat) (vs : List V) (r : BR) : Ky m vs r = true ↔ PreV m vs r := by unfold Ky; exact decide_eq_true_iff
theorem Qft {r : BR} {i : Nat} (hk : r.kind = i) : (r.cells.map kV).take (1 + nmK i) = r.key.map kV := by
 have lk : r.key.length = 1 + nmK i := by rw [Jt, Zb, hk]; rfl
 unfold BR.cells
 rw [← kQb, kYf lk]
theorem Wp (r : BR) : ∀ v ∈ r.key.map kV, ∃ x, v = .str x := by
 intro v hv
 obtain ⟨k, hk, rfl⟩ := xZ.mp hv
 unfold BR.key at hk
 rcases jZ.mp hk with e | e
 ·exact ⟨r.word, by rw [e]; rfl⟩
 ·obtain ⟨x, _, rfl⟩ := xZ.mp e
  exact ⟨x, rfl⟩
theorem Qkj {x : Str} {y : V} (h : eqV (.str x) y = true) : y = .str x := by
 cases y with
 | str z => rw [show x = z from beq_iff_eq.mp h]
 | _ => exact nomatch h
theorem Qqe {A : List BR} {i : Nat} (hi : i < 11) {ks : List V} (hl : nmK i ≤ ks.length) : ((A.filter (Ky (1 + nmK i) (.str (wordOf i) :: ks))).isEmpty = true) ↔ ¬ Ya A (.str (wordOf i) :: ks.take (nmK i)) := by
 have e0 : (V.str (wordOf i) :: ks).take (1 + nmK i) = .str (wordOf i) :: ks.take (nmK i) := by rw [Nat.add_comm]; rfl
 rw [jXb, kYa]
 constructor
 ·rintro h ⟨kk, e, q, hq, ek⟩
  rw [← ek] at e
  have hw : wordOf i = q.word := V.str.inj (List.cons.inj e).1
  refine h q hq ((Qbl _ _ _).mpr ?_)
  unfold PreV
  rw [Qft (Zu hi hw.symm), e0, e]
  refine ⟨rfl, fun j hj => ?_⟩
  obtain ⟨x, ex⟩ := Wp q _ (jQa hj)
  rw [wW, gE hj]
  show eqV (q.key.map kV)[j] (q.key.map kV)[j] = true
  rw [ex]
  exact Qba rfl
 ·intro h r hr c
  obtain ⟨h1, h2⟩ := (Qbl _ _ _).mp c
  rw [e0] at h1 h2
  have l1 : (V.str (wordOf i) :: ks.take (nmK i)).length = 1 + nmK i := by rw [yZ, zZ]; omega
  have h3 := h2 0 (by omega)
  have hw : r.word = wordOf i := by
   have e5 : ((r.cells.map kV).take (1 + nmK i)).getD 0 .non = .str r.word := by rw [Yc, Nat.add_comm]; rfl
   rw [e5] at h3
   exact (V.str.inj (Qkj h3)).symm
  have hk := Zu hi hw
  rw [Qft hk] at h1 h2
  refine h ⟨r.key, List.ext_getElem h1.symm fun j j1 j2 => ?_, r, hr, rfl⟩
  have h4 := h2 j j2
  obtain ⟨x, ex⟩ := Wp r _ (jQa j2)
  rw [wW, wW, gE j2, gE j1] at h4
  have h5 : eqV (r.key.map kV)[j] (V.str (wordOf i) :: ks.take (nmK i))[j] = true := h4
  rw [ex] at h5
  rw [ex]
  exact Qkj h5
theorem Qfu {A : List BR} {i : Nat} {ks : List V} (f : FV A (.str (wordOf i) :: ks)) : ∃ (cs : List Key) (r : BR), ks = cs.map kV ∧ Fit A (.inr (wordOf i) :: cs) r := by
 obtain ⟨r, e, f⟩ := f
 cases hc : r.cells with
 | nil => exact absurd hc (Za r)
 | cons k0 cs =>
  rw [hc] at e
  have h0 : V.str (wordOf i) = kV k0 := (List.cons.inj e).1
  have e0 : k0 = .inr (wordOf i) := by
   cases k0 with
   | inl z => exact nomatch h0
   | inr z => cases h0; rfl
  rw [hc, e0] at f
  exact ⟨cs, r, (List.cons.inj e).2, f⟩
theorem Qqf {B : List BR} {i : Nat} (hi : i < 11) {ks : List Key} {r : BR} (f : Fit B (.inr (wordOf i) :: ks) r) (h2 : i ≠ 2) : ¬ Said B (.inr (wordOf i) :: ks.take (nmK i)) := by
 obtain ⟨hk, hl⟩ := Yy hi f
 have hw : r.word ≠ "shut" := fun e => h2 (by rw [← hk]; exact Zu (i := 2) (by decide) e)
 have h3 := f.nw hw
 have e : .inr (wordOf i) :: ks.take (nmK i) = r.key := by
  have h5 := congrArg (List.take (1 + nmK i)) f.eq
  have lk : r.key.length = 1 + nmK i := by rw [Jt, Zb, hk]; rfl
  unfold BR.cells at h5
  rw [kYf lk, Nat.add_comm] at h5
  exact h5
 rw [e]
 exact h3
theorem Qbm {B : List BR} (hB : Good B) {a b : Key} (h : Said B [.inr "way", a, b]) : Said B [.inr "work", a] := by
 obtain ⟨q, hq, e⟩ := h
 obtain ⟨i, ei⟩ := wJ.mp hq
 obtain ⟨x, y, l, c, rfl⟩ := Kg (Vf e)
 have e' : [Sum.inr ("way" : Str), .inr x, .inr y] = [Sum.inr ("way" : Str), a, b] := e
 injection e' with _ e
 injection e with e1 e
 subst e1
 exact ((hB i _ ei).nd _ jY).mono fun q hq => jYb hq
theorem Qkk {B : List BR} (hB : Good B) {i : Nat} (hi : i = 6 ∨ i = 7 ∨ i = 8 ∨ i = 9 ∨ i = 10) {a : Key} {ks : List Key} {r : BR} (f : Fit B (.inr (wordOf i) :: a :: ks) r) : Said B [.inr "work", a] := by
 obtain ⟨hk, hl⟩ := Yy (by omega) f
 rcases hi with rfl | rfl | rfl | rfl | rfl
 ·obtain ⟨b, c, m, rfl⟩ := l3 (show ks.length = 3 by have : ks.length + 1 = 4 := hl; omega)
  exact Qbm hB ((Qbi hB 0).mp ⟨r, f⟩).2.1
 ·obtain ⟨b, c, m, rfl⟩ := l3 (show ks.length = 3 by have : ks.length + 1 = 4 := hl; omega)
  exact Qbm hB ((Qbi hB 1).mp ⟨r, f⟩).2.1
 ·obtain ⟨b, c, m, rfl⟩ := l3 (show ks.length = 3 by have : ks.length + 1 = 4 := hl; omega)
  exact Qbm hB ((Qbi hB 2).mp ⟨r, f⟩).2.1
 ·obtain ⟨b, c, rfl⟩ := l2 (show ks.length = 2 by have : ks.length + 1 = 3 := hl; omega)
  exact ((Qcy hB).mp ⟨r, f⟩).2.1
 ·obtain ⟨b, c, rfl⟩ := l2 (show ks.length = 2 by have : ks.length + 1 = 3 := hl; omega)
  exact ((Qfp hB).mp ⟨r, f⟩).2.1
theorem fv_pre {B : List BR} {i : Nat} (hi : i < 11) {ks : List V} (f : FV B (.str (wordOf i) :: ks)) (h2 : i ≠ 2) : ¬ Ya B (.str (wordOf i) :: ks.take (nmK i)) := by
 obtain ⟨cs, r, rfl, g⟩ := Qfu f
 rw [← kQb]
 exact fun h => Qqf hi g h2 ((Xk (ks := .inr (wordOf i) :: cs.take (nmK i))).mp h)
theorem Qmr {B : List BR} (hB : Good B) {i : Nat} (hi : i = 6 ∨ i = 7 ∨ i = 8 ∨ i = 9 ∨ i = 10) {a : V} {ks : List V} (f : FV B (.str (wordOf i) :: a :: ks)) : Ya B [.str "work", a] := by
 obtain ⟨cs, r, e, f⟩ := Qfu f
 cases cs with
 | nil => exact nomatch e
 | cons k cs =>
  have h1 : a = kV k := (List.cons.inj e).1
  rw [h1]
  exact (Xk (ks := [.inr "work", k])).mpr (Qkk hB hi f)
theorem Qda {B : List BR} {a : V} (h : Ya B [.str "work", a]) : ∃ x, a = .str x := by
 obtain ⟨ks, e, q, hq, ek⟩ := h
 rw [← ek] at e
 exact Wp q a (by rw [← e]; simp)
theorem Qkl {B : List BR} {a b : V} (h : Ya B [.str "work", b]) (h' : Ya B [.str "work", a]) : scal b a = true := by
 obtain ⟨x, rfl⟩ := Qda h
 obtain ⟨y, rfl⟩ := Qda h'
 rfl
@[irreducible] def Kz (kvs : List (Key × V)) : TE := fun σ H Q => ∀ p, H p = none → Q (.ref p) (upd (upd H p (.dK [])) p (.dK (Zn [] kvs)))
theorem Qkm {kvs : List (Key × V)} {σ : St} {H : Hp} {Q : VK} (h : ∀ p, H p = none → Q (.ref p) (upd (upd H p (.dK [])) p (.dK (Zn [] kvs)))) : Kz kvs σ H Q := by unfold Kz; exact h
theorem Qkn {kvs : List (Key × V)} {σ : St} {H : Hp} {Q : VK} (h : Kz kvs σ H Q) : ∀ p, H p = none → Q (.ref p) (upd (upd H p (.dK [])) p (.dK (Zn [] kvs))) := by unfold Kz at h; exact h
theorem Qms {X : Cx} {x1 x2 x3 x4 x5 x6 : Str} {n1 n2 n3 n4 n5 n6 : Int} {j1 l1 j2 l2 j3 l3 j4 l4 j5 l5 j6 l6 : Nat} {p1 q1 p2 q2 p3 q3 p4 q4 p5 q5 p6 q6 pos : Pos} : PE X (.Dict [some (.Constant (.str x1) j1 p1), some (.Constant (.str x2) j2 p2), some (.Constant (.str x3) j3 p3), some (.Constant (.str x4) j4 p4), some (.Constant (.str x5) j5 p5), some (.Constant (.str x6) j6 p6)] [.Constant (.int n1) l1 q1, .Constant (.int n2) l2 q2, .Constant (.int n3) l3 q3, .Constant (.int n4) l4 q4, .Constant (.int n5) l5 q5, .Constant (.int n6) l6 q6] pos) (Kz [(.inr x1, .int n1), (.inr x2, .int n2), (.inr x3, .int n3), (.inr x4, .int n4), (.inr x5, .int n5), (.inr x6, .int n6)]) := by
 have h6 : PPs X pos [] [] [] := Qoq
 have h5 : PPs X pos [some (.Constant (.str x6) j6 p6)] [.Constant (.int n6) l6 q6] [(tC (.str x6), tC (.int n6))] := by
  refine Ji ?_ ?_ h6
  ·exact Qp
  ·exact Qc
 have h4 : PPs X pos [some (.Constant (.str x5) j5 p5), some (.Constant (.str x6) j6 p6)] [.Constant (.int n5) l5 q5, .Constant (.int n6) l6 q6] [(tC (.str x5), tC (.int n5)), (tC (.str x6), tC (.int n6))] := by
  refine Ji ?_ ?_ h5
  ·exact Qp
  ·exact Qc
 have h3 : PPs X pos [some (.Constant (.str x4) j4 p4), some (.Constant (.str x5) j5 p5), some (.Constant (.str x6) j6 p6)] [.Constant (.int n4) l4 q4, .Constant (.int n5) l5 q5, .Constant (.int n6) l6 q6] [(tC (.str x4), tC (.int n4)), (tC (.str x5), tC (.int n5)), (tC (.str x6), tC (.int n6))] := by
  refine Ji ?_ ?_ h4
  ·exact Qp
  ·exact Qc
 have h2 : PPs X pos [some (.Constant (.str x3) j3 p3), some (.Constant (.str x4) j4 p4), some (.Constant (.str x5) j5 p5), some (.Constant (.str x6) j6 p6)] [.Constant (.int n3) l3 q3, .Constant (.int n4) l4 q4, .Constant (.int n5) l5 q5, .Constant (.int n6) l6 q6] [(tC (.str x3), tC (.int n3)), (tC (.str x4), tC (.int n4)), (tC (.str x5), tC (.int n5)), (tC (.str x6), tC (.int n6))] := by
  refine Ji ?_ ?_ h3
  ·exact Qp
  ·exact Qc
 have h1 : PPs X pos [some (.Constant (.str x2) j2 p2), some (.Constant (.str x3) j3 p3), some (.Constant (.str x4) j4 p4), some (.Constant (.str x5) j5 p5), some (.Constant (.str x6) j6 p6)] [.Constant (.int n2) l2 q2, .Constant (.int n3) l3 q3, .Constant (.int n4) l4 q4, .Constant (.int n5) l5 q5, .Constant (.int n6) l6 q6] [(tC (.str x2), tC (.int n2)), (tC (.str x3), tC (.int n3)), (tC (.str x4), tC (.int n4)), (tC (.str x5), tC (.int n5)), (tC (.str x6), tC (.int n6))] := by
  refine Ji ?_ ?_ h2
  ·exact Qp
  ·exact Qc
 have h0 : PPs X pos [some (.Constant (.str x1) j1 p1), some (.Constant (.str x2) j2 p2), some (.Constant (.str x3) j3 p3), some (.Constant (.str x4) j4 p4), some (.Constant (.str x5) j5 p5), some (.Constant (.str x6) j6 p6)] [.Constant (.int n1) l1 q1, .Constant (.int n2) l2 q2, .Constant (.int n3) l3 q3, .Constant (.int n4) l4 q4, .Constant (.int n5) l5 q5, .Constant (.int n6) l6 q6] [(tC (.str x1), tC (.int n1)), (tC (.str x2), tC (.int n2)), (tC (.str x3), tC (.int n3)), (tC (.str x4), tC (.int n4)), (tC (.str x5), tC (.int n5)), (tC (.str x6), tC (.int n6))] := by
  refine Ji ?_ ?_ h1
  ·exact Qp
  ·exact Qc
 have e1 : ([some (.Constant (.str x1) j1 p1), some (.Constant (.str x2) j2 p2), some (.Constant (.str x3) j3 p3), some (.Constant (.str x4) j4 p4), some (.Constant (.str x5) j5 p5), some (.Constant (.str x6) j6 p6)] : List (Option Expr)).all (·.isSome) = true := rfl
 have e2 : ([some (.Constant (.str x1) j1 p1), some (.Constant (.str x2) j2 p2), some (.Constant (.str x3) j3 p3), some (.Constant (.str x4) j4 p4), some (.Constant (.str x5) j5 p5), some (.Constant (.str x6) j6 p6)] : List (Option Expr)).length = ([.Constant (.int n1) l1 q1, .Constant (.int n2) l2 q2, .Constant (.int n3) l3 q3, .Constant (.int n4) l4 q4, .Constant (.int n5) l5 q5, .Constant (.int n6) l6 q6] : List Expr).length := rfl
 have e3 : ([some (.Constant (.str x1) j1 p1), some (.Constant (.str x2) j2 p2), some (.Constant (.str x3) j3 p3), some (.Constant (.str x4) j4 p4), some (.Constant (.str x5) j5 p5), some (.Constant (.str x6) j6 p6)] : List (Option Expr)).length ≤ 15 := jKf rfl
 have e4 : ([some (.Constant (.str x1) j1 p1), some (.Constant (.str x2) j2 p2), some (.Constant (.str x3) j3 p3), some (.Constant (.str x4) j4 p4), some (.Constant (.str x5) j5 p5), some (.Constant (.str x6) j6 p6)] : List (Option Expr)) ≠ [] := kXf _ _
 clear h1 h2 h3 h4 h5 h6
 revert h0 e1 e2 e3 e4
 generalize ([some (.Constant (.str x1) j1 p1), some (.Constant (.str x2) j2 p2), some (.Constant (.str x3) j3 p3), some (.Constant (.str x4) j4 p4), some (.Constant (.str x5) j5 p5), some (.Constant (.str x6) j6 p6)] : List (Option Expr)) = ks
 generalize ([.Constant (.int n1) l1 q1, .Constant (.int n2) l2 q2, .Constant (.int n3) l3 q3, .Constant (.int n4) l4 q4, .Constant (.int n5) l5 q5, .Constant (.int n6) l6 q6] : List Expr) = vs
 intro h0 e1 e2 e3 e4
 have hd := Qor h0 e1 e2 e4 e3
 intro pins s σ H Q I h
 refine hd pins s σ H Q I ?_
 intro p hp
 exact ⟨Qe, [(.inr x1, .int n1), (.inr x2, .int n2), (.inr x3, .int n3), (.inr x4, .int n4), (.inr x5, .int n5), (.inr x6, .int n6)], rfl, jKf rfl, Qkn h p hp⟩
theorem Qmt {X : Cx} {x1 x2 x3 x4 x5 x6 : Str} {n1 n2 n3 n4 n5 n6 : Int} {j1 l1 j2 l2 j3 l3 j4 l4 j5 l5 j6 l6 : Nat} {p1 q1 p2 q2 p3 q3 p4 q4 p5 q5 p6 q6 pos : Pos} : QE X (.Dict [some (.Constant (.str x1) j1 p1), some (.Constant (.str x2) j2 p2), some (.Constant (.str x3) j3 p3), some (.Constant (.str x4) j4 p4), some (.Constant (.str x5) j5 p5), some (.Constant (.str x6) j6 p6)] [.Constant (.int n1) l1 q1, .Constant (.int n2) l2 q2, .Constant (.int n3) l3 q3, .Constant (.int n4) l4 q4, .Constant (.int n5) l5 q5, .Constant (.int n6) l6 q6] pos) (Kz [(.inr x1, .int n1), (.inr x2, .int n2), (.inr x3, .int n3), (.inr x4, .int n4), (.inr x5, .int n5), (.inr x6, .int n6)]) := by unfold QE; exact Qms
theorem qe_get {X : Cx} {D e : Expr} {kvs : List (Key × V)} {ty : TE} {pos : Pos} (hu : X.A.units + 1 < cLine) (hd : QE X D (Kz kvs)) (hi : PE X e ty) (hs : NoSl e) : QE X (.Subscript D e pos) (tDGet (Kz kvs) ty) := .of (Qoo hu hd.pe hi hs)
abbrev Qha : List (Key × V) := [(.inr "shut", .int 1), (.inr "uses", .int 4), (.inr "takes", .int 4), (.inr "gives", .int 4), (.inr "after", .int 3), (.inr "late", .int 2)]
theorem Ku : ∀ {w : Str} {m : Int}, (w, m) ∈ [(("shut" : Str), (1 : Int)), ("uses", 4), ("takes", 4), ("gives", 4), ("after", 3), ("late", 2)] → valV (Zn [] Qha) (.inr w) = some (.int m) := by
 intro w m h
 rcases jZ.mp h with e | h
 ·cases e; kernel_rfl
 rcases jZ.mp h with e | h
 ·cases e; kernel_rfl
 rcases jZ.mp h with e | h
 ·cases e; kernel_rfl
 rcases jZ.mp h with e | h
 ·cases e; kernel_rfl
 rcases jZ.mp h with e | h
 ·cases e; kernel_rfl
 rw [jQ] at h
 cases h
 kernel_rfl
theorem th_sb (k : Fin 3) : atI [V.str "store", V.str "bench"] (if decide (V.str (useW k) = V.str "uses") = true then 1 else 0) = some (.str (thK k)) := by
 match k with | 0 => kernel_rfl | 1 => kernel_rfl | 2 => kernel_rfl
theorem thK_of (k : Fin 3) : ∃ i, (i = 1 ∨ i = 3 ∨ i = 4) ∧ thK k = wordOf i := by
 match k with | 0 => exact ⟨1, .inl rfl, rfl⟩ | 1 => exact ⟨3, .inr (.inl rfl), rfl⟩ | 2 => exact ⟨3, .inr (.inl rfl), rfl⟩
section
variable {P : Program} {w : World} {K : Fg} {mg : Str → Option Value} {base : Heap}
theorem scLFo : FnScope ["_law_rows", "_law_row", "_law_days", "_law_word", "_law_many"] ["_law_rows", "_law_row", "_law_days"] (Qh sLFo) := ⟨rfl, rfl, rfl, by decide +kernel, rfl, by decide +kernel, by decide +kernel⟩
theorem okLFo  (F : Fn K mg "_law_fits_old" sLFo) (M : Mg mg) (cl_number : Cal P w K mg base 2 "_law_number" ["_law_thing", "_law_least", "_law_greatest"] (Qfo K)) (cl_things_of : Cal P w K mg base 1 "_law_things_of" ["_law_rows", "_law_word"] (Qka)) : Cal P w K mg base 3 "_law_fits_old" ["_law_rows", "_law_row", "_law_days"] (Qki K) := by
 refine Xr F scLFo (fun _ _ _ _ _ _ => Qcn (fun _ _ _ => rfl)) (fun vs H Q E h => ?_) (fun f cdv A outer s H vs Q E hr h => ?_)
 ·obtain ⟨d, l, us, B, w, ks, rfl, _⟩ := h
  rfl
 obtain ⟨d, l, us, B, w, ks, rfl, hq, hne, hw, q⟩ := h
 have hu6 : (A.deeper (PyProof.Rows.envOfC "_law_fits_old" (Qh sLFo) s.heap.objs.size f cdv)).units + 6 < cLine := zV (zX (by decide) _) hr.un
 have hu : (A.deeper (PyProof.Rows.envOfC "_law_fits_old" (Qh sLFo) s.heap.objs.size f cdv)).units + 1 < cLine := zV (zX (by decide) _) hr.un
 refine ⟨_, (QSs.pss (Yb (Qck (i := 3) scLFo.nd rfl (Or.inl rfl) (QE.of (Qn Qj (pv 1) Qc (fun _ _ => rfl))))
  (Yb (Qck (i := 4) scLFo.nd rfl (Or.inr rfl) (qe_get hu Qmt (pv 3) (fun _ _ => rfl)))
  (Yb (Qcl (Ql Qal (Qo Qt rfl M.len Xt (Qa (pv 1) Qf)) (Qk Qw Qc (Zl Qbu rfl M.int_ Qep (Qa (Xn Xy (pv 4) Qc (Qm _)) Qf))) (Qm _)) (Zq (Jo (QE.of Zm))) Je)
  (Yb (Qcl (Ql Xy (pv 3) Qp (Qm _)) (Yb (Qcl (PW.pt (Jb (Ql (Wj (n := 5) hu6) (Qn Qj (pv 1) Qc (fun _ _ => rfl)) (Xd cl_things_of (hr.mono (by decide)) (Qa (pv 0) (Qa Qp Qf))) rfl) (Ja (Zj (Yn (Xd cl_number (hr.mono (by decide)) (Qa (Qn Qj (pv 1) Qc (fun _ _ => rfl)) (Qa Qc (Qa (pv 2) Qf))))))))) (Zq (Jo (QE.of Zm))) Je)
  (Zq (Jo (QE.of (Xd cl_number (hr.mono (by decide)) (Qa (Qn Qj (pv 1) Qc (fun _ _ => rfl)) (Qa (Qk Qw (Qn Qj (pv 1) Qc (fun _ _ => rfl)) Qc) (Qa (pv 2) Qf)))))))) Je)
  (Yb (Qcl (PW.pt (Jb (Ql (Kd (K := K) (n := 6) rfl hu6) (Ko ["_law_one", "_law_row", "_law_many"] [none, some 1, some 4] rfl (Yv (pv 0)) (fun _ _ _ => (Xf (i := 0) (show (["_law_one", "_law_row", "_law_many"] : List Str).Nodup by decide +kernel) rfl (Or.inl rfl) (Or.inr rfl))) (fun _ _ _ => (Vs (Ql (Qpv (K := K) (n := 5) rfl hu6) (Xe (Qfs (K := K) rfl) (pv 0) Xm (Xg (pv 2))) (Xe (Qfs (K := K) rfl) (pv 1) Xm (Xg (pv 2))) (Qm _)))) (fun _ _ _ => (pv 0))) (QE.pe (Vv Kv)) (Qm _)) (Ja (Ql (Wj (n := 5) hu6) (Qn Qj (pv 1) Qc (fun _ _ => rfl)) (Xd cl_things_of (hr.mono (by decide)) (Qa (pv 0) (Qa Qp Qf))) rfl)))) (Zq (Jo (QE.of Zm))) Je)
  (Yb (Qcl (Ql Xy (pv 3) Qp (Qm _)) (Zq (Jo (QE.of (Yo (Xd cl_number (hr.mono (by decide)) (Qa (Qn Qj (pv 1) Qc (fun _ _ => rfl)) (Qa Qc (Qa (pv 2) Qf)))) (Zd (Xd cl_number (hr.mono (by decide)) (Qa (Qn Qj (pv 1) Qc (fun _ _ => rfl)) (Qa Qc (Qa Qc Qf))))))))) Je)
  (Yb (Qcl (Ql Xy (pv 3) Qp (Qm _)) (Zq (Jo (QE.of (Yo (Xn (Qjw (n := 5) hu6) (Qn Qj (pv 1) Qc (fun _ _ => rfl)) (Xd cl_things_of (hr.mono (by decide)) (Qa (pv 0) (Qa Qp Qf))) rfl) (Yo (Xn Qal (Qn Qj (pv 1) Qc (fun _ _ => rfl)) (Qn Qj (pv 1) Qc (fun _ _ => rfl)) (Qm _)) (Zd (Xd cl_number (hr.mono (by decide)) (Qa (Qn Qj (pv 1) Qc (fun _ _ => rfl)) (Qa Qc (Qa (pv 2) Qf)))))))))) Je)
  (Yb (Qcl (Ql (Kc (K := K) (n := 6) rfl hu6) (Ko ["_law_one", "_law_row"] [none, some 1] rfl (Yv (pv 0)) (fun _ _ _ => (Xf (i := 0) (show (["_law_one", "_law_row"] : List Str).Nodup by decide +kernel) rfl (Or.inl rfl) (Or.inr rfl))) (fun _ _ _ => (Vs (PW.pt (Zi (Ql Xy (Qn (Xv (K := K) rfl) (pv 0) Qc (fun _ _ => rfl)) Qp (Qm _)) (Zi (Ql (Qfk (K := K) (n := 6) rfl hu6) (Qn (Xv (K := K) rfl) (pv 0) Qc (fun _ _ => rfl)) (Qn (Xv (K := K) rfl) (pv 1) Qc (fun _ _ => rfl)) (Qm _)) (Yu (Ql (Qfk (K := K) (n := 6) rfl hu6) (Qn (Xv (K := K) rfl) (pv 0) Qc (fun _ _ => rfl)) (Qn (Xv (K := K) rfl) (pv 1) Qc (fun _ _ => rfl)) (Qm _)))))))) (fun _ _ _ => (pv 0))) (QE.pe (Vv Kv)) (Qm _)) (Zq (Jo (QE.of Zm))) Je)
  (Zq (Jo (QE.of (Yo (Xn (Qjw (n := 5) hu6) (Qn Qj (pv 1) Qc (fun _ _ => rfl)) (Xd cl_things_of (hr.mono (by decide)) (Qa (pv 0) (Qa (Qn Qj (QE.pe (Vv (Xb (QE.of Qp) (Xb (QE.of Qp) Kv)))) (Zl Qbu rfl M.int_ Qep (Qa (Xn Xy (pv 3) Qp (Qm _)) Qf)) (fun _ _ => rfl)) Qf))) rfl) (Zd (Xd cl_number (hr.mono (by decide)) (Qa (Qn Qj (pv 1) Qc (fun _ _ => rfl)) (Qa Qc (Qa Qc Qf)))))))))))))))))), ?_⟩
 refine Qly ?_
 intro rT9 rT8 rT7 rT6 rT5 rT4 rT3 rT2
 have hz : (2000000 : Nat) < sizeLine := by decide
 have hA := hq.hA
 obtain ⟨i, mm, hi, rfl, hv, hL, hmm, hij⟩ : ∃ (i mm : Nat), i < 11 ∧ w = wordOf i ∧ valV (Zn [] Qha) (.inr w) = some (.int (mm : Int)) ∧ (4 : Int) + (if decide (V.int (mm : Int) = V.int 4) = true then 1 else 0) = ((1 + nmK i + (bdsK i).length : Nat) : Int) ∧ (i = 2 ∨ mm = 1 + nmK i) ∧ (i = 2 ∨ i = 6 ∨ i = 7 ∨ i = 8 ∨ i = 9 ∨ i = 10) := by
  rcases hw with rfl | rfl | rfl | rfl | rfl | rfl
  ·exact ⟨2, 1, by decide, rfl, Ku (by simp), rfl, .inl rfl, .inl rfl⟩
  ·exact ⟨6, 4, by decide, rfl, Ku (by simp), rfl, .inr rfl, .inr (.inl rfl)⟩
  ·exact ⟨7, 4, by decide, rfl, Ku (by simp), rfl, .inr rfl, .inr (.inr (.inl rfl))⟩
  ·exact ⟨8, 4, by decide, rfl, Ku (by simp), rfl, .inr rfl, .inr (.inr (.inr (.inl rfl)))⟩
  ·exact ⟨9, 3, by decide, rfl, Ku (by simp), rfl, .inr rfl, .inr (.inr (.inr (.inr (.inl rfl))))⟩
  ·exact ⟨10, 2, by decide, rfl, Ku (by simp), rfl, .inr rfl, .inr (.inr (.inr (.inr (.inr rfl))))⟩
 have no : ∀ H', Same H H' → (¬ FV B (.str (wordOf i) :: ks)) → Q (.bl false) H' := fun H' s' h => q false H' s' ⟨fun z => (nomatch z), fun z => absurd z h⟩
 refine ⟨_, rfl, l, _, _, _, rfl, rfl, Qb hq.hl, (show atI (V.str (wordOf i) :: ks) 0 = some (.str (wordOf i)) from Zp (k := 0) rfl), ?_⟩
 refine Qkm fun p1 hp1 => ?_
 have s1 : Same H (upd (upd H p1 (.dK [])) p1 (.dK (Zn [] Qha))) := Yi (Qd hp1 _) hp1
 have h1 : upd (upd H p1 (.dK [])) p1 (.dK (Zn [] Qha)) p1 = some (.dK (Zn [] Qha)) := Qe
 generalize upd (upd H p1 (.dK [])) p1 (.dK (Zn [] Qha)) = H2 at s1 h1 ⊢
 refine ⟨_, rfl, p1, .int (mm : Int), rfl, by rw [← hv]; exact DGet.k (k := .inr (wordOf i)) h1, ?_⟩
 replace hq := hq.same s1
 refine ⟨_, rfl, l, _, rfl, .inl (Qb hq.hl), _, rfl, rfl, .inr ⟨_, rfl, _, _, rfl, rfl, rfl, _, rfl, ite2 (fun c => ?_) (fun c => ?_)⟩⟩
 ·refine no H2 s1 fun f => not_true c (yK ?_)
  dsimp only
  rw [hL, yZ, Qkh hi f]
  congr 1
  omega
 have hlk : ks.length = nmK i + (bdsK i).length := by
  by_cases e : ks.length = nmK i + (bdsK i).length
  ·exact e
  ·refine absurd (show (!decide _) = true from ?_) c
   rw [jXf, decide_eq_false_iff_not]
   intro z
   injection z with z
   rw [hL, yZ] at z
   omega
 clear c hL hv h1
 replace no : ∀ H', Same H2 H' → (¬ FV B (.str (wordOf i) :: ks)) → Q (.bl false) H' := fun H' s' h => no H' (s1.trans s') h
 replace q : ∀ (b : Bool) (H' : Hp), Same H2 H' → (b = true ↔ FV B (.str (wordOf i) :: ks)) → Q (.bl b) H' := fun b H' s' h => q b H' (s1.trans s') h
 clear s1 hp1 hw
 by_cases h2i : i = 2
 ·subst h2i
  obtain ⟨a, b, c, rfl⟩ := l3 (show ks.length = 3 from hlk)
  refine ⟨_, rfl, rfl, _, rfl, iteT ?_⟩
  refine ⟨_, rfl, l, _, _, _, rfl, rfl, Qb hq.hl, (show atI [V.str (wordOf 2), a, b, c] 1 = some a from rfl), _, rfl, d, us, B, "bench", rfl, hq.hd, hq.hB, by have := hq.len; omega, fun g H3 s3 hg => ?_⟩
  refine ⟨g, _, rfl, Qb hg, (hq.same s3).od a (by simp), flat_keys _, _, rfl, ite2 (fun c5 => ?_) (fun c5 => ?_)⟩
  ·exact iteT (no H3 s3 fun h => not_true c5 ((th_V (.inl rfl) rfl).mpr ((Qbk hA).mp h).1))
  have hS : Ya B [.str "bench", a] := (th_V (.inl rfl) rfl).mp (yB c5)
  replace hq := hq.same s3
  refine ⟨_, rfl, l, _, _, _, rfl, rfl, Qb hq.hl, (show atI [V.str (wordOf 2), a, b, c] 2 = some b from rfl), _, rfl, b, 0, _, rfl, hq.od b (by simp), fun b2 hb2 => ⟨b2, rfl, ite2 (fun c6 => ?_) (fun c6 => ?_)⟩⟩
  ·exact no H3 s3 fun h => by
    obtain ⟨_, z', rfl, z0, z1, h'⟩ := (Qbk hA).mp h
    exact not_true c6 (hb2.mpr ⟨z', rfl, z0, z1⟩)
  obtain ⟨z, rfl, z0, z1⟩ := hb2.mp (by cases b2 with | true => rfl | false => exact absurd rfl c6)
  refine ⟨_, rfl, l, _, _, _, rfl, rfl, Qb hq.hl, (show atI [V.str (wordOf 2), a, .int z, c] 3 = some c from rfl), _, rfl, l, _, _, _, rfl, rfl, Qb hq.hl, (show atI [V.str (wordOf 2), a, .int z, c] 2 = some (.int z) from rfl), _, _, rfl, rfl, _, rfl, c, z + 1, _, rfl, hq.od c (by simp), fun b3 hb3 => q b3 H3 s3 (hb3.trans ⟨fun h => (Qbk hA).mpr ⟨hS, z, rfl, z0, z1, h⟩, fun h => ?_⟩)⟩
  obtain ⟨_, z', e, _, _, h'⟩ := (Qbk hA).mp h
  cases e
  exact h'
 have hmm' : mm = 1 + nmK i := hmm.resolve_left h2i
 have hij' : i = 6 ∨ i = 7 ∨ i = 8 ∨ i = 9 ∨ i = 10 := hij.resolve_left h2i
 have nsh : wordOf i ≠ "shut" := fun e => h2i (Yl i hi 2 (by decide) e)
 obtain ⟨a, kr, rfl⟩ : ∃ a kr, ks = a :: kr := by
  cases ks with
  | nil => have h5 : (0 : Nat) = nmK i + (bdsK i).length := hlk; rcases hij' with rfl | rfl | rfl | rfl | rfl <;> exact absurd h5 (by decide)
  | cons a kr => exact ⟨a, kr, rfl⟩
 refine ⟨_, rfl, rfl, _, rfl, ite2 (fun c => absurd (eqS c) nsh) (fun _ => ?_)⟩
 refine ⟨_, rfl, d, rfl, ⟨_, Qb hq.hd⟩, fun D hD => ?_⟩
 obtain ⟨zs, eu, eA, hzs⟩ := Jf hq.hB
 have lz : zs.length ≤ 150000 := by have := hq.len; rw [← eA, jW] at this; exact this
 refine Kt (fun z : Addr × BR => V.ref z.1) id (fun z : Addr × BR => Ky mm (.str (wordOf i) :: a :: kr) z.2) rfl (Yj (val := fun z : Addr × BR => V.ref z.1) (Qb (by rw [← eu]; exact hq.hd))) (by omega) hD (fun z hz' H4 s4 P h => ?_) (fun z hz' _ H4 s4 P h => ?_) fun H4 s4 h4 => ?_
 ·refine ⟨_, rfl, _, rfl, _, rfl, z.1, _, rfl, Qb (s4 _ _ (hzs z hz')), fun g1 hg1 => ?_⟩
  rw [Wo]
  have t1 := Qd hg1 (.lst ((z.2.cells.map kV).take mm))
  refine ⟨_, rfl, _, rfl, _, rfl, l, _, rfl, Qb (t1 _ _ (s4 _ _ hq.hl)), fun g2 hg2 => ?_⟩
  rw [Wo]
  have t2 := Qd hg2 (.lst ((V.str (wordOf i) :: a :: kr).take mm))
  refine ⟨g1, g2, _, _, rfl, rfl, Qb (t2 _ _ Qe), Qb Qe, fun x hx => ?_, fun x hx => ((hq.same s4).same (t1.trans t2)).od x (jYb hx), fun c hc => ⟨_, rfl, ?_⟩⟩
  ·obtain ⟨k, _, rfl⟩ := xZ.mp (jYb hx)
   exact Ve k
  have e5 : c = Ky mm (.str (wordOf i) :: a :: kr) z.2 := Qjm hc (Qbl _ _ _)
  rw [e5]
  exact h _ (t1.trans t2)
 ·exact ⟨_, rfl, h H4 (Same.refl _)⟩
 refine ⟨by show 0 ≤ sizeLine; decide, fun e he => ?_⟩
 have s5 := s4.trans (Qd he (.lst []))
 refine ⟨D, e, _, rfl, rfl, Qb (Qd he _ _ _ h4), Qb Qe, ?_⟩
 generalize upd H4 e (.lst []) = H5 at s5 ⊢
 have em : ((zs.filter fun z : Addr × BR => Ky mm (.str (wordOf i) :: a :: kr) z.2).map id |>.map fun z : Addr × BR => V.ref z.1).isEmpty = (B.filter (Ky mm (.str (wordOf i) :: a :: kr))).isEmpty := by
  rw [wX, wX, ← eA, kZa, wX]
  rfl
 rw [em, hmm']
 have pin := Qqe (A := B) hi (ks := a :: kr) (by omega)
 refine ⟨_, rfl, ite2 (fun c5 => ?_) (fun c5 => ?_)⟩
 ·exact iteT (no H5 s5 fun f => not_true c5 (pin.mpr (fv_pre hi f h2i)))
 have nP : ¬ Ya B (.str (wordOf i) :: (a :: kr).take (nmK i)) := pin.mp (by
  cases hb : (B.filter (Ky (1 + nmK i) (.str (wordOf i) :: a :: kr))).isEmpty with
  | true => rfl
  | false => exact absurd (by rw [hb]; rfl) c5)
 clear pin em c5
 replace hq := hq.same s5
 refine ⟨_, rfl, l, _, _, _, rfl, rfl, Qb hq.hl, (show atI (V.str (wordOf i) :: a :: kr) 1 = some a from Zp (k := 1) rfl), _, rfl, d, us, B, "work", rfl, hq.hd, hq.hB, by have := hq.len; omega, fun g H6 s6 hg => ?_⟩
 have s56 := s5.trans s6
 refine ⟨g, _, rfl, Qb hg, (hq.same s6).od a (by simp), flat_keys _, _, rfl, ite2 (fun c5 => ?_) (fun c5 => ?_)⟩
 ·exact no H6 s56 fun f => not_true c5 ((th_V (.inr (.inr rfl)) rfl).mpr (Qmr hA hij' f))
 have hS : Ya B [.str "work", a] := (th_V (.inr (.inr rfl)) rfl).mp (yB c5)
 replace hq := hq.same s6
 replace no : ∀ H', Same H6 H' → (¬ FV B (.str (wordOf i) :: a :: kr)) → Q (.bl false) H' := fun H' s' h => no H' (s56.trans s') h
 replace q : ∀ (b : Bool) (H' : Hp), Same H6 H' → (b = true ↔ FV B (.str (wordOf i) :: a :: kr)) → Q (.bl b) H' := fun b H' s' h => q b H' (s56.trans s') h
 clear s5 s6 s56 hg c5 h4 he hD s4 hmm hij
 have useC : ∀ k : Fin 3, i = 6 + k.val → rT6 { nx := fun x H' => Q V.non H', rt := Q } [some (.ref d), some (.ref l), some (.int (Ym B)), some (.str (wordOf i)), some (.int (mm : Int))] H6 := by
  intro k hk
  have ew : wordOf i = useW k := by rw [hk, Qke]
  have n5 : nmK i = 3 := by rw [hk]; match k with | 0 => rfl | 1 => rfl | 2 => rfl
  have n6 : (bdsK i).length = 1 := by rw [hk, Qeb]; rfl
  obtain ⟨b, c, m, rfl⟩ := l3 (show kr.length = 3 by have : kr.length + 1 = nmK i + (bdsK i).length := hlk; omega)
  rw [ew] at hq no q nP ⊢
  rw [n5] at nP
  have nl : useW k ≠ "late" := by match k with | 0 => decide +kernel | 1 => decide +kernel | 2 => decide +kernel
  have na : useW k ≠ "after" := by match k with | 0 => decide +kernel | 1 => decide +kernel | 2 => decide +kernel
  refine ⟨_, rfl, rfl, _, rfl, ite2 (fun c => absurd (eqS c) nl) (fun _ => ?_)⟩
  refine ⟨_, rfl, rfl, _, rfl, ite2 (fun c => absurd (eqS c) na) (fun _ => ?_)⟩
  refine ⟨_, rfl, d, rfl, ⟨_, Qb hq.hd⟩, fun D hD => ?_⟩
  obtain ⟨zs, eu, eA, hzs⟩ := Jf hq.hB
  have lz : zs.length ≤ 150000 := by have := hq.len; rw [← eA, jW] at this; exact this
  refine Kt (fun z : Addr × BR => V.ref z.1) id (fun z : Addr × BR => Zf a b z.2) rfl (Yj (val := fun z : Addr × BR => V.ref z.1) (Qb (by rw [← eu]; exact hq.hd))) (by omega) hD (fun z hz' H7 s7 P h => ?_) (fun z hz' _ H7 s7 P h => ?_) fun H7 s7 h7 => ?_
  ·have hzr := s7 _ _ (hzs z hz')
   have hl7 := s7 _ _ hq.hl
   refine ⟨_, rfl, z.1, _, _, _, rfl, rfl, Qb hzr, Zr z.2, rfl, _, rfl, ite2 (fun c1 => ?_) (fun c1 => ?_)⟩
   ·have w1 : isW "way" z.2 = true := c1
    obtain ⟨x, y, l', c', er⟩ := Kg (isW_iff.mp w1)
    have ex : kV z.2.c1 = .str x := by rw [er]; rfl
    have ey : kV z.2.c2 = .str y := by rw [er]; rfl
    refine ⟨_, rfl, z.1, _, _, _, rfl, rfl, Qb hzr, Qpz z.2, _, rfl, l, _, _, _, rfl, rfl, Qb hl7, (show atI [V.str (useW k), a, b, c, m] 1 = some a from rfl), x, ex, (hq.same s7).od a (by simp), _, rfl, ite2 (fun c2 => ?_) (fun c2 => ?_)⟩
    ·refine ⟨_, rfl, z.1, _, _, _, rfl, rfl, Qb hzr, (show atI (z.2.cells.map kV) 2 = some (kV z.2.c2) by rw [er]; rfl), _, rfl, l, _, _, _, rfl, rfl, Qb hl7, (show atI [V.str (useW k), a, b, c, m] 2 = some b from rfl), y, ey, (hq.same s7).od b (by simp), _, rfl, ?_⟩
     have h5 := h H7 (Same.refl _)
     unfold Zf at h5
     rw [w1, ex, ey, c2, jZe, jZe] at h5
     exact h5
    ·have h5 := h H7 (Same.refl _)
     unfold Zf at h5
     rw [w1, ex, jYa.mpr c2, jZe, jKc] at h5
     exact h5
   ·have w1 : isW "way" z.2 = false := jYa.mpr c1
    have h5 := h H7 (Same.refl _)
    unfold Zf at h5
    rw [w1, jKc] at h5
    exact h5
  ·exact ⟨_, rfl, h H7 (Same.refl _)⟩
  refine ⟨by show 0 ≤ sizeLine; decide, fun e he => ?_⟩
  have s8 := s7.trans (Qd he (.lst []))
  refine ⟨D, e, _, rfl, rfl, Qb (Qd he _ _ _ h7), Qb Qe, ?_⟩
  generalize upd H7 e (.lst []) = H8 at s8 ⊢
  have em : ((zs.filter fun z : Addr × BR => Zf a b z.2).map id |>.map fun z : Addr × BR => V.ref z.1).isEmpty = (B.filter (Zf a b)).isEmpty := by
   rw [wX, wX, ← eA, kZa, wX]
   rfl
  rw [em]
  refine ⟨_, rfl, ite2 (fun c5 => ?_) (fun c5 => ?_)⟩
  ·exact no H8 s8 fun h => wayV_in.mp c5 ((Qfr hA k).mp h).2.1
  have hW : Ya B [.str "way", a, b] := Classical.byContradiction fun h => c5 (wayV_in.mpr h)
  replace hq := hq.same s8
  obtain ⟨i', hi', ei'⟩ := thK_of k
  refine ⟨_, rfl, l, _, _, _, rfl, rfl, Qb hq.hl, (show atI [V.str (useW k), a, b, c, m] 3 = some c from rfl), _, rfl, by show 2 ≤ sizeLine; decide, fun g2 hg2 => ?_⟩
  have t1 := Qd hg2 (.lst [.str "store", .str "bench"])
  have h2' : upd H8 g2 (.lst [.str "store", .str "bench"]) g2 = some (.lst [.str "store", .str "bench"]) := Qe
  generalize upd H8 g2 (.lst [.str "store", .str "bench"]) = H9 at t1 h2' ⊢
  replace hq := hq.same t1
  refine ⟨_, rfl, rfl, .inr ⟨_, rfl, g2, _, _, _, rfl, rfl, Qb h2', th_sb k, d, us, B, thK k, rfl, hq.hd, hq.hB, by have := hq.len; omega, fun g3 H10 t2 hg3 => ?_⟩⟩
  have s10 := (s8.trans t1).trans t2
  refine ⟨g3, _, rfl, Qb hg3, (hq.same t2).od c (by simp), flat_keys _, _, rfl, ite2 (fun c6 => ?_) (fun c6 => ?_)⟩
  ·have hT : Ya B [.str (thK k), c] := (th_V hi' ei').mp c6
   replace hq := hq.same t2
   refine ⟨_, rfl, l, _, _, _, rfl, rfl, Qb hq.hl, (show atI [V.str (useW k), a, b, c, m] 4 = some m from rfl), m, 1, 99, rfl, hq.od m (by simp), fun b3 hb3 => q b3 H10 s10 (hb3.trans ⟨fun h => (Qfr hA k).mpr ⟨nP, hW, hT, h⟩, fun h => ((Qfr hA k).mp h).2.2.2⟩)⟩
  ·exact no H10 s10 fun h => c6 (((th_V hi' ei').mpr ((Qfr hA k).mp h).2.2.1))
 rcases hij' with rfl | rfl | rfl | rfl | rfl
 ·exact useC 0 rfl
 ·exact useC 1 rfl
 ·exact useC 2 rfl
 ·obtain ⟨b, c, rfl⟩ := l2 (show kr.length = 2 by have : kr.length + 1 = 3 := hlk; omega)
  refine ⟨_, rfl, rfl, _, rfl, ite2 (fun c => absurd c (by decide +kernel)) (fun _ => ?_)⟩
  refine ⟨_, rfl, rfl, _, rfl, iteT ?_⟩
  refine ⟨_, rfl, l, _, _, _, rfl, rfl, Qb hq.hl, (show atI [V.str (wordOf 9), a, b, c] 2 = some b from rfl), _, rfl, d, us, B, "work", rfl, hq.hd, hq.hB, by have := hq.len; omega, fun g H7 s7 hg => ?_⟩
  refine ⟨g, _, rfl, Qb hg, (hq.same s7).od b (by simp), flat_keys _, _, rfl, ite2 (fun c6 => ?_) (fun c6 => ?_)⟩
  ·have hT : Ya B [.str "work", b] := (th_V (.inr (.inr rfl)) rfl).mp c6
   replace hq := hq.same s7
   refine ⟨_, rfl, l, _, _, _, rfl, rfl, Qb hq.hl, (show atI [V.str (wordOf 9), a, b, c] 2 = some b from rfl), _, rfl, l, _, _, _, rfl, rfl, Qb hq.hl, (show atI [V.str (wordOf 9), a, b, c] 1 = some a from rfl), (Qkl hT hS), _, rfl, ite2 (fun c7 => ?_) (fun c7 => ?_)⟩
   ·have hab : b ≠ a := fun e => not_true c7 (yK e)
    refine ⟨_, rfl, l, _, _, _, rfl, rfl, Qb hq.hl, (show atI [V.str (wordOf 9), a, b, c] 3 = some c from rfl), _, rfl, c, 0, _, rfl, hq.od c (by simp), fun b3 hb3 => q b3 H7 s7 (hb3.trans ⟨fun h => (Vi hA).mpr ⟨nP, hS, hT, hab, h⟩, fun h => ((Vi hA).mp h).2.2.2.2⟩)⟩
   ·refine no H7 s7 fun h => ((Vi hA).mp h).2.2.2.1 (yY ?_)
    cases hb : decide (b = a) with
    | true => rfl
    | false => exact absurd (by rw [hb]; rfl) c7
  ·exact no H7 s7 fun h => c6 ((th_V (.inr (.inr rfl)) rfl).mpr ((Vi hA).mp h).2.2.1)
 ·obtain ⟨b, c, rfl⟩ := l2 (show kr.length = 2 by have : kr.length + 1 = 3 := hlk; omega)
  refine ⟨_, rfl, rfl, _, rfl, iteT ?_⟩
  refine ⟨_, rfl, l, _, _, _, rfl, rfl, Qb hq.hl, (show atI [V.str (wordOf 10), a, b, c] 2 = some b from rfl), _, rfl, b, 0, _, rfl, hq.od b (by simp), fun b2 hb2 => ⟨b2, rfl, ite2 (fun c6 => ?_) (fun c6 => ?_)⟩⟩
  ·refine ⟨_, rfl, l, _, _, _, rfl, rfl, Qb hq.hl, (show atI [V.str (wordOf 10), a, b, c] 3 = some c from rfl), c, 1, 999999, rfl, hq.od c (by simp), fun b3 hb3 => q b3 H6 (Same.refl _) (hb3.trans ⟨fun h => (Qed hA).mpr ⟨nP, hS, hb2.mp c6, h⟩, fun h => ((Qed hA).mp h).2.2.2⟩)⟩
  ·exact no H6 (Same.refl _) fun h => c6 (hb2.mpr ((Qed hA).mp h).2.2.1)
end
abbrev sLRf : Stmt := top 35
theorem in_words {w : Str} {ws : List Str} : (inV (.str w) (ws.map V.str) = true) ↔ w ∈ ws := by
 have h := kV_in (k := .inr w) (ks := ws.map Sum.inr)
 rw [kQe] at h
 have e : (kV ∘ (Sum.inr : Str → Key)) = V.str := rfl
 rw [e] at h
 refine h.trans ⟨fun z => ?_, fun z => jYd z⟩
 obtain ⟨x, hx, e⟩ := xZ.mp z
 cases e
 exact hx
theorem no_fit {B : List BR} {w : Str} (h : ∀ i, i < 11 → w ≠ wordOf i) {ks : List Key} : ¬ ∃ r, Fit B (.inr w :: ks) r := fun ⟨r, f⟩ => h r.kind (Ye r) (by rw [← Xz]; exact (Ks f.eq.symm).symm)
theorem Qhb {w : Str} : (w ∈ (["bench", "store", "work", "way"] : List Str)) ∨ (w ∈ (["shut", "uses", "takes", "gives", "after", "late"] : List Str)) ∨ w = "days" ∨ ∀ i, i < 11 → w ≠ wordOf i := by
 by_cases h : ∃ i, i < 11 ∧ w = wordOf i
 ·obtain ⟨i, hi, rfl⟩ := h
  rcases (show i = 0 ∨ i = 1 ∨ i = 2 ∨ i = 3 ∨ i = 4 ∨ i = 5 ∨ i = 6 ∨ i = 7 ∨ i = 8 ∨ i = 9 ∨ i = 10 by omega) with rfl | rfl | rfl | rfl | rfl | rfl | rfl | rfl | rfl | rfl | rfl
  ·exact .inr (.inr (.inl rfl))
  ·exact .inl (by decide +kernel)
  ·exact .inr (.inl (by decide +kernel))
  ·exact .inl (by decide +kernel)
  ·exact .inl (by decide +kernel)
  ·exact .inl (by decide +kernel)
  ·exact .inr (.inl (by decide +kernel))
  ·exact .inr (.inl (by decide +kernel))
  ·exact .inr (.inl (by decide +kernel))
  ·exact .inr (.inl (by decide +kernel))
  ·exact .inr (.inl (by decide +kernel))
 ·exact .inr (.inr (.inr fun i hi e => h ⟨i, hi, e⟩))
theorem mem4 {w : Str} (h : w ∈ (["bench", "store", "work", "way"] : List Str)) : w = "bench" ∨ w = "store" ∨ w = "work" ∨ w = "way" := by simpa using h
theorem mem6 {w : Str} (h : w ∈ (["shut", "uses", "takes", "gives", "after", "late"] : List Str)) : w = "shut" ∨ w = "uses" ∨ w = "takes" ∨ w = "gives" ∨ w = "after" ∨ w = "late" := by simpa using h
theorem Qko {H : Hp} {us : List V} {B : List BR} (hB : RowsB H us B) (hA : Good B) (hne : B ≠ []) : ∃ l0, atI us 0 = some (.ref l0) ∧ H l0 = some (.lst [.str "days", .int (Ym B)]) := by
 rcases hA.days with ⟨e, _⟩ | ⟨n, B', rfl, e, _⟩
 ·exact absurd e hne
 ·obtain ⟨v0, ev0⟩ : ∃ v0, us[0]? = some v0 := ⟨_, gE (by rw [hB.length]; exact Nat.succ_pos _)⟩
  obtain ⟨r, l0, er, rfl, hl0⟩ := hB.get ev0
  cases er
  exact ⟨l0, Zp (k := 0) ev0, by rw [e]; exact hl0⟩
def Qkp (K : Fg) : Sp := fun vs H Q _ => ∃ (d : Addr) (v : V) (us : List V) (A : List BR), vs = [.ref d, v] ∧ H d = some (.lst us) ∧ RowsB H us A ∧ Good A ∧ A.length ≤ 150000 ∧ RowV K H v ∧ ∀ (b : Bool) (H' : Hp), Same H H' → (b = true ↔ Kk H A v) → Q (.bl b) H'
theorem Qdb {A : List BR} {w : Str} {ks : List V} (f : FV A (.str w :: ks)) : ∃ (cs : List Key) (r : BR), ks = cs.map kV ∧ Fit A (.inr w :: cs) r := by
 obtain ⟨r, e, f⟩ := f
 cases hc : r.cells with
 | nil => exact absurd hc (Za r)
 | cons k0 cs =>
  rw [hc] at e
  have h0 : V.str w = kV k0 := (List.cons.inj e).1
  have e0 : k0 = .inr w := by
   cases k0 with
   | inl z => exact nomatch h0
   | inr z => cases h0; rfl
  rw [hc, e0] at f
  exact ⟨cs, r, (List.cons.inj e).2, f⟩
theorem Qmu {A : List BR} (hA : Good A) (hne : A ≠ []) {ks : List V} : ¬ FV A (.str "days" :: ks) := fun f => by
 obtain ⟨cs, r, _, g⟩ := Qdb f
 exact Qqc hA hne ⟨r, g⟩
theorem Qqg {B : List BR} {w : Str} (h : ∀ i, i < 11 → w ≠ wordOf i) {ks : List V} : ¬ FV B (.str w :: ks) := fun f => by
 obtain ⟨cs, r, _, g⟩ := Qdb f
 exact no_fit h ⟨r, g⟩
section
variable {P : Program} {w : World} {K : Fg} {mg : Str → Option Value} {base : Heap}
theorem scLRf : FnScope ["_law_rows", "_law_row"] ["_law_rows", "_law_row"] (Qh sLRf) := ⟨rfl, rfl, rfl, by decide +kernel, rfl, by decide +kernel, by decide +kernel⟩
theorem okLRf  (F : Fn K mg "_law_row_fits" sLRf) (M : Mg mg) (cl_number : Cal P w K mg base 2 "_law_number" ["_law_thing", "_law_least", "_law_greatest"] (Qfo K)) (cl_fits_new : Cal P w K mg base 3 "_law_fits_new" ["_law_rows", "_law_row", "_law_days"] (Qkg K)) (cl_fits_old : Cal P w K mg base 3 "_law_fits_old" ["_law_rows", "_law_row", "_law_days"] (Qki K)) : Cal P w K mg base 4 "_law_row_fits" ["_law_rows", "_law_row"] (Qkp K) := by
 refine Xr F scLRf (fun _ _ _ _ _ _ => Qcm (fun _ _ => rfl)) (fun vs H Q E h => ?_) (fun f cdv A outer s H vs Q E hr h => ?_)
 ·obtain ⟨d, v, us, B, rfl, _⟩ := h
  rfl
 obtain ⟨d, v, us, B, rfl, hd, hB, hA, hlen, hv, q⟩ := h
 have hu6 : (A.deeper (PyProof.Rows.envOfC "_law_row_fits" (Qh sLRf) s.heap.objs.size f cdv)).units + 6 < cLine := zV (zX (by decide) _) hr.un
 refine ⟨_, (Qg (Xi (PW.pt (Jb (Zj (Yn (Qo Xu rfl M.isinstance Qz (Qa (pv 1) (Qa (Kp M.list_ Jr) Qf))))) (Jb (Ql (Kc (K := K) (n := 6) rfl hu6) (pv 1) (Xa Qf) (Qm _)) (Ja (Zj (Yn (Qo Xu rfl M.isinstance Qz (Qa (Qn Qj (pv 1) Qc (fun _ _ => rfl)) (Qa (Kp M.str_ Qeu) Qf))))))))) (Qi (Qv Zm)) Qu)
  (Qg (Xi (Ql (Kc (K := K) (n := 6) rfl hu6) (pv 0) (Xa Qf) (Qm _)) (Qi (Qv (Yo (Xn Xy (Qn Qj (pv 1) Qc (fun _ _ => rfl)) Qp (Qm _)) (Yo (Xn Xy (Qo Qt rfl M.len Xt (Qa (pv 1) Qf)) Qc (Qm _)) (Zd (Xd cl_number (hr.mono (by decide)) (Qa (Qn Qj (pv 1) Qc (fun _ _ => rfl)) (Qa Qc (Qa Qc Qf))))))))) Qu)
  (Qg (Xi (Ql Jw (Qn Qj (pv 1) Qc (fun _ _ => rfl)) (Xa (Qa Qp (Qa Qp (Qa Qp (Qa Qp Qf))))) rfl) (Qi (Qv (Xd cl_fits_new (hr.mono (by decide)) (Qa (pv 0) (Qa (pv 1) (Qa (Qn Qj (Qn Qj (pv 0) Qc (fun _ _ => rfl)) Qc (fun _ _ => rfl)) Qf)))))) Qu)
  (Qi (Qv (Yo (Xn Jw (Qn Qj (pv 1) Qc (fun _ _ => rfl)) (Xa (Qa Qp (Qa Qp (Qa Qp (Qa Qp (Qa Qp (Qa Qp Qf))))))) rfl) (Zd (Xd cl_fits_old (hr.mono (by decide)) (Qa (pv 0) (Qa (pv 1) (Qa (Qn Qj (Qn Qj (pv 0) Qc (fun _ _ => rfl)) Qc (fun _ _ => rfl)) Qf))))))))))), ?_⟩
 refine Jk ?_
 intro rT4 rT3 rT2
 have hz : (2000000 : Nat) < sizeLine := by decide
 have noV : (¬ Kk H B v) → Q (.bl false) H := fun h => q false H (Same.refl _) ⟨fun z => (nomatch z), fun z => absurd z h⟩
 rcases hv with hf | ⟨l, xs, rfl, hl⟩ | ⟨l, ks, rfl, hl, hlk, hc⟩
 ·have nf : ¬ Kk H B v := fun ⟨r, ⟨l, e, _⟩, _⟩ => by rw [e] at hf; exact nomatch hf
  cases v with
  | str x => exact ⟨_, rfl, _, "list", false, rfl, .list, rfl, false, rfl, iteT (iteT (noV nf))⟩
  | non => exact ⟨_, rfl, _, "list", false, rfl, .list, rfl, false, rfl, iteT (iteT (noV nf))⟩
  | int i => exact ⟨_, rfl, _, "list", false, rfl, .list, rfl, false, rfl, iteT (iteT (noV nf))⟩
  | bl i => exact ⟨_, rfl, _, "list", false, rfl, .list, rfl, false, rfl, iteT (iteT (noV nf))⟩
  | _ => exact nomatch hf
 ·have nf : ¬ Kk H B (.ref l) := fun ⟨r, ⟨l', e, h⟩, _⟩ => by cases e; rw [hl] at h; exact nomatch h
  exact ⟨_, rfl, _, "list", false, rfl, .list, .inl ⟨⟨_, Zc hl⟩, rfl⟩, false, rfl, iteT (iteT (noV nf))⟩
 have hq : AskV K H d l us B ks := ⟨hd, hB, hA, hlen, hl, hc, hlk⟩
 replace q : ∀ (b : Bool) (H' : Hp), Same H H' → (b = true ↔ FV B ks) → Q (.bl b) H' := fun b H' s' hb => q b H' s' (hb.trans (fv_at hl).symm)
 clear hd hB hl hc noV
 have no : ∀ H', Same H H' → (¬ FV B ks) → Q (.bl false) H' := fun H' s' h => q false H' s' ⟨fun z => (nomatch z), fun z => absurd z h⟩
 refine ⟨_, rfl, _, "list", true, rfl, .list, .inr ⟨⟨_, Qb hq.hl⟩, rfl⟩, true, rfl, iteF ?_⟩
 refine ⟨_, rfl, by show 0 ≤ sizeLine; decide, fun e he => ?_⟩
 have s1 := Qd he (.lst [])
 have he1 : upd H e (.lst []) e = some (.lst []) := Qe
 generalize upd H e (.lst []) = H1 at s1 he1 ⊢
 replace hq := hq.same s1
 refine ⟨l, e, _, rfl, rfl, Qb hq.hl, Qb he1, _, rfl, ite2 (fun c => ?_) (fun c => ?_)⟩
 ·exact iteT (no H1 s1 fun ⟨r, e5, _⟩ => Za r (List.map_eq_nil_iff.mp (by rw [← e5]; exact jXb.mp c)))
 cases ks with
 | nil => exact absurd rfl c
 | cons k0 ks =>
  clear c
  rcases Qjz k0 with ⟨w, rfl⟩ | hn
  rotate_left
  ·refine ⟨_, rfl, l, _, _, _, rfl, rfl, Qb hq.hl, (show atI (k0 :: ks) 0 = some k0 from Zp (k := 0) rfl), _, "str", false, rfl, .str, Qea (hq.od k0 jY) hn, false, rfl, iteT ?_⟩
   exact no H1 s1 fun ⟨r, e5, _⟩ => by
    rw [Yc] at e5
    exact hn _ (List.cons.inj e5).1
  ·skip
   refine ⟨_, rfl, l, _, _, _, rfl, rfl, Qb hq.hl, (show atI (V.str w :: ks) 0 = some (.str w) from Zp (k := 0) rfl), _, "str", true, rfl, .str, rfl, true, rfl, iteF ?_⟩
   refine ⟨_, rfl, by show 0 ≤ sizeLine; decide, fun e2 he2 => ?_⟩
   have s2 := s1.trans (Qd he2 (.lst []))
   replace hq := hq.same (Qd he2 (.lst []))
   have he21 : upd H1 e2 (.lst []) e2 = some (.lst []) := Qe
   generalize upd H1 e2 (.lst []) = H2 at s2 hq he21 ⊢
   replace no : ∀ H', Same H2 H' → (¬ FV B (.str w :: ks)) → Q (.bl false) H' := fun H' s' h => no H' (s2.trans s') h
   replace q : ∀ (b : Bool) (H' : Hp), Same H2 H' → (b = true ↔ FV B (.str w :: ks)) → Q (.bl b) H' := fun b H' s' h => q b H' (s2.trans s') h
   have lu := hq.hB.length
   refine ⟨d, e2, _, rfl, rfl, Qb hq.hd, Qb he21, _, rfl, ite2 (fun c => ?_) (fun c => ?_)⟩
   ·have eB : B = [] := jQb.mp (by rw [← lu, jXb.mp c]; rfl)
    subst eB
    refine ⟨_, rfl, l, _, _, _, rfl, rfl, Qb hq.hl, (show atI (V.str w :: ks) 0 = some (.str w) from Zp (k := 0) rfl), rfl, _, rfl, ite2 (fun c1 => ?_) (fun c1 => ?_)⟩
    ·have ew : w = "days" := eqS c1
     subst ew
     refine ⟨_, rfl, l, _, rfl, .inl (Qb hq.hl), rfl, _, rfl, ite2 (fun c2 => ?_) (fun c2 => ?_)⟩
     ·have e5 := yY c2
      injection e5 with e5
      rw [yZ] at e5
      obtain ⟨a, rfl⟩ := l1 (show ks.length = 1 by omega)
      exact ⟨_, rfl, l, _, _, _, rfl, rfl, Qb hq.hl, (show atI [V.str "days", a] 1 = some a from rfl), a, 1, 12, rfl, hq.od a (by simp), fun b3 hb3 => q b3 H2 (Same.refl _) (hb3.trans fv_days.symm)⟩
     ·refine no H2 (Same.refl _) fun f => c2 (yK ?_)
      have h5 : ks.length = 1 := Qkh (i := 0) (by decide) f
      rw [yZ, h5]
      rfl
    ·refine no H2 (Same.refl _) fun ⟨r, e5, f⟩ => c1 ?_
     obtain ⟨n, rfl⟩ := Qkf f
     rw [show w = "days" from V.str.inj (List.cons.inj e5).1]
     exact yesS _
   have hne : B ≠ [] := fun e5 => c (by rw [jXb]; exact jQb.mp (by rw [lu, e5]; rfl))
   clear c
   obtain ⟨l0, a0, hl0⟩ := Qko hq.hB hA hne
   refine ⟨_, rfl, l, _, _, _, rfl, rfl, Qb hq.hl, (show atI (V.str w :: ks) 0 = some (.str w) from Zp (k := 0) rfl), by show 4 ≤ sizeLine; decide, fun p3 hp3 => ?_⟩
   have s3 := Qd hp3 (.lst [.str "bench", .str "store", .str "work", .str "way"])
   have h3 : upd H2 p3 (.lst [.str "bench", .str "store", .str "work", .str "way"]) p3 = some (.lst ((["bench", "store", "work", "way"] : List Str).map V.str)) := Qe
   generalize upd H2 p3 (.lst [.str "bench", .str "store", .str "work", .str "way"]) = H3 at s3 h3 ⊢
   replace hq := hq.same s3
   replace hl0 := s3 _ _ hl0
   refine ⟨p3, _, rfl, .inl (Qb h3), rfl, rfl, _, rfl, ite2 (fun c => ?_) (fun c => ?_)⟩
   ·refine ⟨_, rfl, _, rfl, _, rfl, d, _, _, _, rfl, rfl, Qb hq.hd, a0, l0, _, _, _, rfl, rfl, Qb hl0, at1, ?_⟩
    exact ⟨d, l, us, B, w, ks, rfl, hq, hne, mem4 (in_words.mp c), fun b H4 s4 hb => q b H4 (s3.trans s4) hb⟩
   have n4 : w ∉ (["bench", "store", "work", "way"] : List Str) := fun h => c (in_words.mpr h)
   clear c
   refine ⟨_, rfl, l, _, _, _, rfl, rfl, Qb hq.hl, (show atI (V.str w :: ks) 0 = some (.str w) from Zp (k := 0) rfl), by show 6 ≤ sizeLine; decide, fun p4 hp4 => ?_⟩
   have s4 := Qd hp4 (.lst [.str "shut", .str "uses", .str "takes", .str "gives", .str "after", .str "late"])
   have h4 : upd H3 p4 (.lst [.str "shut", .str "uses", .str "takes", .str "gives", .str "after", .str "late"]) p4 = some (.lst ((["shut", "uses", "takes", "gives", "after", "late"] : List Str).map V.str)) := Qe
   generalize upd H3 p4 (.lst [.str "shut", .str "uses", .str "takes", .str "gives", .str "after", .str "late"]) = H4 at s4 h4 ⊢
   replace hq := hq.same s4
   replace hl0 := s4 _ _ hl0
   refine ⟨p4, _, rfl, .inl (Qb h4), rfl, rfl, _, rfl, ite2 (fun c => ?_) (fun c => ?_)⟩
   ·refine ⟨_, rfl, _, rfl, _, rfl, d, _, _, _, rfl, rfl, Qb hq.hd, a0, l0, _, _, _, rfl, rfl, Qb hl0, at1, ?_⟩
    exact ⟨d, l, us, B, w, ks, rfl, hq, hne, mem6 (in_words.mp c), fun b H5 s5 hb => q b H5 ((s3.trans s4).trans s5) hb⟩
   ·refine no H4 (s3.trans s4) ?_
    rcases Qhb (w := w) with h | h | h | h
    ·exact absurd h n4
    ·exact absurd (in_words.mpr h) c
    ·rw [h]; exact Qmu hA hne
    ·exact Qqg h
end
abbrev sLBa : Stmt := top 36
abbrev sLGr : Stmt := top 37
inductive LB (H : Hp) (us : List V) : V → Prop
 | bad {A i x} : Good A → A.length = i → RowsB H (us.take i) A → us[i]? = some x → (¬ Kk H A x) → LB H us (.int ((i : Nat) : Int))
 | none : us = [] → LB H us (.int 0)
 | ok {A} : us ≠ [] → Good A → RowsB H us A → LB H us .non
def spBad (K : Fg) : Sp := fun vs H Q _ => ∃ (d : Addr) (us : List V), vs = [.ref d] ∧ H d = some (.lst us) ∧ (∀ v ∈ us, RowV K H v) ∧ us.length ≤ 100000 ∧ ∀ (v : V) (H' : Hp), Same H H' → LB H us v → Q v H'
def Qkq : Sp := fun vs H Q _ => ∃ (d : Addr) (us : List V) (A : List BR), vs = [.ref d] ∧ H d = some (.lst us) ∧ RowsB H us A ∧ Good A ∧ A.length ≤ 150000 ∧ ∀ (b : Bool) (H' : Hp), Same H H' → Q (.bl b) H'
section
variable {X : Cx}
theorem Jm {K : Fg} (hK : X.K = K) : MtM X "list.count" (fun x ws H Q => ∃ (l : Addr) (y : V) (vs : List V), x = .ref l ∧ ws = [y] ∧ SqL K H l vs ∧ Yd y = true ∧ vs.all Yd = true ∧ ∀ c : Nat, Q (.int (c : Int)) H) := by subst hK; exact Qjk
end
theorem way_of {r : BR} (h : r.word = "way") : ∃ w v k m, r = .way w v k m := by
 have hu : ∀ k : Fin 3, useW k ≠ "way" := by decide +kernel
 cases r with
 | way w v k m => exact ⟨w, v, k, m, rfl⟩
 | use k _ _ _ _ => exact absurd h (hu k)
 | days _ => exact absurd (show ("days" : Str) = "way" from h) (by decide +kernel)
 | bench _ _ => exact absurd (show ("bench" : Str) = "way" from h) (by decide +kernel)
 | shut _ _ _ => exact absurd (show ("shut" : Str) = "way" from h) (by decide +kernel)
 | store _ _ _ => exact absurd (show ("store" : Str) = "way" from h) (by decide +kernel)
 | work _ => exact absurd (show ("work" : Str) = "way" from h) (by decide +kernel)
 | after _ _ _ => exact absurd (show ("after" : Str) = "way" from h) (by decide +kernel)
 | late _ _ _ => exact absurd (show ("late" : Str) = "way" from h) (by decide +kernel)
theorem Qqh {α : Type} {J : It} {H : Hp} {xs : List α} {val : α → V} {D : Addr} {cs τ0 : St} {tt : TT} {te : TE} {Q : Addr → Hp → Prop} (hτ : τ0 = none :: cs) (hw : Walk J H xs val) (fw : xs.length < sizeLine) (hD : H D = none)
  (ht : ∀ x ∈ xs, ∀ H1, Same H H1 → ∀ P : Bool → Hp → Prop, (∀ b, P b H1) → tt (some (val x) :: cs) H1 P)
  (hs : ∀ x ∈ xs, ∀ H1, Same H H1 → ∀ P : V → Hp → Prop, P (val x) H1 → te (some (val x) :: cs) H1 P)
  (hd : ∀ ys H1, Same H H1 → H1 D = some (.lst ys) → Q D H1) :
  LcW J D τ0 H (Wr 0) tt te Q := by
 subst hτ
 let Pv16 : Nat → St → List V → Hp → Prop := fun i τ ys H1 => ∃ v : Option V, τ = v :: cs ∧ H1 D = some (.lst ys) ∧ Same H H1 ∧ i ≤ xs.length ∧ ys.length ≤ i
 refine Qig (n := xs.length) Pv16 ?_ (fun i τ ys H1 hi h => ?_) (fun i τ ys H1 hi h => ?_) (fun τ ys H1 h => ?_) ?_ ?_
 ·exact ⟨none, rfl, Qe, Qd hD _, wQ _, kK _⟩
 ·obtain ⟨v, rfl, hD1, s1, _, hp⟩ := h
  exact ⟨hD1, by omega⟩
 ·obtain ⟨v, rfl, hD1, s1, _, hp⟩ := h
  exact hw.go i H1 s1 hi
 ·obtain ⟨v, rfl, hD1, s1, _, hp⟩ := h
  exact hw.stop H1 s1
 ·rintro i τ ys H1 x H2 hi ⟨v, rfl, hD1, s1, _, hp⟩ hy
  obtain ⟨rfl, y, ey, rfl⟩ := hw.yl i H1 x H2 s1 hy hi
  refine ht y (yX ey) _ s1 _ fun b => ?_
  cases b with
  | true =>
   refine iteT ?_
   refine hs y (yX ey) _ s1 _ ⟨hD1, _, rfl, Qe, Yi s1 hD, hi, ?_⟩
   rw [jV]
   show ys.length + 1 ≤ _
   omega
  | false => exact iteF ⟨_, rfl, hD1, s1, hi, by omega⟩
 ·rintro τ ys H1 ⟨v, rfl, hD1, s1, _, _⟩
  exact hd ys H1 s1 hD1
section
variable {P : Program} {w : World} {K : Fg} {mg : Str → Option Value} {base : Heap}
theorem scLBa : FnScope ["_law_rows", "_law_k"] ["_law_rows"] (Qh sLBa) := ⟨rfl, rfl, rfl, by decide +kernel, rfl, by decide +kernel, by decide +kernel⟩
theorem okLBa  (F : Fn K mg "_law_bad_row" sLBa) (M : Mg mg) (cl_row_fits : Cal P w K mg base 4 "_law_row_fits" ["_law_rows", "_law_row"] (Qkp K)) : Cal P w K mg base 5 "_law_bad_row" ["_law_rows"] (spBad K) := by
 refine Xr F scLBa (fun _ _ _ _ _ _ => bind1 (fun _ => rfl)) (fun vs H Q E h => ?_) (fun f cdv A outer s H vs Q E hr h => ?_)
 ·obtain ⟨d, us, rfl, _⟩ := h
  rfl
 obtain ⟨d, us, rfl, hd, hV, hlen, q⟩ := h
 have hu6 : (A.deeper (PyProof.Rows.envOfC "_law_bad_row" (Qh sLBa) s.heap.objs.size f cdv)).units + 6 < cLine := zV (zX (by decide) _) hr.un
 refine ⟨_, (Qg (Ze PassesOwn.never rfl (Yf rfl M.range_ (Qa (Qo Qt rfl M.len Xt (Qa (pv 0) Qf)) Qf)) (Xf (i := 1) scLBa.nd rfl (Or.inl rfl) (Or.inl rfl)) (Qi (Xi (Zj (Yn (Xd cl_row_fits (hr.mono (by decide)) (Qa (Xe Xl (pv 0) Xm (Xg (pv 1))) (Qa (Qn Qj (pv 0) (pv 1) (fun _ _ => rfl)) Qf))))) (Qi (Qv (pv 1))) Qu)))
  (Qg (Xi (Ql (Kc (K := K) (n := 6) rfl hu6) (pv 0) (Xa Qf) (Qm _)) (Qi (Qv Qc)) Qu)
  (Qi (Qv Jv)))), ?_⟩
 refine Qau ?_
 intro rT3 rT2
 have hz : (2000000 : Nat) < sizeLine := by decide
 let Pv17 : Nat → St → Hp → Prop := fun i σ H1 => ∃ (u1 : Option V) (B : List BR), σ = [some (.ref d), u1] ∧ Good B ∧ B.length = i ∧ RowsB H (us.take i) B ∧ Same H H1
 refine ⟨_, rfl, d, _, rfl, .inl (Qb hd), _, rfl, by omega, by omega, Xx (lo := 0) (n := Int.toNat ((us.length : Nat) : Int)) Pv17 ⟨none, [], rfl, Good.nil, rfl, .nil, Same.refl _⟩ ?_ ?_⟩
 ·rintro i σ H1 hi ⟨u1, B, rfl, hG, hBl, hB, s1⟩
  have hi' : i < us.length := by omega
  obtain ⟨x, ex⟩ : ∃ x, us[i]? = some x := ⟨_, gE hi'⟩
  have i0 : (0 : Int) + (i : Int) = ((i : Nat) : Int) := by omega
  have hx := hV x (yX ex)
  have ax : atI us ((i : Nat) : Int) = some x := Zp ex
  refine ⟨_, rfl, _, rfl, _, rfl, d, _, rfl, Qb (s1 _ _ hd), fun g hg => ?_⟩
  dsimp only
  rw [i0, Wo]
  have s2 := Qd hg (.lst (us.take i))
  have hg2 : upd H1 g (.lst (us.take i)) g = some (.lst (us.take i)) := Qe
  generalize upd H1 g (.lst (us.take i)) = H2 at s2 hg2 ⊢
  have s12 := s1.trans s2
  refine ⟨_, rfl, _, rfl, d, _, _, _, rfl, rfl, Qb (s12 _ _ hd), ax, g, x, _, B, rfl, hg2, hB.same s12, hG, by omega, hx.same s12, fun b H3 s3 hb => ?_⟩
  have hb := hb.trans (Wk hx s12)
  have s13 := s12.trans s3
  refine ⟨b, rfl, ?_⟩
  cases b with
  | false =>
   refine iteT ⟨_, rfl, ?_⟩
   exact q _ H3 s13 (.bad hG hBl hB ex fun h => yQ (hb.mpr h))
  | true =>
   refine iteF ?_
   obtain ⟨r, ⟨l, rfl, hl⟩, f⟩ := hb.mp rfl
   exact ⟨_, B ++ [r], rfl, hG.snoc f, by rw [jV, hBl]; rfl, by rw [Qad ex]; exact hB.snoc hl, s13⟩
 ·rintro σ H1 ⟨u1, B, rfl, hG, hBl, hB, s1⟩
  rw [show Int.toNat ((us.length : Nat) : Int) = us.length by omega] at hBl hB
  rw [wV] at hB
  refine ⟨_, rfl, by show 0 ≤ sizeLine; decide, fun e he => ?_⟩
  have s2 := Qd he (.lst [])
  have he2 : upd H1 e (.lst []) e = some (.lst []) := Qe
  generalize upd H1 e (.lst []) = H2 at s2 he2 ⊢
  have s12 := s1.trans s2
  refine ⟨d, e, _, rfl, rfl, Qb (s12 _ _ hd), Qb he2, _, rfl, ite2 (fun c => ?_) (fun c => ?_)⟩
  ·exact q _ H2 s12 (.none (jXb.mp c))
  ·exact q _ H2 s12 (.ok (fun e5 => c (jXb.mpr e5)) hG hB)
theorem scLGr : FnScope ["_law_rows", "_law_many", "_law_ways", "_law_row", "_law_words"] ["_law_rows"] (Qh sLGr) := ⟨rfl, rfl, rfl, by decide +kernel, rfl, by decide +kernel, by decide +kernel⟩
theorem okLGr  (F : Fn K mg "_law_too_great" sLGr) (M : Mg mg) : Cal P w K mg base 1 "_law_too_great" ["_law_rows"] (Qkq) := by
 refine Xr F scLGr (fun _ _ _ _ _ _ => bind1 (fun _ => rfl)) (fun vs H Q E h => ?_) (fun f cdv A outer s H vs Q E hr h => ?_)
 ·obtain ⟨d, us, A0, rfl, _⟩ := h
  rfl
 obtain ⟨d, us, A0, rfl, hd, hB, hG, hl, q⟩ := h
 have hu6 : (A.deeper (PyProof.Rows.envOfC "_law_too_great" (Qh sLGr) s.heap.objs.size f cdv)).units + 6 < cLine := zV (zX (by decide) _) hr.un
 refine ⟨_, (Qg (Qs (i := 1) scLGr.nd rfl (Or.inl rfl) Qc)
  (Qg (Qs (i := 2) scLGr.nd rfl (Or.inr rfl) (Xa Qf))
  (Qg (Ze PassesOwn.never rfl (Yv (pv 0)) (Xf (i := 3) scLGr.nd rfl (Or.inl rfl) (Or.inl rfl)) (Qi (Xi (Ql Xy (Qn Qj (pv 3) Qc (fun _ _ => rfl)) Qp (Qm _)) (Qg (Qs (i := 1) scLGr.nd rfl (Or.inl rfl) (Qk Qw (Qk Qeh (Qk Qw (pv 1) (Qn Qj (Qn Qj (pv 0) Qc (fun _ _ => rfl)) Qc (fun _ _ => rfl))) (Qn Qj (pv 3) Qc (fun _ _ => rfl))) Qc))
  (Qi (Yp (Zz PySem.F.plainAttrs_list PySem.F.slot_list_append PySem.F.type_list_append Xp (pv 2) (Qa (Qn Qj (pv 3) Qc (fun _ _ => rfl)) Qf))))) Qu)))
  (Qg (Qoh (i := 4) ["_law_row"] [none] rfl scLGr.nd rfl (Or.inl rfl) (Yv (pv 0)) (fun _ _ _ => (Xf (i := 0) (show (["_law_row"] : List Str).Nodup by decide +kernel) rfl (Or.inl rfl) (Or.inr rfl))) (fun _ _ _ => Vr) (fun _ _ _ => (Qn (Xv (K := K) rfl) (pv 0) Qc (fun _ _ => rfl))))
  (Qg (Xi (PW.pt (Jb (Ql Vj (pv 1) Qc (Qm _)) (Jb (Ql Vj (Zz PySem.F.plainAttrs_list PySem.F.slot_list_count PySem.F.type_list_count (Jm (K := K) rfl) (pv 4) (Qa Qp Qf)) Qc (Qm _)) (Jb (Ql Vj (Zz PySem.F.plainAttrs_list PySem.F.slot_list_count PySem.F.type_list_count (Jm (K := K) rfl) (pv 4) (Qa Qp Qf)) Qc (Qm _)) (Ja (Ql Vj (Zz PySem.F.plainAttrs_list PySem.F.slot_list_count PySem.F.type_list_count (Jm (K := K) rfl) (pv 4) (Qa Qp Qf)) Qc (Qm _))))))) (Qi (Qv Zm)) Qu)
  (Qi (Qv (Xn (Kd (K := K) (n := 6) rfl hu6) (Ko ["_law_work", "_law_ways"] [none, some 2] rfl (Yv (pv 2)) (fun _ _ _ => (Xf (i := 0) (show (["_law_work", "_law_ways"] : List Str).Nodup by decide +kernel) rfl (Or.inl rfl) (Or.inr rfl))) (fun _ _ _ => (Vs (Ql Vj (pe_bmK (K := K) rfl PySem.F.plainAttrs_list PySem.F.slot_list_count PySem.F.type_list_count (Jm (K := K) rfl) (pv 1) (Qa (pv 0) Qf)) Qc (Qm _)))) (fun _ _ _ => (pv 0))) (Xa Qf) (Qm _))))))))), ?_⟩
 refine Qav ?_
 intro rT6 rT5 rT4 rT3 rT2
 have hz : (2000000 : Nat) < sizeLine := by decide
 have lu := hB.length
 refine ⟨by show 0 ≤ sizeLine; decide, fun y hy => ?_⟩
 have s1 := Qd hy (.lst [])
 have h1 : upd H y (.lst []) y = some (.lst []) := Qe
 generalize upd H y (.lst []) = H1 at s1 h1 ⊢
 have hd1 := s1 _ _ hd
 let Pv18 : Nat → St → Hp → Prop := fun i σ H2 => ∃ (z : Int) (u3 : Option V) (ws : List V), σ = [some (.ref d), some (.int z), some (.ref y), u3, none] ∧ H2 y = some (.lst ws) ∧ ws.length ≤ i ∧ ws.all Yd = true ∧ Same H H2
 refine ⟨_, rfl, d, rfl, ⟨_, Qb hd1⟩, Qak (K := K) (a := d) (xs := us) Pv18 ⟨0, none, [], rfl, h1, kK _, rfl, s1⟩ (fun i σ H2 _ h => ?_) ?_ ?_⟩
 ·obtain ⟨z, u3, ws, rfl, _, _, _, s2⟩ := h
  exact s2.seq (Qb hd)
 ·rintro i x σ H2 e1 ⟨z, u3, ws, rfl, h2, lw, fw, s2⟩
  have hi := (kY.mp e1).1
  have hB2 := hB.same s2
  obtain ⟨r, l, er, rfl, hl2⟩ := hB2.get e1
  obtain ⟨l0, a0, hl0⟩ := Qko hB2 hG (fun e => by rw [e] at er; cases er)
  have ct := Yc r
  have c0 : atI (r.cells.map kV) 0 = some (.str r.word) := by rw [ct]; exact Zp (k := 0) rfl
  refine ⟨_, rfl, l, _, _, _, rfl, rfl, Qb hl2, c0, rfl, _, rfl, ite2 (fun c => ?_) (fun c => ?_)⟩
  ·obtain ⟨w, v, k, m, rfl⟩ := way_of (V.str.inj (yY c))
   ·refine ⟨_, rfl, _, rfl, d, _, _, _, rfl, rfl, Qb (s2 _ _ hd), a0, l0, _, _, _, rfl, rfl, Qb hl0, rfl, _, _, rfl, rfl, _, rfl, l, _, _, _, rfl, rfl, Qb hl2, rfl, _, _, rfl, rfl, _, _, rfl, rfl, ?_⟩
    refine ⟨_, rfl, .inl ⟨rfl, _, Qb h2⟩, _, rfl, l, _, _, _, rfl, rfl, Qb hl2, rfl, y, _, _, rfl, rfl, h2, by omega, ?_⟩
    refine ⟨_, _, _, rfl, Qe, by rw [jV]; show ws.length + 1 ≤ _; omega, by rw [List.all_append, fw]; rfl, Yi s2 hy⟩
  ·exact ⟨_, _, _, rfl, h2, by omega, fw, s2⟩
 ·rintro σ H2 ⟨z, u3, ws, rfl, h2, lw, fw, s2⟩
  have hd2 := s2 _ _ hd
  have hB2 := hB.same s2
  obtain ⟨zs, eu, eB, hzs⟩ := Jf hB2
  have lz : zs.length ≤ 150000 := by rw [← eB, jW] at hl; exact hl
  refine ⟨_, rfl, d, rfl, ⟨_, Qb hd2⟩, fun g hg => ?_⟩
  refine Qds (fun _ v (r : BR) => v = .str r.word) (fun z : Addr × BR => z.2) rfl (Yj (val := fun z : Addr × BR => V.ref z.1) (Qb (by rw [← eu]; exact hd2))) (by omega) hg (fun _ _ h => h) (fun h => h) (fun z hz' H3 s3 _ P h => ?_) fun H3 vs s3 h3 hp => ?_
  ·refine ⟨_, rfl, z.1, _, _, _, rfl, rfl, Qb (s3 _ _ (hzs z hz')), by rw [Yc]; exact Zp (k := 0) rfl, ?_⟩
   exact h _ _ (Same.refl _) rfl
  have fv : vs.all Yd = true := by
   rw [xK]
   intro v hv
   obtain ⟨j, ej⟩ := wJ.mp hv
   obtain ⟨w, _, hw⟩ := Jj hp ej
   rw [hw]
   rfl
  have s13 := s2.trans s3
  have h23 := s3 _ _ h2
  have fin : rT6 { nx := fun x H' => Q V.non H', rt := Q } [some (.ref d), some (.int z), some (.ref y), u3, some (.ref g)] H3 := by
   refine ⟨_, rfl, y, rfl, ⟨_, Qb h23⟩, fun D hD => ?_⟩
   obtain ⟨zz, rfl⟩ : ∃ zz : List V, ws = zz.map id := ⟨ws, (jKa _).symm⟩
   rw [jKa] at *
   refine Qqh (xs := zz) (val := id) rfl (Yj (val := id) (Qb (by rw [jKa]; exact h23))) (by omega) hD (fun x hx H4 s4 P h => ?_) (fun x hx H4 s4 P h => ?_) fun ys H4 s4 h4 => ?_
   ·refine ⟨_, rfl, .inl ⟨rfl, _, Qb (s4 _ _ h23)⟩, _, rfl, y, _, _, rfl, rfl, Qb (s4 _ _ h23), (xK.mp fw) x hx, fw, fun c => ?_⟩
    exact ⟨_, _, rfl, rfl, _, rfl, h _⟩
   ·exact ⟨_, rfl, h⟩
   refine ⟨by show 0 ≤ sizeLine; decide, fun e he => ?_⟩
   have s5 := Qd he (.lst [])
   have he5 : upd H4 e (.lst []) e = some (.lst []) := Qe
   generalize upd H4 e (.lst []) = H5 at s5 he5 ⊢
   exact ⟨D, e, _, rfl, rfl, Qb (s5 _ _ h4), Qb he5, q _ _ ((s13.trans s4).trans s5)⟩
  have yes : Q (.bl true) H3 := q _ _ s13
  refine ⟨_, rfl, _, _, rfl, rfl, _, rfl, ite2 (fun c => ?_) (fun c => ?_)⟩
  ·exact iteT yes
  refine ⟨_, rfl, .inl ⟨rfl, _, Qb h3⟩, g, _, _, rfl, rfl, Qb h3, rfl, fv, fun c1 => ?_⟩
  refine ⟨_, _, rfl, rfl, _, rfl, ite2 (fun c => iteT yes) (fun c => ?_)⟩
  refine ⟨_, rfl, .inl ⟨rfl, _, Qb h3⟩, g, _, _, rfl, rfl, Qb h3, rfl, fv, fun c2 => ?_⟩
  refine ⟨_, _, rfl, rfl, _, rfl, ite2 (fun c => iteT yes) (fun c => ?_)⟩
  refine ⟨_, rfl, .inl ⟨rfl, _, Qb h3⟩, g, _, _, rfl, rfl, Qb h3, rfl, fv, fun c3 => ?_⟩
  exact ⟨_, _, rfl, rfl, _, rfl, ite2 (fun c => yes) (fun c => fin)⟩
end
abbrev sLCa : Stmt := top 40
theorem Qbn : bootBuiltins "ValueError" = some (.type "ValueError") := by decide +kernel
structure ExK (K : Fg) (mg : Str → Option Value) (C D CN CP CS : Addr) : Prop where
 pe : mg "PlanError" = some (.ref D)
 isA : IsA K C D
 nn : mg "NoNumber" = some (.ref CN)
 np : mg "NoPicture" = some (.ref CP)
 ns : mg "NoStep" = some (.ref CS)
 nb : mg "NoBook" = some (.ref C)
 xi : ExcIn K C
 xf : ExcFld K C "row"
 ka : PySem.W.kitAny K (.ref C) [.ref CN, .ref CP, .ref CS] = some false
 ko : PySem.W.kitOne K (.ref C) (.ref C) = some true
 kn : PySem.W.kitAny K (.type "NoneType") [.ref CN, .ref CP, .ref CS] = some false
 kv : PySem.W.kitOne K (.ref C) (.type "ValueError") = some true
def RC (C : Addr) (H : Hp) (z : Int) (Q : VK) : Prop := ∀ e dx H', Same H H' → H' e = some (excD e C dx) → H' dx = some (.xd [("row", .int z)]) → Q (.ref e) H'
def CAV (C : Addr) (H : Hp) (us : List V) (Q : VK) : Prop :=
 (us = [] → RC C H 0 Q) ∧
 (∀ A, us ≠ [] → Good A → RowsB H us A → ∀ (H' : Hp), Same H H' → Q .non H') ∧
 (∀ A i v, Good A → A.length = i → RowsB H (us.take i) A → us[i]? = some v → (¬ Kk H A v) → RC C H (i : Int) Q)
def Qdc (K : Fg) (C : Addr) : Sp := fun vs H Q _ => ∃ (d : Addr) (us : List V), vs = [.ref d] ∧ H d = some (.lst us) ∧ (∀ v ∈ us, RowV K H v) ∧ us.length ≤ 200000 ∧ CAV C H us Q
theorem Qkr {H : Hp} {us : List V} {A B : List BR} (h : RowsB H us A) (h' : RowsB H us B) : A = B := by
 have l1 := h.length
 have l2 := h'.length
 refine List.ext_getElem? fun i => ?_
 by_cases hi : i < us.length
 ·obtain ⟨r, l, er, e, hl⟩ := h.get (gE hi)
  obtain ⟨r', l', er', e', hl'⟩ := h'.get (gE hi)
  rw [er, er', Qag ⟨l, e, hl⟩ ⟨l', e', hl'⟩]
 ·rw [jKd (by omega), jKd (by omega)]
theorem Qbo {H : Hp} {us : List V} {A B : List BR} {x : V} {i : Nat} (hA : Good A) (e : RowsB H us A) (ht : RowsB H (us.take i) B) (hi : us[i]? = some x) (hno : ¬ Kk H B x) : False := by
 have eB := Qkr (e.take i) ht
 obtain ⟨r, l, er, rfl, hl⟩ := e.get hi
 exact hno ⟨r, ⟨l, rfl, hl⟩, by rw [← eB]; exact hA i r er⟩
theorem Qks {H : Hp} {us : List V} {A B : List BR} {x : V} {i n : Nat} (hA : Good A) (e : RowsB H (us.take n) A) (ht : RowsB H (us.take i) B) (hi : us[i]? = some x) (hno : ¬ Kk H B x) (h : i < n) : False :=
 Qbo (us := us.take n) (i := i) hA e (by rw [List.take_take, xX (by omega)]; exact ht) (by rw [jYc h]; exact hi) hno
theorem lb_c {C : Addr} {H : Hp} {us : List V} {v : V} {Q : VK} (h : LB H us v) (hn : v = .non → ∀ H', Same H H' → Q .non H') (hv : ∀ z, v = .int z → RC C H z Q) : CAV C H us Q := by
 cases h with
 | bad hG hl ht hi hno =>
  rename_i A i x
  refine ⟨fun e => ?_, fun B _ hB e => (Qbo hB e ht hi hno).elim, fun B j y hB hl2 ht2 hi2 hno2 => ?_⟩
  ·rw [e] at hi; cases hi
  ·have : j = i := by
    rcases Nat.lt_trichotomy j i with h | h | h
    ·exact (Qks hG ht ht2 hi2 hno2 h).elim
    ·exact h
    ·exact (Qks hB ht2 ht hi hno h).elim
   subst this
   exact hv _ rfl
 | none e =>
  refine ⟨fun _ => hv _ rfl, fun B h => absurd e h, fun B j y hB hl2 ht2 hi2 hno2 => ?_⟩
  rw [e] at hi2
  cases hi2
 | ok hne hG e => exact ⟨fun h => absurd h hne, fun B _ _ _ => hn rfl, fun B j y hB hl2 ht2 hi2 hno2 => (Qbo hG e ht2 hi2 hno2).elim⟩
section
variable {P : Program} {w : World} {K : Fg} {mg : Str → Option Value} {base : Heap}
theorem scLCa : FnScope ["_law_rows", "_law_caught_here", "e"] ["_law_rows"] (Qh sLCa) := ⟨rfl, rfl, rfl, by decide +kernel, rfl, by decide +kernel, by decide +kernel⟩
theorem okLCa {C D CN CP CS : Addr} (EK : ExK K mg C D CN CP CS) (F : Fn K mg "_law_caught" sLCa) (M : Mg mg) (c_looked : CalG P w K mg base C 4 "looked" ["rows"] (Wl K C)) : Cal P w K mg base 5 "_law_caught" ["_law_rows"] (Qdc K C) := by
 refine Xr F scLCa (fun _ _ _ _ _ _ => bind1 (fun _ => rfl)) (fun vs H Q E h => ?_) (fun f cdv A outer s H vs Q E hr h => ?_)
 ·obtain ⟨d, us, rfl, _⟩ := h
  rfl
 obtain ⟨d, us, rfl, hd, hV, hlen, h0, hok, hbad⟩ := h
 obtain ⟨fR, fdR, FR, mR, kR, bR⟩ := c_looked.ex
 refine ⟨_, (Qg (Qs (i := 1) scLCa.nd rfl (Or.inl rfl) Jv)
  (Qg (Qjh rfl rfl rfl FR (hr.mono (by decide)) mR kR bR EK.pe EK.isA scLCa.nd (Qa (pv 0) Qf) (i := 1) (j := 2) rfl rfl (by decide) rfl rfl)
  (Qi (Qv (pv 1))))), ?_⟩
 refine Qau ?_
 intro rT3 rT2
 have key : ∀ z, RC C H z Q → RE C H z (fun _ od H2 => ∀ e dx, od = some dx → H2 e = none → rT3 { nx := fun x H' => Q V.non H', rt := Q } [some (.ref d), some (.ref e), none] (upd H2 e (excD e C dx))) := by
  rintro z hz dx H2 s2 hdx e dx' edx he
  cases edx
  have s3 := Qd he (excD e C dx)
  exact ⟨_, rfl, hz e dx _ (s2.trans s3) Qe (s3 _ _ hdx)⟩
 exact ⟨_, rfl, d, us, rfl, hd, hV, hlen, fun e => key _ (h0 e), fun A e hG eA H1 s1 => ⟨_, rfl, hok A e hG eA H1 s1⟩, fun A i v hG hl ht hi hn => key _ (hbad A i v hG hl ht hi hn)⟩
end
abbrev sLOw : Stmt := top 38
def RowsC (K : Fg) (H : Hp) (us : List V) : Prop := ∀ v ∈ us, ∃ l xs, v = .ref l ∧ H l = some (.lst xs) ∧ xs ≠ [] ∧ xs.length ≤ 100 ∧ ∀ c ∈ xs, CellV K H c
def Qkt (K : Fg) : Sp := fun vs H Q _ => ∃ (d : Addr) (us : List V) (z : Int), vs = [.ref d, .int z] ∧ H d = some (.lst us) ∧ us ≠ [] ∧ us.length ≤ 100000 ∧ RowsC K H us ∧ 0 ≤ z ∧ ∀ (v : V) (H' : Hp), Same H H' → CellV K H' v → Q v H'
abbrev odd1 : List V := [.int (-1), .int 0, .int 100, .int 1000, .int 1000000, .int 13, .bl true, .str "Ab", .str "", .str "abcdefghijklm", .str "a b", .str "days"]
theorem Qku {K : Fg} {H : Hp} : ∀ v ∈ odd1, CellV K H v := by
 intro v h
 simp only [jZ, List.not_mem_nil, or_false] at h
 rcases h with rfl | rfl | rfl | rfl | rfl | rfl | rfl | rfl | rfl | rfl | rfl | rfl
 ·exact ⟨.inl rfl, fun x e => nomatch e⟩
 ·exact ⟨.inl rfl, fun x e => nomatch e⟩
 ·exact ⟨.inl rfl, fun x e => nomatch e⟩
 ·exact ⟨.inl rfl, fun x e => nomatch e⟩
 ·exact ⟨.inl rfl, fun x e => nomatch e⟩
 ·exact ⟨.inl rfl, fun x e => nomatch e⟩
 ·exact ⟨.inl rfl, fun x e => nomatch e⟩
 ·exact ⟨.inl rfl, fun x e => by cases e; exact ⟨by decide +kernel, by decide +kernel⟩⟩
 ·exact ⟨.inl rfl, fun x e => by cases e; exact ⟨by decide +kernel, by decide +kernel⟩⟩
 ·exact ⟨.inl rfl, fun x e => by cases e; exact ⟨by decide +kernel, by decide +kernel⟩⟩
 ·exact ⟨.inl rfl, fun x e => by cases e; exact ⟨by decide +kernel, by decide +kernel⟩⟩
 ·exact ⟨.inl rfl, fun x e => by cases e; exact ⟨by decide +kernel, by decide +kernel⟩⟩
theorem Qai {xs : List V} {z : Int} (h : xs ≠ []) (h0 : 0 ≤ z) : ∃ x, atI xs (z % ((xs.length : Nat) : Int)) = some x ∧ x ∈ xs := by
 have hl : 0 < xs.length := jJc.mpr h
 have h1 := xY z (show ((xs.length : Nat) : Int) ≠ 0 by omega)
 have h2 := zJ z (show (0 : Int) < ((xs.length : Nat) : Int) by omega)
 obtain ⟨k, ek⟩ : ∃ k : Nat, z % ((xs.length : Nat) : Int) = (k : Int) := ⟨(z % ((xs.length : Nat) : Int)).toNat, by omega⟩
 have hk : k < xs.length := by omega
 exact ⟨xs[k], by rw [ek]; exact Zp (gE hk), jQa hk⟩
section
variable {P : Program} {w : World} {K : Fg} {mg : Str → Option Value} {base : Heap}
theorem scLOw : FnScope ["_law_rows", "_law_number_here", "_law_row", "_law_strange"] ["_law_rows", "_law_number_here"] (Qh sLOw) := ⟨rfl, rfl, rfl, by decide +kernel, rfl, by decide +kernel, by decide +kernel⟩
theorem okLOw  (F : Fn K mg "_law_other_word" sLOw) (M : Mg mg) : Cal P w K mg base 1 "_law_other_word" ["_law_rows", "_law_number_here"] (Qkt K) := by
 refine Xr F scLOw (fun _ _ _ _ _ _ => Qcm (fun _ _ => rfl)) (fun vs H Q E h => ?_) (fun f cdv A outer s H vs Q E hr h => ?_)
 ·obtain ⟨d, us, z, rfl, _⟩ := h
  rfl
 obtain ⟨d, us, z, rfl, hd, hne, hlen, hC, z0, q⟩ := h
 refine ⟨_, (QSs.pss (Yb (Qck (i := 2) scLOw.nd rfl (Or.inl rfl) (QE.of (Qn Qj (pv 0) (Qk Qy (pv 1) (Qo Qt rfl M.len Xt (Qa (pv 0) Qf))) (fun _ _ => rfl))))
  (Yb (Qck (i := 3) scLOw.nd rfl (Or.inl rfl) (Vv (Qgl (QE.of (pe_un Qnb Qc)) (Xb (QE.of Qc) (Xb (QE.of Qc) (Xb (QE.of Qc) (Xb (QE.of Qc) (Xb (QE.of Qc) (Xb (QE.of Zm) (Xb (QE.of Qp) (Xb (QE.of Qp) (Xb (QE.of Qp) (Xb (QE.of Qp) (Xb (QE.of Qp) Kv))))))))))))))
  (Yb (Qck (i := 3) scLOw.nd rfl (Or.inl rfl) (QE.of (Qk Yt (pv 3) (QE.pe (Vv (Xb (QE.of Jv) (Qit (Vv Kv) (Qlw (qe_tup (Xb (QE.of Qc) Kv)) (Qit (Vv (Xb (QE.of Qp) Kv)) (Xb (QE.of Zm) (Xb (QE.of Qp) Kv)))))))))))
  (Yb (Qcl (Ql Xy (Qk Qy (Qk Xh (pv 1) Qc) Qc) Qc (Qm _)) (Zq (Jo (QE.of (Qn Qj (pv 3) (Qk Qy (Qk Xh (pv 1) Qc) Qc) (fun _ _ => rfl))))) Je)
  (Zq (Jo (QE.of (Qn Qj (pv 2) (Qk Qy (Qk Xh (pv 1) Qc) (Qo Qt rfl M.len Xt (Qa (pv 2) Qf))) (fun _ _ => rfl)))))))))), ?_⟩
 refine Ke ?_
 intro rT5 rT4 rT3 rT2
 have hz : (2000000 : Nat) < sizeLine := by decide
 have hl0 : 0 < us.length := jJc.mpr hne
 obtain ⟨x, ax, hx⟩ := Qai hne z0
 obtain ⟨l, xs, rfl, hl, hxn, hxl, hc⟩ := hC x hx
 refine ⟨_, rfl, _, rfl, _, rfl, d, _, rfl, .inl (Qb hd), _, _, rfl, rfl, by omega, d, _, _, _, rfl, rfl, Qb hd, ax, ?_⟩
 refine ⟨_, rfl, by show 12 ≤ sizeLine; decide, fun p1 hp1 => ?_⟩
 have s1 := Qd hp1 (.lst odd1)
 have h1 : upd H p1 (.lst odd1) p1 = some (.lst odd1) := Qe
 generalize upd H p1 (.lst odd1) = H1 at s1 h1 ⊢
 refine ⟨_, rfl, by show 0 ≤ sizeLine; decide, fun g1 hg1 => ?_⟩
 have s2 := Qd hg1 (.lst [])
 have h2 : upd H1 g1 (.lst []) g1 = some (.lst []) := Qe
 generalize upd H1 g1 (.lst []) = H2 at s2 h2 ⊢
 refine ⟨by show 1 ≤ sizeLine; decide, fun g2 hg2 => ?_⟩
 have s3 := Qd hg2 (.tup [.int 1])
 have h3 : upd H2 g2 (.tup [.int 1]) g2 = some (.tup [.int 1]) := Qe
 generalize upd H2 g2 (.tup [.int 1]) = H3 at s3 h3 ⊢
 refine ⟨by show 1 ≤ sizeLine; decide, fun g3 hg3 => ?_⟩
 have s4 := Qd hg3 (.lst [.str "a"])
 have h4 : upd H3 g3 (.lst [.str "a"]) g3 = some (.lst [.str "a"]) := Qe
 generalize upd H3 g3 (.lst [.str "a"]) = H4 at s4 h4 ⊢
 refine ⟨by show 6 ≤ sizeLine; decide, fun g4 hg4 => ?_⟩
 have s5 := Qd hg4 (.lst [.non, .ref g1, .ref g2, .ref g3, .bl false, .str "work"])
 have h5 : upd H4 g4 (.lst [.non, .ref g1, .ref g2, .ref g3, .bl false, .str "work"]) g4 = some (.lst [.non, .ref g1, .ref g2, .ref g3, .bl false, .str "work"]) := Qe
 generalize upd H4 g4 (.lst [.non, .ref g1, .ref g2, .ref g3, .bl false, .str "work"]) = H5 at s5 h5 ⊢
 refine ⟨p1, g4, _, _, rfl, rfl, (((s2.trans s3).trans s4).trans s5) _ _ h1, h5, by show 18 ≤ sizeLine; decide, fun p6 hp6 => ?_⟩
 have s6 := Qd hp6 (.lst (odd1 ++ [.non, .ref g1, .ref g2, .ref g3, .bl false, .str "work"]))
 have h6 : upd H5 p6 (.lst (odd1 ++ [.non, .ref g1, .ref g2, .ref g3, .bl false, .str "work"])) p6 = some (.lst (odd1 ++ [.non, .ref g1, .ref g2, .ref g3, .bl false, .str "work"])) := Qe
 generalize upd H5 p6 (.lst (odd1 ++ [.non, .ref g1, .ref g2, .ref g3, .bl false, .str "work"])) = H6 at s6 h6 ⊢
 have sA : Same H H6 := (((((s1.trans s2).trans s3).trans s4).trans s5).trans s6)
 have z1 : 0 ≤ z / 128 := Int.ediv_nonneg z0 (by decide)
 refine ⟨_, rfl, _, _, rfl, rfl, ⟨by decide, by decide⟩, _, _, rfl, rfl, (by show (0 : Int) < _; decide +kernel), rfl, _, rfl, ite2 (fun c => ?_) (fun c => ?_)⟩
 ·obtain ⟨y, ay, hy⟩ := Qai (xs := odd1 ++ [.non, .ref g1, .ref g2, .ref g3, .bl false, .str "work"]) (z := z / 128) (by simp) z1
  refine ⟨_, rfl, _, rfl, _, _, rfl, rfl, ⟨by decide, by decide⟩, _, _, rfl, rfl, (by show (0 : Int) < _; decide +kernel), p6, _, _, _, rfl, rfl, Qb h6, ay, q y H6 sA ?_⟩
  rcases kQ.mp hy with h | h
  ·exact Qku y h
  ·simp only [jZ, List.not_mem_nil, or_false] at h
   rcases h with rfl | rfl | rfl | rfl | rfl | rfl
   ·exact ⟨.inl rfl, fun x e => nomatch e⟩
   ·exact ⟨.inr ⟨_, _, rfl, .inl (Qb ((((s3.trans s4).trans s5).trans s6) _ _ h2))⟩, fun x e => nomatch e⟩
   ·exact ⟨.inr ⟨_, _, rfl, .inr (Zc (((s4.trans s5).trans s6) _ _ h3))⟩, fun x e => nomatch e⟩
   ·exact ⟨.inr ⟨_, _, rfl, .inl (Qb ((s5.trans s6) _ _ h4))⟩, fun x e => nomatch e⟩
   ·exact ⟨.inl rfl, fun x e => nomatch e⟩
   ·exact ⟨.inl rfl, fun x e => by cases e; exact ⟨by decide +kernel, by decide +kernel⟩⟩
 ·obtain ⟨y, ay, hy⟩ := Qai (z := z / 128) hxn z1
  have hl1 : 0 < xs.length := jJc.mpr hxn
  exact ⟨_, rfl, _, rfl, _, _, rfl, rfl, ⟨by decide, by decide⟩, _, rfl, l, _, rfl, .inl (Qb (sA _ _ hl)), _, _, rfl, rfl, by omega, l, _, _, _, rfl, rfl, Qb (sA _ _ hl), ay, q y H6 sA ((hc y hy).same sA)⟩
end
abbrev sLSp : Stmt := top 39
def RowW (K : Fg) (n : Nat) (H : Hp) (v : V) : Prop := Yd v = true ∨ (∃ l xs, v = .ref l ∧ H l = some (.tup xs)) ∨ ∃ l xs, v = .ref l ∧ H l = some (.lst xs) ∧ xs.length ≤ n ∧ ∀ c ∈ xs, CellV K H c
theorem RowW.same {K : Fg} {n : Nat} {H H' : Hp} {v : V} (h : RowW K n H v) (s : Same H H') : RowW K n H' v := by
 rcases h with h | ⟨l, xs, e, h⟩ | ⟨l, xs, e, h, hl, hc⟩
 ·exact .inl h
 ·exact .inr (.inl ⟨l, xs, e, s _ _ h⟩)
 ·exact .inr (.inr ⟨l, xs, e, s _ _ h, hl, fun c hm => (hc c hm).same s⟩)
theorem RowW.mono {K : Fg} {n m : Nat} {H : Hp} {v : V} (h : RowW K n H v) (hm : n ≤ m) : RowW K m H v := by
 rcases h with h | h | ⟨l, xs, e, h, hl, hc⟩
 ·exact .inl h
 ·exact .inr (.inl h)
 ·exact .inr (.inr ⟨l, xs, e, h, by omega, hc⟩)
theorem RowW.row {K : Fg} {n : Nat} {H : Hp} {v : V} (h : RowW K n H v) (hm : n ≤ 1000) : RowV K H v := h.mono hm
def RowsW (K : Fg) (n : Nat) (H : Hp) (us : List V) : Prop := ∀ v ∈ us, ∃ l xs, v = .ref l ∧ H l = some (.lst xs) ∧ xs ≠ [] ∧ xs.length ≤ n ∧ ∀ c ∈ xs, CellV K H c
theorem RowsW.c {K : Fg} {n : Nat} {H : Hp} {us : List V} (h : RowsW K n H us) (hn : n ≤ 100) : RowsC K H us := fun v hv => let ⟨l, xs, e, hl, hne, hlen, hc⟩ := h v hv; ⟨l, xs, e, hl, hne, by omega, hc⟩
theorem RowsW.same {K : Fg} {n : Nat} {H H' : Hp} {us : List V} (h : RowsW K n H us) (s : Same H H') : RowsW K n H' us := fun v hv => let ⟨l, xs, e, hl, hne, hlen, hc⟩ := h v hv; ⟨l, xs, e, s _ _ hl, hne, hlen, fun c hm => (hc c hm).same s⟩
theorem RowsW.w {K : Fg} {n : Nat} {H : Hp} {us : List V} (h : RowsW K n H us) : ∀ v ∈ us, RowW K (n + 1) H v := fun v hv => let ⟨l, xs, e, hl, hne, hlen, hc⟩ := h v hv; .inr (.inr ⟨l, xs, e, hl, by omega, hc⟩)
def Qfv (K : Fg) : Sp := fun vs H Q _ => ∃ (d : Addr) (us : List V) (z y : Int) (n : Nat), vs = [.ref d, .int z, .int y] ∧ H d = some (.lst us) ∧ us ≠ [] ∧ us.length ≤ 20000 ∧ RowsW K n H us ∧ n ≤ 99 ∧ 0 ≤ z ∧ 0 ≤ y ∧
 ∀ (g : Addr) (us' : List V) (H' : Hp), Same H H' → H' g = some (.lst us') → us'.length ≤ 2 * us.length + 1 → (∀ v ∈ us', RowW K (n + 1) H' v) → Q (.ref g) H'
theorem Wq {xs : List V} {lo hi : Option Int} : ∀ v ∈ cutV xs lo hi, v ∈ xs := fun v hv => List.mem_of_mem_drop (jYb hv)
theorem Xo {xs : List V} {lo hi : Option Int} : (cutV xs lo hi).length ≤ xs.length := by
 unfold cutV
 rw [zZ, jXa]
 omega
theorem Qkv {n : Nat} {z : Int} (h : 0 < n) (h0 : 0 ≤ z) : ∃ k, ixN n (z % ((n : Nat) : Int)) = some k := by
 have h1 := xY z (show ((n : Nat) : Int) ≠ 0 by omega)
 have h2 := zJ z (show (0 : Int) < ((n : Nat) : Int) by omega)
 refine ⟨(z % ((n : Nat) : Int)).toNat, ?_⟩
 unfold ixN
 rw [if_pos h1, if_pos (by omega)]
theorem Qkw {K : Fg} {H : Hp} {xs : List V} {j : Nat} {y : V} (h : ∀ c ∈ xs, CellV K H c) (hy : CellV K H y) : ∀ c ∈ xs.set j y, CellV K H c := fun c hc => by
 rcases kXc hc with h' | rfl
 ·exact h c h'
 ·exact hy
theorem abut {K : Fg} {n : Nat} {H : Hp} {us as bs xs : List V} (hu : ∀ v ∈ us, RowW K n H v) (ha : ∀ v ∈ as, v ∈ us) (hb : ∀ v ∈ bs, v ∈ us) (hx : ∀ v ∈ xs, RowW K n H v) : ∀ v ∈ as ++ xs ++ bs, RowW K n H v := fun v hv => by
 rcases kQ.mp hv with h | h
 ·rcases kQ.mp h with h | h
  ·exact hu v (ha v h)
  ·exact hx v h
 ·exact hu v (hb v h)
section
variable {P : Program} {w : World} {K : Fg} {mg : Str → Option Value} {base : Heap}
theorem none_of {H H' : Hp} {a : Addr} (s : Same H H') (h : H' a = none) : H a = none := by
 cases e : H a with
 | none => rfl
 | some o => rw [s _ _ e] at h; cases h
theorem Qnv {K : Fg} {H : Hp} {p : Addr} {xs ys : List V} {v : V} (h : OdV K H v) (hp : H p = some (.lst xs)) : OdV K (upd H p (.lst ys)) v := by
 rcases h with h | ⟨a, zs, e, h⟩
 ·exact .inl h
 ·by_cases ha : a = p
  ·subst ha
   exact .inr ⟨a, ys, e, .inl (Qb Qe)⟩
  ·refine .inr ⟨a, zs, e, ?_⟩
   rcases h with ((h | ⟨o, h⟩) | h) | h
   ·exact .inl (.inl (.inl (by rw [Qq ha]; exact h)))
   ·exact .inl (.inl (.inr ⟨o, by rw [Qq ha]; exact h⟩))
   ·exact .inl (.inr h)
   ·rcases h with (h | ⟨o, h⟩) | h
    ·exact .inr (.inl (.inl (by rw [Qq ha]; exact h)))
    ·exact .inr (.inl (.inr ⟨o, by rw [Qq ha]; exact h⟩))
    ·exact .inr (.inr h)
theorem scLSp : FnScope ["_law_rows", "_law_number_here", "_law_more", "_law_at", "_law_row", "_law_way_here", "_law_place", "_law_to", "_law_found"] ["_law_rows", "_law_number_here", "_law_more"] (Qh sLSp) := ⟨rfl, rfl, rfl, by decide +kernel, rfl, by decide +kernel, by decide +kernel⟩
theorem okLSp  (F : Fn K mg "_law_spoiled" sLSp) (M : Mg mg) (cl_other_word : Cal P w K mg base 1 "_law_other_word" ["_law_rows", "_law_number_here"] (Qkt K)) : Cal P w K mg base 2 "_law_spoiled" ["_law_rows", "_law_number_here", "_law_more"] (Qfv K) := by
 refine Xr F scLSp (fun _ _ _ _ _ _ => Qcn (fun _ _ _ => rfl)) (fun vs H Q E h => ?_) (fun f cdv A outer s H vs Q E hr h => ?_)
 ·obtain ⟨d, us, z, y, n, rfl, _⟩ := h
  rfl
 obtain ⟨d, us, z, y, n, rfl, hd, hne, hlen, hR, hn, z0, y0, q⟩ := h
 have hu : (A.deeper (PyProof.Rows.envOfC "_law_spoiled" (Qh sLSp) s.heap.objs.size f cdv)).units + 1 < cLine := zV (zX (by decide) _) hr.un
 refine ⟨_, (Qg (Qs (i := 3) scLSp.nd rfl (Or.inl rfl) (Qk Qy (pv 1) (Qo Qt rfl M.len Xt (Qa (pv 0) Qf))))
  (Qg (Qs (i := 4) scLSp.nd rfl (Or.inl rfl) (Zl Jd rfl M.list_ Jr (Qa (Qn Qj (pv 0) (pv 3) (fun _ _ => rfl)) Qf)))
  (Qg (Qs (i := 5) scLSp.nd rfl (Or.inl rfl) (Qk Qy (Qk Xh (pv 1) Qc) Qc))
  (Qg (Qs (i := 6) scLSp.nd rfl (Or.inl rfl) (Qk Qy (Qk Xh (pv 1) Qc) (Qo Qt rfl M.len Xt (Qa (pv 4) Qf))))
  (Qg (Xi (Ql Qld (pv 5) Qc (Qm _)) (Qg (Qhj (Xd cl_other_word (hr.mono (by decide)) (Qa (pv 0) (Qa (pv 2) Qf))) (Qhi (pv 4) (pv 6) set_list))
  (Qi (Qv (Qk Yt (Qk Yt (Xe Xl (pv 0) Xm (Xg (pv 3))) (Xa (Qa (pv 4) Qf))) (Xe Xl (pv 0) (Xg (Qk Qw (pv 3) Qc)) Xm))))) Qu)
  (Qg (Xi (Ql Xy (pv 5) Qc (Qm _)) (Qi (Qv (Qk Yt (Qk Yt (Xe Xl (pv 0) Xm (Xg (pv 3))) (Xa (Qa (Qk Yt (pv 4) (Xa (Qa (Xd cl_other_word (hr.mono (by decide)) (Qa (pv 0) (Qa (pv 2) Qf))) Qf))) Qf))) (Xe Xl (pv 0) (Xg (Qk Qw (pv 3) Qc)) Xm)))) Qu)
  (Qg (Xi (Ql Xy (pv 5) Qc (Qm _)) (Qi (Qv (Qk Yt (Qk Yt (Xe Xl (pv 0) Xm (Xg (pv 3))) (Xa (Qa (Xe Xl (pv 4) Xm (Xg (pe_un Qnb Qc))) Qf))) (Xe Xl (pv 0) (Xg (Qk Qw (pv 3) Qc)) Xm)))) Qu)
  (Qg (Xi (Ql Xy (pv 5) Qc (Qm _)) (Qi (Qv (Qk Yt (Xe Xl (pv 0) Xm (Xg (pv 3))) (Xe Xl (pv 0) (Xg (Qk Qw (pv 3) Qc)) Xm)))) Qu)
  (Qg (Xi (Ql Xy (pv 5) Qc (Qm _)) (Qi (Qv (Qk Yt (Qk Yt (Xe Xl (pv 0) Xm (Xg (pv 3))) (Xa (Qa (Qn Qj (Xa (Qa Jv (Qa Qc (Qa Qp (Qa (Qej (Qa Qp (Qa Qp Qf))) (Qa (Xa Qf) Qf)))))) (Qk Qy (pv 2) Qc) (fun _ _ => rfl)) Qf))) (Xe Xl (pv 0) (Xg (Qk Qw (pv 3) Qc)) Xm)))) Qu)
  (Qg (Xi (Ql Xy (pv 5) Qc (Qm _)) (Qg (Qs (i := 7) scLSp.nd rfl (Or.inl rfl) (Qk Qy (pv 2) (Qk Qw (Qo Qt rfl M.len Xt (Qa (pv 0) Qf)) Qc)))
  (Qi (Qv (Qk Yt (Qk Yt (Xe Xl (pv 0) Xm (Xg (pv 7))) (Xa (Qa (pv 4) Qf))) (Xe Xl (pv 0) (Xg (pv 7)) Xm))))) Qu)
  (Qg (Qs (i := 7) scLSp.nd rfl (Or.inl rfl) (Qk Qy (pv 2) (Qo Qt rfl M.len Xt (Qa (pv 0) Qf))))
  (Qg (Qs (i := 8) scLSp.nd rfl (Or.inl rfl) (Zl Jd rfl M.list_ Jr (Qa (pv 0) Qf)))
  (Qg (Qhj (Qn Qj (pv 0) (pv 7) (fun _ _ => rfl)) (Qhi (pv 8) (pv 3) set_list))
  (Qg (Qhj (pv 4) (Qhi (pv 8) (pv 7) set_list))
  (Qi (Qv (pv 8))))))))))))))))), ?_⟩
 refine Qiv ?_
 intro rT15 rT14 rT13 rT12 rT11 rT10 rT9 rT8 rT7 rT6 rT5 rT4 rT3 rT2
 have hz : (2000000 : Nat) < sizeLine := by decide
 have hl0 : 0 < us.length := jJc.mpr hne
 obtain ⟨x, ax, hx⟩ := Qai hne z0
 obtain ⟨l, xs, rfl, hl, hxn, hxl, hc⟩ := hR x hx
 have hx0 : 0 < xs.length := jJc.mpr hxn
 have hW := hR.w
 have FIN : ∀ (HA : Hp) (g1 : Addr) (x : V) (hi lo : Option Int), Same H HA → HA g1 = some (.lst (cutV us none hi)) → RowW K (n + 1) HA x →
   ∀ g2, HA g2 = none → ∀ g3, (upd HA g2 (.lst [x])) g3 = none → ∀ g4, (upd (upd HA g2 (.lst [x])) g3 (.lst (cutV us none hi ++ [x]))) g4 = none → ∀ g5, upd (upd (upd HA g2 (.lst [x])) g3 (.lst (cutV us none hi ++ [x]))) g4 (.lst (cutV us lo none)) g5 = none →
   Q (.ref g5) (upd (upd (upd (upd HA g2 (.lst [x])) g3 (.lst (cutV us none hi ++ [x]))) g4 (.lst (cutV us lo none))) g5 (.lst (cutV us none hi ++ [x] ++ cutV us lo none))) := by
  intro HA g1 x hi lo sA h1 hx g2 e2 g3 e3 g4 e4 g5 e5
  have s5 := (((Qd e2 (.lst [x])).trans (Qd e3 _)).trans (Qd e4 _)).trans (Qd e5 (.lst (cutV us none hi ++ [x] ++ cutV us lo none)))
  have c1 := Xo (xs := us) (lo := none) (hi := hi)
  have c2 := Xo (xs := us) (lo := lo) (hi := none)
  refine q g5 _ _ (sA.trans s5) Qe (by rw [jV, jV]; show _ + 1 + _ ≤ _; omega) ?_
  refine abut (us := us) (fun v hv => ((hW v hv).same (sA.trans s5))) Wq Wq fun v hv => ?_
  rw [jQ.mp hv]
  exact hx.same s5
 refine ⟨_, rfl, _, rfl, d, _, rfl, .inl (Qb hd), _, _, rfl, rfl, by omega, _, rfl, _, rfl, d, _, _, _, rfl, rfl, Qb hd, ax, l, _, rfl, .inl (Qb hl), fun p hp => ?_⟩
 have s1 := Qd hp (.lst xs)
 have h1 : upd H p (.lst xs) p = some (.lst xs) := Qe
 generalize upd H p (.lst xs) = H1 at s1 h1 ⊢
 refine ⟨_, rfl, _, _, rfl, rfl, ⟨by decide, by decide⟩, _, _, rfl, rfl, (by show (0 : Int) < _; decide +kernel), ?_⟩
 refine ⟨_, rfl, _, _, rfl, rfl, ⟨by decide, by decide⟩, _, rfl, p, _, rfl, .inl (Qb h1), _, _, rfl, rfl, by omega, ?_⟩
 have z1 : 0 ≤ z / 1024 := Int.ediv_nonneg z0 (by decide)
 obtain ⟨k, ek⟩ := Qkv (z := z / 1024) hx0 z1
 have hC1 := (hR.same s1).c (by omega)
 have hc1 : ∀ c ∈ xs, CellV K H1 c := fun c h => (hc c h).same s1
 have hd1 := s1 _ _ hd
 have hrow : RowW K (n + 1) H1 (.ref p) := .inr (.inr ⟨p, xs, rfl, h1, by omega, hc1⟩)
 refine ⟨_, rfl, _, _, rfl, rfl, _, rfl, ite2 (fun c => ?_) (fun c => ?_)⟩
 ·refine ⟨_, rfl, _, rfl, d, us, y, rfl, hd1, hne, by omega, hC1, y0, fun v H2 s2 hv => ?_⟩
  refine ⟨_, rfl, _, rfl, p, _, _, k, rfl, rfl, s2 _ _ h1, ek, ?_⟩
  have s3 : Same H (upd H2 p (.lst (xs.set k v))) := Yi (s1.trans s2) hp
  have h3 : upd H2 p (.lst (xs.set k v)) p = some (.lst (xs.set k v)) := Qe
  have hv3 : CellV K (upd H2 p (.lst (xs.set k v))) v := ⟨Qnv hv.1 (s2 _ _ h1), hv.2⟩
  generalize upd H2 p (.lst (xs.set k v)) = H3 at s3 h3 hv3 ⊢
  have hx3 : RowW K (n + 1) H3 (.ref p) := .inr (.inr ⟨p, _, rfl, h3, by rw [kQd]; omega, Qkw (fun c h => (hc c h).same s3) hv3⟩)
  refine ⟨_, rfl, _, rfl, _, rfl, d, _, rfl, Qb (s3 _ _ hd), fun g1 e1 => ?_⟩
  have s4 := Qd e1 (.lst (cutV us none (some (z % ((us.length : Nat) : Int)))))
  have h4 : upd H3 g1 (.lst (cutV us none (some (z % ((us.length : Nat) : Int))))) g1 = some (.lst (cutV us none (some (z % ((us.length : Nat) : Int))))) := Qe
  generalize upd H3 g1 (.lst (cutV us none (some (z % ((us.length : Nat) : Int))))) = H4 at s4 h4 ⊢
  refine ⟨_, rfl, ?_⟩
  refine ⟨by show 1 ≤ sizeLine; decide, fun g2 e2 => ⟨g1, g2, _, _, rfl, rfl, Qd e2 _ _ _ h4, Qe, by have := Xo (xs := us) (lo := none) (hi := (some (z % ((us.length : Nat) : Int)))); show _ + 1 ≤ _; omega, fun g3 e3 => ?_⟩⟩
  refine ⟨_, rfl, _, rfl, _, _, rfl, rfl, _, rfl, d, _, rfl, Qb ((((s3.trans s4).trans (Qd e2 _)).trans (Qd e3 _)) _ _ hd), fun g4 e4 => ⟨g3, g4, _, _, rfl, rfl, Qd e4 _ _ _ Qe, Qe, ?_, fun g5 e5 => ?_⟩⟩
  ·have c1 := Xo (xs := us) (lo := none) (hi := (some (z % ((us.length : Nat) : Int))))
   rw [jV]
   refine xW (zX Xo _) ?_
   show _ + 1 + _ ≤ _
   omega
  ·exact FIN H4 g1 (.ref p) (some (z % ((us.length : Nat) : Int))) (some (z % ((us.length : Nat) : Int) + 1)) (s3.trans s4) h4 (hx3.same s4) g2 e2 g3 e3 g4 e4 g5 e5
 refine ⟨_, rfl, rfl, _, rfl, ite2 (fun c => ?_) (fun c => ?_)⟩
 ·refine ⟨_, rfl, _, rfl, _, rfl, d, _, rfl, Qb ((s1) _ _ hd), fun g1 e1 => ?_⟩
  have s4 := Qd e1 (.lst (cutV us none (some (z % ((us.length : Nat) : Int)))))
  have h4 : upd H1 g1 (.lst (cutV us none (some (z % ((us.length : Nat) : Int))))) g1 = some (.lst (cutV us none (some (z % ((us.length : Nat) : Int))))) := Qe
  generalize upd H1 g1 (.lst (cutV us none (some (z % ((us.length : Nat) : Int))))) = H4 at s4 h4 ⊢
  have s14 := s1.trans s4
  refine ⟨_, rfl, _, rfl, _, rfl, d, us, y, rfl, s14 _ _ hd, hne, by omega, (hR.same s14).c (by omega), y0, fun v H2 s2 hv => ?_⟩
  refine ⟨by show 1 ≤ sizeLine; decide, fun g6 e6 => ?_⟩
  have s6 := Qd e6 (.lst [v])
  have h6 : upd H2 g6 (.lst [v]) g6 = some (.lst [v]) := Qe
  generalize upd H2 g6 (.lst [v]) = H6 at s6 h6 ⊢
  refine ⟨p, g6, _, _, rfl, rfl, ((s4.trans s2).trans s6) _ _ h1, h6, by show _ + 1 ≤ _; omega, fun g7 e7 => ?_⟩
  have s7 := Qd e7 (.lst (xs ++ [v]))
  have h7 : upd H6 g7 (.lst (xs ++ [v])) g7 = some (.lst (xs ++ [v])) := Qe
  generalize upd H6 g7 (.lst (xs ++ [v])) = H7 at s7 h7 ⊢
  have s47 := (s2.trans s6).trans s7
  have sA := s14.trans s47
  have hx7 : RowW K (n + 1) H7 (.ref g7) := .inr (.inr ⟨g7, _, rfl, h7, by rw [jV]; show _ + 1 ≤ _; omega, fun c h => by
   rcases kQ.mp h with h | h
   ·exact (hc c h).same sA
   ·rw [jQ.mp h]; exact hv.same (s6.trans s7)⟩)
  have h47 := s47 _ _ h4
  refine ⟨by show 1 ≤ sizeLine; decide, fun g2 e2 => ⟨g1, g2, _, _, rfl, rfl, Qd e2 _ _ _ h47, Qe, by have := Xo (xs := us) (lo := none) (hi := (some (z % ((us.length : Nat) : Int)))); show _ + 1 ≤ _; omega, fun g3 e3 => ?_⟩⟩
  refine ⟨_, rfl, _, rfl, _, _, rfl, rfl, _, rfl, d, _, rfl, Qb ((((sA).trans (Qd e2 _)).trans (Qd e3 _)) _ _ hd), fun g4 e4 => ⟨g3, g4, _, _, rfl, rfl, Qd e4 _ _ _ Qe, Qe, ?_, fun g5 e5 => ?_⟩⟩
  ·have c1 := Xo (xs := us) (lo := none) (hi := (some (z % ((us.length : Nat) : Int))))
   rw [jV]
   refine xW (zX Xo _) ?_
   show _ + 1 + _ ≤ _
   omega
  ·exact FIN H7 g1 (.ref g7) (some (z % ((us.length : Nat) : Int))) (some (z % ((us.length : Nat) : Int) + 1)) (sA) h47 hx7 g2 e2 g3 e3 g4 e4 g5 e5
 refine ⟨_, rfl, rfl, _, rfl, ite2 (fun c => ?_) (fun c => ?_)⟩
 ·refine ⟨_, rfl, _, rfl, _, rfl, d, _, rfl, Qb ((s1) _ _ hd), fun g1 e1 => ?_⟩
  have s4 := Qd e1 (.lst (cutV us none (some (z % ((us.length : Nat) : Int)))))
  have h4 : upd H1 g1 (.lst (cutV us none (some (z % ((us.length : Nat) : Int))))) g1 = some (.lst (cutV us none (some (z % ((us.length : Nat) : Int))))) := Qe
  generalize upd H1 g1 (.lst (cutV us none (some (z % ((us.length : Nat) : Int))))) = H4 at s4 h4 ⊢
  have s14 := s1.trans s4
  refine ⟨_, rfl, _, rfl, _, rfl, p, _, rfl, Qb (s4 _ _ h1), fun g6 e6 => ?_⟩
  have s6 := Qd e6 (.lst (cutV xs none (some (-1))))
  have h6 : upd H4 g6 (.lst (cutV xs none (some (-1)))) g6 = some (.lst (cutV xs none (some (-1)))) := Qe
  dsimp only
  generalize upd H4 g6 (.lst (cutV xs none (some (-1)))) = H6 at s6 h6 ⊢
  have sA := s14.trans s6
  have hx6 : RowW K (n + 1) H6 (.ref g6) := .inr (.inr ⟨g6, _, rfl, h6, by have := Xo (xs := xs) (lo := none) (hi := some (-1)); omega, fun c h => (hc c (Wq c h)).same sA⟩)
  have h46 := s6 _ _ h4
  refine ⟨by show 1 ≤ sizeLine; decide, fun g2 e2 => ⟨g1, g2, _, _, rfl, rfl, Qd e2 _ _ _ h46, Qe, by have := Xo (xs := us) (lo := none) (hi := (some (z % ((us.length : Nat) : Int)))); show _ + 1 ≤ _; omega, fun g3 e3 => ?_⟩⟩
  refine ⟨_, rfl, _, rfl, _, _, rfl, rfl, _, rfl, d, _, rfl, Qb ((((sA).trans (Qd e2 _)).trans (Qd e3 _)) _ _ hd), fun g4 e4 => ⟨g3, g4, _, _, rfl, rfl, Qd e4 _ _ _ Qe, Qe, ?_, fun g5 e5 => ?_⟩⟩
  ·have c1 := Xo (xs := us) (lo := none) (hi := (some (z % ((us.length : Nat) : Int))))
   rw [jV]
   refine xW (zX Xo _) ?_
   show _ + 1 + _ ≤ _
   omega
  ·exact FIN H6 g1 (.ref g6) (some (z % ((us.length : Nat) : Int))) (some (z % ((us.length : Nat) : Int) + 1)) (sA) h46 hx6 g2 e2 g3 e3 g4 e4 g5 e5
 refine ⟨_, rfl, rfl, _, rfl, ite2 (fun c => ?_) (fun c => ?_)⟩
 ·refine ⟨_, rfl, _, rfl, _, rfl, d, _, rfl, Qb ((s1) _ _ hd), fun g1 e1 => ?_⟩
  have s4 := Qd e1 (.lst (cutV us none (some (z % ((us.length : Nat) : Int)))))
  have h4 : upd H1 g1 (.lst (cutV us none (some (z % ((us.length : Nat) : Int))))) g1 = some (.lst (cutV us none (some (z % ((us.length : Nat) : Int))))) := Qe
  generalize upd H1 g1 (.lst (cutV us none (some (z % ((us.length : Nat) : Int))))) = H4 at s4 h4 ⊢
  have s14 := s1.trans s4
  refine ⟨_, rfl, _, rfl, _, _, rfl, rfl, _, rfl, d, _, rfl, Qb (s14 _ _ hd), fun g6 e6 => ?_⟩
  refine ⟨g1, g6, _, _, rfl, rfl, Qd e6 _ _ _ h4, Qe, ?_, fun g7 e7 => ?_⟩
  ·refine xW (Nat.add_le_add Xo Xo) ?_
   omega
  ·have sA := (s14.trans (Qd e6 _)).trans (Qd e7 (.lst (cutV us none (some (z % ((us.length : Nat) : Int))) ++ cutV us (some (z % ((us.length : Nat) : Int) + 1)) none)))
   refine q g7 _ _ sA Qe ?_ ?_
   ·rw [jV]
    exact xW (Nat.add_le_add Xo Xo) (by omega)
   ·intro v hv
    rcases kQ.mp hv with h | h
    ·exact (hW v (Wq v h)).same sA
    ·exact (hW v (Wq v h)).same sA
 refine ⟨_, rfl, rfl, _, rfl, ite2 (fun c => ?_) (fun c => ?_)⟩
 ·refine ⟨_, rfl, _, rfl, _, rfl, d, _, rfl, Qb ((s1) _ _ hd), fun g1 e1 => ?_⟩
  have s4 := Qd e1 (.lst (cutV us none (some (z % ((us.length : Nat) : Int)))))
  have h4 : upd H1 g1 (.lst (cutV us none (some (z % ((us.length : Nat) : Int))))) g1 = some (.lst (cutV us none (some (z % ((us.length : Nat) : Int))))) := Qe
  generalize upd H1 g1 (.lst (cutV us none (some (z % ((us.length : Nat) : Int))))) = H4 at s4 h4 ⊢
  have s14 := s1.trans s4
  refine ⟨by show 2 ≤ sizeLine; decide, fun g6 e6 => ?_⟩
  have s6 := Qd e6 (.tup [.str "work", .str "a"])
  have h6 : upd H4 g6 (.tup [.str "work", .str "a"]) g6 = some (.tup [.str "work", .str "a"]) := Qe
  generalize upd H4 g6 (.tup [.str "work", .str "a"]) = H6 at s6 h6 ⊢
  refine ⟨by show 0 ≤ sizeLine; decide, fun g7 e7 => ?_⟩
  have s7 := Qd e7 (.lst [])
  have h7 : upd H6 g7 (.lst []) g7 = some (.lst []) := Qe
  generalize upd H6 g7 (.lst []) = H7 at s7 h7 ⊢
  refine ⟨by show 5 ≤ sizeLine; decide, fun g8 e8 => ?_⟩
  have s8 := Qd e8 (.lst [.non, .int 7, .str "days", .ref g6, .ref g7])
  have h8 : upd H7 g8 (.lst [.non, .int 7, .str "days", .ref g6, .ref g7]) g8 = some (.lst [.non, .int 7, .str "days", .ref g6, .ref g7]) := Qe
  generalize upd H7 g8 (.lst [.non, .int 7, .str "days", .ref g6, .ref g7]) = H8 at s8 h8 ⊢
  obtain ⟨v, av, hv⟩ := Qai (xs := [.non, .int 7, .str "days", .ref g6, .ref g7]) (z := y) (kXf _ _) y0
  refine ⟨_, rfl, _, _, rfl, rfl, (by show (0 : Int) < _; decide +kernel), g8, _, _, _, rfl, rfl, Qb h8, av, ?_⟩
  have s48 := (s6.trans s7).trans s8
  have sA := s14.trans s48
  have hx8 : RowW K (n + 1) H8 v := by
   simp only [jZ, List.not_mem_nil, or_false] at hv
   rcases hv with rfl | rfl | rfl | rfl | rfl
   ·exact .inl rfl
   ·exact .inl rfl
   ·exact .inl rfl
   ·exact .inr (.inl ⟨_, _, rfl, (s7.trans s8) _ _ h6⟩)
   ·exact .inr (.inr ⟨_, _, rfl, s8 _ _ h7, wQ _, fun c h => nomatch h⟩)
  have h48 := s48 _ _ h4
  refine ⟨by show 1 ≤ sizeLine; decide, fun g2 e2 => ⟨g1, g2, _, _, rfl, rfl, Qd e2 _ _ _ h48, Qe, by have := Xo (xs := us) (lo := none) (hi := (some (z % ((us.length : Nat) : Int)))); show _ + 1 ≤ _; omega, fun g3 e3 => ?_⟩⟩
  refine ⟨_, rfl, _, rfl, _, _, rfl, rfl, _, rfl, d, _, rfl, Qb ((((sA).trans (Qd e2 _)).trans (Qd e3 _)) _ _ hd), fun g4 e4 => ⟨g3, g4, _, _, rfl, rfl, Qd e4 _ _ _ Qe, Qe, ?_, fun g5 e5 => ?_⟩⟩
  ·have c1 := Xo (xs := us) (lo := none) (hi := (some (z % ((us.length : Nat) : Int))))
   rw [jV]
   refine xW (zX Xo _) ?_
   show _ + 1 + _ ≤ _
   omega
  ·exact FIN H8 g1 v (some (z % ((us.length : Nat) : Int))) (some (z % ((us.length : Nat) : Int) + 1)) (sA) h48 hx8 g2 e2 g3 e3 g4 e4 g5 e5
 refine ⟨_, rfl, rfl, _, rfl, ite2 (fun c => ?_) (fun c => ?_)⟩
 ·refine ⟨_, rfl, _, rfl, d, _, rfl, .inl (Qb hd1), _, _, rfl, rfl, _, _, rfl, rfl, by omega, ?_⟩
  refine ⟨_, rfl, _, rfl, _, rfl, d, _, rfl, Qb ((s1) _ _ hd), fun g1 e1 => ?_⟩
  have s4 := Qd e1 (.lst (cutV us none (some (y % (((us.length : Nat) : Int) + 1)))))
  have h4 : upd H1 g1 (.lst (cutV us none (some (y % (((us.length : Nat) : Int) + 1))))) g1 = some (.lst (cutV us none (some (y % (((us.length : Nat) : Int) + 1))))) := Qe
  generalize upd H1 g1 (.lst (cutV us none (some (y % (((us.length : Nat) : Int) + 1))))) = H4 at s4 h4 ⊢
  refine ⟨_, rfl, ?_⟩
  refine ⟨by show 1 ≤ sizeLine; decide, fun g2 e2 => ⟨g1, g2, _, _, rfl, rfl, Qd e2 _ _ _ h4, Qe, by have := Xo (xs := us) (lo := none) (hi := (some (y % (((us.length : Nat) : Int) + 1)))); show _ + 1 ≤ _; omega, fun g3 e3 => ?_⟩⟩
  refine ⟨_, rfl, _, rfl, _, rfl, d, _, rfl, Qb ((((s1.trans s4).trans (Qd e2 _)).trans (Qd e3 _)) _ _ hd), fun g4 e4 => ⟨g3, g4, _, _, rfl, rfl, Qd e4 _ _ _ Qe, Qe, ?_, fun g5 e5 => ?_⟩⟩
  ·have c1 := Xo (xs := us) (lo := none) (hi := (some (y % (((us.length : Nat) : Int) + 1))))
   rw [jV]
   refine xW (zX Xo _) ?_
   show _ + 1 + _ ≤ _
   omega
  ·exact FIN H4 g1 (.ref p) (some (y % (((us.length : Nat) : Int) + 1))) (some (y % (((us.length : Nat) : Int) + 1))) (s1.trans s4) h4 (hrow.same s4) g2 e2 g3 e3 g4 e4 g5 e5
 obtain ⟨v, av, hv⟩ := Qai hne y0
 obtain ⟨k1, ek1⟩ := Qkv (z := z) hl0 z0
 obtain ⟨k2, ek2⟩ := Qkv (z := y) hl0 y0
 refine ⟨_, rfl, _, rfl, d, _, rfl, .inl (Qb hd1), _, _, rfl, rfl, by omega, _, rfl, d, _, rfl, .inl (Qb hd1), fun g hg => ?_⟩
 have s2 := Qd hg (.lst us)
 have h2 : upd H1 g (.lst us) g = some (.lst us) := Qe
 have gN : H g = none := none_of s1 hg
 generalize upd H1 g (.lst us) = H2 at s2 h2 ⊢
 refine ⟨_, rfl, _, rfl, d, _, _, _, rfl, rfl, Qb (s2 _ _ hd1), av, _, rfl, _, rfl, g, _, _, k1, rfl, rfl, h2, ek1, ?_⟩
 have s3 : Same H1 (upd H2 g (.lst (us.set k1 v))) := Yi s2 hg
 have h3 : upd H2 g (.lst (us.set k1 v)) g = some (.lst (us.set k1 v)) := Qe
 generalize upd H2 g (.lst (us.set k1 v)) = H3 at s3 h3 ⊢
 refine ⟨_, rfl, _, rfl, _, rfl, g, _, _, k2, rfl, rfl, h3, by rw [kQd]; exact ek2, ?_⟩
 have s4 : Same H1 (upd H3 g (.lst ((us.set k1 v).set k2 (.ref p)))) := Yi s3 hg
 have h4 : upd H3 g (.lst ((us.set k1 v).set k2 (.ref p))) g = some (.lst ((us.set k1 v).set k2 (.ref p))) := Qe
 generalize upd H3 g (.lst ((us.set k1 v).set k2 (.ref p))) = H4 at s4 h4 ⊢
 have sA := s1.trans s4
 refine ⟨_, rfl, q g _ H4 sA h4 (by rw [kQd, kQd]; omega) fun u hu => ?_⟩
 rcases kXc hu with h | rfl
 ·rcases kXc h with h | rfl
  ·exact (hW u h).same sA
  ·exact (hW _ hv).same sA
 ·exact hrow.same s4
end
end Nb
namespace L2
open PySem PySem.Spec PySem.Calls PyProof.Rows PySem.W
section
variable {X : Cx} {C D f2 : Addr} {n : Str}
theorem Qqi {k : Nat} {fd : FuncData} {p x : Str} {fo : Obj} {np cpos : Pos} {a : Expr} {ta : TA} (F : ErrI X.K X.mg x C D f2 n) (G : FnOk X.prog X.w X.K X.mg X.base CX0 k f2 fd ["self", p] (spXI C n)) (hb : Binds X.K fd ["self", p] []) (hf : X.K.lookup f2 = some fo) (hl : fo.cls = .type "function") (kp : keepIn X.K (.ref C) = true)
  (hr : Room (k + 1) X.A) (ha : PA X [a] ta) (hg : autoParam (Gl X x) L2.aRfl._auto_1) (hd : autoParam ((x == ("__debug__" : Str)) = false) L2.aDec._auto_1)
  (he : autoParam (starEach [a] X.env = (false, eval a X.env) :: starEach [] X.env) L2.aRfl._auto_1) :
  PE X (.Call (.Name x np) [a] [] cpos) (fun σ H Q => ta σ H fun vs H1 => ∃ y, vs = [y] ∧ ∀ e dx, H1 e = none → H1 dx = none → e ≠ dx → Q (.ref e) (upd (upd H1 e (excM e C dx)) dx (.xd [(n, y)]))) := by
 intro pins s σ H Q I h
 refine wpAny_Call_Name_kw (Kn I hg F.bound ?_ hd)
 refine callWith_K (h₀ := X.base) I.ok.mod.kin kp (thn (ha cpos pins s σ H _ I h) fun us s1 ⟨vs, H1, I1, r, y, ey, q⟩ => ⟨I1.kIn, ?_⟩) he rfl
 subst ey
 cases r with
 | cons r0 rr =>
  cases rr
  exact Qjg F G hr hb hf hl I1 r0 fun dx s' q1 q2 J => ⟨.ref _, _, J, rfl, q _ dx (I1.hok.fresh (Nat.le_succ _)) q1 (Ne.symm q2)⟩
def tFldM (K : Fg) (ta : TE) (n : Str) : TE := fun σ H Q => ta σ H fun z H1 => ∃ (e C dx : Addr) (fs : List (Str × V)) (v : V), z = .ref e ∧ H1 e = some (excM e C dx) ∧ H1 dx = some (.xd fs) ∧ ExcFld K C n ∧ fs.lookup n = some v ∧ Q v H1
theorem Qqj {o : Expr} {n : Str} {pos : Pos} {ta : TE} (ho : PE X o ta) (hb : attributeBase o n X.env (eval o X.env) = eval o X.env) : PE X (.Attribute o n pos) (tFldM X.K ta n) := by
 intro pins s σ H Q I h
 refine Qhq hb (thn (ho pins s σ H _ I h) fun u s1 hqP => ?_)
 obtain ⟨z, H1, I1, rz, e, C, dx, fs, v, ez, ee, ed, Z, l, q⟩ := hqP
 subst ez
 obtain rfl : u = Value.ref e := rz
 obtain ⟨t, e1⟩ := (I1.hok e _ ee).1
 obtain ⟨mA, N1, r⟩ := (show ObjOk X.prog X.w H1 s1.heap dx (.xd fs) from I1.hok dx _ ed)
 obtain ⟨u', hu, ru⟩ := RelO.some_of (v := v) (o := mA n) (by rw [← l]; exact r n)
 exact Qjf I1.kIn Z e1 N1.ns hu (handedOut_of (Qbv ru)) ⟨v, H1, I1.tok _, ru, q⟩
end
end L2
namespace L2
open PySem PySem.Spec PyProof.Rows PySem.SeqAt
inductive SmI (K : Fg) (H : Hp) : V → V → Prop
 | id {v} : (Yd v = true ∨ ∃ l, v = .ref l) → SmI K H v v
 | lst {a b xs} : SqL K H a xs → SqL K H b xs → (∀ x ∈ xs, Yd x = true ∨ ∃ l, x = .ref l) → SmI K H (.ref a) (.ref b)
section
variable {X : Cx} {pins : List (Addr × Obj)} {σ : St} {H : Hp} {s : Shared}
theorem Qkx {A : Around} {x : V} {u v : Value} (ru : RelV x u) (rv : RelV x v) (h : Yd x = true ∨ ∃ l, x = .ref l) : EqAt A s u v true := by
 rcases h with hf | ⟨l, rfl⟩
 ·have := Vn (A := A) (s := s) ru rv hf hf
  rw [Qba hf] at this
  exact this
 ·cases ru
  cases rv
  exact EqAt.same _
theorem Qqk {A : Around} {a b : Addr} {xs : List V} (hu : A.units + 1 < cLine) (I : Inv X pins σ H s) (h1 : SqL X.K H a xs) (h2 : SqL X.K H b xs) (f : ∀ x ∈ xs, Yd x = true ∨ ∃ l, x = .ref l) : RcAt A s (.ref a) (.ref b) true := by
 obtain ⟨its, r, pt, _⟩ := I.list h1
 obtain ⟨its', r', pt', _⟩ := I.list h2
 have l1 := r.length
 have l2 := r'.length
 have key : ∀ j (h1 : j < its.toArray.size) (h2 : j < its'.toArray.size), EqAt A.in1 s its.toArray[j] its'.toArray[j] ((fun _ => true) j) := fun j h1 h2 => by
  rw [jJ] at h1 h2
  have j1 : j < xs.length := by omega
  obtain ⟨u1, e1, ru1⟩ := r.get (i := j) (x := xs[j]) (gE j1)
  obtain ⟨u2, e2, ru2⟩ := r'.get (i := j) (x := xs[j]) (gE j1)
  have z1 : its.toArray[j] = u1 := by rw [gE (by omega)] at e1; simpa using e1
  have z2 : its'.toArray[j] = u2 := by rw [gE (by omega)] at e2; simpa using e2
  rw [z1, z2]
  exact Qkx ru1 ru2 (f _ (jQa j1))
 have hsz : its.toArray.size = its'.toArray.size := by rw [jJ, jJ]; omega
 have hb : ((List.range its.toArray.size).all (fun _ => true)) = true := by
  rw [Ka]
  exact fun _ _ => rfl
 have t1 := RcAt.lists pt.isList pt'.isList hsz (by omega) key
 rw [hb] at t1
 exact t1
theorem Qmv {A : Around} {x y : V} {u v : Value} (h : SmI X.K H x y) (hu : A.units + 1 < cLine) (I : Inv X pins σ H s) (ru : RelV x u) (rv : RelV y v) : EqAt A s u v true := by
 cases h with
 | id h => exact Qkx ru rv h
 | @lst p q xs h1 h2 f =>
  cases ru
  cases rv
  by_cases hpq : p = q
  ·subst hpq
   exact EqAt.same _
  ·exact EqAt.of_refs hpq (Qqk hu I h1 h2 f)
end
section
variable {X : Cx}
theorem Qql {K : Fg} {n : Nat} (hK : X.K = K) (hu : X.A.units + (n + 2) < cLine) : OpR X (compareOp .NotEq) (fun x y H Q => ∃ (a b : Addr) (xs ys : List V), x = .ref a ∧ y = .ref b ∧ SqL K H a xs ∧ SqL K H b ys ∧ xs.length = ys.length ∧ (∀ (i : Nat) x y, xs[i]? = some x → ys[i]? = some y → SmI K H x y) ∧ Q (.bl false) H) := by
 subst hK
 intro pins s σ H x y v u Q I rx ry h
 obtain ⟨a, b, xs, ys, rfl, rfl, h1, h2, hl, hs, q⟩ := h
 cases rx
 cases ry
 obtain ⟨its, r, pt, _⟩ := I.list h1
 obtain ⟨its', r', pt', _⟩ := I.list h2
 have l1 := r.length
 have l2 := r'.length
 have key : ∀ j (h1 : j < its.toArray.size) (h2 : j < its'.toArray.size), EqAt X.A.in1 s its.toArray[j] its'.toArray[j] ((fun _ => true) j) := fun j h1 h2 => by
  rw [jJ] at h1 h2
  have j1 : j < xs.length := by omega
  have j2 : j < ys.length := by omega
  obtain ⟨u1, e1, ru1⟩ := r.get (i := j) (x := xs[j]) (gE j1)
  obtain ⟨u2, e2, ru2⟩ := r'.get (i := j) (x := ys[j]) (gE j2)
  have z1 : its.toArray[j] = u1 := by rw [gE (by omega)] at e1; simpa using e1
  have z2 : its'.toArray[j] = u2 := by rw [gE (by omega)] at e2; simpa using e2
  rw [z1, z2]
  exact Qmv (hs j _ _ (gE j1) (gE j2)) (by show X.A.units + 1 + 1 < cLine; omega) I ru1 ru2
 have hsz : its.toArray.size = its'.toArray.size := by rw [jJ, jJ]; omega
 have hb : ((List.range its.toArray.size).all (fun _ => true)) = true := by
  rw [Ka]
  exact fun _ _ => rfl
 have t2 := RcNeAt.lists pt.isList pt'.isList hsz (by omega) key
 rw [hb] at t2
 exact t2 _ _ _ _ ⟨.bl false, H, I, rfl, q⟩
end
end L2
namespace Nb
open PySem L2
abbrev sLaw : Stmt := top 41
theorem Qee : ∀ i, i < 11 → ((wordOf i).cps.all (· < 128) = true ∧ (wordOf i).length ≤ 100000) := by decide +kernel
theorem Qhc (r : BR) : Plain r.word := by rw [Xz]; exact Qee _ (Ye r)
theorem Qhd {K : Fg} {H : Hp} {r : BR} (h : r.gn) : ∀ c ∈ r.cells.map kV, CellV K H c := by
 intro c hc
 obtain ⟨k, hk, rfl⟩ := xZ.mp hc
 refine Qpx ?_
 unfold BR.cells BR.key at hk
 rcases kQ.mp hk with h1 | h1
 ·rcases jZ.mp h1 with rfl | h1
  ·exact Qhc r
  ·obtain ⟨x, hx, rfl⟩ := xZ.mp h1
   exact Qmn (h x hx)
 ·obtain ⟨x, hx, rfl⟩ := xZ.mp h1
  exact trivial
theorem Qhe (r : BR) : (r.cells.map kV).length ≤ 5 := by cases r <;> exact jKf rfl
def Cp (K : Fg) (H : Hp) (u v : V) : Prop := (u = v ∧ (Yd v = true ∨ ∃ l xs, v = .ref l ∧ H l = some (.tup xs))) ∨ ∃ l l' xs, u = .ref l ∧ v = .ref l' ∧ H l = some (.lst xs) ∧ H l' = some (.lst xs) ∧ xs.length ≤ 1000 ∧ ∀ c ∈ xs, CellV K H c
theorem Cp.same {K : Fg} {H H' : Hp} {u v : V} (h : Cp K H u v) (s : Same H H') : Cp K H' u v := by
 rcases h with ⟨e, h | ⟨l, xs, e', h⟩⟩ | ⟨l, l', xs, e, e', h, h', hl, hc⟩
 ·exact .inl ⟨e, .inl h⟩
 ·exact .inl ⟨e, .inr ⟨l, xs, e', s _ _ h⟩⟩
 ·exact .inr ⟨l, l', xs, e, e', s _ _ h, s _ _ h', hl, fun c hm => (hc c hm).same s⟩
theorem Cp.row {K : Fg} {H : Hp} {u v : V} (h : Cp K H u v) : RowV K H v := by
 rcases h with ⟨e, h | h⟩ | ⟨l, l', xs, e, e', h, h', hl, hc⟩
 ·exact .inl h
 ·exact .inr (.inl h)
 ·exact .inr (.inr ⟨l', xs, e', h', hl, hc⟩)
theorem Cp.is {K : Fg} {H : Hp} {u v : V} {r : BR} (h : Cp K H u v) : RowIs H u r ↔ RowIs H v r := by
 rcases h with ⟨rfl, h⟩ | ⟨l, l', xs, rfl, rfl, h, h', hl, hc⟩
 ·exact Iff.rfl
 ·constructor
  ·rintro ⟨m, e, hm⟩
   cases e
   rw [h] at hm
   exact ⟨l', rfl, by rw [h', hm]⟩
  ·rintro ⟨m, e, hm⟩
   cases e
   rw [h'] at hm
   exact ⟨l, rfl, by rw [h, hm]⟩
theorem Qqm {K : Fg} {H : Hp} {v : V} (h : CellV K H v) : Yd v = true ∨ ∃ l, v = .ref l := by
 rcases h.1 with h | ⟨a, xs, e, _⟩
 ·exact .inl h
 ·exact .inr ⟨a, e⟩
theorem Cp.sm {K : Fg} {H : Hp} {u v : V} (h : Cp K H u v) : SmI K H v u := by
 rcases h with ⟨rfl, h | ⟨l, xs, e, h⟩⟩ | ⟨l, l', xs, rfl, rfl, h, h', hl, hc⟩
 ·exact .id (.inl h)
 ·exact .id (.inr ⟨l, e⟩)
 ·exact .lst (Qb h') (Qb h) fun x hx => Qqm (hc x hx)
def Cps (K : Fg) (H : Hp) (us vs : List V) : Prop := us.length = vs.length ∧ ∀ (j : Nat) u v, us[j]? = some u → vs[j]? = some v → Cp K H u v
theorem Cps.snoc {K : Fg} {H : Hp} {us vs : List V} {i : Nat} {u v : V} (h : Cps K H (us.take i) vs) (e : us[i]? = some u) (c : Cp K H u v) : Cps K H (us.take (i + 1)) (vs ++ [v]) := by
 have hi := (kY.mp e).1
 have hl : vs.length = i := by rw [← h.1, zZ]; omega
 refine ⟨by rw [zZ, jV]; show _ = _ + 1; omega, fun j x y ex ey => ?_⟩
 have hj := (kY.mp ex).1
 rw [zZ] at hj
 rw [jYc (by omega)] at ex
 by_cases hji : j < i
 ·rw [wY (by omega)] at ey
  exact h.2 j x y (by rw [jYc hji]; exact ex) ey
 ·have : j = i := by omega
  subst this
  rw [e] at ex
  cases ex
  rw [← hl, List.getElem?_concat_length] at ey
  cases ey
  exact c
theorem Qef {K : Fg} {H : Hp} {us vs : List V} (h : Cps K H us vs) : ∀ (i : Nat) (A : List BR), i ≤ us.length → RowsB H (us.take i) A → RowsB H (vs.take i) A
 | 0, A, _, hA => by
  have := hA.length
  rw [kZe] at hA ⊢
  exact hA
 | i + 1, A, hi, hA => by
  have hu : us[i]? = some us[i] := gE hi
  have hv : i < vs.length := by rw [← h.1]; exact hi
  have hv' : vs[i]? = some vs[i] := gE hv
  have hl := hA.length
  rw [zZ] at hl
  have h1 := hA.take i
  rw [List.take_take, xX (Nat.le_succ i)] at h1
  obtain ⟨r, l, er, e, hr⟩ := hA.get (i := i) (v := us[i]) (by rw [jYc (Nat.lt_succ_self i)]; exact hu)
  obtain ⟨l', e', hr'⟩ := (h.2 i _ _ hu hv').is.mp ⟨l, e, hr⟩
  have h2 := (Qef h i _ (by omega) h1).snoc hr'
  rw [Qad hv', e', show A = A.take i ++ [r] from ?_]
  ·exact h2
  ·rw [← Qad er, jZb (by omega)]
theorem lb_cp {K : Fg} {H H' : Hp} {us vs : List V} {v : V} (h : LB H us v) (hV : ∀ v ∈ us, RowV K H v) (s : Same H H') (hc : Cps K H' us vs) : LB H' vs v := by
 cases h with
 | @bad A i x hG hl ht hi hno =>
  have hi' := (kY.mp hi).1
  have hv : i < vs.length := by rw [← hc.1]; exact hi'
  refine .bad hG hl (Qef hc i A (by omega) (ht.same s)) (gE hv) fun ⟨r, hr, hf⟩ => hno ?_
  refine (Wk (hV x (yX hi)) s).mp ⟨r, ((hc.2 i _ _ hi (gE hv)).is).mpr hr, hf⟩
 | none e =>
  subst e
  refine .none (jYf ?_)
  rw [← hc.1]
  rfl
 | @ok A hne hG e =>
  have h1 := Qef hc us.length A (kK _) (by rw [wV]; exact e.same s)
  rw [hc.1, wV] at h1
  refine .ok (fun e' => hne (jYf ?_)) hG h1
  rw [hc.1, e']
  rfl
open Classical in
def isL (H : Hp) (v : V) : Bool := decide (∃ l xs, v = .ref l ∧ H l = some (.lst xs) ∧ xs ≠ [])
open Classical in
theorem isL_iff {H : Hp} {v : V} : isL H v = true ↔ ∃ l xs, v = .ref l ∧ H l = some (.lst xs) ∧ xs ≠ [] := by unfold isL; exact decide_eq_true_iff
theorem Qmw {xs : List V} {f : V → Bool} (h : (xs.filter f).length = xs.length) : ∀ v ∈ xs, f v = true := List.filter_eq_self.mp (List.filter_sublist.eq_of_length h)
theorem Qnw {i : Nat} (h : i ≤ 2) : 2 ^ i ≤ 4 := by
 rcases i with _ | _ | _ | i
 ·decide
 ·decide
 ·decide
 ·omega
section
variable {P : Program} {w : World} {K : Fg} {mg : Str → Option Value} {base : Heap}
theorem scLaw : FnScope ["_law_script", "_law_rows", "_law_k", "_law_due", "_law_handed", "_law_row", "_law_caught_here"] ["_law_script"] (Qh sLaw) := ⟨rfl, rfl, rfl, by decide +kernel, rfl, by decide +kernel, by decide +kernel⟩
theorem okLaw {C D CN CP CS fI : Addr} {fdI : FuncData} {fo : Obj} (NB : NBk P w K mg base C D fI fdI fo) (EK : ExK K mg C D CN CP CS) {f : Addr} {fd : FuncData} (F : Fun K "law" "law" sLaw f fd) (M : Mg mg) (cl_book : Cal P w K mg base 5 "_law_book" ["_law_script"] (Qnl K)) (cl_mixed : Cal P w K mg base 2 "_law_mixed" ["_law_script", "_law_k"] (Js K)) (cl_whole : Cal P w K mg base 1 "_law_whole" ["_law_found"] (Qjx K)) (cl_spoiled : Cal P w K mg base 2 "_law_spoiled" ["_law_rows", "_law_number_here", "_law_more"] (Qfv K)) (cl_bad_row : Cal P w K mg base 5 "_law_bad_row" ["_law_rows"] (spBad K)) (cl_too_great : Cal P w K mg base 1 "_law_too_great" ["_law_rows"] (Qkq)) (cl_caught : Cal P w K mg base 5 "_law_caught" ["_law_rows"] (Qdc K C)) (c_looked : Cal P w K mg base 4 "looked" ["rows"] (fun vs H Q _ => (Wl K C) vs H Q fun _ _ _ => False)) : FnOk P w K mg base CX0 7 f fd ["_law_script"] (Qlm K) := by
 refine F.ok scLaw (fun vs H Q E h => ?_) (fun cdv A outer s H vs Q E hr h => ?_)
 ·obtain ⟨a, ns, rfl, _⟩ := h
  rfl
 obtain ⟨a, ns, rfl, hS, h63, q⟩ := h
 have hu6 : (A.deeper (PyProof.Rows.envOfC "law" (Qh sLaw) s.heap.objs.size f cdv)).units + 6 < cLine := zV (zX (by decide) _) hr.un
 have hu : (A.deeper (PyProof.Rows.envOfC "law" (Qh sLaw) s.heap.objs.size f cdv)).units + 1 < cLine := zV (zX (by decide) _) hr.un
 refine ⟨_, (Qg (Qs (i := 1) scLaw.nd rfl (Or.inl rfl) (Xd cl_book (hr.mono (by decide)) (Qa (pv 0) Qf)))
  (Qg (Ze PassesOwn.never rfl (Yf rfl M.range_ (Qa (Qk Qy (Xd cl_mixed (hr.mono (by decide)) (Qa (pv 0) (Qa Qc Qf))) Qc) Qf)) (Xf (i := 2) scLaw.nd rfl (Or.inl rfl) (Or.inl rfl)) (Qi (Xi (PW.pt (Zi (Ql (Qpw (K := K) (n := 5) rfl hu6) (Ko ["_law_row"] [none] rfl (Yv (pv 1)) (fun _ _ _ => (Xf (i := 0) (show (["_law_row"] : List Str).Nodup by decide +kernel) rfl (Or.inl rfl) (Or.inr rfl))) (fun _ _ _ => (Vs (PW.pt (Zi (Yn (Qo (Qgj (K := K) rfl) rfl M.isinstance Qz (Qa (pv 0) (Qa (Kp M.list_ Jr) Qf)))) (Yu (Ql (Kd (K := K) (n := 6) rfl hu6) (pv 0) (Xa Qf) (Qm _))))))) (fun _ _ _ => (pv 0))) (pv 1) (Qm _)) (Yu (Ql (Kd (K := K) (n := 6) rfl hu6) (pv 1) (Xa Qf) (Qm _))))) (Qi (Qs (i := 1) scLaw.nd rfl (Or.inl rfl) (Xd cl_spoiled (hr.mono (by decide)) (Qa (pv 1) (Qa (Xd cl_mixed (hr.mono (by decide)) (Qa (pv 0) (Qa (Qk Qw Qc (Qk Zk Qc (pv 2))) Qf))) (Qa (Xd cl_mixed (hr.mono (by decide)) (Qa (pv 0) (Qa (Qk Qw Qc (Qk Zk Qc (pv 2))) Qf))) Qf)))))) Qu)))
  (Qg (Qs (i := 3) scLaw.nd rfl (Or.inl rfl) (Xd cl_bad_row (hr.mono (by decide)) (Qa (pv 1) Qf)))
  (Qg (Xi (PW.pt (Zi (Ql Qbs (pv 3) Jv (Qm _)) (Yu (Yn (Xd cl_too_great (hr.mono (by decide)) (Qa (pv 1) Qf)))))) (Qi (Qv Zm)) Qu)
  (Qg (Qs (i := 4) scLaw.nd rfl (Or.inl rfl) (Xa Qf))
  (Qg (Ze PassesOwn.never rfl (Yv (pv 1)) (Xf (i := 5) scLaw.nd rfl (Or.inl rfl) (Or.inl rfl)) (Qi (Xi (Yn (Qo Xu rfl M.isinstance Qz (Qa (pv 5) (Qa (Kp M.list_ Jr) Qf)))) (Qi (Yp (Zz PySem.F.plainAttrs_list PySem.F.slot_list_append PySem.F.type_list_append Xp (pv 4) (Qa (Zl Jd rfl M.list_ Jr (Qa (pv 5) Qf)) Qf)))) (Qi (Yp (Zz PySem.F.plainAttrs_list PySem.F.slot_list_append PySem.F.type_list_append Xp (pv 4) (Qa (pv 5) Qf)))))))
  (Qg (Qs (i := 6) scLaw.nd rfl (Or.inl rfl) (Xd cl_caught (hr.mono (by decide)) (Qa (pv 4) Qf)))
  (Qg (Xi (PW.pt (Jb (Ql (Qql (K := K) (n := 4) rfl hu6) (pv 4) (pv 1) (Qm _)) (Ja (Yn (Qo (CallR.or We Qjl) rfl M.isinstance Qz (Qa (pv 6) (Qa (Qej (Qa (Zh (v := .ref CN) rfl EK.nn rfl) (Qa (Zh (v := .ref CP) rfl EK.np rfl) (Qa (Zh (v := .ref CS) rfl EK.ns rfl) Qf)))) Qf))))))) (Qi (Qv Zm)) Qu)
  (Qg (Xi (Ql Qbs (pv 3) Jv (Qm _)) (Qi (Qv (Yo (Xn Qbs (pv 6) Jv (Qm _)) (Zd (Xn Qbs (Xd c_looked (hr.mono (by decide)) (Qa (pv 4) Qf)) Jv (Qm _)))))) Qu)
  (Qg (Xi (PW.pt (Jb (Zj (Yn (Qo We rfl M.isinstance Qz (Qa (pv 6) (Qa (Zh (v := .ref C) rfl EK.nb rfl) Qf))))) (Ja (Zj (Yn (Qo We rfl M.isinstance Qz (Qa (pv 6) (Qa (Kp M.ValueError_ Qbn) Qf)))))))) (Qi (Qv Zm)) Qu)
  (Qi (Qv (Yo (Xd cl_whole (hr.mono (by decide)) (Qa (Qji (pv 6) rfl) Qf)) (Yo (Xn Xy (Qji (pv 6) rfl) (pv 3) (Qm _)) (Zd (Xn Xy (Qqj (Qqi NB.ei NB.gi NB.bi NB.lk NB.fc NB.kc (hr.mono (by decide)) (Qa (Qk Qw (pv 3) Qc) Qf)) rfl) (Qk Qw (pv 3) Qc) (Qm _))))))))))))))))), ?_⟩
 refine Qiu ?_
 intro rT11 rT10 rT9 rT8 rT7 rT6 rT5 rT4 rT3 rT2
 have hz : (2000000 : Nat) < sizeLine := by decide
 refine ⟨_, rfl, a, ns, rfl, hS, fun d us n B H1 s1 hd hB bk => ?_⟩
 have hk := bk.lk
 have hbl := hk.len
 have hul := hB.length
 have w0 : ∀ v ∈ us, RowW K 5 H1 v := fun v hv => by
  obtain ⟨i, hi⟩ := wJ.mp hv
  obtain ⟨r, l, er, e, hr⟩ := hB.get hi
  exact .inr (.inr ⟨l, _, e, hr, Qhe r, Qhd (hk.gn r (yX er))⟩)
 refine ⟨_, rfl, a, ns, 4, rfl, s1.seq hS, by decide, by decide, fun z z0 _ => ?_⟩
 let Pv19 : Nat → St → Hp → Prop := fun i σ H3 => ∃ (d : Addr) (us : List V) (u2 : Option V), σ = [some (.ref a), some (.ref d), u2, none, none, none, none] ∧ H3 d = some (.lst us) ∧ (∀ v ∈ us, RowW K (5 + i) H3 v) ∧ us.length + 1 ≤ 401 * 2 ^ i ∧ Same H H3
 refine ⟨_, _, rfl, rfl, (by show (0 : Int) < _; decide +kernel), z % 3, rfl, by omega, by omega, Xx (lo := 0) (n := (z % 3).toNat) Pv19 ⟨d, us, none, rfl, hd, w0, by omega, s1⟩ ?_ ?_⟩
 ·rintro i σ H3 hi ⟨d, us, u2, rfl, hd, hW, hlen, s3⟩
  have hp := Qnw (show i ≤ 2 by omega)
  have hl2 : us.length ≤ 1603 := by
   have := Nat.mul_le_mul_left 401 hp
   omega
  have hstep : 2 * us.length + 1 + 1 ≤ 401 * 2 ^ (i + 1) := by rw [Nat.pow_succ, ← Nat.mul_assoc]; omega
  clear hB bk hk hbl hul w0
  refine ⟨_, rfl, d, rfl, ⟨_, Qb hd⟩, fun D hD => ?_⟩
  refine Kt id id (isL H3) rfl (Yj (val := id) (Qb (by rw [jKa]; exact hd))) (by omega) hD (fun v hv H4 s4 P h => ?_) (fun v hv _ H4 s4 P h => ?_) fun H4 s4 h4 => ?_
  ·have no : (¬ ∃ l xs, v = .ref l ∧ H3 l = some (.lst xs) ∧ xs ≠ []) → P false H4 := fun hn => by
    have h5 := h H4 (Same.refl _)
    rw [jYa.mpr fun e => hn (isL_iff.mp e)] at h5
    exact h5
   rcases hW v hv with hf | ⟨l, xs, rfl, hl⟩ | ⟨l, xs, rfl, hl, hxl, hc⟩
   ·have nol : ¬ ∃ l xs, v = .ref l ∧ H3 l = some (.lst xs) ∧ xs ≠ [] := fun ⟨l, _, e, _⟩ => by rw [e] at hf; exact (nomatch hf)
    have isf : isiW K H4 v "list" false := by
     cases v with
     | non => exact rfl
     | bl b => exact rfl
     | int i => exact rfl
     | str x => exact rfl
     | _ => exact (nomatch hf)
    exact ⟨_, rfl, v, "list", false, rfl, .list, isf, false, rfl, iteF (no nol)⟩
   ·have nol : ¬ ∃ l' ys, V.ref l = .ref l' ∧ H3 l' = some (.lst ys) ∧ ys ≠ [] := fun ⟨l', _, e, h', _⟩ => by cases e; rw [hl] at h'; cases h'
    exact ⟨_, rfl, _, "list", false, rfl, .list, .inl ⟨⟨xs, Zc (s4 _ _ hl)⟩, rfl⟩, false, rfl, iteF (no nol)⟩
   ·refine ⟨_, rfl, _, "list", true, rfl, .list, .inr ⟨⟨xs, Qb (s4 _ _ hl)⟩, rfl⟩, true, rfl, iteT ?_⟩
    refine ⟨_, rfl, by show 0 ≤ sizeLine; decide, fun e he => ⟨l, e, xs, rfl, rfl, Qb (Qd he _ _ _ (s4 _ _ hl)), Qb Qe, _, rfl, ?_⟩⟩
    have h5 := h _ (Qd he (.lst []))
    have e5 : isL H3 (id (.ref l)) = !xs.isEmpty := by
     rw [jXd, isL_iff]
     constructor
     ·rintro ⟨l', ys, e6, h6, h7⟩
      cases e6
      rw [hl] at h6
      cases h6
      cases xs with
      | nil => exact absurd rfl h7
      | cons _ _ => rfl
     ·intro h6
      refine ⟨l, xs, rfl, hl, fun e7 => ?_⟩
      rw [e7] at h6
      exact (nomatch h6)
    rw [show isL H3 (.ref l) = !xs.isEmpty from e5] at h5
    exact h5
  ·exact ⟨_, rfl, h H4 (Same.refl _)⟩
  rw [jKa, jKa] at h4
  have hd4 := s4 _ _ hd
  have keep : ∀ H5, Same H4 H5 → ∃ (d' : Addr) (us' : List V) (u2' : Option V), [some (.ref a), some (.ref d), some (.int (0 + (i : Int))), none, none, none, none] = [some (V.ref a), some (.ref d'), u2', none, none, none, none] ∧ H5 d' = some (.lst us') ∧ (∀ v ∈ us', RowW K (5 + (i + 1)) H5 v) ∧ us'.length + 1 ≤ 401 * 2 ^ (i + 1) ∧ Same H H5 := fun H5 s5 =>
   ⟨d, us, _, rfl, (s4.trans s5) _ _ hd, fun v hv => ((hW v hv).mono (by omega)).same (s4.trans s5), by omega, s3.trans (s4.trans s5)⟩
  have fl : ∀ x ∈ us, Yd x = true ∨ ∃ l, x = .ref l := fun x hx => by
   rcases hW x hx with h | ⟨l, _, e, _⟩ | ⟨l, _, e, _⟩
   ·exact .inl h
   ·exact .inr ⟨l, e⟩
   ·exact .inr ⟨l, e⟩
  refine ⟨_, rfl, D, d, _, _, rfl, rfl, Qb h4, Qb hd4, fl, ?_⟩
  by_cases hfl : (us.filter (isL H3)).length = us.length
  ·have ha := Qmw hfl
   refine .inl ⟨List.filter_eq_self.mpr ha, _, rfl, iteT ?_⟩
   refine ⟨_, rfl, by show 0 ≤ sizeLine; decide, fun e he => ?_⟩
   have s5 := Qd he (.lst [])
   have he5 : upd H4 e (.lst []) e = some (.lst []) := Qe
   generalize upd H4 e (.lst []) = H5 at s5 he5 ⊢
   refine ⟨d, e, us, rfl, rfl, Qb (s5 _ _ hd4), Qb he5, _, rfl, ite2 (fun c => ?_) (fun c => keep H5 s5)⟩
   have hne : us ≠ [] := fun e6 => by rw [e6] at c; exact (nomatch c)
   have s35 := s4.trans s5
   refine ⟨_, rfl, _, rfl, _, rfl, _, _, rfl, rfl, mulC _ _ (by decide) (by decide), _, _, rfl, rfl, a, ns, 220 + 2 * (0 + (i : Int)), rfl, (s3.trans s35).seq hS, by omega, by omega, fun y y0 _ => ?_⟩
   refine ⟨_, rfl, _, rfl, _, _, rfl, rfl, mulC _ _ (by decide) (by decide), _, _, rfl, rfl, a, ns, 221 + 2 * (0 + (i : Int)), rfl, (s3.trans s35).seq hS, by omega, by omega, fun m m0 _ => ?_⟩
   have hR : RowsW K (5 + i) H5 us := fun v hv => by
    obtain ⟨l, xs, e6, h6, h7⟩ := isL_iff.mp (ha v hv)
    rcases hW v hv with h | ⟨l', ys, e8, h8⟩ | ⟨l', ys, e8, h8, hl8, hc8⟩
    ·rw [e6] at h; exact (nomatch h)
    ·rw [e6] at e8; cases e8; rw [h6] at h8; cases h8
    ·rw [e6] at e8
     cases e8
     rw [h6] at h8
     cases h8
     exact ⟨l, xs, e6, s35 _ _ h6, h7, hl8, fun c hm => (hc8 c hm).same s35⟩
   refine ⟨d, us, y, m, 5 + i, rfl, s35 _ _ hd, hne, by omega, hR, by omega, y0, m0, fun g us' H6 s6 hg hl6 hw6 => ?_⟩
   exact ⟨g, us', _, rfl, hg, hw6, by omega, (s3.trans s35).trans s6⟩
  ·exact .inr ⟨hfl, _, rfl, iteF (keep H4 (Same.refl _))⟩
 ·rintro σ H3 ⟨d, us, u2, rfl, hd, hW, hlen, s3⟩
  have hp := Qnw (show (z % 3).toNat ≤ 2 by omega)
  have hl2 : us.length ≤ 1603 := by
   have := Nat.mul_le_mul_left 401 hp
   omega
  have hV : ∀ v ∈ us, RowV K H3 v := fun v hv => (hW v hv).row (by omega)
  clear hB bk hk hbl hul w0 hp hlen hW
  refine ⟨_, rfl, d, us, rfl, hd, hV, by omega, fun due H4 s4 hLB => ?_⟩
  have GO : ∀ H5, Same H3 H5 → rT5 { nx := fun x H' => Q V.non H', rt := Q } [some (.ref a), some (.ref d), u2, some due, none, none, none] H5 := by
   intro H5 s5
   refine ⟨by show 0 ≤ sizeLine; decide, fun h hh => ?_⟩
   have s6 := Qd hh (.lst [])
   have h6 : upd H5 h (.lst []) h = some (.lst []) := Qe
   have hhn : H5 h = none := hh
   generalize upd H5 h (.lst []) = H6 at s6 h6 ⊢
   have hd6 := (s5.trans s6) _ _ hd
   let Pv20 : Nat → St → Hp → Prop := fun i σ H7 => ∃ (u5 : Option V) (ws : List V), σ = [some (.ref a), some (.ref d), u2, some due, some (.ref h), u5, none] ∧ H7 h = some (.lst ws) ∧ Cps K H7 (us.take i) ws ∧ (∀ v ∈ ws, v ≠ .ref h) ∧ Same H5 H7
   refine ⟨_, rfl, d, rfl, ⟨_, Qb hd6⟩, Qak (K := K) (a := d) (xs := us) Pv20 ⟨none, [], rfl, h6, ⟨by rw [kZe], fun j u v e => by rw [kZe] at e; cases e⟩, fun v hv => (nomatch hv), s6⟩ (fun i σ H7 _ h => ?_) ?_ ?_⟩
   ·obtain ⟨u5, ws, _, _, _, _, s7⟩ := h
    exact Qb ((s5.trans s7) _ _ hd)
   ·rintro i x σ H7 ex ⟨u5, ws, rfl, h7, hc7, hn7, s7⟩
    have hi := (kY.mp ex).1
    have hwl : ws.length = i := by rw [← hc7.1, zZ]; omega
    have s37 := s5.trans s7
    have hx7 := (hV x (yX ex)).same s37
    have stay : ∀ (H8 : Hp) (y : V), Same H7 H8 → ∀ u v, Cp K H8 u v → (u ≠ .ref h) → (v ≠ .ref h) → Cp K (upd H8 h (.lst (ws ++ [y]))) u v := fun H8 y s8 u v hc hu hv => by
     rcases hc with ⟨e, hf | ⟨l, xs, e', hl⟩⟩ | ⟨l, l', xs, e, e', hl, hl', hxl, hcc⟩
     ·exact .inl ⟨e, .inl hf⟩
     ·exact .inl ⟨e, .inr ⟨l, xs, e', by rw [Qq (fun e6 => hv (by rw [e', e6]))]; exact hl⟩⟩
     ·exact .inr ⟨l, l', xs, e, e', by rw [Qq (fun e6 => hu (by rw [e, e6]))]; exact hl, by rw [Qq (fun e6 => hv (by rw [e', e6]))]; exact hl', hxl, fun c hm => ⟨Qnv (hcc c hm).1 (s8 _ _ h7), (hcc c hm).2⟩⟩
    have hmem : ∀ u ∈ us, u ≠ .ref h := fun u hu e => by
     rcases (hV u hu).same s5 with hf | ⟨l, xs, e', hl⟩ | ⟨l, xs, e', hl, _⟩
     ·rw [e] at hf; exact (nomatch hf)
     ·rw [e] at e'; cases e'; rw [hhn] at hl; cases hl
     ·rw [e] at e'; cases e'; rw [hhn] at hl; cases hl
    have cps8 : ∀ (H8 : Hp) (y : V), Same H7 H8 → Cps K (upd H8 h (.lst (ws ++ [y]))) (us.take i) ws := fun H8 y s8 => ⟨hc7.1, fun j u v eu ev => stay H8 y s8 u v ((hc7.2 j u v eu ev).same s8) (hmem u (jYb (yX eu))) (hn7 v (yX ev))⟩
    have keep : ∀ (H8 : Hp) (y : V), Same H7 H8 → Cp K H8 x y → y ≠ .ref h → ∃ (u5 : Option V) (ws' : List V), [some (.ref a), some (.ref d), u2, some due, some (.ref h), some x, none] = [some (V.ref a), some (.ref d), u2, some due, some (.ref h), u5, none] ∧ upd H8 h (.lst (ws ++ [y])) h = some (.lst ws') ∧ Cps K (upd H8 h (.lst (ws ++ [y]))) (us.take (i + 1)) ws' ∧ (∀ v ∈ ws', v ≠ .ref h) ∧ Same H5 (upd H8 h (.lst (ws ++ [y]))) := fun H8 y s8 hcp hy =>
     ⟨_, _, rfl, Qe, (cps8 H8 y s8).snoc ex (stay H8 y s8 x y hcp (hmem x (yX ex)) hy), fun v hv => by
      rcases kQ.mp hv with hv | hv
      ·exact hn7 v hv
      ·rw [jQ.mp hv]; exact hy, Yi (s7.trans s8) hhn⟩
    have hxh := hmem x (yX ex)
    rcases hx7 with hf | ⟨l, xs, rfl, hl⟩ | ⟨l, xs, rfl, hl, hxl, hc⟩
    ·have isf : isiW K H7 x "list" false := by
      cases x with
      | non => exact rfl
      | bl b => exact rfl
      | int i => exact rfl
      | str x => exact rfl
      | _ => exact (nomatch hf)
     refine ⟨_, rfl, x, "list", false, rfl, .list, isf, false, rfl, iteF ?_⟩
     exact ⟨_, rfl, .inl ⟨rfl, _, Qb h7⟩, _, rfl, h, _, _, rfl, rfl, h7, by omega, keep H7 x (Same.refl _) (.inl ⟨rfl, .inl hf⟩) hxh⟩
    ·refine ⟨_, rfl, _, "list", false, rfl, .list, .inl ⟨⟨xs, Zc hl⟩, rfl⟩, false, rfl, iteF ?_⟩
     exact ⟨_, rfl, .inl ⟨rfl, _, Qb h7⟩, _, rfl, h, _, _, rfl, rfl, h7, by omega, keep H7 _ (Same.refl _) (.inl ⟨rfl, .inr ⟨l, xs, rfl, hl⟩⟩) hxh⟩
    ·refine ⟨_, rfl, _, "list", true, rfl, .list, .inr ⟨⟨xs, Qb hl⟩, rfl⟩, true, rfl, iteT ?_⟩
     refine ⟨_, rfl, .inl ⟨rfl, _, Qb h7⟩, _, rfl, l, _, rfl, .inl (Qb hl), fun p hp => ?_⟩
     have s8 := Qd hp (.lst xs)
     have h8 : upd H7 p (.lst xs) p = some (.lst xs) := Qe
     generalize upd H7 p (.lst xs) = H8 at s8 h8 ⊢
     exact ⟨h, _, _, rfl, rfl, s8 _ _ h7, by omega, keep H8 (.ref p) s8 (.inr ⟨l, p, xs, rfl, rfl, s8 _ _ hl, h8, hxl, fun c hm => (hc c hm).same s8⟩) (fun e => by cases e; rw [h7] at hp; cases hp)⟩
   ·rintro σ H7 ⟨u5, ws, rfl, h7, hc7, hn7, s7⟩
    rw [wV] at hc7
    have lws := hc7.1
    have hVw : ∀ v ∈ ws, RowV K H7 v := fun v hv => by
     obtain ⟨j, ej⟩ := wJ.mp hv
     have hj := (kY.mp ej).1
     exact (hc7.2 j _ v (gE (by omega)) ej).row
    have hLB7 := lb_cp hLB hV (s5.trans s7) hc7
    have hd7 := (s5.trans s7) _ _ hd
    have isT : ∀ (H5 : Hp) (p : Addr), H5 p = none → upd H5 p (.tup [.ref CN, .ref CP, .ref CS]) p = some (.tup ([CN, CP, CS].map V.ref)) := fun H5 p hp => Qe
    refine ⟨_, rfl, h, ws, rfl, h7, hVw, by omega, lb_c hLB7 (fun e H8 s8 => ?_) fun z' ez => ?_⟩
    ·subst e
     refine ⟨_, rfl, _, rfl, h, d, _, _, rfl, rfl, Qb (s8 _ _ h7), Qb (s8 _ _ hd7), lws.symm, fun j x y ex ey => ((hc7.2 j y x ey ex).same s8).sm, _, rfl, iteF ?_⟩
     refine ⟨_, rfl, by show 3 ≤ sizeLine; decide, fun p hp => ?_⟩
     have s9 := Qd hp (.tup [.ref CN, .ref CP, .ref CS])
     have hp9 := isT H8 p hp
     generalize upd H8 p (.tup [.ref CN, .ref CP, .ref CS]) = H9 at s9 hp9 ⊢
     refine .inr ⟨p, [CN, CP, CS], false, rfl, hp9, EK.kn, ?_⟩
     refine ⟨false, rfl, iteF ?_⟩
     refine ⟨_, rfl, rfl, _, rfl, iteT ?_⟩
     refine ⟨_, rfl, rfl, _, rfl, iteT ?_⟩
     have s79 := s8.trans s9
     obtain ⟨A7, hne7, hG7, hB7⟩ : ∃ A, ws ≠ [] ∧ Good A ∧ RowsB H7 ws A := by
      cases hLB7 with
      | ok hne hG hB => exact ⟨_, hne, hG, hB⟩
     refine ⟨_, rfl, h, ws, rfl, s79 _ _ h7, fun v hv => (hVw v hv).same s79, by omega, fun e => absurd e hne7, fun A9 _ hG9 hB9 H10 s10 => ?_, fun A9 i v hG9 hl9 ht9 hi9 hno9 => (Qbo hG7 (hB7.same s79) ht9 hi9 hno9).elim⟩
     exact ⟨rfl, q H10⟩
    ·subst ez
     rintro e dx H8 s8 he hdx
     refine ⟨_, rfl, _, rfl, h, d, _, _, rfl, rfl, Qb (s8 _ _ h7), Qb (s8 _ _ hd7), lws.symm, fun j x y ex ey => ((hc7.2 j y x ey ex).same s8).sm, _, rfl, iteF ?_⟩
     refine ⟨_, rfl, by show 3 ≤ sizeLine; decide, fun p hp => ?_⟩
     have s9 := Qd hp (.tup [.ref CN, .ref CP, .ref CS])
     have hp9 := isT H8 p hp
     generalize upd H8 p (.tup [.ref CN, .ref CP, .ref CS]) = H9 at s9 hp9 ⊢
     have he9 := s9 _ _ he
     have hd9 := s9 _ _ hdx
     refine .inl ⟨e, C, dx, he9, EK.xi, .inr (.inr ⟨p, [CN, CP, CS], false, rfl, hp9, EK.ka, ?_⟩)⟩
     refine ⟨false, rfl, iteF ?_⟩
     refine ⟨_, rfl, rfl, _, rfl, iteF ?_⟩
     refine ⟨_, rfl, e, C, dx, he9, EK.xi, .inl ⟨C, true, rfl, EK.ko, ?_⟩⟩
     refine ⟨true, rfl, iteF ?_⟩
     refine ⟨_, rfl, e, C, dx, he9, EK.xi, .inr (.inl ⟨"ValueError", true, rfl, EK.kv, ?_⟩)⟩
     refine ⟨true, rfl, iteF ?_⟩
     refine ⟨_, rfl, e, C, dx, _, .int z', rfl, he9, hd9, EK.xf, rfl, .int z', rfl, .inl rfl, true, rfl, iteT ?_⟩
     refine ⟨_, rfl, e, C, dx, _, .int z', rfl, he9, hd9, EK.xf, rfl, _, rfl, rfl, _, rfl, ite2 (fun _ => ?_) (fun c => absurd (yK rfl) c)⟩
     refine ⟨_, rfl, _, _, rfl, rfl, _, rfl, fun e9 dx9 h1 h2 h3 => ?_⟩
     refine ⟨e9, C, dx9, _, .int (z' + 1), rfl, by rw [Qq h3]; exact Qe, Qe, EK.xf, rfl, _, rfl, _, _, rfl, rfl, rfl, ?_⟩
     rw [yK rfl]
     exact q _
  cases due with
  | int z' => exact ⟨_, rfl, rfl, _, rfl, iteF (iteF (GO H4 s4))⟩
  | non =>
   refine ⟨_, rfl, rfl, _, rfl, iteT ?_⟩
   obtain ⟨A4, hG4, hB4⟩ : ∃ A, Good A ∧ RowsB H3 us A := by
    cases hLB with
    | ok hne hG hB => exact ⟨_, hG, hB⟩
   have := hB4.length
   refine ⟨_, rfl, d, us, A4, rfl, s4 _ _ hd, hB4.same s4, hG4, by omega, fun b H5 s5 => ?_⟩
   exact ⟨b, rfl, ite2 (fun c => q H5) (fun c => GO H5 (s4.trans s5))⟩
  | _ => exact absurd hLB (fun h => nomatch h)
end
theorem ve_row : typeLookup (.type "ValueError") "row" = pure none := by rw [PySem.typeLookup_type, PySem.builtinLookup_eq_fast]; kernel_rfl
def htop (i : Nat) : Stmt := PySem.Challenge.pw_nonebetter_k50_books_looked_at.main.body.getD i (.Pass ⟨0, 0, 0, 0⟩)
def hob0 (i : Nat) (P : Params) : Obj :=
 bif Nat.beq i 2 then .mk .none none (.dict #[]) #[] else
 bif Nat.beq i 3 then .mk (.type "dict") none (.dict #[.mk (PyData.keyHash P "__name__") (.str "__name__" 165) (.str "law_nonebetter_k50_books_looked_at" 485), .mk (PyData.keyHash P "__doc__") (.str "__doc__" 166) .none, .mk (PyData.keyHash P "__package__") (.str "__package__" 167) .none, .mk (PyData.keyHash P "__loader__") (.str "__loader__" 168) (.builtin "__main__.__loader__#opaque"), .mk (PyData.keyHash P "__spec__") (.str "__spec__" 169) .none, .mk (PyData.keyHash P "__annotations__") (.str "__annotations__" 170) (.ref 6), .mk (PyData.keyHash P "__builtins__") (.str "__builtins__" 171) (.ref 4), .mk (PyData.keyHash P "__file__") (.str "__file__" 173) (.str "/claim/cut.py" 172), .mk (PyData.keyHash P "__cached__") (.str "__cached__" 174) .none, .mk (PyData.keyHash P "PlanError") (.str "PlanError" 206) (.ref 24), .mk (PyData.keyHash P "NoNumber") (.str "NoNumber" 222) (.ref 37), .mk (PyData.keyHash P "NoStep") (.str "NoStep" 238) (.ref 49), .mk (PyData.keyHash P "NoPicture") (.str "NoPicture" 263) (.ref 68), .mk (PyData.keyHash P "NoBook") (.str "NoBook" 288) (.ref 87), .mk (PyData.keyHash P "is_whole") (.str "is_whole" 297) (.ref 96), .mk (PyData.keyHash P "NAMES") (.str "NAMES" 333) (.ref 97), .mk (PyData.keyHash P "BOUNDS") (.str "BOUNDS" 379) (.ref 98), .mk (PyData.keyHash P "NEEDS") (.str "NEEDS" 430) (.ref 124), .mk (PyData.keyHash P "is_name") (.str "is_name" 436) (.ref 154), .mk (PyData.keyHash P "is_formed") (.str "is_formed" 442) (.ref 159), .mk (PyData.keyHash P "is_within") (.str "is_within" 454) (.ref 166), .mk (PyData.keyHash P "said_by") (.str "said_by" 461) (.ref 173), .mk (PyData.keyHash P "needed_by") (.str "needed_by" 467) (.ref 178), .mk (PyData.keyHash P "is_row_of_book") (.str "is_row_of_book" 473) (.ref 183), .mk (PyData.keyHash P "looked") (.str "looked" 484) (.ref 190), .mk (PyData.keyHash P "_law_cell_at") (.str "_law_cell_at" 494) (.ref 197), .mk (PyData.keyHash P "_law_whole") (.str "_law_whole" 501) (.ref 204), .mk (PyData.keyHash P "_law_block") (.str "_law_block" 511) (.ref 211), .mk (PyData.keyHash P "_law_mixed") (.str "_law_mixed" 521) (.ref 218), .mk (PyData.keyHash P "_law_name") (.str "_law_name" 533) (.ref 225), .mk (PyData.keyHash P "_law_things") (.str "_law_things" 549) (.ref 232), .mk (PyData.keyHash P "_law_way") (.str "_law_way" 566) (.ref 239), .mk (PyData.keyHash P "_law_works") (.str "_law_works" 584) (.ref 246), .mk (PyData.keyHash P "_law_put") (.str "_law_put" 596) (.ref 253), .mk (PyData.keyHash P "_law_book") (.str "_law_book" 609) (.ref 260), .mk (PyData.keyHash P "_law_number") (.str "_law_number" 618) (.ref 267), .mk (PyData.keyHash P "_law_named") (.str "_law_named" 624) (.ref 272), .mk (PyData.keyHash P "_law_things_of") (.str "_law_things_of" 630) (.ref 277), .mk (PyData.keyHash P "_law_fits_new") (.str "_law_fits_new" 636) (.ref 282), .mk (PyData.keyHash P "_law_fits_old") (.str "_law_fits_old" 642) (.ref 287), .mk (PyData.keyHash P "_law_row_fits") (.str "_law_row_fits" 650) (.ref 294), .mk (PyData.keyHash P "_law_bad_row") (.str "_law_bad_row" 658) (.ref 301), .mk (PyData.keyHash P "_law_too_great") (.str "_law_too_great" 664) (.ref 306), .mk (PyData.keyHash P "_law_other_word") (.str "_law_other_word" 674) (.ref 313), .mk (PyData.keyHash P "_law_spoiled") (.str "_law_spoiled" 689) (.ref 320), .mk (PyData.keyHash P "_law_caught") (.str "_law_caught" 698) (.ref 327), .mk (PyData.keyHash P "law") (.str "law" 704) (.ref 332)] 47) #[] else
 bif Nat.beq i 15 then .mk (.type "tuple") none (.seq #[.type "ValueError"]) #[] else
 bif Nat.beq i 22 then .mk (.type "tuple") none (.seq #[]) #[] else
 .mk (.type "dict") none (.dict #[.mk (PyData.keyHash P "__module__") (.str "__module__" 196) (.str "nonebetter.errors" 187), .mk (PyData.keyHash P "__firstlineno__") (.str "__firstlineno__" 200) (.int 2 199), .mk (PyData.keyHash P "__static_attributes__") (.str "__static_attributes__" 201) (.ref 22), .mk (PyData.keyHash P "__weakref__") (.str "__weakref__" 203) (.ref 25), .mk (PyData.keyHash P "__doc__") (.str "__doc__" 204) .none] 3) #[]
def hob1 (i : Nat) (P : Params) : Obj :=
 bif Nat.beq i 24 then .mk (.type "type") none (.cls (ClassData.mk "PlanError" [.type "ValueError"] [.ref 24, .type "ValueError", .type "Exception", .type "BaseException", .type "object"] 23 "PlanError" Bool.true [] [.ref 37, .ref 49, .ref 68, .ref 87] Bool.false none Bool.false)) #[Option.some (.ref 15), none, Option.some (.str "PlanError" 189), Option.some (.str "PlanError" 197), Option.some (.builtin "ValueError.__new__"), Option.some (.bool Bool.true)] else
 bif Nat.beq i 25 then .mk (.type "getset_descriptor") none (.fields #[.str "__weakref__" 202, .ref 24, .builtin "ExceptionGroup.__weakref__", .none]) #[] else
 bif Nat.beq i 28 then .mk (.type "tuple") none (.seq #[.ref 24]) #[] else
 bif Nat.beq i 35 then .mk (.type "tuple") none (.seq #[]) #[] else
 .mk (.type "dict") none (.dict #[.mk (PyData.keyHash P "__module__") (.str "__module__" 214) (.str "nonebetter.errors" 187), .mk (PyData.keyHash P "__firstlineno__") (.str "__firstlineno__" 218) (.int 4 217), .mk (PyData.keyHash P "__static_attributes__") (.str "__static_attributes__" 219) (.ref 35), .mk (PyData.keyHash P "__doc__") (.str "__doc__" 220) .none] 2) #[]
def hob2 (i : Nat) (P : Params) : Obj :=
 bif Nat.beq i 37 then .mk (.type "type") none (.cls (ClassData.mk "NoNumber" [.ref 24] [.ref 37, .ref 24, .type "ValueError", .type "Exception", .type "BaseException", .type "object"] 36 "NoNumber" Bool.true [] [] Bool.false none Bool.false)) #[Option.some (.ref 28), none, Option.some (.str "NoNumber" 207), Option.some (.str "NoNumber" 215), Option.some (.builtin "ValueError.__new__"), Option.some (.bool Bool.true)] else
 bif Nat.beq i 40 then .mk (.type "tuple") none (.seq #[.ref 24]) #[] else
 bif Nat.beq i 47 then .mk (.type "tuple") none (.seq #[]) #[] else
 bif Nat.beq i 48 then .mk (.type "dict") none (.dict #[.mk (PyData.keyHash P "__module__") (.str "__module__" 230) (.str "nonebetter.errors" 187), .mk (PyData.keyHash P "__firstlineno__") (.str "__firstlineno__" 234) (.int 6 233), .mk (PyData.keyHash P "__static_attributes__") (.str "__static_attributes__" 235) (.ref 47), .mk (PyData.keyHash P "__doc__") (.str "__doc__" 236) .none] 2) #[] else
 .mk (.type "type") none (.cls (ClassData.mk "NoStep" [.ref 24] [.ref 49, .ref 24, .type "ValueError", .type "Exception", .type "BaseException", .type "object"] 48 "NoStep" Bool.true [] [] Bool.false none Bool.false)) #[Option.some (.ref 40), none, Option.some (.str "NoStep" 223), Option.some (.str "NoStep" 231), Option.some (.builtin "ValueError.__new__"), Option.some (.bool Bool.true)]
def hob3 (i : Nat) (P : Params) : Obj :=
 bif Nat.beq i 52 then .mk (.type "tuple") none (.seq #[.ref 24]) #[] else
 bif Nat.beq i 59 then .mk (.type "tuple") none (.seq #[]) #[] else
 bif Nat.beq i 61 then .mk (.type "tuple") none (.seq #[.str "self" 254, .str "row" 255]) #[] else
 bif Nat.beq i 62 then .mk (.type "tuple") none (.seq #[]) #[] else
 .mk (.type "code") none (.fields #[.str "__init__" 251, .str "NoPicture.__init__" 252, .str "/claim/cut.py" 253, .int 10 0, .int 2 0, .int 0 0, .int 0 0, .int 3 0, .ref 59, .bool Bool.true, .int 181 0, .ref 60, .none, .ref 61, .ref 62, .ref 63, .int 256 0, .int 10 0, .str "/claim/cut.py" 257]) #[]
def hob4 (i : Nat) (P : Params) : Obj :=
 bif Nat.beq i 65 then .mk (.type "function") none (.func (.mk "__init__" "NoPicture.__init__" (Arguments.mk [] [Arg.mk "self" none (Pos.mk 10 17 10 21), Arg.mk "row" none (Pos.mk 10 23 10 26)] none [] [] none []) (.stmts [Stmt.Assign [Expr.Attribute (Expr.Name "self" (Pos.mk 11 8 11 12)) "row" (Pos.mk 11 8 11 16)] (Expr.Name "row" (Pos.mk 11 19 11 22)) (Pos.mk 11 8 11 22)]) (Scope.mk ScopeKind.function [(Str.ofString "self", NameKind.local), (Str.ofString "row", NameKind.local)] Bool.false Bool.false []) 3 [] .none .none .none (.str "nonebetter.errors" 187) none (.ref 64) .none 0)) #[] else
 bif Nat.beq i 66 then .mk (.type "tuple") none (.seq #[.str "row" 259]) #[] else
 bif Nat.beq i 67 then .mk (.type "dict") none (.dict #[.mk (PyData.keyHash P "__module__") (.str "__module__" 246) (.str "nonebetter.errors" 187), .mk (PyData.keyHash P "__firstlineno__") (.str "__firstlineno__" 250) (.int 8 249), .mk (PyData.keyHash P "__init__") (.str "__init__" 258) (.ref 65), .mk (PyData.keyHash P "__static_attributes__") (.str "__static_attributes__" 260) (.ref 66), .mk (PyData.keyHash P "__doc__") (.str "__doc__" 261) .none] 2) #[] else
 bif Nat.beq i 68 then .mk (.type "type") none (.cls (ClassData.mk "NoPicture" [.ref 24] [.ref 68, .ref 24, .type "ValueError", .type "Exception", .type "BaseException", .type "object"] 67 "NoPicture" Bool.true [] [] Bool.false none Bool.false)) #[Option.some (.ref 52), none, Option.some (.str "NoPicture" 239), Option.some (.str "NoPicture" 247), Option.some (.builtin "ValueError.__new__"), Option.some (.bool Bool.true)] else
 .mk (.type "tuple") none (.seq #[.ref 24]) #[]
def hob5 (i : Nat) (P : Params) : Obj :=
 bif Nat.beq i 78 then .mk (.type "tuple") none (.seq #[]) #[] else
 bif Nat.beq i 80 then .mk (.type "tuple") none (.seq #[.str "self" 279, .str "row" 280]) #[] else
 bif Nat.beq i 81 then .mk (.type "tuple") none (.seq #[]) #[] else
 bif Nat.beq i 83 then .mk (.type "code") none (.fields #[.str "__init__" 276, .str "NoBook.__init__" 277, .str "/claim/cut.py" 278, .int 14 0, .int 2 0, .int 0 0, .int 0 0, .int 3 0, .ref 78, .bool Bool.true, .int 181 0, .ref 79, .none, .ref 80, .ref 81, .ref 82, .int 281 0, .int 14 0, .str "/claim/cut.py" 282]) #[] else
 .mk (.type "function") none (.func (.mk "__init__" "NoBook.__init__" (Arguments.mk [] [Arg.mk "self" none (Pos.mk 14 17 14 21), Arg.mk "row" none (Pos.mk 14 23 14 26)] none [] [] none []) (.stmts [Stmt.Assign [Expr.Attribute (Expr.Name "self" (Pos.mk 15 8 15 12)) "row" (Pos.mk 15 8 15 16)] (Expr.Name "row" (Pos.mk 15 19 15 22)) (Pos.mk 15 8 15 22)]) (Scope.mk ScopeKind.function [(Str.ofString "self", NameKind.local), (Str.ofString "row", NameKind.local)] Bool.false Bool.false []) 3 [] .none .none .none (.str "nonebetter.errors" 187) none (.ref 83) .none 0)) #[]
def hob6 (i : Nat) (P : Params) : Obj :=
 bif Nat.beq i 85 then .mk (.type "tuple") none (.seq #[.str "row" 284]) #[] else
 bif Nat.beq i 86 then .mk (.type "dict") none (.dict #[.mk (PyData.keyHash P "__module__") (.str "__module__" 271) (.str "nonebetter.errors" 187), .mk (PyData.keyHash P "__firstlineno__") (.str "__firstlineno__" 275) (.int 12 274), .mk (PyData.keyHash P "__init__") (.str "__init__" 283) (.ref 84), .mk (PyData.keyHash P "__static_attributes__") (.str "__static_attributes__" 285) (.ref 85), .mk (PyData.keyHash P "__doc__") (.str "__doc__" 286) .none] 2) #[] else
 bif Nat.beq i 87 then .mk (.type "type") none (.cls (ClassData.mk "NoBook" [.ref 24] [.ref 87, .ref 24, .type "ValueError", .type "Exception", .type "BaseException", .type "object"] 86 "NoBook" Bool.true [] [] Bool.false none Bool.false)) #[Option.some (.ref 71), none, Option.some (.str "NoBook" 264), Option.some (.str "NoBook" 272), Option.some (.builtin "ValueError.__new__"), Option.some (.bool Bool.true)] else
 bif Nat.beq i 90 then .mk (.type "tuple") none (.seq #[]) #[] else
 .mk (.type "tuple") none (.seq #[.str "thing" 294]) #[]
def hob7 (i : Nat) (P : Params) : Obj :=
 bif Nat.beq i 93 then .mk (.type "tuple") none (.seq #[]) #[] else
 bif Nat.beq i 95 then .mk (.type "code") none (.fields #[.str "is_whole" 291, .str "is_whole" 292, .str "/claim/cut.py" 293, .int 17 0, .int 1 0, .int 0 0, .int 0 0, .int 3 0, .ref 90, .bool Bool.true, .int 181 0, .ref 91, .none, .ref 92, .ref 93, .ref 94, .int 295 0, .int 17 0, .str "/claim/cut.py" 296]) #[] else
 bif Nat.beq i 96 then .mk (.type "function") (none) (.func (.mk "is_whole" "is_whole" (L2.Xc (htop 7)) (.stmts (L2.Qx (htop 7))) (L2.Qh (htop 7)) (3) ([]) (.none) (.none) (.none) (.str "nonebetter.kinds" 289) (none) (.ref 95) (.none) (0))) (#[]) else
 bif Nat.beq i 97 then .mk (.type "dict") none (.dict #[.mk (PyData.keyHash P "days") (.str "days" 300) (.int 0 301), .mk (PyData.keyHash P "bench") (.str "bench" 302) (.int 1 303), .mk (PyData.keyHash P "shut") (.str "shut" 304) (.int 1 305), .mk (PyData.keyHash P "store") (.str "store" 306) (.int 1 307), .mk (PyData.keyHash P "work") (.str "work" 308) (.int 1 309), .mk (PyData.keyHash P "way") (.str "way" 310) (.int 2 311), .mk (PyData.keyHash P "uses") (.str "uses" 312) (.int 3 313), .mk (PyData.keyHash P "takes") (.str "takes" 314) (.int 3 315), .mk (PyData.keyHash P "gives") (.str "gives" 316) (.int 3 317), .mk (PyData.keyHash P "after") (.str "after" 318) (.int 2 319), .mk (PyData.keyHash P "late") (.str "late" 320) (.int 1 321)] 11) #[] else
 .mk (.type "dict") none (.dict #[.mk (PyData.keyHash P "days") (.str "days" 334) (.ref 100), .mk (PyData.keyHash P "bench") (.str "bench" 337) (.ref 102), .mk (PyData.keyHash P "shut") (.str "shut" 340) (.ref 105), .mk (PyData.keyHash P "store") (.str "store" 343) (.ref 108), .mk (PyData.keyHash P "work") (.str "work" 348) (.ref 109), .mk (PyData.keyHash P "way") (.str "way" 349) (.ref 112), .mk (PyData.keyHash P "uses") (.str "uses" 353) (.ref 114), .mk (PyData.keyHash P "takes") (.str "takes" 356) (.ref 116), .mk (PyData.keyHash P "gives") (.str "gives" 359) (.ref 118), .mk (PyData.keyHash P "after") (.str "after" 362) (.ref 120), .mk (PyData.keyHash P "late") (.str "late" 364) (.ref 123)] 11) #[]
def hob8 (i : Nat) (P : Params) : Obj :=
 bif Nat.beq i 99 then .mk (.type "tuple") none (.seq #[.int 1 335, .int 12 336]) #[] else
 bif Nat.beq i 100 then .mk (.type "tuple") none (.seq #[.ref 99]) #[] else
 bif Nat.beq i 101 then .mk (.type "tuple") none (.seq #[.int 0 338, .int 99 339]) #[] else
 bif Nat.beq i 102 then .mk (.type "tuple") none (.seq #[.ref 101]) #[] else
 .mk (.type "tuple") none (.seq #[.int 0 341, .none]) #[]
def hob9 (i : Nat) (P : Params) : Obj :=
 bif Nat.beq i 104 then .mk (.type "tuple") none (.seq #[.int 0 342, .none]) #[] else
 bif Nat.beq i 105 then .mk (.type "tuple") none (.seq #[.ref 103, .ref 104]) #[] else
 bif Nat.beq i 106 then .mk (.type "tuple") none (.seq #[.int 0 344, .int 999 345]) #[] else
 bif Nat.beq i 107 then .mk (.type "tuple") none (.seq #[.int 0 346, .int 999 347]) #[] else
 .mk (.type "tuple") none (.seq #[.ref 106, .ref 107]) #[]
def hob10 (i : Nat) (P : Params) : Obj :=
 bif Nat.beq i 109 then .mk (.type "tuple") none (.seq #[]) #[] else
 bif Nat.beq i 110 then .mk (.type "tuple") none (.seq #[.int 1 350, .none]) #[] else
 bif Nat.beq i 111 then .mk (.type "tuple") none (.seq #[.int 0 351, .int 999999 352]) #[] else
 bif Nat.beq i 112 then .mk (.type "tuple") none (.seq #[.ref 110, .ref 111]) #[] else
 .mk (.type "tuple") none (.seq #[.int 1 354, .int 99 355]) #[]
def hob11 (i : Nat) (P : Params) : Obj :=
 bif Nat.beq i 114 then .mk (.type "tuple") none (.seq #[.ref 113]) #[] else
 bif Nat.beq i 115 then .mk (.type "tuple") none (.seq #[.int 1 357, .int 99 358]) #[] else
 bif Nat.beq i 116 then .mk (.type "tuple") none (.seq #[.ref 115]) #[] else
 bif Nat.beq i 117 then .mk (.type "tuple") none (.seq #[.int 1 360, .int 99 361]) #[] else
 .mk (.type "tuple") none (.seq #[.ref 117]) #[]
def hob12 (i : Nat) (P : Params) : Obj :=
 bif Nat.beq i 119 then .mk (.type "tuple") none (.seq #[.int 0 363, .none]) #[] else
 bif Nat.beq i 120 then .mk (.type "tuple") none (.seq #[.ref 119]) #[] else
 bif Nat.beq i 121 then .mk (.type "tuple") none (.seq #[.int 0 365, .none]) #[] else
 bif Nat.beq i 122 then .mk (.type "tuple") none (.seq #[.int 1 366, .int 999999 367]) #[] else
 .mk (.type "tuple") none (.seq #[.ref 121, .ref 122]) #[]
def hob13 (i : Nat) (P : Params) : Obj :=
 bif Nat.beq i 124 then .mk (.type "dict") none (.dict #[.mk (PyData.keyHash P "days") (.str "days" 380) (.ref 125), .mk (PyData.keyHash P "bench") (.str "bench" 381) (.ref 127), .mk (PyData.keyHash P "shut") (.str "shut" 383) (.ref 129), .mk (PyData.keyHash P "store") (.str "store" 386) (.ref 131), .mk (PyData.keyHash P "work") (.str "work" 388) (.ref 133), .mk (PyData.keyHash P "way") (.str "way" 390) (.ref 135), .mk (PyData.keyHash P "uses") (.str "uses" 393) (.ref 138), .mk (PyData.keyHash P "takes") (.str "takes" 399) (.ref 141), .mk (PyData.keyHash P "gives") (.str "gives" 405) (.ref 144), .mk (PyData.keyHash P "after") (.str "after" 411) (.ref 147), .mk (PyData.keyHash P "late") (.str "late" 416) (.ref 149)] 11) #[] else
 bif Nat.beq i 125 then .mk (.type "tuple") none (.seq #[]) #[] else
 bif Nat.beq i 126 then .mk (.type "tuple") none (.seq #[.str "days" 382]) #[] else
 bif Nat.beq i 127 then .mk (.type "tuple") none (.seq #[.ref 126]) #[] else
 .mk (.type "tuple") none (.seq #[.str "bench" 384, .int 1 385]) #[]
def hob14 (i : Nat) (P : Params) : Obj :=
 bif Nat.beq i 129 then .mk (.type "tuple") none (.seq #[.ref 128]) #[] else
 bif Nat.beq i 130 then .mk (.type "tuple") none (.seq #[.str "days" 387]) #[] else
 bif Nat.beq i 131 then .mk (.type "tuple") none (.seq #[.ref 130]) #[] else
 bif Nat.beq i 132 then .mk (.type "tuple") none (.seq #[.str "days" 389]) #[] else
 .mk (.type "tuple") none (.seq #[.ref 132]) #[]
def hob15 (i : Nat) (P : Params) : Obj :=
 bif Nat.beq i 134 then .mk (.type "tuple") none (.seq #[.str "work" 391, .int 1 392]) #[] else
 bif Nat.beq i 135 then .mk (.type "tuple") none (.seq #[.ref 134]) #[] else
 bif Nat.beq i 136 then .mk (.type "tuple") none (.seq #[.str "way" 394, .int 1 395, .int 2 396]) #[] else
 bif Nat.beq i 137 then .mk (.type "tuple") none (.seq #[.str "bench" 397, .int 3 398]) #[] else
 .mk (.type "tuple") none (.seq #[.ref 136, .ref 137]) #[]
def hob16 (i : Nat) (P : Params) : Obj :=
 bif Nat.beq i 139 then .mk (.type "tuple") none (.seq #[.str "way" 400, .int 1 401, .int 2 402]) #[] else
 bif Nat.beq i 140 then .mk (.type "tuple") none (.seq #[.str "store" 403, .int 3 404]) #[] else
 bif Nat.beq i 141 then .mk (.type "tuple") none (.seq #[.ref 139, .ref 140]) #[] else
 bif Nat.beq i 142 then .mk (.type "tuple") none (.seq #[.str "way" 406, .int 1 407, .int 2 408]) #[] else
 .mk (.type "tuple") none (.seq #[.str "store" 409, .int 3 410]) #[]
def hob17 (i : Nat) (P : Params) : Obj :=
 bif Nat.beq i 144 then .mk (.type "tuple") none (.seq #[.ref 142, .ref 143]) #[] else
 bif Nat.beq i 145 then .mk (.type "tuple") none (.seq #[.str "work" 412, .int 1 413]) #[] else
 bif Nat.beq i 146 then .mk (.type "tuple") none (.seq #[.str "work" 414, .int 2 415]) #[] else
 bif Nat.beq i 147 then .mk (.type "tuple") none (.seq #[.ref 145, .ref 146]) #[] else
 .mk (.type "tuple") none (.seq #[.str "work" 417, .int 1 418]) #[]
def hob18 (i : Nat) (P : Params) : Obj :=
 bif Nat.beq i 149 then .mk (.type "tuple") none (.seq #[.ref 148]) #[] else
 bif Nat.beq i 150 then .mk (.type "tuple") none (.seq #[]) #[] else
 bif Nat.beq i 153 then .mk (.type "code") none (.fields #[.str "is_name" 431, .str "is_name" 432, .str "/claim/cut.py" 433, .int 23 0, .int 1 0, .int 0 0, .int 0 0, .int 3 0, .ref 150, .bool Bool.true, .int 181 0, .ref 151, .none, .none, .none, .ref 152, .int 434 0, .int 23 0, .str "/claim/cut.py" 435]) #[] else
 bif Nat.beq i 154 then .mk (.type "function") (none) (.func (.mk "is_name" "is_name" (L2.Xc (htop 12)) (.stmts (L2.Qx (htop 12))) (L2.Qh (htop 12)) (3) ([]) (.none) (.none) (.none) (.str "nonebetter.books" 298) (none) (.ref 153) (.none) (0))) (#[]) else
 .mk (.type "tuple") none (.seq #[]) #[]
def hob19 (i : Nat) (P : Params) : Obj :=
 bif Nat.beq i 158 then .mk (.type "code") none (.fields #[.str "is_formed" 437, .str "is_formed" 438, .str "/claim/cut.py" 439, .int 25 0, .int 1 0, .int 0 0, .int 0 0, .int 3 0, .ref 155, .bool Bool.true, .int 181 0, .ref 156, .none, .none, .none, .ref 157, .int 440 0, .int 25 0, .str "/claim/cut.py" 441]) #[] else
 bif Nat.beq i 159 then .mk (.type "function") (none) (.func (.mk "is_formed" "is_formed" (L2.Xc (htop 13)) (.stmts (L2.Qx (htop 13))) (L2.Qh (htop 13)) (3) ([]) (.none) (.none) (.none) (.str "nonebetter.books" 298) (none) (.ref 158) (.none) (0))) (#[]) else
 bif Nat.beq i 160 then .mk (.type "tuple") none (.seq #[]) #[] else
 bif Nat.beq i 162 then .mk (.type "tuple") none (.seq #[.str "row" 446, .str "days" 447, .str "word" 448, .str "number" 449, .str "bounds" 450, .str "most" 451]) #[] else
 .mk (.type "tuple") none (.seq #[]) #[]
def hob20 (i : Nat) (P : Params) : Obj :=
 bif Nat.beq i 165 then .mk (.type "code") none (.fields #[.str "is_within" 443, .str "is_within" 444, .str "/claim/cut.py" 445, .int 32 0, .int 2 0, .int 0 0, .int 0 0, .int 3 0, .ref 160, .bool Bool.true, .int 181 0, .ref 161, .none, .ref 162, .ref 163, .ref 164, .int 452 0, .int 32 0, .str "/claim/cut.py" 453]) #[] else
 bif Nat.beq i 166 then .mk (.type "function") (none) (.func (.mk "is_within" "is_within" (L2.Xc (htop 14)) (.stmts (L2.Qx (htop 14))) (L2.Qh (htop 14)) (3) ([]) (.none) (.none) (.none) (.str "nonebetter.books" 298) (none) (.ref 165) (.none) (0))) (#[]) else
 bif Nat.beq i 167 then .mk (.type "tuple") none (.seq #[]) #[] else
 bif Nat.beq i 169 then .mk (.type "tuple") none (.seq #[.str "row" 458]) #[] else
 .mk (.type "tuple") none (.seq #[]) #[]
def hob21 (i : Nat) (P : Params) : Obj :=
 bif Nat.beq i 172 then .mk (.type "code") none (.fields #[.str "said_by" 455, .str "said_by" 456, .str "/claim/cut.py" 457, .int 43 0, .int 1 0, .int 0 0, .int 0 0, .int 3 0, .ref 167, .bool Bool.true, .int 181 0, .ref 168, .none, .ref 169, .ref 170, .ref 171, .int 459 0, .int 43 0, .str "/claim/cut.py" 460]) #[] else
 bif Nat.beq i 173 then .mk (.type "function") (none) (.func (.mk "said_by" "said_by" (L2.Xc (htop 15)) (.stmts (L2.Qx (htop 15))) (L2.Qh (htop 15)) (3) ([]) (.none) (.none) (.none) (.str "nonebetter.books" 298) (none) (.ref 172) (.none) (0))) (#[]) else
 bif Nat.beq i 174 then .mk (.type "tuple") none (.seq #[]) #[] else
 bif Nat.beq i 177 then .mk (.type "code") none (.fields #[.str "needed_by" 462, .str "needed_by" 463, .str "/claim/cut.py" 464, .int 45 0, .int 1 0, .int 0 0, .int 0 0, .int 3 0, .ref 174, .bool Bool.true, .int 181 0, .ref 175, .none, .none, .none, .ref 176, .int 465 0, .int 45 0, .str "/claim/cut.py" 466]) #[] else
 .mk (.type "function") (none) (.func (.mk "needed_by" "needed_by" (L2.Xc (htop 16)) (.stmts (L2.Qx (htop 16))) (L2.Qh (htop 16)) (3) ([]) (.none) (.none) (.none) (.str "nonebetter.books" 298) (none) (.ref 177) (.none) (0))) (#[])
def hob22 (i : Nat) (P : Params) : Obj :=
 bif Nat.beq i 179 then .mk (.type "tuple") none (.seq #[]) #[] else
 bif Nat.beq i 182 then .mk (.type "code") none (.fields #[.str "is_row_of_book" 468, .str "is_row_of_book" 469, .str "/claim/cut.py" 470, .int 47 0, .int 3 0, .int 0 0, .int 0 0, .int 3 0, .ref 179, .bool Bool.true, .int 181 0, .ref 180, .none, .none, .none, .ref 181, .int 471 0, .int 47 0, .str "/claim/cut.py" 472]) #[] else
 bif Nat.beq i 183 then .mk (.type "function") (none) (.func (.mk "is_row_of_book" "is_row_of_book" (L2.Xc (htop 17)) (.stmts (L2.Qx (htop 17))) (L2.Qh (htop 17)) (3) ([]) (.none) (.none) (.none) (.str "nonebetter.books" 298) (none) (.ref 182) (.none) (0))) (#[]) else
 bif Nat.beq i 184 then .mk (.type "tuple") none (.seq #[]) #[] else
 .mk (.type "tuple") none (.seq #[.str "rows" 477, .str "said" 478, .str "days" 479, .str "number" 480, .str "row" 481]) #[]
def hob23 (i : Nat) (P : Params) : Obj :=
 bif Nat.beq i 187 then .mk (.type "tuple") none (.seq #[]) #[] else
 bif Nat.beq i 189 then .mk (.type "code") none (.fields #[.str "looked" 474, .str "looked" 475, .str "/claim/cut.py" 476, .int 53 0, .int 1 0, .int 0 0, .int 0 0, .int 3 0, .ref 184, .bool Bool.true, .int 181 0, .ref 185, .none, .ref 186, .ref 187, .ref 188, .int 482 0, .int 53 0, .str "/claim/cut.py" 483]) #[] else
 bif Nat.beq i 190 then .mk (.type "function") (none) (.func (.mk "looked" "looked" (L2.Xc (htop 18)) (.stmts (L2.Qx (htop 18))) (L2.Qh (htop 18)) (3) ([]) (.none) (.none) (.none) (.str "nonebetter.books" 298) (none) (.ref 189) (.none) (0))) (#[]) else
 bif Nat.beq i 198 then .mk (.type "tuple") none (.seq #[]) #[] else
 .mk (.type "tuple") none (.seq #[.str "_law_found" 498]) #[]
def hob24 (i : Nat) (P : Params) : Obj :=
 bif Nat.beq i 201 then .mk (.type "tuple") none (.seq #[]) #[] else
 bif Nat.beq i 203 then .mk (.type "code") none (.fields #[.str "_law_whole" 495, .str "_law_whole" 496, .str "/claim/cut.py" 497, .int 68 0, .int 1 0, .int 0 0, .int 0 0, .int 3 0, .ref 198, .bool Bool.true, .int 181 0, .ref 199, .none, .ref 200, .ref 201, .ref 202, .int 499 0, .int 68 0, .str "/claim/cut.py" 500]) #[] else
 bif Nat.beq i 204 then .mk (.type "function") (none) (.func (.mk "_law_whole" "_law_whole" (L2.Xc (htop 21)) (.stmts (L2.Qx (htop 21))) (L2.Qh (htop 21)) (3) ([]) (.none) (.none) (.none) (.str "law_nonebetter_k50_books_looked_at" 485) (none) (.ref 203) (.none) (0))) (#[]) else
 bif Nat.beq i 205 then .mk (.type "tuple") none (.seq #[]) #[] else
 .mk (.type "tuple") none (.seq #[.str "_law_script" 505, .str "_law_k" 506, .str "_law_cell" 507, .str "_law_j" 508]) #[]
def hob25 (i : Nat) (P : Params) : Obj :=
 bif Nat.beq i 208 then .mk (.type "tuple") none (.seq #[]) #[] else
 bif Nat.beq i 210 then .mk (.type "code") none (.fields #[.str "_law_block" 502, .str "_law_block" 503, .str "/claim/cut.py" 504, .int 70 0, .int 2 0, .int 0 0, .int 0 0, .int 3 0, .ref 205, .bool Bool.true, .int 181 0, .ref 206, .none, .ref 207, .ref 208, .ref 209, .int 509 0, .int 70 0, .str "/claim/cut.py" 510]) #[] else
 bif Nat.beq i 211 then .mk (.type "function") (none) (.func (.mk "_law_block" "_law_block" (L2.Xc (htop 22)) (.stmts (L2.Qx (htop 22))) (L2.Qh (htop 22)) (3) ([]) (.none) (.none) (.none) (.str "law_nonebetter_k50_books_looked_at" 485) (none) (.ref 210) (.none) (0))) (#[]) else
 bif Nat.beq i 212 then .mk (.type "tuple") none (.seq #[]) #[] else
 .mk (.type "tuple") none (.seq #[.str "_law_script" 515, .str "_law_k" 516, .str "_law_cell" 517, .str "_law_number_here" 518]) #[]
def hob26 (i : Nat) (P : Params) : Obj :=
 bif Nat.beq i 215 then .mk (.type "tuple") none (.seq #[]) #[] else
 bif Nat.beq i 217 then .mk (.type "code") none (.fields #[.str "_law_mixed" 512, .str "_law_mixed" 513, .str "/claim/cut.py" 514, .int 77 0, .int 2 0, .int 0 0, .int 0 0, .int 3 0, .ref 212, .bool Bool.true, .int 181 0, .ref 213, .none, .ref 214, .ref 215, .ref 216, .int 519 0, .int 77 0, .str "/claim/cut.py" 520]) #[] else
 bif Nat.beq i 218 then .mk (.type "function") (none) (.func (.mk "_law_mixed" "_law_mixed" (L2.Xc (htop 23)) (.stmts (L2.Qx (htop 23))) (L2.Qh (htop 23)) (3) ([]) (.none) (.none) (.none) (.str "law_nonebetter_k50_books_looked_at" 485) (none) (.ref 217) (.none) (0))) (#[]) else
 bif Nat.beq i 219 then .mk (.type "tuple") none (.seq #[]) #[] else
 .mk (.type "tuple") none (.seq #[.str "_law_script" 525, .str "_law_k" 526, .str "_law_first" 527, .str "_law_number_here" 528, .str "_law_found" 529, .str "_law_j" 530]) #[]
def hob27 (i : Nat) (P : Params) : Obj :=
 bif Nat.beq i 222 then .mk (.type "tuple") none (.seq #[]) #[] else
 bif Nat.beq i 224 then .mk (.type "code") none (.fields #[.str "_law_name" 522, .str "_law_name" 523, .str "/claim/cut.py" 524, .int 88 0, .int 3 0, .int 0 0, .int 0 0, .int 3 0, .ref 219, .bool Bool.true, .int 181 0, .ref 220, .none, .ref 221, .ref 222, .ref 223, .int 531 0, .int 88 0, .str "/claim/cut.py" 532]) #[] else
 bif Nat.beq i 225 then .mk (.type "function") (none) (.func (.mk "_law_name" "_law_name" (L2.Xc (htop 24)) (.stmts (L2.Qx (htop 24))) (L2.Qh (htop 24)) (3) ([]) (.none) (.none) (.none) (.str "law_nonebetter_k50_books_looked_at" 485) (none) (.ref 224) (.none) (0))) (#[]) else
 bif Nat.beq i 226 then .mk (.type "tuple") none (.seq #[]) #[] else
 .mk (.type "tuple") none (.seq #[.str "_law_script" 537, .str "_law_days" 538, .str "_law_found" 539, .str "_law_number_here" 540, .str "_law_k" 541, .str "_law_bench" 542, .str "_law_more" 543, .str "_law_j" 544, .str "_law_end" 545, .str "_law_most" 546]) #[]
def hob28 (i : Nat) (P : Params) : Obj :=
 bif Nat.beq i 229 then .mk (.type "tuple") none (.seq #[]) #[] else
 bif Nat.beq i 231 then .mk (.type "code") none (.fields #[.str "_law_things" 534, .str "_law_things" 535, .str "/claim/cut.py" 536, .int 95 0, .int 2 0, .int 0 0, .int 0 0, .int 3 0, .ref 226, .bool Bool.true, .int 181 0, .ref 227, .none, .ref 228, .ref 229, .ref 230, .int 547 0, .int 95 0, .str "/claim/cut.py" 548]) #[] else
 bif Nat.beq i 232 then .mk (.type "function") (none) (.func (.mk "_law_things" "_law_things" (L2.Xc (htop 25)) (.stmts (L2.Qx (htop 25))) (L2.Qh (htop 25)) (3) ([]) (.none) (.none) (.none) (.str "law_nonebetter_k50_books_looked_at" 485) (none) (.ref 231) (.none) (0))) (#[]) else
 bif Nat.beq i 233 then .mk (.type "tuple") none (.seq #[]) #[] else
 .mk (.type "tuple") none (.seq #[.str "_law_script" 553, .str "_law_start" 554, .str "_law_days" 555, .str "_law_work" 556, .str "_law_way_here" 557, .str "_law_things_here" 558, .str "_law_number_here" 559, .str "_law_length" 560, .str "_law_found" 561, .str "_law_thing" 562, .str "_law_many" 563]) #[]
def hob29 (i : Nat) (P : Params) : Obj :=
 bif Nat.beq i 236 then .mk (.type "tuple") none (.seq #[]) #[] else
 bif Nat.beq i 238 then .mk (.type "code") none (.fields #[.str "_law_way" 550, .str "_law_way" 551, .str "/claim/cut.py" 552, .int 110 0, .int 6 0, .int 0 0, .int 0 0, .int 3 0, .ref 233, .bool Bool.true, .int 181 0, .ref 234, .none, .ref 235, .ref 236, .ref 237, .int 564 0, .int 110 0, .str "/claim/cut.py" 565]) #[] else
 bif Nat.beq i 239 then .mk (.type "function") (none) (.func (.mk "_law_way" "_law_way" (L2.Xc (htop 26)) (.stmts (L2.Qx (htop 26))) (L2.Qh (htop 26)) (3) ([]) (.none) (.none) (.none) (.str "law_nonebetter_k50_books_looked_at" 485) (none) (.ref 238) (.none) (0))) (#[]) else
 bif Nat.beq i 240 then .mk (.type "tuple") none (.seq #[]) #[] else
 .mk (.type "tuple") none (.seq #[.str "_law_script" 570, .str "_law_days" 571, .str "_law_things_here" 572, .str "_law_found" 573, .str "_law_names" 574, .str "_law_many" 575, .str "_law_k" 576, .str "_law_work" 577, .str "_law_number_here" 578, .str "_law_j" 579, .str "_law_rows" 580, .str "_law_pair" 581]) #[]
def hob30 (i : Nat) (P : Params) : Obj :=
 bif Nat.beq i 243 then .mk (.type "tuple") none (.seq #[]) #[] else
 bif Nat.beq i 245 then .mk (.type "code") none (.fields #[.str "_law_works" 567, .str "_law_works" 568, .str "/claim/cut.py" 569, .int 124 0, .int 3 0, .int 0 0, .int 0 0, .int 3 0, .ref 240, .bool Bool.true, .int 181 0, .ref 241, .none, .ref 242, .ref 243, .ref 244, .int 582 0, .int 124 0, .str "/claim/cut.py" 583]) #[] else
 bif Nat.beq i 246 then .mk (.type "function") (none) (.func (.mk "_law_works" "_law_works" (L2.Xc (htop 27)) (.stmts (L2.Qx (htop 27))) (L2.Qh (htop 27)) (3) ([]) (.none) (.none) (.none) (.str "law_nonebetter_k50_books_looked_at" 485) (none) (.ref 245) (.none) (0))) (#[]) else
 bif Nat.beq i 247 then .mk (.type "tuple") none (.seq #[]) #[] else
 .mk (.type "tuple") none (.seq #[.str "_law_rows" 588, .str "_law_row" 589, .str "_law_number_here" 590, .str "_law_least" 591, .str "_law_k" 592, .str "_law_at" 593]) #[]
def hob31 (i : Nat) (P : Params) : Obj :=
 bif Nat.beq i 250 then .mk (.type "tuple") none (.seq #[]) #[] else
 bif Nat.beq i 252 then .mk (.type "code") none (.fields #[.str "_law_put" 585, .str "_law_put" 586, .str "/claim/cut.py" 587, .int 146 0, .int 3 0, .int 0 0, .int 0 0, .int 3 0, .ref 247, .bool Bool.true, .int 181 0, .ref 248, .none, .ref 249, .ref 250, .ref 251, .int 594 0, .int 146 0, .str "/claim/cut.py" 595]) #[] else
 bif Nat.beq i 253 then .mk (.type "function") (none) (.func (.mk "_law_put" "_law_put" (L2.Xc (htop 28)) (.stmts (L2.Qx (htop 28))) (L2.Qh (htop 28)) (3) ([]) (.none) (.none) (.none) (.str "law_nonebetter_k50_books_looked_at" 485) (none) (.ref 252) (.none) (0))) (#[]) else
 bif Nat.beq i 254 then .mk (.type "tuple") none (.seq #[]) #[] else
 .mk (.type "tuple") none (.seq #[.str "_law_script" 600, .str "_law_days" 601, .str "_law_things_here" 602, .str "_law_rows" 603, .str "_law_mixed_here" 604, .str "_law_k" 605, .str "_law_row" 606]) #[]
def hob32 (i : Nat) (P : Params) : Obj :=
 bif Nat.beq i 257 then .mk (.type "tuple") none (.seq #[]) #[] else
 bif Nat.beq i 259 then .mk (.type "code") none (.fields #[.str "_law_book" 597, .str "_law_book" 598, .str "/claim/cut.py" 599, .int 155 0, .int 1 0, .int 0 0, .int 0 0, .int 3 0, .ref 254, .bool Bool.true, .int 181 0, .ref 255, .none, .ref 256, .ref 257, .ref 258, .int 607 0, .int 155 0, .str "/claim/cut.py" 608]) #[] else
 bif Nat.beq i 260 then .mk (.type "function") (none) (.func (.mk "_law_book" "_law_book" (L2.Xc (htop 29)) (.stmts (L2.Qx (htop 29))) (L2.Qh (htop 29)) (3) ([]) (.none) (.none) (.none) (.str "law_nonebetter_k50_books_looked_at" 485) (none) (.ref 259) (.none) (0))) (#[]) else
 bif Nat.beq i 261 then .mk (.type "tuple") none (.seq #[]) #[] else
 .mk (.type "tuple") none (.seq #[.str "_law_thing" 613, .str "_law_least" 614, .str "_law_greatest" 615]) #[]
def hob33 (i : Nat) (P : Params) : Obj :=
 bif Nat.beq i 264 then .mk (.type "tuple") none (.seq #[]) #[] else
 bif Nat.beq i 266 then .mk (.type "code") none (.fields #[.str "_law_number" 610, .str "_law_number" 611, .str "/claim/cut.py" 612, .int 166 0, .int 3 0, .int 0 0, .int 0 0, .int 3 0, .ref 261, .bool Bool.true, .int 181 0, .ref 262, .none, .ref 263, .ref 264, .ref 265, .int 616 0, .int 166 0, .str "/claim/cut.py" 617]) #[] else
 bif Nat.beq i 267 then .mk (.type "function") (none) (.func (.mk "_law_number" "_law_number" (L2.Xc (htop 30)) (.stmts (L2.Qx (htop 30))) (L2.Qh (htop 30)) (3) ([]) (.none) (.none) (.none) (.str "law_nonebetter_k50_books_looked_at" 485) (none) (.ref 266) (.none) (0))) (#[]) else
 bif Nat.beq i 268 then .mk (.type "tuple") none (.seq #[]) #[] else
 .mk (.type "code") none (.fields #[.str "_law_named" 619, .str "_law_named" 620, .str "/claim/cut.py" 621, .int 168 0, .int 1 0, .int 0 0, .int 0 0, .int 3 0, .ref 268, .bool Bool.true, .int 181 0, .ref 269, .none, .none, .none, .ref 270, .int 622 0, .int 168 0, .str "/claim/cut.py" 623]) #[]
def hob34 (i : Nat) (P : Params) : Obj :=
 bif Nat.beq i 272 then .mk (.type "function") (none) (.func (.mk "_law_named" "_law_named" (L2.Xc (htop 31)) (.stmts (L2.Qx (htop 31))) (L2.Qh (htop 31)) (3) ([]) (.none) (.none) (.none) (.str "law_nonebetter_k50_books_looked_at" 485) (none) (.ref 271) (.none) (0))) (#[]) else
 bif Nat.beq i 273 then .mk (.type "tuple") none (.seq #[]) #[] else
 bif Nat.beq i 276 then .mk (.type "code") none (.fields #[.str "_law_things_of" 625, .str "_law_things_of" 626, .str "/claim/cut.py" 627, .int 172 0, .int 2 0, .int 0 0, .int 0 0, .int 3 0, .ref 273, .bool Bool.true, .int 181 0, .ref 274, .none, .none, .none, .ref 275, .int 628 0, .int 172 0, .str "/claim/cut.py" 629]) #[] else
 bif Nat.beq i 277 then .mk (.type "function") (none) (.func (.mk "_law_things_of" "_law_things_of" (L2.Xc (htop 32)) (.stmts (L2.Qx (htop 32))) (L2.Qh (htop 32)) (3) ([]) (.none) (.none) (.none) (.str "law_nonebetter_k50_books_looked_at" 485) (none) (.ref 276) (.none) (0))) (#[]) else
 .mk (.type "tuple") none (.seq #[]) #[]
def hob35 (i : Nat) (P : Params) : Obj :=
 bif Nat.beq i 281 then .mk (.type "code") none (.fields #[.str "_law_fits_new" 631, .str "_law_fits_new" 632, .str "/claim/cut.py" 633, .int 174 0, .int 3 0, .int 0 0, .int 0 0, .int 3 0, .ref 278, .bool Bool.true, .int 181 0, .ref 279, .none, .none, .none, .ref 280, .int 634 0, .int 174 0, .str "/claim/cut.py" 635]) #[] else
 bif Nat.beq i 282 then .mk (.type "function") (none) (.func (.mk "_law_fits_new" "_law_fits_new" (L2.Xc (htop 33)) (.stmts (L2.Qx (htop 33))) (L2.Qh (htop 33)) (3) ([]) (.none) (.none) (.none) (.str "law_nonebetter_k50_books_looked_at" 485) (none) (.ref 281) (.none) (0))) (#[]) else
 bif Nat.beq i 283 then .mk (.type "tuple") none (.seq #[]) #[] else
 bif Nat.beq i 286 then .mk (.type "code") none (.fields #[.str "_law_fits_old" 637, .str "_law_fits_old" 638, .str "/claim/cut.py" 639, .int 189 0, .int 3 0, .int 0 0, .int 0 0, .int 3 0, .ref 283, .bool Bool.true, .int 181 0, .ref 284, .none, .none, .none, .ref 285, .int 640 0, .int 189 0, .str "/claim/cut.py" 641]) #[] else
 .mk (.type "function") (none) (.func (.mk "_law_fits_old" "_law_fits_old" (L2.Xc (htop 34)) (.stmts (L2.Qx (htop 34))) (L2.Qh (htop 34)) (3) ([]) (.none) (.none) (.none) (.str "law_nonebetter_k50_books_looked_at" 485) (none) (.ref 286) (.none) (0))) (#[])
def hob36 (i : Nat) (P : Params) : Obj :=
 bif Nat.beq i 288 then .mk (.type "tuple") none (.seq #[]) #[] else
 bif Nat.beq i 290 then .mk (.type "tuple") none (.seq #[.str "_law_rows" 646, .str "_law_row" 647]) #[] else
 bif Nat.beq i 291 then .mk (.type "tuple") none (.seq #[]) #[] else
 bif Nat.beq i 293 then .mk (.type "code") none (.fields #[.str "_law_row_fits" 643, .str "_law_row_fits" 644, .str "/claim/cut.py" 645, .int 207 0, .int 2 0, .int 0 0, .int 0 0, .int 3 0, .ref 288, .bool Bool.true, .int 181 0, .ref 289, .none, .ref 290, .ref 291, .ref 292, .int 648 0, .int 207 0, .str "/claim/cut.py" 649]) #[] else
 .mk (.type "function") (none) (.func (.mk "_law_row_fits" "_law_row_fits" (L2.Xc (htop 35)) (.stmts (L2.Qx (htop 35))) (L2.Qh (htop 35)) (3) ([]) (.none) (.none) (.none) (.str "law_nonebetter_k50_books_looked_at" 485) (none) (.ref 293) (.none) (0))) (#[])
def hob37 (i : Nat) (P : Params) : Obj :=
 bif Nat.beq i 295 then .mk (.type "tuple") none (.seq #[]) #[] else
 bif Nat.beq i 297 then .mk (.type "tuple") none (.seq #[.str "_law_rows" 654, .str "_law_k" 655]) #[] else
 bif Nat.beq i 298 then .mk (.type "tuple") none (.seq #[]) #[] else
 bif Nat.beq i 300 then .mk (.type "code") none (.fields #[.str "_law_bad_row" 651, .str "_law_bad_row" 652, .str "/claim/cut.py" 653, .int 215 0, .int 1 0, .int 0 0, .int 0 0, .int 3 0, .ref 295, .bool Bool.true, .int 181 0, .ref 296, .none, .ref 297, .ref 298, .ref 299, .int 656 0, .int 215 0, .str "/claim/cut.py" 657]) #[] else
 .mk (.type "function") (none) (.func (.mk "_law_bad_row" "_law_bad_row" (L2.Xc (htop 36)) (.stmts (L2.Qx (htop 36))) (L2.Qh (htop 36)) (3) ([]) (.none) (.none) (.none) (.str "law_nonebetter_k50_books_looked_at" 485) (none) (.ref 300) (.none) (0))) (#[])
def hob38 (i : Nat) (P : Params) : Obj :=
 bif Nat.beq i 302 then .mk (.type "tuple") none (.seq #[]) #[] else
 bif Nat.beq i 305 then .mk (.type "code") none (.fields #[.str "_law_too_great" 659, .str "_law_too_great" 660, .str "/claim/cut.py" 661, .int 222 0, .int 1 0, .int 0 0, .int 0 0, .int 3 0, .ref 302, .bool Bool.true, .int 181 0, .ref 303, .none, .none, .none, .ref 304, .int 662 0, .int 222 0, .str "/claim/cut.py" 663]) #[] else
 bif Nat.beq i 306 then .mk (.type "function") (none) (.func (.mk "_law_too_great" "_law_too_great" (L2.Xc (htop 37)) (.stmts (L2.Qx (htop 37))) (L2.Qh (htop 37)) (3) ([]) (.none) (.none) (.none) (.str "law_nonebetter_k50_books_looked_at" 485) (none) (.ref 305) (.none) (0))) (#[]) else
 bif Nat.beq i 307 then .mk (.type "tuple") none (.seq #[]) #[] else
 .mk (.type "tuple") none (.seq #[.str "_law_rows" 668, .str "_law_number_here" 669, .str "_law_row" 670, .str "_law_strange" 671]) #[]
def hob39 (i : Nat) (P : Params) : Obj :=
 bif Nat.beq i 310 then .mk (.type "tuple") none (.seq #[]) #[] else
 bif Nat.beq i 312 then .mk (.type "code") none (.fields #[.str "_law_other_word" 665, .str "_law_other_word" 666, .str "/claim/cut.py" 667, .int 233 0, .int 2 0, .int 0 0, .int 0 0, .int 3 0, .ref 307, .bool Bool.true, .int 181 0, .ref 308, .none, .ref 309, .ref 310, .ref 311, .int 672 0, .int 233 0, .str "/claim/cut.py" 673]) #[] else
 bif Nat.beq i 313 then .mk (.type "function") (none) (.func (.mk "_law_other_word" "_law_other_word" (L2.Xc (htop 38)) (.stmts (L2.Qx (htop 38))) (L2.Qh (htop 38)) (3) ([]) (.none) (.none) (.none) (.str "law_nonebetter_k50_books_looked_at" 485) (none) (.ref 312) (.none) (0))) (#[]) else
 bif Nat.beq i 314 then .mk (.type "tuple") none (.seq #[]) #[] else
 .mk (.type "tuple") none (.seq #[.str "_law_rows" 678, .str "_law_number_here" 679, .str "_law_more" 680, .str "_law_at" 681, .str "_law_row" 682, .str "_law_way_here" 683, .str "_law_place" 684, .str "_law_to" 685, .str "_law_found" 686]) #[]
def hob40 (i : Nat) (P : Params) : Obj :=
 bif Nat.beq i 317 then .mk (.type "tuple") none (.seq #[]) #[] else
 bif Nat.beq i 319 then .mk (.type "code") none (.fields #[.str "_law_spoiled" 675, .str "_law_spoiled" 676, .str "/claim/cut.py" 677, .int 240 0, .int 3 0, .int 0 0, .int 0 0, .int 3 0, .ref 314, .bool Bool.true, .int 181 0, .ref 315, .none, .ref 316, .ref 317, .ref 318, .int 687 0, .int 240 0, .str "/claim/cut.py" 688]) #[] else
 bif Nat.beq i 320 then .mk (.type "function") (none) (.func (.mk "_law_spoiled" "_law_spoiled" (L2.Xc (htop 39)) (.stmts (L2.Qx (htop 39))) (L2.Qh (htop 39)) (3) ([]) (.none) (.none) (.none) (.str "law_nonebetter_k50_books_looked_at" 485) (none) (.ref 319) (.none) (0))) (#[]) else
 bif Nat.beq i 321 then .mk (.type "tuple") none (.seq #[]) #[] else
 .mk (.type "tuple") none (.seq #[.str "_law_rows" 693, .str "_law_caught_here" 694, .str "e" 695]) #[]
def hob41 (i : Nat) (P : Params) : Obj :=
 bif Nat.beq i 324 then .mk (.type "tuple") none (.seq #[]) #[] else
 bif Nat.beq i 326 then .mk (.type "code") none (.fields #[.str "_law_caught" 690, .str "_law_caught" 691, .str "/claim/cut.py" 692, .int 264 0, .int 1 0, .int 0 0, .int 0 0, .int 3 0, .ref 321, .bool Bool.true, .int 181 0, .ref 322, .none, .ref 323, .ref 324, .ref 325, .int 696 0, .int 264 0, .str "/claim/cut.py" 697]) #[] else
 bif Nat.beq i 327 then .mk (.type "function") (none) (.func (.mk "_law_caught" "_law_caught" (L2.Xc (htop 40)) (.stmts (L2.Qx (htop 40))) (L2.Qh (htop 40)) (3) ([]) (.none) (.none) (.none) (.str "law_nonebetter_k50_books_looked_at" 485) (none) (.ref 326) (.none) (0))) (#[]) else
 bif Nat.beq i 328 then .mk (.type "tuple") none (.seq #[]) #[] else
 .mk (.type "code") none (.fields #[.str "law" 699, .str "law" 700, .str "/claim/cut.py" 701, .int 271 0, .int 1 0, .int 0 0, .int 0 0, .int 3 0, .ref 328, .bool Bool.true, .int 181 0, .ref 329, .none, .none, .none, .ref 330, .int 702 0, .int 271 0, .str "/claim/cut.py" 703]) #[]
def hob42 (i : Nat) (P : Params) : Obj :=
 .mk (.type "function") (none) (.func (.mk "law" "law" (L2.Xc (htop 41)) (.stmts (L2.Qx (htop 41))) (L2.Qh (htop 41)) (3) ([]) (.none) (.none) (.none) (.str "law_nonebetter_k50_books_looked_at" 485) (none) (.ref 331) (.none) (0))) (#[])
def hob (i : Nat) (P : Params) : Obj := (bif Nat.ble i 170 then (bif Nat.ble i 108 then (bif Nat.ble i 71 then (bif Nat.ble i 36 then (bif Nat.ble i 23 then hob0 i P else hob1 i P) else (bif Nat.ble i 49 then hob2 i P else (bif Nat.ble i 64 then hob3 i P else hob4 i P))) else (bif Nat.ble i 92 then (bif Nat.ble i 84 then hob5 i P else hob6 i P) else (bif Nat.ble i 98 then hob7 i P else (bif Nat.ble i 103 then hob8 i P else hob9 i P)))) else (bif Nat.ble i 133 then (bif Nat.ble i 118 then (bif Nat.ble i 113 then hob10 i P else hob11 i P) else (bif Nat.ble i 123 then hob12 i P else (bif Nat.ble i 128 then hob13 i P else hob14 i P))) else (bif Nat.ble i 148 then (bif Nat.ble i 138 then hob15 i P else (bif Nat.ble i 143 then hob16 i P else hob17 i P)) else (bif Nat.ble i 155 then hob18 i P else (bif Nat.ble i 163 then hob19 i P else hob20 i P))))) else (bif Nat.ble i 256 then (bif Nat.ble i 214 then (bif Nat.ble i 186 then (bif Nat.ble i 178 then hob21 i P else hob22 i P) else (bif Nat.ble i 200 then hob23 i P else (bif Nat.ble i 207 then hob24 i P else hob25 i P))) else (bif Nat.ble i 235 then (bif Nat.ble i 221 then hob26 i P else (bif Nat.ble i 228 then hob27 i P else hob28 i P)) else (bif Nat.ble i 242 then hob29 i P else (bif Nat.ble i 249 then hob30 i P else hob31 i P)))) else (bif Nat.ble i 294 then (bif Nat.ble i 271 then (bif Nat.ble i 263 then hob32 i P else hob33 i P) else (bif Nat.ble i 278 then hob34 i P else (bif Nat.ble i 287 then hob35 i P else hob36 i P))) else (bif Nat.ble i 316 then (bif Nat.ble i 301 then hob37 i P else (bif Nat.ble i 309 then hob38 i P else hob39 i P)) else (bif Nat.ble i 323 then hob40 i P else (bif Nat.ble i 331 then hob41 i P else hob42 i P))))))
def heapK : Params → W.Frag := fun P => (nat_lit 2, hob (nat_lit 2) P) :: (nat_lit 3, hob (nat_lit 3) P) :: (nat_lit 15, hob (nat_lit 15) P) :: (nat_lit 22, hob (nat_lit 22) P) :: (nat_lit 23, hob (nat_lit 23) P) :: (nat_lit 24, hob (nat_lit 24) P) :: (nat_lit 25, hob (nat_lit 25) P) :: (nat_lit 28, hob (nat_lit 28) P) :: (nat_lit 35, hob (nat_lit 35) P) :: (nat_lit 36, hob (nat_lit 36) P) :: (nat_lit 37, hob (nat_lit 37) P) :: (nat_lit 40, hob (nat_lit 40) P) :: (nat_lit 47, hob (nat_lit 47) P) :: (nat_lit 48, hob (nat_lit 48) P) :: (nat_lit 49, hob (nat_lit 49) P) :: (nat_lit 52, hob (nat_lit 52) P) :: (nat_lit 59, hob (nat_lit 59) P) :: (nat_lit 61, hob (nat_lit 61) P) :: (nat_lit 62, hob (nat_lit 62) P) :: (nat_lit 64, hob (nat_lit 64) P) :: (nat_lit 65, hob (nat_lit 65) P) :: (nat_lit 66, hob (nat_lit 66) P) :: (nat_lit 67, hob (nat_lit 67) P) :: (nat_lit 68, hob (nat_lit 68) P) :: (nat_lit 71, hob (nat_lit 71) P) :: (nat_lit 78, hob (nat_lit 78) P) :: (nat_lit 80, hob (nat_lit 80) P) :: (nat_lit 81, hob (nat_lit 81) P) :: (nat_lit 83, hob (nat_lit 83) P) :: (nat_lit 84, hob (nat_lit 84) P) :: (nat_lit 85, hob (nat_lit 85) P) :: (nat_lit 86, hob (nat_lit 86) P) :: (nat_lit 87, hob (nat_lit 87) P) :: (nat_lit 90, hob (nat_lit 90) P) :: (nat_lit 92, hob (nat_lit 92) P) :: (nat_lit 93, hob (nat_lit 93) P) :: (nat_lit 95, hob (nat_lit 95) P) :: (nat_lit 96, hob (nat_lit 96) P) :: (nat_lit 97, hob (nat_lit 97) P) :: (nat_lit 98, hob (nat_lit 98) P) :: (nat_lit 99, hob (nat_lit 99) P) :: (nat_lit 100, hob (nat_lit 100) P) :: (nat_lit 101, hob (nat_lit 101) P) :: (nat_lit 102, hob (nat_lit 102) P) :: (nat_lit 103, hob (nat_lit 103) P) :: (nat_lit 104, hob (nat_lit 104) P) :: (nat_lit 105, hob (nat_lit 105) P) :: (nat_lit 106, hob (nat_lit 106) P) :: (nat_lit 107, hob (nat_lit 107) P) :: (nat_lit 108, hob (nat_lit 108) P) :: (nat_lit 109, hob (nat_lit 109) P) :: (nat_lit 110, hob (nat_lit 110) P) :: (nat_lit 111, hob (nat_lit 111) P) :: (nat_lit 112, hob (nat_lit 112) P) :: (nat_lit 113, hob (nat_lit 113) P) :: (nat_lit 114, hob (nat_lit 114) P) :: (nat_lit 115, hob (nat_lit 115) P) :: (nat_lit 116, hob (nat_lit 116) P) :: (nat_lit 117, hob (nat_lit 117) P) :: (nat_lit 118, hob (nat_lit 118) P) :: (nat_lit 119, hob (nat_lit 119) P) :: (nat_lit 120, hob (nat_lit 120) P) :: (nat_lit 121, hob (nat_lit 121) P) :: (nat_lit 122, hob (nat_lit 122) P) :: (nat_lit 123, hob (nat_lit 123) P) :: (nat_lit 124, hob (nat_lit 124) P) :: (nat_lit 125, hob (nat_lit 125) P) :: (nat_lit 126, hob (nat_lit 126) P) :: (nat_lit 127, hob (nat_lit 127) P) :: (nat_lit 128, hob (nat_lit 128) P) :: (nat_lit 129, hob (nat_lit 129) P) :: (nat_lit 130, hob (nat_lit 130) P) :: (nat_lit 131, hob (nat_lit 131) P) :: (nat_lit 132, hob (nat_lit 132) P) :: (nat_lit 133, hob (nat_lit 133) P) :: (nat_lit 134, hob (nat_lit 134) P) :: (nat_lit 135, hob (nat_lit 135) P) :: (nat_lit 136, hob (nat_lit 136) P) :: (nat_lit 137, hob (nat_lit 137) P) :: (nat_lit 138, hob (nat_lit 138) P) :: (nat_lit 139, hob (nat_lit 139) P) :: (nat_lit 140, hob (nat_lit 140) P) :: (nat_lit 141, hob (nat_lit 141) P) :: (nat_lit 142, hob (nat_lit 142) P) :: (nat_lit 143, hob (nat_lit 143) P) :: (nat_lit 144, hob (nat_lit 144) P) :: (nat_lit 145, hob (nat_lit 145) P) :: (nat_lit 146, hob (nat_lit 146) P) :: (nat_lit 147, hob (nat_lit 147) P) :: (nat_lit 148, hob (nat_lit 148) P) :: (nat_lit 149, hob (nat_lit 149) P) :: (nat_lit 150, hob (nat_lit 150) P) :: (nat_lit 153, hob (nat_lit 153) P) :: (nat_lit 154, hob (nat_lit 154) P) :: (nat_lit 155, hob (nat_lit 155) P) :: (nat_lit 158, hob (nat_lit 158) P) :: (nat_lit 159, hob (nat_lit 159) P) :: (nat_lit 160, hob (nat_lit 160) P) :: (nat_lit 162, hob (nat_lit 162) P) :: (nat_lit 163, hob (nat_lit 163) P) :: (nat_lit 165, hob (nat_lit 165) P) :: (nat_lit 166, hob (nat_lit 166) P) :: (nat_lit 167, hob (nat_lit 167) P) :: (nat_lit 169, hob (nat_lit 169) P) :: (nat_lit 170, hob (nat_lit 170) P) :: (nat_lit 172, hob (nat_lit 172) P) :: (nat_lit 173, hob (nat_lit 173) P) :: (nat_lit 174, hob (nat_lit 174) P) :: (nat_lit 177, hob (nat_lit 177) P) :: (nat_lit 178, hob (nat_lit 178) P) :: (nat_lit 179, hob (nat_lit 179) P) :: (nat_lit 182, hob (nat_lit 182) P) :: (nat_lit 183, hob (nat_lit 183) P) :: (nat_lit 184, hob (nat_lit 184) P) :: (nat_lit 186, hob (nat_lit 186) P) :: (nat_lit 187, hob (nat_lit 187) P) :: (nat_lit 189, hob (nat_lit 189) P) :: (nat_lit 190, hob (nat_lit 190) P) :: (nat_lit 198, hob (nat_lit 198) P) :: (nat_lit 200, hob (nat_lit 200) P) :: (nat_lit 201, hob (nat_lit 201) P) :: (nat_lit 203, hob (nat_lit 203) P) :: (nat_lit 204, hob (nat_lit 204) P) :: (nat_lit 205, hob (nat_lit 205) P) :: (nat_lit 207, hob (nat_lit 207) P) :: (nat_lit 208, hob (nat_lit 208) P) :: (nat_lit 210, hob (nat_lit 210) P) :: (nat_lit 211, hob (nat_lit 211) P) :: (nat_lit 212, hob (nat_lit 212) P) :: (nat_lit 214, hob (nat_lit 214) P) :: (nat_lit 215, hob (nat_lit 215) P) :: (nat_lit 217, hob (nat_lit 217) P) :: (nat_lit 218, hob (nat_lit 218) P) :: (nat_lit 219, hob (nat_lit 219) P) :: (nat_lit 221, hob (nat_lit 221) P) :: (nat_lit 222, hob (nat_lit 222) P) :: (nat_lit 224, hob (nat_lit 224) P) :: (nat_lit 225, hob (nat_lit 225) P) :: (nat_lit 226, hob (nat_lit 226) P) :: (nat_lit 228, hob (nat_lit 228) P) :: (nat_lit 229, hob (nat_lit 229) P) :: (nat_lit 231, hob (nat_lit 231) P) :: (nat_lit 232, hob (nat_lit 232) P) :: (nat_lit 233, hob (nat_lit 233) P) :: (nat_lit 235, hob (nat_lit 235) P) :: (nat_lit 236, hob (nat_lit 236) P) :: (nat_lit 238, hob (nat_lit 238) P) :: (nat_lit 239, hob (nat_lit 239) P) :: (nat_lit 240, hob (nat_lit 240) P) :: (nat_lit 242, hob (nat_lit 242) P) :: (nat_lit 243, hob (nat_lit 243) P) :: (nat_lit 245, hob (nat_lit 245) P) :: (nat_lit 246, hob (nat_lit 246) P) :: (nat_lit 247, hob (nat_lit 247) P) :: (nat_lit 249, hob (nat_lit 249) P) :: (nat_lit 250, hob (nat_lit 250) P) :: (nat_lit 252, hob (nat_lit 252) P) :: (nat_lit 253, hob (nat_lit 253) P) :: (nat_lit 254, hob (nat_lit 254) P) :: (nat_lit 256, hob (nat_lit 256) P) :: (nat_lit 257, hob (nat_lit 257) P) :: (nat_lit 259, hob (nat_lit 259) P) :: (nat_lit 260, hob (nat_lit 260) P) :: (nat_lit 261, hob (nat_lit 261) P) :: (nat_lit 263, hob (nat_lit 263) P) :: (nat_lit 264, hob (nat_lit 264) P) :: (nat_lit 266, hob (nat_lit 266) P) :: (nat_lit 267, hob (nat_lit 267) P) :: (nat_lit 268, hob (nat_lit 268) P) :: (nat_lit 271, hob (nat_lit 271) P) :: (nat_lit 272, hob (nat_lit 272) P) :: (nat_lit 273, hob (nat_lit 273) P) :: (nat_lit 276, hob (nat_lit 276) P) :: (nat_lit 277, hob (nat_lit 277) P) :: (nat_lit 278, hob (nat_lit 278) P) :: (nat_lit 281, hob (nat_lit 281) P) :: (nat_lit 282, hob (nat_lit 282) P) :: (nat_lit 283, hob (nat_lit 283) P) :: (nat_lit 286, hob (nat_lit 286) P) :: (nat_lit 287, hob (nat_lit 287) P) :: (nat_lit 288, hob (nat_lit 288) P) :: (nat_lit 290, hob (nat_lit 290) P) :: (nat_lit 291, hob (nat_lit 291) P) :: (nat_lit 293, hob (nat_lit 293) P) :: (nat_lit 294, hob (nat_lit 294) P) :: (nat_lit 295, hob (nat_lit 295) P) :: (nat_lit 297, hob (nat_lit 297) P) :: (nat_lit 298, hob (nat_lit 298) P) :: (nat_lit 300, hob (nat_lit 300) P) :: (nat_lit 301, hob (nat_lit 301) P) :: (nat_lit 302, hob (nat_lit 302) P) :: (nat_lit 305, hob (nat_lit 305) P) :: (nat_lit 306, hob (nat_lit 306) P) :: (nat_lit 307, hob (nat_lit 307) P) :: (nat_lit 309, hob (nat_lit 309) P) :: (nat_lit 310, hob (nat_lit 310) P) :: (nat_lit 312, hob (nat_lit 312) P) :: (nat_lit 313, hob (nat_lit 313) P) :: (nat_lit 314, hob (nat_lit 314) P) :: (nat_lit 316, hob (nat_lit 316) P) :: (nat_lit 317, hob (nat_lit 317) P) :: (nat_lit 319, hob (nat_lit 319) P) :: (nat_lit 320, hob (nat_lit 320) P) :: (nat_lit 321, hob (nat_lit 321) P) :: (nat_lit 323, hob (nat_lit 323) P) :: (nat_lit 324, hob (nat_lit 324) P) :: (nat_lit 326, hob (nat_lit 326) P) :: (nat_lit 327, hob (nat_lit 327) P) :: (nat_lit 328, hob (nat_lit 328) P) :: (nat_lit 331, hob (nat_lit 331) P) :: (nat_lit 332, hob (nat_lit 332) P) :: []
theorem all_ok {P : Program} {w : World} {K : Fg} {mg : Str → Option Value} {base : Heap} (M : Mg mg) {C D fI CN CP CS aN aB aD : Addr} {fdI : FuncData} {fo : Obj} {fN fB fD : Str → Option Value} (EI : ErrI K mg "NoBook" C D fI "row") (FI : Fun K "__init__" "NoBook.__init__" sNBI fI fdI) (bI : Binds K fdI ["self", "row"] []) (lkI : K.lookup fI = some fo) (fcI : fo.cls = .type "function") (kcI : PySem.W.keepIn K (.ref C) = true) (EK : ExK K mg C D CN CP CS) (TN : TvTab w K mg "NAMES" 1 namesT aN fN) (TB : TvTab w K mg "BOUNDS" 3 boundsT aB fB) (TD : TvTab w K mg "NEEDS" 3 needsT aD fD) (F1 : Fn K mg "_law_block" Qev) (F2 : Fn K mg "_law_mixed" Qew) (F3 : Fn K mg "_law_name" Qlz) (F4 : Fn K mg "_law_things" Qay) (F5 : Fn K mg "_law_way" sWay) (F6 : Fn K mg "_law_put" sPut) (F7 : Fn K mg "_law_works" Qez) (F8 : Fn K mg "_law_book" Qmh) (F9 : Fn K mg "is_whole" sIWv) (F10 : Fn K mg "is_name" sIN) (F11 : Fn K mg "said_by" Qml) (F12 : Fn K mg "is_formed" sIFv) (F13 : Fn K mg "is_within" sIWi) (F14 : Fn K mg "needed_by" sNee) (F15 : Fn K mg "is_row_of_book" sIRw) (F16 : Fn K mg "looked" sLov) (F17 : Fn K mg "_law_whole" sWhV) (F18 : Fn K mg "_law_number" sLNu) (F19 : Fn K mg "_law_named" sLNm) (F20 : Fn K mg "_law_things_of" sLTo) (F21 : Fn K mg "_law_fits_new" sLFn) (F22 : Fn K mg "_law_fits_old" sLFo) (F23 : Fn K mg "_law_row_fits" sLRf) (F24 : Fn K mg "_law_bad_row" sLBa) (F25 : Fn K mg "_law_too_great" sLGr) (F26 : Fn K mg "_law_other_word" sLOw) (F27 : Fn K mg "_law_spoiled" sLSp) (F28 : Fn K mg "_law_caught" sLCa) {f : Addr} {fd : FuncData} (F29 : Fun K "law" "law" sLaw f fd) : FnOk P w K mg base CX0 7 f fd ["_law_script"] (Qlm K) := by
 have h_cl_block := Qoz (P := P) (w := w) (base := base) F1 M
 have h_cl_mixed := Qpa (P := P) (w := w) (base := base) F2 M h_cl_block
 have h_cl_name := okName (P := P) (w := w) (base := base) F3 M h_cl_mixed
 have h_cl_things := Qma (P := P) (w := w) (base := base) F4 M h_cl_mixed h_cl_name
 have h_cl_way := okWay (P := P) (w := w) (base := base) F5 M h_cl_mixed
 have h_cl_put := okPut (P := P) (w := w) (base := base) F6 M
 have h_cl_works := Qph (P := P) (w := w) (base := base) F7 M h_cl_mixed h_cl_name h_cl_way
 have h_cl_book := okBook (P := P) (w := w) (base := base) F8 M h_cl_mixed h_cl_things h_cl_works h_cl_put
 have h_c_is_whole := okIWv (P := P) (w := w) (base := base) F9 M
 have h_c_is_name := okINv (P := P) (w := w) (base := base) F10 M
 have h_c_said_by := okSaid (P := P) (w := w) (base := base) TN F11 M
 have h_c_is_formed := okIFv (P := P) (w := w) (base := base) TN TB F12 M h_c_is_name h_c_is_whole
 have h_c_is_within := okIWi (P := P) (w := w) (base := base) TN TB F13 M
 have h_c_needed_by := okNee (P := P) (w := w) (base := base) TD F14 M
 have h_c_is_row_of_book := okIRw (P := P) (w := w) (base := base) F15 M h_c_is_formed h_c_is_within h_c_said_by h_c_needed_by
 have h_c_looked := okLov (P := P) (w := w) (base := base) (⟨EI, okNBI FI EI, bI, lkI, fcI, kcI⟩ : NBk P w K mg base C D fI fdI fo) F16 M h_c_is_row_of_book h_c_said_by
 have h_cl_whole := okWhV (P := P) (w := w) (base := base) F17 M
 have h_cl_number := okLNu (P := P) (w := w) (base := base) F18 M h_cl_whole
 have h_cl_named := okLNm (P := P) (w := w) (base := base) F19 M
 have h_cl_things_of := okLTo (P := P) (w := w) (base := base) F20 M
 have h_cl_fits_new := okLFn (P := P) (w := w) (base := base) F21 M h_cl_number h_cl_named h_cl_things_of
 have h_cl_fits_old := okLFo (P := P) (w := w) (base := base) F22 M h_cl_number h_cl_things_of
 have h_cl_row_fits := okLRf (P := P) (w := w) (base := base) F23 M h_cl_number h_cl_fits_new h_cl_fits_old
 have h_cl_bad_row := okLBa (P := P) (w := w) (base := base) F24 M h_cl_row_fits
 have h_cl_too_great := okLGr (P := P) (w := w) (base := base) F25 M
 have h_cl_other_word := okLOw (P := P) (w := w) (base := base) F26 M
 have h_cl_spoiled := okLSp (P := P) (w := w) (base := base) F27 M h_cl_other_word
 have h_cl_caught := okLCa (P := P) (w := w) (base := base) EK F28 M h_c_looked
 have h_c_law := okLaw (P := P) (w := w) (base := base) (⟨EI, okNBI FI EI, bI, lkI, fcI, kcI⟩ : NBk P w K mg base C D fI fdI fo) EK F29 M h_cl_book h_cl_mixed h_cl_whole h_cl_spoiled h_cl_bad_row h_cl_too_great h_cl_caught h_c_looked.calm
 exact h_c_law
theorem walk {l : PySem.W.OpenLaw} {q : Program} {loose : List Str} {XP : (Str → Option Value) → Heap → Prop} {YP : World → Heap → Prop} {d : DefRec} {K : Params → Fg} (hn : l.most = some 63) (hdf : d.params.defaults = [])
  (hY : ∀ (w : World) (h : Heap), YP w h → (K w.params).In h)
  (F : ∀ (w : World) (mg : Str → Option Value) (fa : Addr) (h : Heap), (K w.params).In h → h.Ns mainGlobals mg → mg d.name = some (.ref fa) →
   ∃ fd : FuncData, (∀ (s : Shared) (u : Value), BindsTo s fd ⟨[u], []⟩ [("_law_script", u)]) ∧ ∀ base : Heap, (K w.params).In base → base.Ns mainGlobals mg → FnOk l.prog w (K w.params) mg base CX0 7 fa fd ["_law_script"] (Qlm (K w.params))) :
  PySem.W.WalkO q loose XP YP l.row.toRowW d [] (fun f vs => PySem.call f vs) :=
 L2.Qhx (n := 63) (k := 7) (x := "_law_script") (CX := fun _ => CX0) (sp := fun w => Qlm (K w.params)) hn (by decide) hdf ⟨rfl, by decide, by decide⟩ hY F (fun _ _ a ns hl hb hS => ⟨a, ns, rfl, hS, hl, fun _ => rfl⟩) fun _ _ _ _ _ z => z
end Nb
def Nb.pwv : PySem.Program := { PySem.Challenge.pw_nonebetter_k50_books_looked_at with main := { PySem.Challenge.pw_nonebetter_k50_books_looked_at.main with body := [Nb.htop 0, Nb.htop 1, Nb.htop 2, Nb.htop 3, Nb.htop 4, Nb.htop 5, Nb.htop 6, Nb.htop 7, Nb.htop 8, Nb.htop 9, Nb.htop 10, Nb.htop 11, Nb.htop 12, Nb.htop 13, Nb.htop 14, Nb.htop 15, Nb.htop 16, Nb.htop 17, Nb.htop 18, Nb.htop 19, Nb.htop 20, Nb.htop 21, Nb.htop 22, Nb.htop 23, Nb.htop 24, Nb.htop 25, Nb.htop 26, Nb.htop 27, Nb.htop 28, Nb.htop 29, Nb.htop 30, Nb.htop 31, Nb.htop 32, Nb.htop 33, Nb.htop 34, Nb.htop 35, Nb.htop 36, Nb.htop 37, Nb.htop 38, Nb.htop 39, Nb.htop 40, Nb.htop 41] } }
def PySem.W.Fast.tw1653918685017820470 : Nat → PySem.Params → PySem.Obj := Nb.hob
theorem PySem.W.Fast.te1653918685017820470 : Nb.hob = PySem.W.Fast.tw1653918685017820470 := rfl
def PySem.W.Fast.tw4626057903450055603 : PySem.Program := PySem.Challenge.pw_nonebetter_k50_books_looked_at
theorem PySem.W.Fast.te4626057903450055603 : PySem.Challenge.pw_nonebetter_k50_books_looked_at = PySem.W.Fast.tw4626057903450055603 := rfl
def PySem.W.Fast.tw9401860820342270615 : PySem.Program := Nb.pwv
theorem PySem.W.Fast.te9401860820342270615 : Nb.pwv = PySem.W.Fast.tw9401860820342270615 := rfl
def PySem.W.Fast.tw11570947652754012800 : Nat → PySem.Stmt := Nb.htop
theorem PySem.W.Fast.te11570947652754012800 : Nb.htop = PySem.W.Fast.tw11570947652754012800 := rfl
namespace PySem.W.Fast
def tw3452584819081411724 := 0
def tw9111151561679054147 := 0
def tw719445033606968842 := 0
def tw10248661574161163093 := 0
def tw7706869602641533074 := 0
def tw15019862120358943072 := 0
def tw11406914537568138487 := 0
def tw11111417250662459945 := 0
def tw1295618700270073536 := 0
def tw8618717982773569981 := 0
def tw11259896827996078188 := 0
def tw12936834954679880368 := 0
def tw11511401167352184146 := 0
def tw18302997935848195061 := 0
def tw3518214040343371984 := 0
def tw759887842994185270 := 0
def tw14481878617353721239 := 0
def tw15294213372254309389 := 0
def tw2499465439413360343 := 0
def tw17242126373779478149 := 0
def tw12243220209986966191 := 0
def tw13034170373069654778 := 0
def tw18398337412678688493 := 0
def tw4081818047465193163 := 0
def tw9606461040737572665 := 0
def tw12825572110312022107 := 0
def tw11331307808294681750 := 0
def tw2373824751814651114 := 0
def tw6509552967179105211 := 0
def tw16716902070745602655 := 0
def tw14442886058558575343 := 0
def tw9776718313126950103 := 0
def tw14772844221290202752 := 0
def tw14251444722943776835 := 0
def tw4536318013176026679 := 0
def tw13550383804385514577 := 0
def tw15301944151931930734 := 0
def tw15114468813725086607 := 0
def tw14372808655705941739 := 0
def tw10136012680741689939 := 0
def tw13215980408813551323 := 0
def tw10487717050082093135 := 0
def tw8388630526572912593 := 0
def tw13028041481633263480 := 0
def tw5431215633051607842 := 0
def tw1941552157972765435 := 0
def tw1508026971034763439 := 0
def tw1426884602248466569 := 0
def tw8729902716258119852 := 0
def tw6576931656311035172 := 0
def tw17930290239730327754 := 0
def tw10679981420535583953 := 0
def tw11261406815048977611 := 0
def tw8524564759740166100 := 0
def tw2175370221600096551 := 0
def tw7931975155490057307 := 0
def tw17118600880963289362 := 0
def tw7598502284869933685 := 0
def tw8631752660902737841 := 0
def tw8681366403304471128 := 0
def tw12876530987008923248 := 0
def tw18345555739699569391 := 0
def tw17994460131921797568 := 0
def tw302268156487144047 := 0
def tw8611314384964562411 := 0
def tw18144317384740138096 := 0
def tw15917618502989889140 := 0
def tw12152602868274728522 := 0
def tw15048820980661428997 := 0
def tw18087820067760431170 := 0
def tw6024784235678254436 := 0
def tw10360563534468941308 := 0
def tw17455119378172197806 := 0
def tw8200685033563558285 := 0
def tw7872392223924529206 := 0
def tw14366203370835203625 := 0
def tw4115083576112814643 := 0
def tw14673538336995881803 := 0
def tw10686018232863822349 := 0
def tw10980010792851759509 := 0
def tw17086367028193759094 := 0
def tw10949620955769700484 := 0
def tw17071652473886612896 := 0
def tw9482009214126853235 := 0
def tw10659527320852734562 := 0
def tw9732602802663615900 := 0
def tw3920829474793253198 := 0
def tw1462108038519049449 := 0
def tw565198285879511512 := 0
def tw12786728215416955460 := 0
def tw12197985932203298532 := 0
def tw6048680238683073769 := 0
def tw10961686919562686147 := 0
def tw1409417094330290929 := 0
def tw17685524889764585760 := 0
def tw12875101588626492202 := 0
def tw9555401847590567772 := 0
def tw1585326779853396913 := 0
def tw16841438896643632071 := 0
def tw8141372601258723074 := 0
def tw8706100522392516548 := 0
end PySem.W.Fast
open PySem PySem.W PyProof.Rows
set_option maxRecDepth 100000 in
set_option maxHeartbeats 0 in
theorem PySem.Challenge.cw_nonebetter_k50_books_looked_at_holds : PySem.Challenge.rw_nonebetter_k50_books_looked_at.Holds := by
 w_on; o_law; show PySem.W.OpenRow.Holds { PySem.Challenge.rw_nonebetter_k50_books_looked_at.row with prog := Nb.pwv }; o_head (PySem.W.kHook Nb.heapK (nat_lit 2 :: nat_lit 3 :: nat_lit 15 :: nat_lit 22 :: nat_lit 23 :: nat_lit 24 :: nat_lit 25 :: nat_lit 28 :: nat_lit 35 :: nat_lit 36 :: nat_lit 37 :: nat_lit 40 :: nat_lit 47 :: nat_lit 48 :: nat_lit 49 :: nat_lit 52 :: nat_lit 59 :: nat_lit 61 :: nat_lit 62 :: nat_lit 64 :: nat_lit 65 :: nat_lit 66 :: nat_lit 67 :: nat_lit 68 :: nat_lit 71 :: nat_lit 78 :: nat_lit 80 :: nat_lit 81 :: nat_lit 83 :: nat_lit 84 :: nat_lit 85 :: nat_lit 86 :: nat_lit 87 :: nat_lit 90 :: nat_lit 92 :: nat_lit 93 :: nat_lit 95 :: nat_lit 96 :: nat_lit 97 :: nat_lit 98 :: nat_lit 99 :: nat_lit 100 :: nat_lit 101 :: nat_lit 102 :: nat_lit 103 :: nat_lit 104 :: nat_lit 105 :: nat_lit 106 :: nat_lit 107 :: nat_lit 108 :: nat_lit 109 :: nat_lit 110 :: nat_lit 111 :: nat_lit 112 :: nat_lit 113 :: nat_lit 114 :: nat_lit 115 :: nat_lit 116 :: nat_lit 117 :: nat_lit 118 :: nat_lit 119 :: nat_lit 120 :: nat_lit 121 :: nat_lit 122 :: nat_lit 123 :: nat_lit 124 :: nat_lit 125 :: nat_lit 126 :: nat_lit 127 :: nat_lit 128 :: nat_lit 129 :: nat_lit 130 :: nat_lit 131 :: nat_lit 132 :: nat_lit 133 :: nat_lit 134 :: nat_lit 135 :: nat_lit 136 :: nat_lit 137 :: nat_lit 138 :: nat_lit 139 :: nat_lit 140 :: nat_lit 141 :: nat_lit 142 :: nat_lit 143 :: nat_lit 144 :: nat_lit 145 :: nat_lit 146 :: nat_lit 147 :: nat_lit 148 :: nat_lit 149 :: nat_lit 150 :: nat_lit 153 :: nat_lit 154 :: nat_lit 155 :: nat_lit 158 :: nat_lit 159 :: nat_lit 160 :: nat_lit 162 :: nat_lit 163 :: nat_lit 165 :: nat_lit 166 :: nat_lit 167 :: nat_lit 169 :: nat_lit 170 :: nat_lit 172 :: nat_lit 173 :: nat_lit 174 :: nat_lit 177 :: nat_lit 178 :: nat_lit 179 :: nat_lit 182 :: nat_lit 183 :: nat_lit 184 :: nat_lit 186 :: nat_lit 187 :: nat_lit 189 :: nat_lit 190 :: nat_lit 198 :: nat_lit 200 :: nat_lit 201 :: nat_lit 203 :: nat_lit 204 :: nat_lit 205 :: nat_lit 207 :: nat_lit 208 :: nat_lit 210 :: nat_lit 211 :: nat_lit 212 :: nat_lit 214 :: nat_lit 215 :: nat_lit 217 :: nat_lit 218 :: nat_lit 219 :: nat_lit 221 :: nat_lit 222 :: nat_lit 224 :: nat_lit 225 :: nat_lit 226 :: nat_lit 228 :: nat_lit 229 :: nat_lit 231 :: nat_lit 232 :: nat_lit 233 :: nat_lit 235 :: nat_lit 236 :: nat_lit 238 :: nat_lit 239 :: nat_lit 240 :: nat_lit 242 :: nat_lit 243 :: nat_lit 245 :: nat_lit 246 :: nat_lit 247 :: nat_lit 249 :: nat_lit 250 :: nat_lit 252 :: nat_lit 253 :: nat_lit 254 :: nat_lit 256 :: nat_lit 257 :: nat_lit 259 :: nat_lit 260 :: nat_lit 261 :: nat_lit 263 :: nat_lit 264 :: nat_lit 266 :: nat_lit 267 :: nat_lit 268 :: nat_lit 271 :: nat_lit 272 :: nat_lit 273 :: nat_lit 276 :: nat_lit 277 :: nat_lit 278 :: nat_lit 281 :: nat_lit 282 :: nat_lit 283 :: nat_lit 286 :: nat_lit 287 :: nat_lit 288 :: nat_lit 290 :: nat_lit 291 :: nat_lit 293 :: nat_lit 294 :: nat_lit 295 :: nat_lit 297 :: nat_lit 298 :: nat_lit 300 :: nat_lit 301 :: nat_lit 302 :: nat_lit 305 :: nat_lit 306 :: nat_lit 307 :: nat_lit 309 :: nat_lit 310 :: nat_lit 312 :: nat_lit 313 :: nat_lit 314 :: nat_lit 316 :: nat_lit 317 :: nat_lit 319 :: nat_lit 320 :: nat_lit 321 :: nat_lit 323 :: nat_lit 324 :: nat_lit 326 :: nat_lit 327 :: nat_lit 328 :: nat_lit 331 :: nat_lit 332 :: []) (fun _ => by kernel_rfl)); (case hw => w_witness2)
 k_fill
 refine Nb.walk (l := PySem.Challenge.rw_nonebetter_k50_books_looked_at) rfl rfl (fun w h Y => PySem.W.kIn_of Y) ?F
 case F =>
  intro w mg fa h KX G hmg
  have F1 : L2.Fn (L2.KOf KX) mg "_law_block" Nb.Qev := by
   dsimp only [L2.KOf]
   refine' L2.Yq KX G ?a ?l ?c ?k
   (case a => k_is); (case l => k_is); (case c => k_is); (case k => k_is)
  have F2 : L2.Fn (L2.KOf KX) mg "_law_mixed" Nb.Qew := by
   dsimp only [L2.KOf]
   refine' L2.Yq KX G ?a ?l ?c ?k
   (case a => k_is); (case l => k_is); (case c => k_is); (case k => k_is)
  have F3 : L2.Fn (L2.KOf KX) mg "_law_name" Nb.Qlz := by
   dsimp only [L2.KOf]
   refine' L2.Yq KX G ?a ?l ?c ?k
   (case a => k_is); (case l => k_is); (case c => k_is); (case k => k_is)
  have F4 : L2.Fn (L2.KOf KX) mg "_law_things" Nb.Qay := by
   dsimp only [L2.KOf]
   refine' L2.Yq KX G ?a ?l ?c ?k
   (case a => k_is); (case l => k_is); (case c => k_is); (case k => k_is)
  have F5 : L2.Fn (L2.KOf KX) mg "_law_way" Nb.sWay := by
   dsimp only [L2.KOf]
   refine' L2.Yq KX G ?a ?l ?c ?k
   (case a => k_is); (case l => k_is); (case c => k_is); (case k => k_is)
  have F6 : L2.Fn (L2.KOf KX) mg "_law_put" Nb.sPut := by
   dsimp only [L2.KOf]
   refine' L2.Yq KX G ?a ?l ?c ?k
   (case a => k_is); (case l => k_is); (case c => k_is); (case k => k_is)
  have F7 : L2.Fn (L2.KOf KX) mg "_law_works" Nb.Qez := by
   dsimp only [L2.KOf]
   refine' L2.Yq KX G ?a ?l ?c ?k
   (case a => k_is); (case l => k_is); (case c => k_is); (case k => k_is)
  have F8 : L2.Fn (L2.KOf KX) mg "_law_book" Nb.Qmh := by
   dsimp only [L2.KOf]
   refine' L2.Yq KX G ?a ?l ?c ?k
   (case a => k_is); (case l => k_is); (case c => k_is); (case k => k_is)
  have F9 : L2.Fn (L2.KOf KX) mg "is_whole" Nb.sIWv := by
   dsimp only [L2.KOf]
   refine' L2.Yq KX G ?a ?l ?c ?k
   (case a => k_is); (case l => k_is); (case c => k_is); (case k => k_is)
  have F10 : L2.Fn (L2.KOf KX) mg "is_name" Nb.sIN := by
   dsimp only [L2.KOf]
   refine' L2.Yq KX G ?a ?l ?c ?k
   (case a => k_is); (case l => k_is); (case c => k_is); (case k => k_is)
  have F11 : L2.Fn (L2.KOf KX) mg "said_by" Nb.Qml := by
   dsimp only [L2.KOf]
   refine' L2.Yq KX G ?a ?l ?c ?k
   (case a => k_is); (case l => k_is); (case c => k_is); (case k => k_is)
  have F12 : L2.Fn (L2.KOf KX) mg "is_formed" Nb.sIFv := by
   dsimp only [L2.KOf]
   refine' L2.Yq KX G ?a ?l ?c ?k
   (case a => k_is); (case l => k_is); (case c => k_is); (case k => k_is)
  have F13 : L2.Fn (L2.KOf KX) mg "is_within" Nb.sIWi := by
   dsimp only [L2.KOf]
   refine' L2.Yq KX G ?a ?l ?c ?k
   (case a => k_is); (case l => k_is); (case c => k_is); (case k => k_is)
  have F14 : L2.Fn (L2.KOf KX) mg "needed_by" Nb.sNee := by
   dsimp only [L2.KOf]
   refine' L2.Yq KX G ?a ?l ?c ?k
   (case a => k_is); (case l => k_is); (case c => k_is); (case k => k_is)
  have F15 : L2.Fn (L2.KOf KX) mg "is_row_of_book" Nb.sIRw := by
   dsimp only [L2.KOf]
   refine' L2.Yq KX G ?a ?l ?c ?k
   (case a => k_is); (case l => k_is); (case c => k_is); (case k => k_is)
  have F16 : L2.Fn (L2.KOf KX) mg "looked" Nb.sLov := by
   dsimp only [L2.KOf]
   refine' L2.Yq KX G ?a ?l ?c ?k
   (case a => k_is); (case l => k_is); (case c => k_is); (case k => k_is)
  have F17 : L2.Fn (L2.KOf KX) mg "_law_whole" Nb.sWhV := by
   dsimp only [L2.KOf]
   refine' L2.Yq KX G ?a ?l ?c ?k
   (case a => k_is); (case l => k_is); (case c => k_is); (case k => k_is)
  have F18 : L2.Fn (L2.KOf KX) mg "_law_number" Nb.sLNu := by
   dsimp only [L2.KOf]
   refine' L2.Yq KX G ?a ?l ?c ?k
   (case a => k_is); (case l => k_is); (case c => k_is); (case k => k_is)
  have F19 : L2.Fn (L2.KOf KX) mg "_law_named" Nb.sLNm := by
   dsimp only [L2.KOf]
   refine' L2.Yq KX G ?a ?l ?c ?k
   (case a => k_is); (case l => k_is); (case c => k_is); (case k => k_is)
  have F20 : L2.Fn (L2.KOf KX) mg "_law_things_of" Nb.sLTo := by
   dsimp only [L2.KOf]
   refine' L2.Yq KX G ?a ?l ?c ?k
   (case a => k_is); (case l => k_is); (case c => k_is); (case k => k_is)
  have F21 : L2.Fn (L2.KOf KX) mg "_law_fits_new" Nb.sLFn := by
   dsimp only [L2.KOf]
   refine' L2.Yq KX G ?a ?l ?c ?k
   (case a => k_is); (case l => k_is); (case c => k_is); (case k => k_is)
  have F22 : L2.Fn (L2.KOf KX) mg "_law_fits_old" Nb.sLFo := by
   dsimp only [L2.KOf]
   refine' L2.Yq KX G ?a ?l ?c ?k
   (case a => k_is); (case l => k_is); (case c => k_is); (case k => k_is)
  have F23 : L2.Fn (L2.KOf KX) mg "_law_row_fits" Nb.sLRf := by
   dsimp only [L2.KOf]
   refine' L2.Yq KX G ?a ?l ?c ?k
   (case a => k_is); (case l => k_is); (case c => k_is); (case k => k_is)
  have F24 : L2.Fn (L2.KOf KX) mg "_law_bad_row" Nb.sLBa := by
   dsimp only [L2.KOf]
   refine' L2.Yq KX G ?a ?l ?c ?k
   (case a => k_is); (case l => k_is); (case c => k_is); (case k => k_is)
  have F25 : L2.Fn (L2.KOf KX) mg "_law_too_great" Nb.sLGr := by
   dsimp only [L2.KOf]
   refine' L2.Yq KX G ?a ?l ?c ?k
   (case a => k_is); (case l => k_is); (case c => k_is); (case k => k_is)
  have F26 : L2.Fn (L2.KOf KX) mg "_law_other_word" Nb.sLOw := by
   dsimp only [L2.KOf]
   refine' L2.Yq KX G ?a ?l ?c ?k
   (case a => k_is); (case l => k_is); (case c => k_is); (case k => k_is)
  have F27 : L2.Fn (L2.KOf KX) mg "_law_spoiled" Nb.sLSp := by
   dsimp only [L2.KOf]
   refine' L2.Yq KX G ?a ?l ?c ?k
   (case a => k_is); (case l => k_is); (case c => k_is); (case k => k_is)
  have F28 : L2.Fn (L2.KOf KX) mg "_law_caught" Nb.sLCa := by
   dsimp only [L2.KOf]
   refine' L2.Yq KX G ?a ?l ?c ?k
   (case a => k_is); (case l => k_is); (case c => k_is); (case k => k_is)
  have F29 : L2.Fn (L2.KOf KX) mg "law" Nb.sLaw := by
   dsimp only [L2.KOf]
   refine' L2.Yq KX G ?a ?l ?c ?k
   (case a => k_is); (case l => k_is); (case c => k_is); (case k => k_is)
  have M : Nb.Mg mg := by
   refine' ⟨PySem.W.mg_none_of KX G ?m_len, PySem.W.mg_none_of KX G ?m_min, PySem.W.mg_none_of KX G ?m_max, PySem.W.mg_none_of KX G ?m_sum, PySem.W.mg_none_of KX G ?m_all, PySem.W.mg_none_of KX G ?m_any, PySem.W.mg_none_of KX G ?m_abs, PySem.W.mg_none_of KX G ?m_isinstance, PySem.W.mg_none_of KX G ?m_sorted, PySem.W.mg_none_of KX G ?m_range_, PySem.W.mg_none_of KX G ?m_zip_, PySem.W.mg_none_of KX G ?m_tuple_, PySem.W.mg_none_of KX G ?m_list_, PySem.W.mg_none_of KX G ?m_int_, PySem.W.mg_none_of KX G ?m_bool_, PySem.W.mg_none_of KX G ?m_dict_, PySem.W.mg_none_of KX G ?m_enumerate_, PySem.W.mg_none_of KX G ?m_reversed_, PySem.W.mg_none_of KX G ?m_ValueError_, PySem.W.mg_none_of KX G ?m_set_, PySem.W.mg_none_of KX G ?m_str_⟩
   (case m_len => k_is)
   (case m_min => k_is)
   (case m_max => k_is)
   (case m_sum => k_is)
   (case m_all => k_is)
   (case m_any => k_is)
   (case m_abs => k_is)
   (case m_isinstance => k_is)
   (case m_sorted => k_is)
   (case m_range_ => k_is)
   (case m_zip_ => k_is)
   (case m_tuple_ => k_is)
   (case m_list_ => k_is)
   (case m_int_ => k_is)
   (case m_bool_ => k_is)
   (case m_dict_ => k_is)
   (case m_enumerate_ => k_is)
   (case m_reversed_ => k_is)
   (case m_ValueError_ => k_is)
   (case m_set_ => k_is)
   (case m_str_ => k_is)
  have EX : ∃ (C D fI CN CP CS : Addr) (fdI : FuncData) (fo : Obj), L2.ErrI (L2.KOf KX) mg "NoBook" C D fI "row" ∧ L2.Fun (L2.KOf KX) "__init__" "NoBook.__init__" Nb.sNBI fI fdI ∧ (L2.KOf KX).lookup fI = some fo ∧ fo.cls = .type "function" ∧ PySem.W.keepIn (L2.KOf KX) (.ref C) = true ∧ Nb.ExK (L2.KOf KX) mg C D CN CP CS := by
   dsimp only [L2.KOf]
   refine' ⟨_, _, _, _, _, _, _, _, ⟨PySem.W.mg_of KX G ?b1, ⟨_, _, _, _, _, _, _, _, _, _, _, _, _, _, ?c1, ?c2, ?c3, ?c4, ?c5⟩, ⟨_, _, _, _, ?m1, ?m2, ?m3, ?m4, ?m5⟩, Nb.ve_row⟩, L2.Qng (st := Nb.sNBI) ?f1 ?f2 ?f3, ?g1, ?g2, ?g3, ⟨PySem.W.mg_of KX G ?p1, L2.isA_of ?i1 ?i2 ?i3, PySem.W.mg_of KX G ?p2, PySem.W.mg_of KX G ?p3, PySem.W.mg_of KX G ?p4, PySem.W.mg_of KX G ?p5, ⟨?x1, ?x2, ?x3, ?x4, ?x5⟩, ⟨?y1, ?y2, ?y3, ?y4, ⟨_, _, _, _, ?y5, ?y6⟩⟩, ?z1, ?z2, ?z3, ?z4⟩⟩
   (case b1 => k_is); (case c1 => exact rfl); (case c2 => kernel_rfl); (case c3 => k_is); (case c4 => k_is); (case c5 => k_is)
   (case m1 => exact rfl); (case m2 => kernel_rfl); (case m3 => k_is); (case m4 => k_is); (case m5 => k_is)
   (case f1 => k_is); (case f2 => k_is); (case f3 => k_is); (case g1 => exact rfl); (case g2 => exact rfl); (case g3 => k_is)
   (case p1 => k_is); (case i1 => k_is); (case i2 => k_is); (case i3 => k_is); (case p2 => k_is); (case p3 => k_is); (case p4 => k_is); (case p5 => k_is)
   (case x1 => k_is); (case x2 => k_is); (case x3 => k_is); (case x4 => k_is); (case x5 => k_is)
   (case y1 => k_is); (case y2 => k_is); (case y3 => k_is); (case y4 => k_is); (case y5 => exact rfl); (case y6 => exact rfl)
   (case z1 => kit_is); (case z2 => kit_is); (case z3 => kit_is); (case z4 => kit_is)
  obtain ⟨C, D, fI, CN, CP, CS, fdI, fo, EI, FI, lkI, fcI, kcI, EK⟩ := EX
  have bI := FI.binds (ps := ["self", "row"]) fun _ _ _ _ _ _ => L2.Qcm (fun _ _ => rfl)
  have TNX : ∃ aN fN, L2.TvTab w (L2.KOf KX) mg "NAMES" 1 Nb.namesT aN fN := by
   dsimp only [L2.KOf]
   refine' ⟨_, L2.Qdt (PySem.W.mg_of KX G ?b1) ?l1 ?k1 ?o1 ?c1⟩
   (case b1 => k_is); (case l1 => k_is); (case k1 => k_keys); (case o1 => decide); (case c1 => kernel_rfl)
  obtain ⟨aN, fN, TN⟩ := TNX
  have TBX : ∃ aB fB, L2.TvTab w (L2.KOf KX) mg "BOUNDS" 3 Nb.boundsT aB fB := by
   dsimp only [L2.KOf]
   refine' ⟨_, L2.Qdt (PySem.W.mg_of KX G ?b1) ?l1 ?k1 ?o1 ?c1⟩
   (case b1 => k_is); (case l1 => k_is); (case k1 => k_keys); (case o1 => decide); (case c1 => kernel_rfl)
  obtain ⟨aB, fB, TB⟩ := TBX
  have TDX : ∃ aD fD, L2.TvTab w (L2.KOf KX) mg "NEEDS" 3 Nb.needsT aD fD := by
   dsimp only [L2.KOf]
   refine' ⟨_, L2.Qdt (PySem.W.mg_of KX G ?b1) ?l1 ?k1 ?o1 ?c1⟩
   (case b1 => k_is); (case l1 => k_is); (case k1 => k_keys); (case o1 => decide); (case c1 => kernel_rfl)
  obtain ⟨aD, fD, TD⟩ := TDX
  obtain ⟨f, fd, FF, hm⟩ := F29
  have e0 := hmg.symm.trans hm
  cases e0
  refine' ⟨fd, ?b, fun base kb nb => Nb.all_ok M EI FI bI lkI fcI kcI EK TN TB TD F1 F2 F3 F4 F5 F6 F7 F8 F9 F10 F11 F12 F13 F14 F15 F16 F17 F18 F19 F20 F21 F22 F23 F24 F25 F26 F27 F28 FF⟩
  obtain ⟨oc, od, kV, doc, pm, an, cdv, ct, osl, rfl, lk, hcd⟩ := FF.ex
  exact fun s u => .of_eq rfl

