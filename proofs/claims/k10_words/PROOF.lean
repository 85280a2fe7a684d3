import PyProof.Rows.All
import Wide.All
import OpenK.AllK
import Wide.FinOn
import Lean
import PyProof.EqAt
import PyProof.EqKinds
import PyProof.TupleCall
import KE.KDictOf
import KE.KRevIter
import KE.KMinKey
import KE.KTryDeep
import KE.KIsAll
import KE.KSortTup
import OpenK.KTop
import KE.KEqDict
import PySem.Challenge.RW_nonebetter_k10_lines_of_each_word
noncomputable section
abbrev Fg := PySem.W.Frag
section
open PySem PySem.Spec PySem.W PyProof.Rows
abbrev jQ := @List.length_map
abbrev jX := @wpAny_bind
abbrev jY := @List.getElem?_map
abbrev jZ := @Nat.le_refl
abbrev jJ := @Heap.get?_push_of_some
abbrev jK := @List.getD_eq_getElem?_getD
abbrev jV := @List.size_toArray
abbrev jW := @decide_eq_true
abbrev kQ := @wpAny_pure
abbrev kX := @List.map_append
abbrev kY := @Bool.false_ne_true
abbrev kZ := @List.length_append
abbrev kJ := @Heap.lt_size
abbrev kK := @List.mem_of_getElem?
abbrev kW := @List.length_take
abbrev yQ := @decide_eq_false
abbrev yX := @of_decide_eq_true
abbrev yY := @Option.map_eq_some_iff
abbrev yZ := @Heap.get?_push_size
abbrev yJ := @List.mem_cons
abbrev yK := @List.getElem?_eq_some_iff
abbrev yV := @List.length_cons
abbrev yW := @Nat.ne_of_lt
abbrev zQ := @List.take_of_length_le
abbrev zX := @List.length_set
abbrev zY := @List.mem_cons_self
abbrev zZ := @List.eq_nil_of_length_eq_zero
abbrev zJ := @Nat.lt_of_lt_of_le
abbrev zK := @List.mem_singleton
abbrev zV := @Bool.and_eq_true
abbrev zW := @List.mem_cons_of_mem
abbrev xQ := @List.length_replicate
abbrev xX := @List.map_cons
abbrev xY := @Bool.eq_iff_iff
abbrev xZ := @Nat.lt_of_le_of_lt
abbrev xJ := @List.mem_append_right
abbrev xK := @List.mem_nil_iff
abbrev xV := @Option.bind_eq_some_iff
abbrev xW := @List.all_eq_true
abbrev wQ := @List.take_length
abbrev wX := @List.replicate_succ
abbrev wY := @List.length_range
abbrev wZ := @List.mem_range
abbrev wJ := @List.mem_append
abbrev wK := @List.getElem?_eq_none_iff
abbrev wV := @Array.length_toList
abbrev wW := @Nat.add_le_add_left
abbrev jQa := @List.getElem?_eq_none
abbrev jQb := @List.length_nil
abbrev jQc := @List.getElem_mem
abbrev jQd := @List.mem_map
abbrev jQe := @Int.emod_lt_of_pos
abbrev jQf := @Nat.le_trans
abbrev jXa := @Array.getD_eq_getD_getElem?
abbrev jXb := @Nat.zero_le
abbrev jXc := @List.lookup_cons
abbrev jXd := @Int.emod_nonneg
abbrev jXe := @List.flatten_cons
abbrev jXf := @List.mem_iff_getElem
abbrev jYa := @Option.isSome_iff_exists
abbrev jYb := @List.length_drop
abbrev jYc := @Nat.le_add_right
abbrev jYd := @List.pairwise_cons
abbrev jYe := @Nat.min_eq_left
abbrev jYf := @Bool.or_eq_true
abbrev jZa := @List.find?_cons
abbrev jZb := @Nat.lt_irrefl
abbrev jZc := @Int.toNat_natCast
abbrev jZd := @List.ext_getElem?
abbrev jZe := @List.foldl_append
abbrev jZf := @List.getElem?_append_right
abbrev jJa := @Heap.size_push
abbrev jJb := @List.map_nil
abbrev jJc := @List.nodup_cons
abbrev jJd := @List.foldl_cons
abbrev jJe := @List.range_succ
abbrev jJf := @Int.natCast_nonneg
abbrev jKa := @List.length_singleton
abbrev jKb := @List.sum_cons
abbrev jKc := @Int.le_refl
abbrev jKd := @Nat.le_of_lt
abbrev jKe := @Int.fdiv_eq_ediv_of_nonneg
abbrev jKf := @List.getElem?_append_left
abbrev kQa := @List.pairwise_map
abbrev kQb := @List.any_cons
abbrev kQc := @List.getElem?_replicate
abbrev kQd := @List.getElem_map
abbrev kQe := @List.getElem?_set_self
abbrev kQf := @List.map_set
abbrev kXa := @List.append_nil
abbrev kXb := @Option.map_some
abbrev kXc := @List.sum_append
abbrev kXd := @List.mem_of_mem_erase
abbrev kXe := @List.mem_append_left
abbrev kXf := @List.getElem?_set_ne
abbrev kYa := @List.filterMap_cons
abbrev kYb := @List.getElem_of_mem
abbrev kYc := @List.length_zipWith
end
abbrev gE := @List.getElem?_eq_getElem
set_option Elab.async false
set_option linter.all false
set_option maxRecDepth 100000
set_option maxHeartbeats 4000000
set_option bootstrap.genMatcherCode false
set_option genSizeOfSpec false
set_option compiler.extract_closed false
namespace L2
theorem aRfl (h : True := by rfl) : True := h
theorem aDec (h : True := by decide) : True := h
theorem aFst (h : True := by first | exact .inl rfl | exact .inr rfl | assumption) : True := h
theorem aIrf (h : True := by intro _; rfl) : True := h
end L2
namespace L2
open PySem PySem.Spec PyProof.Rows
abbrev Key := Sum Int Str
def Qju : Key → Value → Bool
 | .inl k, v => Value.isInt k v
 | .inr x, v => Value.isStrOf x v
def keyH (w : World) : Key → Int
 | .inl k => hashInt k
 | .inr x => hashStr w x
theorem Yf : ∀ {k : Key} {v : Value}, Qju k v = true → (∃ i t, k = Sum.inl i ∧ v = Value.int i t) ∨ (∃ x t, k = Sum.inr x ∧ v = Value.str x t)
 | .inl i, v, h => by
  obtain ⟨t, e⟩ := Value.isInt_shape (k := i) (v := v) h
  exact .inl ⟨i, t, rfl, e⟩
 | .inr x, v, h => by
  obtain ⟨t, e⟩ := Value.isStrOf_shape (x := x) (v := v) h
  exact .inr ⟨x, t, rfl, e⟩
theorem Qle (i : Int) (t : Tok) : Qju (.inl i) (.int i t) = true := by simp [Qju, Value.isInt]
theorem Qlf (x : Str) (t : Tok) : Qju (.inr x) (.str x t) = true := by simp [Qju, Value.isStrOf]
theorem key_ll (a b : Int) : decide ((Sum.inl a : Key) = Sum.inl b) = (a == b) := by
 by_cases e : a = b
 ·subst e; simp
 ·have h : ¬ (Sum.inl a : Key) = Sum.inl b := fun q => e (Sum.inl.inj q)
  rw [yQ h]
  exact (beq_eq_false_iff_ne.mpr e).symm
theorem key_rr (a b : Str) : decide ((Sum.inr a : Key) = Sum.inr b) = decide (a = b) := by
 by_cases e : a = b
 ·subst e; simp
 ·have h : ¬ (Sum.inr a : Key) = Sum.inr b := fun q => e (Sum.inr.inj q)
  rw [yQ h, yQ e]
theorem key_lr (a : Int) (b : Str) : decide ((Sum.inl a : Key) = Sum.inr b) = false := yQ (fun q => nomatch q)
theorem key_rl (a : Str) (b : Int) : decide ((Sum.inr a : Key) = Sum.inl b) = false := yQ (fun q => nomatch q)
def Yx (prog : Program) (w : World) : PySem.KeyKind prog w Key where
 is := Qju
 hash := keyH w
 inj := fun v a b ha hb => by
  rcases Yf ha with ⟨i, t, rfl, rfl⟩ | ⟨x, t, rfl, rfl⟩
  ·rcases Yf hb with ⟨j, u, rfl, e⟩ | ⟨y, u, rfl, e⟩
   ·injection e with e1 _; rw [e1]
   ·exact nomatch e
  ·rcases Yf hb with ⟨j, u, rfl, e⟩ | ⟨y, u, rfl, e⟩
   ·exact nomatch e
   ·injection e with e1 _; rw [e1]
 byValue := fun k v h => by
  rcases Yf h with ⟨i, t, rfl, rfl⟩ | ⟨x, t, rfl, rfl⟩ <;> rfl
 pyHash := fun hv h => by
  rcases Yf hv with ⟨i, t, rfl, rfl⟩ | ⟨x, t, rfl, rfl⟩
  ·exact wpAny_pyHash_int h
  ·exact wpAny_pyHash_str h
 eqBool := fun hu hv h => by
  rcases Yf hu with ⟨i, t, rfl, rfl⟩ | ⟨x, t, rfl, rfl⟩
  ·rcases Yf hv with ⟨j, u, rfl, rfl⟩ | ⟨y, u, rfl, rfl⟩
   ·rw [key_ll] at h; exact wpAny_eqBool_int h
   ·rw [key_lr] at h; exact SeqAt.EqAt.int_str i t y u _ _ _ _ h
  ·rcases Yf hv with ⟨j, u, rfl, rfl⟩ | ⟨y, u, rfl, rfl⟩
   ·rw [key_rl] at h; exact SeqAt.EqAt.str_int x t j u _ _ _ _ h
   ·rw [key_rr] at h; exact wpAny_eqBool_str h
 «strs» := fun k x t v h => by
  rcases Yf h with ⟨i, u, rfl, e⟩ | ⟨y, u, rfl, e⟩
  ·exact nomatch e
  ·injection e with e1 _
   subst e1
   cases v <;> rfl
theorem Qbb (prog : Program) (w : World) (i : Int) (t : Tok) : (Yx prog w).is (.inl i) (.int i t) = true := Qle i t
theorem Qgp (prog : Program) (w : World) (x : Str) (t : Tok) : (Yx prog w).is (.inr x) (.str x t) = true := Qlf x t
inductive V where
 | non | bl (b : Bool) | int (i : Int) | str (x : Str) | byt (b : Array UInt8) | flt (b : UInt64) | ref (a : Addr) | ty (n : String)
 deriving DecidableEq
def RelV : V → Value → Prop
 | .non, u => u = Value.none
 | .bl b, u => u = Value.bool b
 | .int i, u => ∃ t, u = Value.int i t
 | .str x, u => ∃ t, u = Value.str x t
 | .byt b, u => ∃ t, u = Value.bytes b t
 | .flt b, u => ∃ t, u = Value.float b t
 | .ref a, u => u = Value.ref a
 | .ty n, u => u = Value.type n
abbrev Vals : List V → List Value → Prop := Paired RelV
theorem Vals.length {xs : List V} {us : List Value} (r : Vals xs us) : xs.length = us.length := Paired.length r
theorem Vals.get : ∀ {xs : List V} {us : List Value} {i : Nat} {x : V}, Vals xs us → xs[i]? = some x → ∃ u, us[i]? = some u ∧ RelV x u
 | _, _, _, _, .nil, e => by simp at e
 | _, _, 0, _, .cons r _, e => by simp at e; subst e; exact ⟨_, rfl, r⟩
 | _, _, i + 1, x, .cons _ t, e => by
  obtain ⟨u, h1, h2⟩ := Vals.get (i := i) (x := x) t (by simpa using e)
  exact ⟨u, by simpa using h1, h2⟩
theorem Vals.set {x : V} {u : Value} (r : RelV x u) : ∀ {xs : List V} {us : List Value} (i : Nat), Vals xs us → Vals (xs.set i x) (us.set i u)
 | _, _, _, .nil => .nil
 | _, _, 0, .cons _ t => .cons r t
 | _, _, i + 1, .cons q t => .cons q (Vals.set r i t)
theorem Vals.append {xs ys : List V} {us ws : List Value} (h : Vals xs us) (g : Vals ys ws) : Vals (xs ++ ys) (us ++ ws) := by
 induction h with
 | nil => exact g
 | cons r t ih => exact .cons r ih
theorem Vals.take : ∀ {xs : List V} {us : List Value} (n : Nat), Vals xs us → Vals (xs.take n) (us.take n)
 | _, _, 0, _ => .nil
 | _, _, _ + 1, .nil => .nil
 | _, _, n + 1, .cons r t => .cons r (Vals.take n t)
theorem Vals.drop : ∀ {xs : List V} {us : List Value} (n : Nat), Vals xs us → Vals (xs.drop n) (us.drop n)
 | _, _, 0, r => r
 | _, _, _ + 1, .nil => .nil
 | _, _, n + 1, .cons _ t => Vals.drop n t
def RelO : Option V → Option Value → Prop
 | some v, some u => RelV v u
 | none, none => True
 | _, _ => False
def KV {κ : Type} : List (κ × V) → List (κ × Value) → Prop := Paired fun (p : κ × V) (q : κ × Value) => p.1 = q.1 ∧ RelV p.2 q.2
def kV : Key → V
 | .inl i => .int i
 | .inr x => .str x
inductive HO where
 /-- a list -/
 | lst (xs : List V)
 /-- a tuple (never changes) -/
 | tup (xs : List V)
 /-- a dict whose keys are ints and texts; one whose keys are tuples of ints and texts (the empty one is both) -/
 | dK (kvs : List (Key × V)) | dT (kvs : List (List Key × V))
 /-- a set of ints: its members, its size -/
 | set (S : Int → Bool) (n : Nat)
 /-- an instance of the class at C, its dict at dx, its attributes -/
 | ins (C dx : Addr) (fs : List (Str × V))
 /-- the dict of the instance at x -/
 | own (x : Addr)
 /-- the dict of an exception -/
 | xd (fs : List (Str × V))
 /-- a bound method, f of x -/
 | met (f x : Addr)
 /-- a range object lo, lo + 1, .. below hi -/
 | rng (lo hi : Int)
 /-- a thing that is known to the object (the script; a dict while a loop walks it): read, never written while it is so -/
 | frz (o : Obj) (u : HO)
 /-- a code object's table -/
 | tbl (ps : Array Value)
 /-- any other thing, by what is true of its one object (a def of one's own: SetO a S n := HO.ext fun h => ..) -/
 | ext (φ : Heap → Prop)
abbrev Hp := Addr → Option HO
def upd (H : Hp) (a : Addr) (o : HO) : Hp := fun b => if b = a then some o else H b
theorem Qc {H : Hp} {a : Addr} {o : HO} : upd H a o a = some o := by unfold upd; rw [if_pos rfl]
theorem Qo {H : Hp} {a b : Addr} {o : HO} (h : b ≠ a) : upd H a o b = H b := by unfold upd; rw [if_neg h]
theorem Qsf {H : Hp} {a : Addr} {o u : HO} : upd (upd H a o) a u = upd H a u := by
 funext b; unfold upd; split <;> rfl
theorem ne_of {H : Hp} {a b : Addr} {o u : HO} (h : H a = some o) (h' : H b = some u) (d : o ≠ u) : a ≠ b := by
 intro e; subst e; rw [h] at h'; exact d (Option.some.inj h')
theorem Qh {H : Hp} {a b : Addr} {o : HO} (h : H a = some o) (h' : H b = none) : a ≠ b := by
 intro e; subst e; rw [h] at h'; cases h'
section
variable (P : Program) (w : World)
def ObjOk (H : Hp) (h : Heap) (a : Addr) : HO → Prop
 | .lst xs => xs.length ≤ sizeLine ∧ ∃ (its : List Value) (n : Nat), Vals xs its ∧ h.get? a = some { cls := .type "list", data := .seq its.toArray n }
 | .tup xs => xs.length ≤ sizeLine ∧ ∃ its : List Value, Vals xs its ∧ IsTup h a its.toArray
 | .dK kvs => kvs.length ≤ sizeLine ∧ (a == sysModules) = false ∧ ∃ vs, KV kvs vs ∧ h.DictOf (Yx P w) a vs
 | .dT kvs => kvs.length ≤ sizeLine ∧ (a == sysModules) = false ∧ ∃ xs : List (List Key × Addr × Value),
   Paired (fun (p : List Key × V) (q : List Key × Addr × Value) => p.1 = q.1 ∧ H q.2.1 = some (.tup (p.1.map kV)) ∧ RelV p.2 q.2.2) kvs xs ∧
   ∃ o es ep, h.get? a = some o ∧ o.ExactDict ∧ o.data = .dict es ep ∧ es.toList = xs.map (entryOfKey (tupleKind (Yx P w))) ∧ (xs.map (·.1)).Nodup
 | .set S n => h.SetOf (intKind P w) a S n
 | .ins C dx fs => H dx = some (.own a) ∧ fs.length ≤ 1000 ∧ dx ≠ a ∧ h.get? a = some (PySem.W.instObj C dx) ∧
   ∃ mA, h.Ns1 dx mA ∧ (∀ f, RelO (fs.lookup f) (mA f)) ∧ PySem.Within mA (fs.map (·.1))
 | .own _ => ∃ o, h.get? a = some o
 | .xd fs => ∃ mA, h.Ns1 a mA ∧ ∀ f, RelO (fs.lookup f) (mA f)
 | .rng lo hi => ∃ t u v, h.get? a = some { cls := .type "range", data := .fields #[.int lo t, .int hi u, .int 1 v] }
 | .frz o u => h.get? a = some o ∧ ObjOk H h a u
 | .tbl ps => h.get? a = some { cls := .none, data := .fields ps }
 | .met f x => h.get? a = some (PySem.W.methodObj (.ref f) (.ref x))
 | .ext φ => φ h ∧ (∃ o, h.get? a = some o) ∧ ∀ h1 h2 : Heap, φ h1 → (∀ o, h1.get? a = some o → h2.get? a = some o) → φ h2
def HOk (H : Hp) (h : Heap) : Prop := ∀ a o, H a = some o → ObjOk P w H h a o
end
section
variable {P : Program} {w : World} {H H' : Hp} {h h' : Heap} {a : Addr} {o : HO}
theorem ObjOk.lt (x : ObjOk P w H h a o) : a < h.objs.size := by
 cases o with
 | lst xs => obtain ⟨_, _, _, _, e⟩ := x; exact kJ e
 | tup xs => obtain ⟨_, _, _, p⟩ := x; exact p.lt
 | dK kvs => obtain ⟨_, _, _, _, o, _, _, e, _⟩ := x; exact kJ e
 | dT kvs => obtain ⟨_, _, _, _, o, _, _, e, _⟩ := x; exact kJ e
 | set S n => obtain ⟨o, _, _, _, e, _⟩ := x; exact kJ e
 | ins C dx fs => obtain ⟨_, _, _, e, _⟩ := x; exact kJ e
 | own y => obtain ⟨_, e⟩ := x; exact kJ e
 | xd fs => obtain ⟨_, ⟨_, _, _, e, _⟩, _⟩ := x; exact kJ e
 | rng lo hi => obtain ⟨_, _, _, e⟩ := x; exact kJ e
 | frz ob u => obtain ⟨e, _⟩ := x; exact kJ e
 | tbl ps => exact kJ (show h.get? a = some _ from x)
 | met f y => exact kJ (show h.get? a = some _ from x)
 | ext φ => obtain ⟨_, ⟨_, e⟩, _⟩ := x; exact kJ e
theorem Paired.mapP {α β : Type} {F G : α → β → Prop} {l₁ : List α} {l₂ : List β} (h : Paired F l₁ l₂) (f : ∀ a b, F a b → G a b) : Paired G l₁ l₂ := by
 induction h with
 | nil => exact .nil
 | cons r t ih => exact .cons (f _ _ r) ih
theorem Paired.imp' {α β : Type} {F G : α → β → Prop} (f : ∀ a b, F a b → G a b) {l₁ : List α} {l₂ : List β} (r : Paired F l₁ l₂) : Paired G l₁ l₂ := Paired.mapP r f
theorem ObjOk.stay (x : ObjOk P w H h a o) (k : ∀ b u, (b = a ∨ H b = some (.own a)) → h.get? b = some u → h'.get? b = some u)
  (ho : ∀ b, H b = some (.own a) → H' b = some (.own a)) (ht : ∀ b xs, H b = some (.tup xs) → H' b = some (.tup xs)) : ObjOk P w H' h' a o := by
 induction o with
 | lst xs => obtain ⟨z, its, n, r, e⟩ := x; exact ⟨z, its, n, r, k _ _ (.inl rfl) e⟩
 | tup xs => obtain ⟨z, its, r, ob, e, c⟩ := x; exact ⟨z, its, r, ob, k _ _ (.inl rfl) e, c⟩
 | dK kvs => obtain ⟨z, y, vs, r, ob, es, ep, e, c⟩ := x; exact ⟨z, y, vs, r, ob, es, ep, k _ _ (.inl rfl) e, c⟩
 | dT kvs =>
  obtain ⟨z, y, xs, r, ob, es, ep, e, c⟩ := x
  exact ⟨z, y, xs, Paired.mapP r fun p q z => ⟨z.1, ht _ _ z.2.1, z.2.2⟩, ob, es, ep, k _ _ (.inl rfl) e, c⟩
 | set S n => obtain ⟨ob, es, ep, t, e, c⟩ := x; exact ⟨ob, es, ep, t, k _ _ (.inl rfl) e, c⟩
 | ins C dx fs =>
  obtain ⟨d, z, ne, e, mA, ⟨od, es, ep, e2, c⟩, r⟩ := x
  exact ⟨ho _ d, z, ne, k _ _ (.inl rfl) e, mA, ⟨od, es, ep, k _ _ (.inr d) e2, c⟩, r⟩
 | own y => obtain ⟨ob, e⟩ := x; exact ⟨ob, k _ _ (.inl rfl) e⟩
 | xd fs => obtain ⟨mA, ⟨od, es, ep, e, c⟩, r⟩ := x; exact ⟨mA, ⟨od, es, ep, k _ _ (.inl rfl) e, c⟩, r⟩
 | rng lo hi => obtain ⟨t, u, v, e⟩ := x; exact ⟨t, u, v, k _ _ (.inl rfl) e⟩
 | frz ob u ih => obtain ⟨e, q⟩ := x; exact ⟨k _ _ (.inl rfl) e, ih q⟩
 | tbl ps =>
  have e : h.get? a = some { cls := .none, data := .fields ps } := x
  show h'.get? a = some { cls := .none, data := .fields ps }
  exact k a _ (.inl rfl) e
 | met f y =>
  have e : h.get? a = some (PySem.W.methodObj (.ref f) (.ref y)) := x
  show h'.get? a = some (PySem.W.methodObj (.ref f) (.ref y))
  exact k a _ (.inl rfl) e
 | ext φ => obtain ⟨p, ⟨o, e⟩, st⟩ := x; exact ⟨st _ _ p fun o q => k _ _ (.inl rfl) q, ⟨o, k _ _ (.inl rfl) e⟩, st⟩
theorem HOk.lt (x : HOk P w H h) (e : H a = some o) : a < h.objs.size := (x a o e).lt
theorem HOk.fresh (x : HOk P w H h) (e : h.objs.size ≤ a) : H a = none := by
 cases q : H a with
 | none => rfl
 | some u => exact absurd (zJ (x.lt q) e) (jZb _)
theorem HOk.kept (x : HOk P w H h) (k : ∀ b u, h.get? b = some u → h'.get? b = some u) : HOk P w H h' := fun a o e =>
 (x a o e).stay (fun b u _ q => k b u q) (fun _ q => q) fun _ _ q => q
theorem HOk.laid (x : HOk P w H h) (k : ∀ b u, h.get? b = some u → h'.get? b = some u) (hp : h.objs.size ≤ a) (new : ObjOk P w (upd H a o) h' a o) : HOk P w (upd H a o) h' := fun b u e => by
 have hn := x.fresh hp
 by_cases hb : b = a
 ·subst hb; rw [Qc] at e; cases e; exact new
 ·rw [Qo hb] at e
  exact (x b u e).stay (fun c v _ q => k c v q) (fun c q => by rw [Qo (Qh q hn)]; exact q) fun c xs q => by rw [Qo (Qh q hn)]; exact q
end
def Rd (H : Hp) (a : Addr) (u : HO) : Prop := H a = some u ∨ ∃ o, H a = some (.frz o u)
theorem Rd.ok {P : Program} {w : World} {H : Hp} {h : Heap} {a : Addr} {u : HO} (r : Rd H a u) (x : HOk P w H h) : ObjOk P w H h a u := by
 rcases r with r | ⟨o, r⟩
 ·exact x a u r
 ·obtain ⟨_, q⟩ := x a _ r
  exact q
def Mut : Option HO → Prop
 | some (.lst _) => True
 | some (.dK _) => True
 | some (.dT _) => True
 | some (.set _ _) => True
 | some (.ins _ _ _) => True
 | some (.ext _) => True
 | _ => False
section
variable {P : Program} {w : World} {H : Hp} {h h' : Heap} {x e : Addr} {o' : HO}
theorem HOk.write (ok : HOk P w H h) (mu : Mut (H x)) (he : e = x ∨ H e = some (.own x)) (k : ∀ b u, b ≠ e → h.get? b = some u → h'.get? b = some u) (heo : ∃ u, h'.get? e = some u)
  (new : ObjOk P w (upd H x o') h' x o') : HOk P w (upd H x o') h' := fun b u q => by
 have nown : ∀ c y, H c = some (.own y) → c ≠ x := fun c y r z => by subst z; rw [r] at mu; exact mu
 have ntup : ∀ c xs, H c = some (.tup xs) → c ≠ x := fun c xs r z => by subst z; rw [r] at mu; exact mu
 by_cases hb : b = x
 ·subst hb; rw [Qc] at q; cases q; exact new
 ·rw [Qo hb] at q
  by_cases hbe : b = e
  ·have q' : H b = some (.own x) := by
    rcases he with z | z
    ·exact absurd (hbe.trans z) hb
    ·rw [hbe]; exact z
   rw [q] at q'; cases q'
   obtain ⟨v, hv⟩ := heo
   exact ⟨v, by rw [hbe]; exact hv⟩
  ·refine (ok b u q).stay (fun c v hc r => k c v ?_ r) (fun c r => by rw [Qo (nown c b r)]; exact r) fun c xs r => by rw [Qo (ntup c xs r)]; exact r
   rcases hc with rfl | hc
   ·exact hbe
   ·rintro rfl
    rcases he with z | z
    ·exact nown c b hc z
    ·rw [hc] at z; cases z; exact hb rfl
end
structure Un (fs ex : List Addr) (H H' : Hp) (h h' : Heap) : Prop where
 keep : ∀ b o, h.get? b = some o → H b = none → b ∉ fs → b ∉ ex → h'.get? b = some o
 slot : ∀ b o, h.get? b = some o → H b = none → b ∈ fs → b ∉ ex → ∃ sl, h'.get? b = some { o with slots := sl }
 free : ∀ b o, h.get? b = some o → H b = none → b ∉ ex → H' b = none
 there : ∀ b o, h.get? b = some o → b ∉ ex → ∃ o', h'.get? b = some o'
 tups : ∀ b xs, H b = some (.tup xs) → H' b = some (.tup xs)
 frzs : ∀ b o u, H b = some (.frz o u) → H' b = some (.frz o u)
 tbls : ∀ b ps, H b = some (.tbl ps) → ∃ more, H' b = some (.tbl (ps ++ more))
section
variable {fs fs' ex ex' : List Addr} {H H1 H2 : Hp} {h h1 h2 h' : Heap} {a x e : Addr} {o : HO}
theorem Un.any (u : Un fs ex H H1 h h1) {b : Addr} {ob : Obj} (q : h.get? b = some ob) (n : H b = none) (hx : b ∉ ex) : ∃ sl, h1.get? b = some { ob with slots := sl } := by
 by_cases hb : b ∈ fs
 ·exact u.slot b ob q n hb hx
 ·exact ⟨ob.slots, u.keep b ob q n hb hx⟩
theorem Un.kept (k : ∀ b u, h.get? b = some u → h'.get? b = some u) : Un fs ex H H h h' :=
 ⟨fun b ob q _ _ _ => k b ob q, fun b ob q _ _ _ => ⟨ob.slots, k b ob q⟩, fun _ _ _ n _ => n, fun b ob q _ => ⟨ob, k b ob q⟩, fun _ _ q => q, fun _ _ _ q => q, fun _ ps q => ⟨#[], by rw [q]; simp⟩⟩
theorem Un.refl : Un fs ex H H h h := Un.kept fun _ _ q => q
theorem Un.laid (k : ∀ b u, h.get? b = some u → h'.get? b = some u) (hp : h.objs.size ≤ a) (hn : H a = none) : Un fs ex H (upd H a o) h h' where
 keep := fun b u q _ _ _ => k b u q
 slot := fun b u q _ _ _ => ⟨u.slots, k b u q⟩
 free := fun b u q n _ => by rw [Qo (yW (zJ (kJ q) hp))]; exact n
 there := fun b u q _ => ⟨u, k b u q⟩
 tups := fun b xs q => by rw [Qo (Qh q hn)]; exact q
 frzs := fun b u xs q => by rw [Qo (Qh q hn)]; exact q
 tbls := fun b ps q => ⟨#[], by rw [Qo (Qh q hn), q]; simp⟩
theorem Un.write (mu : Mut (H x)) (he : e = x ∨ H e = some (.own x)) (k : ∀ b u, b ≠ e → h.get? b = some u → h'.get? b = some u) (heo : ∃ u, h'.get? e = some u) : Un fs ex H (upd H x o) h h' := by
 have hx : ∀ b, H b = none → b ≠ x := fun b n z => by subst z; rw [n] at mu; exact mu
 have hb : ∀ b, H b = none → b ≠ e := fun b n z => by
  subst z
  rcases he with r | r
  ·exact hx b n r
  ·rw [n] at r; cases r
 have hm : ∀ b u, H b = some u → ¬ Mut (some u) → b ≠ x := fun b u q nm z => by subst z; rw [q] at mu; exact nm mu
 refine ⟨fun b u q n _ _ => k b u (hb b n) q, fun b u q n _ _ => ⟨u.slots, k b u (hb b n) q⟩, fun b u q n _ => by rw [Qo (hx b n)]; exact n, fun b u q _ => ?_,
  fun b xs q => by rw [Qo (hm b _ q fun z => z)]; exact q, fun b u xs q => by rw [Qo (hm b _ q fun z => z)]; exact q, fun b ps q => ⟨#[], by rw [Qo (hm b _ q fun z => z), q]; simp⟩⟩
 by_cases hbe : b = e
 ·subst hbe; exact heo
 ·exact ⟨u, k b u hbe q⟩
end
def trk (h : Heap) (H : Hp) : List Addr := (List.range h.objs.size).filter fun a => (H a).isSome
def hidT (h : Heap) (H : Hp) : Heap := PySem.W.hideAll h (trk h H)
theorem Qlg (h : Heap) (H : Hp) : (hidT h H).objs.size = h.objs.size := PySem.W.hideAll_size _ _
theorem Qox {h : Heap} {H : Hp} {b : Addr} {o : Obj} (e : h.get? b = some o) (n : H b = none) : (hidT h H).get? b = some o :=
 PySem.W.hideAll_get _ e fun hm => by
  have q : (H b).isSome = true := (List.mem_filter.mp hm).2
  rw [n] at q; simp at q
theorem Qsg {h : Heap} {H : Hp} {b : Addr} {o : Obj} (e : (hidT h H).get? b = some o) : h.get? b = some o ∧ H b = none := by
 have e' : h.get? b = some o := PySem.W.of_hideAll (trk h H) e
 refine ⟨e', ?_⟩
 cases q : H b with
 | none => rfl
 | some x =>
  have hm : b ∈ trk h H := List.mem_filter.mpr ⟨wZ.mpr (kJ e'), by simp [q]⟩
  have z : (hidT h H).get? b = none := PySem.W.hideAll_none (trk h H) hm
  rw [z] at e; cases e
structure Mod (K : Fg) (mg : Str → Option Value) (base : Heap) : Prop where
 kin : K.In base
 glob : base.Ns mainGlobals mg
 blt : ∃ mb, base.Ns builtinsNs mb ∧ ∀ x : Str, x ≠ "__name__" → mb x = bootBuiltins x
 nolimit : base.NoLimit
set_option genInjectivity false in
set_option genInjectivity false in
structure Cx where
 prog : Program
 w : World
 K : Fg
 mg : Str → Option Value
 base : Heap
 A : Around
 N : List Str
 s₀ : Shared
 H₀ : Hp
 env : Env
 outer : List Env
 stack : List Env
 ex : List Addr
 fn : Str → Bool
 calm : Bool
 pn : List (Addr × Obj)
 xe : Value → Shared → Prop
def frs (l : List Env) : List Addr := l.filterMap (·.frame)
abbrev Cx.fs (X : Cx) : List Addr := frs X.outer
def Vis (sc : Scope) (x : Str) : Prop := sc.names.lookup x = some .local ∨ sc.names.lookup x = some .cell ∨ sc.names.lookup x = some .free
def Loc (sc : Scope) (x : Str) : Prop := sc.names.lookup x = some .local ∨ sc.names.lookup x = some .cell
def Look (env : Env) (h : Heap) (m : Str → Option Value) (x : Str) (u : Value) : Prop :=
 (env.kindOf x = some .local ∧ m x = some u) ∨ ((env.kindOf x = some .cell ∨ env.kindOf x = some .free) ∧ ∃ c, env.cells.lookup x = some c ∧ h.IsCell c (some u))
structure Cx.Ok (X : Cx) : Prop where
 mod : Mod X.K X.mg X.base
 kind : X.env.scope.kind = .function
 glob : X.env.globals = mainGlobals
 blt : X.env.builtins = builtinsNs
 above : X.s₀.heap.objs.size ≤ X.env.locals
 inj : ∀ x y c, X.env.cells.lookup x = some c → X.env.cells.lookup y = some c → x = y
 has : ∀ x, (X.env.kindOf x = some .cell ∨ X.env.kindOf x = some .free) → ∃ c, X.env.cells.lookup x = some c
 cab : ∀ x c, X.fn x = true → X.env.cells.lookup x = some c → X.s₀.heap.objs.size ≤ c
 hd : X.calm = true → X.A.handled = none
 frames : X.A.frames = some X.stack
 stk : X.stack = X.outer ∨ (X.stack = X.env :: X.outer ∧ X.env.frame = some X.env.locals)
 exf : ∀ b ∈ X.ex, b ≠ X.env.locals ∧ ∀ x c, X.env.cells.lookup x = some c → c ≠ b
 bs : ∀ b o, X.base.get? b = some o → X.s₀.heap.get? b = some o ∧ X.H₀ b = none
 bsz : X.base.objs.size ≤ X.s₀.heap.objs.size
 noex : ∀ b o, X.base.get? b = some o → b ∉ X.ex
 exfs : ∀ b ∈ X.ex, b ∉ X.fs
 funs : X.s₀.heap.FunFrames X.base X.outer
 frf : ∀ b ∈ X.fs, X.H₀ b = none
structure Inv (X : Cx) (pins : List (Addr × Obj)) (σ : List (Option V)) (H : Hp) (s : Shared) : Prop where
 ok : X.Ok
 os : s.os = X.s₀.os
 bare : AllBare s.gens
 base : Un X.fs X.ex X.H₀ H X.s₀.heap s.heap
 loc : ∃ m, s.heap.Ns X.env.locals m ∧ ∀ (i : Nat) (x : Str) (v : V), X.N[i]? = some x → σ[i]? = some (some v) → Vis X.env.scope x → ∃ u, RelV v u ∧ Look X.env s.heap m x u
 cell : ∀ x c, X.env.cells.lookup x = some c → ∃ v, s.heap.IsCell c v
 free : H X.env.locals = none
 freeC : ∀ x c, X.env.cells.lookup x = some c → H c = none
 pin : ∀ p ∈ X.pn ++ pins, s.heap.get? p.1 = some p.2 ∧ H p.1 = none ∧ p.1 ≠ X.env.locals ∧ p.1 ∉ X.fs ∧ ∀ v, p.2.data ≠ .cell v
 hok : HOk X.prog X.w H s.heap
 len : σ.length = X.N.length
section
variable {X : Cx} {pins : List (Addr × Obj)} {σ : List (Option V)} {H H' : Hp} {s : Shared} {h' : Heap}
theorem Cx.Ok.nofr (ok : X.Ok) {b : Addr} {o : Obj} (e : X.base.get? b = some o) : b ∉ X.fs := fun hb => by
 have := (ok.funs.mem hb).1
 rw [e] at this; cases this
theorem Inv.bs (I : Inv X pins σ H s) : ∀ b o, X.base.get? b = some o → s.heap.get? b = some o ∧ H b = none := fun b o e =>
 ⟨I.base.keep b o (I.ok.bs b o e).1 (I.ok.bs b o e).2 (I.ok.nofr e) (I.ok.noex b o e), I.base.free b o (I.ok.bs b o e).1 (I.ok.bs b o e).2 (I.ok.noex b o e)⟩
theorem Inv.bk (I : Inv X pins σ H s) : ∀ b o, X.base.get? b = some o → s.heap.get? b = some o := fun b o e => (I.bs b o e).1
theorem Inv.mod (I : Inv X pins σ H s) : Mod X.K X.mg X.base := I.ok.mod
theorem Inv.kIn (I : Inv X pins σ H s) : X.K.In s.heap := I.ok.mod.kin.keeps I.bk
theorem Inv.lt (I : Inv X pins σ H s) : X.env.locals < s.heap.objs.size := by obtain ⟨_, hn, _⟩ := I.loc; exact hn.lt
theorem Inv.sz (I : Inv X pins σ H s) : X.s₀.heap.objs.size ≤ s.heap.objs.size := jQf I.ok.above (jKd I.lt)
theorem Inv.nofs (I : Inv X pins σ H s) {a : Addr} (h : s.heap.objs.size ≤ a) : a ∉ X.fs := fun hb => by
 obtain ⟨_, o, ho, _⟩ := I.ok.funs.mem hb
 exact absurd (zJ (kJ ho) (jQf I.sz h)) (jZb _)
theorem Inv.cne (I : Inv X pins σ H s) : ∀ x c, X.env.cells.lookup x = some c → c ≠ X.env.locals := fun x c e z => by
 obtain ⟨v, o, ho, hd⟩ := I.cell x c e
 obtain ⟨m, ⟨o', es, ep, ho', hd', _⟩, _⟩ := I.loc
 rw [z, ho'] at ho; cases ho; rw [hd'] at hd; cases hd
theorem Inv.funs (I : Inv X pins σ H s) : s.heap.FunFrames X.base X.outer := by
 have all : ∀ (l : List Env), (∀ b ∈ frs l, b ∈ X.fs) → X.s₀.heap.FunFrames X.base l → s.heap.FunFrames X.base l := by
  intro l
  induction l with
  | nil => intro _ _; trivial
  | cons env r ih =>
   intro hs hl
   obtain ⟨hk, ⟨L, o, hf, hn, ho, hd⟩, hr⟩ := hl
   have hL : L ∈ X.fs := hs L (by unfold frs; rw [kYa, hf]; exact zY)
   obtain ⟨sl, e⟩ := I.base.slot L o ho (I.ok.frf L hL) hL fun z => I.ok.exfs L z hL
   exact ⟨hk, ⟨L, _, hf, hn, e, hd⟩, ih (fun b hb => hs b (by unfold frs; rw [kYa, hf]; exact zW _ hb)) hr⟩
 exact all X.outer (fun _ hb => hb) I.ok.funs
theorem Inv.stack (I : Inv X pins σ H s) : s.heap.FunFrames X.base X.stack := by
 rcases I.ok.stk with e | ⟨e, hf⟩
 ·rw [e]; exact I.funs
 ·rw [e]
  obtain ⟨m, hn, _⟩ := I.loc
  refine .cons (by rw [I.ok.kind]; decide) hf hn ?_ I.funs
  exact Heap.get?_none_of_le (jQf I.ok.bsz I.ok.above)
theorem Inv.stkSub (I : Inv X pins σ H s) : ∀ b ∈ frs X.stack, b ∈ X.env.locals :: X.fs := fun b hb => by
 rcases I.ok.stk with e | ⟨e, hf⟩
 ·rw [e] at hb; exact zW _ hb
 ·rw [e] at hb
  unfold frs at hb
  rw [kYa, hf] at hb
  exact hb
theorem Inv.stkFree (I : Inv X pins σ H s) : ∀ b ∈ frs X.stack, H b = none := fun b hb => by
 rcases yJ.mp (I.stkSub b hb) with e | hb
 ·rw [e]; exact I.free
 ·obtain ⟨_, o, ho, _⟩ := I.ok.funs.mem hb
  exact I.base.free b o ho (I.ok.frf b hb) fun z => I.ok.exfs b z hb
theorem Inv.step {g' : Array GenState} {t' : Nat} {d' : Drawn} {ch : List Addr} (I : Inv X pins σ H s)
  (hch : ∀ b ∈ ch, (b ∈ X.ex ∨ X.s₀.heap.objs.size ≤ b) ∧ b ≠ X.env.locals ∧ (∀ x c, X.env.cells.lookup x = some c → c ≠ b) ∧ ∀ p ∈ X.pn ++ pins, p.1 ≠ b)
  (keep : ∀ b o, b ≠ X.env.locals → b ∉ X.fs → b ∉ ch → s.heap.get? b = some o → H b = none → h'.get? b = some o)
  (slot : ∀ b o, b ≠ X.env.locals → b ∈ X.fs → b ∉ ch → s.heap.get? b = some o → H b = none → ∃ sl, h'.get? b = some { o with slots := sl }) (free : ∀ b o, b ∉ ch → s.heap.get? b = some o → H b = none → H' b = none)
  (there : ∀ b o, b ∉ ch → s.heap.get? b = some o → ∃ o', h'.get? b = some o')
  (tups : ∀ b xs, H b = some (.tup xs) → H' b = some (.tup xs)) (frzs : ∀ b o u, H b = some (.frz o u) → H' b = some (.frz o u)) (tbls : ∀ b ps, H b = some (.tbl ps) → ∃ more, H' b = some (.tbl (ps ++ more)))
  (ns : ∀ m, s.heap.Ns X.env.locals m → h'.Ns X.env.locals m) (hok : HOk X.prog X.w H' h') (hg : AllBare g') :
  Inv X pins σ H' { s with heap := h', gens := g', drawn := d', toks := t' } := by
 have neL : ∀ b o, X.s₀.heap.get? b = some o → b ≠ X.env.locals := fun b o e => yW (zJ (kJ e) I.ok.above)
 have neC : ∀ b o, X.s₀.heap.get? b = some o → b ∉ X.ex → b ∉ ch := fun b o e hx hb => by
  rcases (hch b hb).1 with z | z
  ·exact hx z
  ·exact absurd (zJ (kJ e) z) (jZb _)
 have cellK : ∀ x c, X.env.cells.lookup x = some c → ∀ v, s.heap.IsCell c v → h'.IsCell c v := fun x c e v ⟨o, ho, hd⟩ => by
  have nch : c ∉ ch := fun z => (hch c z).2.2.1 x c e rfl
  by_cases hc : c ∈ X.fs
  ·obtain ⟨sl, q⟩ := slot c o (I.cne x c e) hc nch ho (I.freeC x c e)
   exact ⟨_, q, hd⟩
  ·exact ⟨o, keep c o (I.cne x c e) hc nch ho (I.freeC x c e), hd⟩
 refine ⟨I.ok, I.os, hg, ⟨fun b o e n hb hx => ?_, fun b o e n hb hx => ?_, fun b o e n hx => ?_, fun b o e hx => ?_, fun b xs e => tups b xs (I.base.tups b xs e), fun b o xs e => frzs b o xs (I.base.frzs b o xs e), fun b ps e => ?_⟩, ?_, fun x c e => ?_, ?_, fun x c e => ?_, fun p hp => ?_, hok, I.len⟩
 ·exact keep b o (neL b o e) hb (neC b o e hx) (I.base.keep b o e n hb hx) (I.base.free b o e n hx)
 ·obtain ⟨sl, e1⟩ := I.base.slot b o e n hb hx
  obtain ⟨sl', e2⟩ := slot b _ (neL b o e) hb (neC b o e hx) e1 (I.base.free b o e n hx)
  exact ⟨sl', e2⟩
 ·obtain ⟨o', e1⟩ := I.base.there b o e hx
  exact free b o' (neC b o e hx) e1 (I.base.free b o e n hx)
 ·obtain ⟨o', e1⟩ := I.base.there b o e hx
  exact there b o' (neC b o e hx) e1
 ·obtain ⟨m1, e1⟩ := I.base.tbls b ps e
  obtain ⟨m2, e2⟩ := tbls b _ e1
  exact ⟨m1 ++ m2, by rw [e2, Array.append_assoc]⟩
 ·obtain ⟨m, hn, hl⟩ := I.loc
  refine ⟨m, ns m hn, fun i x v e1 e2 e3 => ?_⟩
  obtain ⟨u, r, l⟩ := hl i x v e1 e2 e3
  refine ⟨u, r, ?_⟩
  rcases l with l | ⟨k, c, e, z⟩
  ·exact .inl l
  ·exact .inr ⟨k, c, e, cellK x c e _ z⟩
 ·obtain ⟨v, z⟩ := I.cell x c e
  exact ⟨v, cellK x c e v z⟩
 ·obtain ⟨m, ⟨o, _, _, ho, _⟩, _⟩ := I.loc
  exact free _ o (fun z => (hch _ z).2.1 rfl) ho I.free
 ·obtain ⟨v, o, ho, hd⟩ := I.cell x c e
  exact free c o (fun z => (hch c z).2.2.1 x c e rfl) ho (I.freeC x c e)
 ·obtain ⟨e, n, ne, nf, d⟩ := I.pin p hp
  have nch : p.1 ∉ ch := fun z => (hch p.1 z).2.2.2 p hp rfl
  exact ⟨keep p.1 p.2 ne nf nch e n, free p.1 p.2 nch e n, ne, nf, d⟩
theorem Inv.un {t' : Nat} (I : Inv X pins σ H s) (u : Un X.fs [] H H' s.heap h') (hok : HOk X.prog X.w H' h') : Inv X pins σ H' { s with heap := h', toks := t' } := by
 obtain ⟨m, ⟨o, es, ep, ho, r⟩, _⟩ := id I.loc
 obtain ⟨sl, hL⟩ := u.any ho I.free (by simp)
 exact I.step (g' := s.gens) (d' := s.drawn) (ch := []) (fun _ z => nomatch z) (fun b o _ hb _ e n => u.keep b o e n hb (by simp)) (fun b o _ hb _ e n => u.slot b o e n hb (by simp)) (fun b o _ e n => u.free b o e n (by simp)) (fun b o _ e => u.there b o e (by simp)) u.tups u.frzs u.tbls (fun m' hm => by
  obtain ⟨o', es', ep', ho', r'⟩ := hm
  rw [ho] at ho'; cases ho'
  exact ⟨_, es', ep', hL, r'⟩) hok I.bare
theorem Inv.call {g' : Array GenState} {t' : Nat} {d' : Drawn} {ch : List Addr} (I : Inv X pins σ H s) (u : Un (frs X.stack) ch H H' s.heap h') (hok : HOk X.prog X.w H' h') (hg : AllBare g')
  (hch : ∀ b ∈ ch, (b ∈ X.ex ∨ X.s₀.heap.objs.size ≤ b) ∧ b ≠ X.env.locals ∧ (∀ x c, X.env.cells.lookup x = some c → c ≠ b) ∧ ∀ p ∈ X.pn ++ pins, p.1 ≠ b) :
  Inv X pins σ H' { s with heap := h', gens := g', drawn := d', toks := t' } := by
 obtain ⟨m, ⟨o, es, ep, ho, r⟩, _⟩ := id I.loc
 obtain ⟨sl, hL⟩ := u.any ho I.free fun z => (hch _ z).2.1 rfl
 exact I.step (ch := ch) hch (fun b o hL hb hc e n => u.keep b o e n (fun z => (yJ.mp (I.stkSub b z)).elim hL hb) hc) (fun b o _ _ hc e n => u.any e n hc) (fun b o hc e n => u.free b o e n hc) (fun b o hc e => u.there b o e hc) u.tups u.frzs u.tbls (fun m' hm => by
  obtain ⟨o', es', ep', ho', r'⟩ := hm
  rw [ho] at ho'; cases ho'
  exact ⟨_, es', ep', hL, r'⟩) hok hg
theorem Inv.turned {t' : Nat} {it : Addr} (I : Inv X pins σ H s) (k : ∀ b o, b ≠ it → s.heap.get? b = some o → h'.get? b = some o) (hn : H it = none) (hL : it ≠ X.env.locals)
  (h1 : it ∈ X.ex ∨ X.s₀.heap.objs.size ≤ it) (h2 : ∀ x c, X.env.cells.lookup x = some c → c ≠ it) (h3 : ∀ p ∈ X.pn ++ pins, p.1 ≠ it) : Inv X pins σ H { s with heap := h', toks := t' } := by
 have nit : ∀ b u, H b = some u → b ≠ it := fun b u e z => by rw [z, hn] at e; cases e
 refine I.step (g' := s.gens) (d' := s.drawn) (ch := [it]) (fun b hb => ?_) (fun b o _ _ hc e _ => k b o (fun z => hc (by simp [z])) e) (fun b o _ _ hc e _ => ⟨o.slots, k b o (fun z => hc (by simp [z])) e⟩) (fun _ _ _ _ n => n)
  (fun b o hc e => ⟨o, k b o (fun z => hc (by simp [z])) e⟩) (fun _ _ e => e) (fun _ _ _ e => e) (fun b ps e => ⟨#[], by rw [e]; simp⟩) (fun m hm => ?_) (fun b u e => ?_) I.bare
 ·have e : b = it := by simpa using hb
  subst e
  exact ⟨h1, hL, h2, h3⟩
 ·obtain ⟨o, es, ep, ho, r⟩ := hm
  exact ⟨o, es, ep, k _ o (Ne.symm hL) ho, r⟩
 ·refine (I.hok b u e).stay (fun c v hc q => k c v ?_ q) (fun _ q => q) fun _ _ q => q
  rcases hc with z | z
  ·rw [z]; exact nit b u e
  ·exact nit c _ z
theorem Inv.tok (I : Inv X pins σ H s) (t : Nat) : Inv X pins σ H { s with toks := t } := I.un (h' := s.heap) (t' := t) Un.refl I.hok
theorem Inv.kept {t' : Nat} (I : Inv X pins σ H s) (k : ∀ b u, s.heap.get? b = some u → h'.get? b = some u) : Inv X pins σ H { s with heap := h', toks := t' } := I.un (Un.kept k) (I.hok.kept k)
theorem Inv.laid {a : Addr} {o : HO} {t' : Nat} (I : Inv X pins σ H s) (k : ∀ b u, s.heap.get? b = some u → h'.get? b = some u) (hp : s.heap.objs.size ≤ a) (new : ObjOk X.prog X.w (upd H a o) h' a o) :
  Inv X pins σ (upd H a o) { s with heap := h', toks := t' } := I.un (Un.laid k hp (I.hok.fresh hp)) (I.hok.laid k hp new)
theorem Inv.write {x e : Addr} {o : HO} {t' : Nat} (I : Inv X pins σ H s) (mu : Mut (H x)) (he : e = x ∨ H e = some (.own x)) (k : ∀ b u, b ≠ e → s.heap.get? b = some u → h'.get? b = some u) (heo : ∃ u, h'.get? e = some u)
  (new : ObjOk X.prog X.w (upd H x o) h' x o) : Inv X pins σ (upd H x o) { s with heap := h', toks := t' } := I.un (Un.write mu he k heo) (I.hok.write mu he k heo new)
theorem Inv.pins_of {pins' : List (Addr × Obj)} (I : Inv X pins σ H s) (h : ∀ p ∈ pins', s.heap.get? p.1 = some p.2 ∧ H p.1 = none ∧ p.1 ≠ X.env.locals ∧ p.1 ∉ X.fs ∧ ∀ v, p.2.data ≠ .cell v) : Inv X pins' σ H s :=
 ⟨I.ok, I.os, I.bare, I.base, I.loc, I.cell, I.free, I.freeC, fun p hp => (wJ.mp hp).elim (fun z => I.pin p (kXe _ z)) (h p), I.hok, I.len⟩
theorem Qhw {N : List Str} (hN : N.Nodup) {i j : Nat} {x : Str} (a : N[i]? = some x) (b : N[j]? = some x) : i = j := by
 obtain ⟨h1, e1⟩ := yK.mp a
 obtain ⟨h2, e2⟩ := yK.mp b
 exact (List.getElem_inj hN).mp (e1.trans e2.symm)
theorem Qei {M : Model} {A : Around} {E : Value → Shared → Prop} {i : Nat} {x : Str} {v : V} {u : Value} {Q : Unit → Shared → Prop} (I : Inv X pins σ H s) (hN : X.N.Nodup) (hi : X.N[i]? = some x) (hx : Loc X.env.scope x) (r : RelV v u)
  (h : ∀ s', Inv X pins (σ.set i (some v)) H s' → (∃ a, Heap.SameBut a s.heap s'.heap ∧ (a = X.env.locals ∨ X.env.cells.lookup x = some a)) → Q () s') (hf : autoParam (X.fn x = true ∨ X.env.scope.names.lookup x = some .local) L2.aFst._auto_1) : wpAny M A (storeName X.env x u) Q E s := by
 obtain ⟨m, hn, hl⟩ := id I.loc
 have hcls : (X.env.scope.kind == .class || (X.env.scope.kind == .module && X.env.locals != X.env.globals)) = false := by rw [I.ok.kind]; rfl
 have hiσ : i < σ.length := by rw [I.len]; exact (yK.mp hi).1
 have cne := I.cne
 have tracked : ∀ {a : Addr} {h' : Heap}, (∃ o, s.heap.get? a = some o ∧ H a = none) → Heap.SameBut a s.heap h' → HOk X.prog X.w H h' := fun {a h'} ha hs b ob e => by
  obtain ⟨_, _, hfree⟩ := ha
  refine (I.hok b ob e).stay (fun c w' hc q => (hs.2 c ?_).trans q) (fun _ q => q) fun _ _ q => q
  rintro rfl
  rcases hc with rfl | hc
  ·rw [hfree] at e; cases e
  ·rw [hfree] at hc; cases hc
 rcases hx with hk | hk
 ·refine wpAny_storeName_local hk hn (fun h' hn' hs => ?_) hcls
  obtain ⟨oL, _, _, hoL, _⟩ := id hn
  refine h _ ⟨I.ok, I.os, I.bare, ⟨fun b o e n hb hx => ?_, fun b o e n hb hx => ?_, I.base.free, fun b o e hx => ?_, I.base.tups, I.base.frzs, I.base.tbls⟩, ⟨_, hn', fun j y v' e1 e2 e3 => ?_⟩, fun y c e => ?_, I.free, I.freeC, fun p hp => ?_, tracked ⟨oL, hoL, I.free⟩ hs, by simpa using I.len⟩ ⟨_, hs, .inl rfl⟩
  ·exact (hs.2 b (yW (zJ (kJ e) I.ok.above))).trans (I.base.keep b o e n hb hx)
  ·obtain ⟨sl, e1⟩ := I.base.slot b o e n hb hx
   exact ⟨sl, (hs.2 b (yW (zJ (kJ e) I.ok.above))).trans e1⟩
  ·obtain ⟨o', e1⟩ := I.base.there b o e hx
   exact ⟨o', (hs.2 b (yW (zJ (kJ e) I.ok.above))).trans e1⟩
  ·by_cases hj : j = i
   ·subst hj
    rw [hi] at e1; cases e1
    rw [kQe hiσ] at e2
    cases e2
    exact ⟨u, r, .inl ⟨hk, by simp⟩⟩
   ·rw [kXf (Ne.symm hj)] at e2
    obtain ⟨u', r', q⟩ := hl j y v' e1 e2 e3
    refine ⟨u', r', ?_⟩
    rcases q with ⟨k, e⟩ | ⟨k, c, e, z⟩
    ·refine .inl ⟨k, ?_⟩
     have : y ≠ x := fun e => hj (Qhw hN e1 (e ▸ hi))
     simp [this, e]
    ·exact .inr ⟨k, c, e, z.sameBut hs (cne y c e)⟩
  ·obtain ⟨w', z⟩ := I.cell y c e
   exact ⟨w', z.sameBut hs (cne y c e)⟩
  ·obtain ⟨e, n, ne, nf, d⟩ := I.pin p hp
   exact ⟨(hs.2 p.1 ne).trans e, n, ne, nf, d⟩
 ·have hfn : X.fn x = true := by
   rcases hf with z | z
   ·exact z
   ·rw [z] at hk; cases hk
  obtain ⟨c, hc⟩ := I.ok.has x (.inl hk)
  obtain ⟨w', z⟩ := I.cell x c hc
  refine wpAny_storeName_cell I.ok.kind hk hc z (fun h' hc' hs => ?_)
  obtain ⟨oc, hoc, hocd⟩ := id z
  refine h { s with heap := h' } ⟨I.ok, I.os, I.bare, ⟨fun b o e n hb hx => ?_, fun b o e n hb hx => ?_, I.base.free, fun b o e hx => ?_, I.base.tups, I.base.frzs, I.base.tbls⟩, ⟨m, hn.sameBut hs (Ne.symm (cne x c hc)), fun j y v' e1 e2 e3 => ?_⟩, fun y c' e => ?_, I.free, I.freeC, fun p hp => ?_, tracked ⟨oc, hoc, I.freeC x c hc⟩ hs, by simpa using I.len⟩ ⟨c, hs, .inr hc⟩
  ·exact (hs.2 b (yW (zJ (kJ e) (I.ok.cab x c hfn hc)))).trans (I.base.keep b o e n hb hx)
  ·obtain ⟨sl, e1⟩ := I.base.slot b o e n hb hx
   exact ⟨sl, (hs.2 b (yW (zJ (kJ e) (I.ok.cab x c hfn hc)))).trans e1⟩
  ·obtain ⟨o', e1⟩ := I.base.there b o e hx
   exact ⟨o', (hs.2 b (yW (zJ (kJ e) (I.ok.cab x c hfn hc)))).trans e1⟩
  ·by_cases hj : j = i
   ·subst hj
    rw [hi] at e1; cases e1
    rw [kQe hiσ] at e2
    cases e2
    exact ⟨u, r, .inr ⟨.inl hk, c, hc, hc'⟩⟩
   ·rw [kXf (Ne.symm hj)] at e2
    obtain ⟨u', r', q⟩ := hl j y v' e1 e2 e3
    refine ⟨u', r', ?_⟩
    rcases q with q | ⟨k, c', e, z'⟩
    ·exact .inl q
    ·refine .inr ⟨k, c', e, z'.sameBut hs ?_⟩
     rintro rfl
     exact hj (Qhw hN e1 (I.ok.inj _ _ _ e hc ▸ hi))
  ·by_cases hcc : c' = c
   ·subst hcc; exact ⟨_, hc'⟩
   ·obtain ⟨w2, z2⟩ := I.cell y c' e
    exact ⟨w2, z2.sameBut hs hcc⟩
  ·obtain ⟨e, n, ne, nf, d⟩ := I.pin p hp
   refine ⟨(hs.2 p.1 ?_).trans e, n, ne, nf, d⟩
   intro q
   rw [q, hoc] at e
   have q' : oc = p.2 := Option.some.inj e
   exact d w' (by rw [← q']; exact hocd)
theorem Vr {M : Model} {A : Around} {E : Value → Shared → Prop} {i : Nat} {x : Str} {v : V} {u : Value} {Q : Unit → Shared → Prop} (I : Inv X pins σ H s) (hN : X.N.Nodup) (hi : X.N[i]? = some x) (hx : Loc X.env.scope x) (r : RelV v u)
  (h : ∀ s', Inv X pins (σ.set i (some v)) H s' → Q () s') (hf : autoParam (X.fn x = true ∨ X.env.scope.names.lookup x = some .local) L2.aFst._auto_1) : wpAny M A (storeName X.env x u) Q E s :=
 Qei I hN hi hx r (fun s' I' _ => h s' I') hf
theorem Inv.call' {s' : Shared} {ch : List Addr} (I : Inv X pins σ H s) (ho : s'.os = s.os) (u : Un (frs X.stack) ch H H' s.heap s'.heap) (hok : HOk X.prog X.w H' s'.heap) (hg : AllBare s'.gens)
  (hch : ∀ b ∈ ch, (b ∈ X.ex ∨ X.s₀.heap.objs.size ≤ b) ∧ b ≠ X.env.locals ∧ (∀ x c, X.env.cells.lookup x = some c → c ≠ b) ∧ ∀ p ∈ X.pn ++ pins, p.1 ≠ b) : Inv X pins σ H' s' := by
 obtain ⟨h', g', d', t', o'⟩ := s'
 have e : o' = s.os := ho
 subst e
 exact I.call (g' := g') (t' := t') (d' := d') u hok hg hch
end
abbrev XK := Value → Option Addr → Hp → Prop
abbrev St := List (Option V)
abbrev VK := V → Hp → Prop
abbrev TE := St → Hp → VK → Prop
abbrev TT := St → Hp → (Bool → Hp → Prop) → Prop
abbrev TA := St → Hp → (List V → Hp → Prop) → Prop
set_option genInjectivity false in
set_option genInjectivity false in
structure Ends where
 nx : St → Hp → Prop
 rt : VK
 bk : St → Hp → Prop := fun _ _ => False
 ct : St → Hp → Prop := fun _ _ => False
abbrev TS := Ends → St → Hp → Prop
def EP (X : Cx) (pins : List (Addr × Obj)) (σ : St) (Q : VK) (u : Value) (s' : Shared) : Prop := ∃ v H', Inv X pins σ H' s' ∧ RelV v u ∧ Q v H'
def TP (X : Cx) (pins : List (Addr × Obj)) (σ : St) (Q : Bool → Hp → Prop) (b : Bool) (s' : Shared) : Prop := ∃ H', Inv X pins σ H' s' ∧ Q b H'
def AP (X : Cx) (pins : List (Addr × Obj)) (σ : St) (Q : List V → Hp → Prop) (us : List Value) (s' : Shared) : Prop := ∃ vs H', Inv X pins σ H' s' ∧ Vals vs us ∧ Q vs H'
def SP (X : Cx) (pins : List (Addr × Obj)) (D : Ends) (f : Flow) (s' : Shared) : Prop :=
 match f with
 | .next => ∃ σ' H', Inv X pins σ' H' s' ∧ D.nx σ' H'
 | .brk => ∃ σ' H', Inv X pins σ' H' s' ∧ D.bk σ' H'
 | .cont => ∃ σ' H', Inv X pins σ' H' s' ∧ D.ct σ' H'
 | .ret u => ∃ v σ' H', Inv X pins σ' H' s' ∧ RelV v u ∧ D.rt v H'
def PE (X : Cx) (e : Expr) (t : TE) : Prop :=
 ∀ (pins : List (Addr × Obj)) (s : Shared) (σ : St) (H : Hp) (Q : VK), Inv X pins σ H s → t σ H Q → wpAny (model X.prog X.w) X.A (eval e X.env) (EP X pins σ Q) X.xe s
def PT (X : Cx) (e : Expr) (t : TT) : Prop :=
 ∀ (pins : List (Addr × Obj)) (s : Shared) (σ : St) (H : Hp) (Q : Bool → Hp → Prop), Inv X pins σ H s → t σ H Q → wpAny (model X.prog X.w) X.A (isTrue e X.env (eval e X.env)) (TP X pins σ Q) X.xe s
def PW (X : Cx) (e : Expr) (t : TT) : Prop :=
 ∀ (whole : Sem Value) (pins : List (Addr × Obj)) (s : Shared) (σ : St) (H : Hp) (Q : Bool → Hp → Prop), Inv X pins σ H s → t σ H Q → wpAny (model X.prog X.w) X.A (isTrue e X.env whole) (TP X pins σ Q) X.xe s
theorem PW.pt {X : Cx} {e : Expr} {t : TT} (h : PW X e t) : PT X e t := h _
def PA (X : Cx) (es : List Expr) (t : TA) : Prop :=
 ∀ (pos : Pos) (pins : List (Addr × Obj)) (s : Shared) (σ : St) (H : Hp) (Q : List V → Hp → Prop), Inv X pins σ H s → t σ H Q → wpAny (model X.prog X.w) X.A (spliced (backTo pos (starEach es X.env))) (AP X pins σ Q) X.xe s
def PS (X : Cx) (st : Stmt) (t : TS) : Prop :=
 ∀ (pins : List (Addr × Obj)) (s : Shared) (σ : St) (H : Hp) (D : Ends), Inv X pins σ H s → t D σ H → wpAny (model X.prog X.w) X.A (exec st X.env) (SP X pins D) X.xe s
def PSs (X : Cx) (st : List Stmt) (t : TS) : Prop :=
 ∀ (pins : List (Addr × Obj)) (s : Shared) (σ : St) (H : Hp) (D : Ends), Inv X pins σ H s → t D σ H → wpAny (model X.prog X.w) X.A (execs st X.env) (SP X pins D) X.xe s
theorem thn {α : Type} {t : Sem α} {Q Q' : α → Shared → Prop} {M : Model} {A : Around} {E : Value → Shared → Prop} {s : Shared} (h : wpAny M A t Q E s) (hQ : ∀ a s, Q a s → Q' a s) : wpAny M A t Q' E s := wpAny_mono h hQ fun _ _ x => x
section
variable {X : Cx}
def tVar (i : Nat) : TE := fun σ H Q => ∃ v, σ[i]? = some (some v) ∧ Q v H
def tC (v : V) : TE := fun _ H Q => Q v H
theorem pe_var {i : Nat} {x : Str} {pos : Pos} (hN : X.N[i]? = some x) (hv : Vis X.env.scope x) (hd : autoParam ((x == ("__debug__" : Str)) = false) L2.aDec._auto_1) (hcd : autoParam ((x == ("__classdict__" : Str)) = false) L2.aDec._auto_1) : PE X (.Name x pos) (tVar i) := by
 intro pins s σ H Q I h
 obtain ⟨v, e, h⟩ := h
 obtain ⟨m, hn, hl⟩ := I.loc
 obtain ⟨u, r, l⟩ := hl i x v hN e hv
 have fin : EP X pins σ Q u s := ⟨v, H, I, r, h⟩
 rcases l with ⟨hk, hm⟩ | ⟨hk, c, hc, hcell⟩
 ·exact wpAny_Name (wpAny_loadName_local I.ok.kind hk hn hm fin) hd
 ·rcases hk with hk | hk
  ·exact wpAny_Name (wpAny_loadName_cell I.ok.kind hk hc hcell fin) hd
  ·exact wpAny_Name (wpAny_loadName_free I.ok.kind hk hc hcell fin hcd) hd
theorem Qd {i j pos} : PE X (.Constant (.int i) j pos) (tC (.int i)) := fun _ _ _ H _ I h => wpAny_Constant_int ⟨.int i, H, I.tok _, ⟨_, rfl⟩, h⟩
theorem Qgq {b j pos} : PE X (.Constant (.bool b) j pos) (tC (.bl b)) := fun _ _ _ H _ I h => Constant_bool ⟨.bl b, H, I, rfl, h⟩
theorem Xy {j pos} : PE X (.Constant .none j pos) (tC .non) := fun _ _ _ H _ I h => Constant_none ⟨.non, H, I, rfl, h⟩
theorem Yp {x j pos} : PE X (.Constant (.str x) j pos) (tC (.str x)) := fun _ _ _ H _ I h => Calls.Constant_str ⟨.str x, H, I.tok _, ⟨_, rfl⟩, h⟩
def Gl (X : Cx) (x : Str) : Prop := X.env.kindOf x = some .globalImplicit
theorem Qlh {E : Value → Shared → Prop} {pins : List (Addr × Obj)} {s : Shared} {σ : St} {H : Hp} {x : Str} {u : Value} {pos : Pos} {Q : Value → Shared → Prop} (I : Inv X pins σ H s) (hg : Gl X x) (hm : X.mg x = some u) (h : Q u s)
  (hd : autoParam ((x == ("__debug__" : Str)) = false) L2.aDec._auto_1) : wpAny (model X.prog X.w) X.A (eval (.Name x pos) X.env) Q E s :=
 Calls.Name_function_global I.ok.kind hg (Calls.loadGlobal_global (by rw [I.ok.glob]; exact I.mod.glob.keeps I.bk) hm h) hd
theorem Qab {E : Value → Shared → Prop} {pins : List (Addr × Obj)} {s : Shared} {σ : St} {H : Hp} {x : Str} {u : Value} {pos : Pos} {Q : Value → Shared → Prop} (I : Inv X pins σ H s) (hg : Gl X x) (hm : X.mg x = none) (hv : bootBuiltins x = some u) (h : Q u s)
  (hn : autoParam (x ≠ "__name__") L2.aDec._auto_1) (hd : autoParam ((x == ("__debug__" : Str)) = false) L2.aDec._auto_1) : wpAny (model X.prog X.w) X.A (eval (.Name x pos) X.env) Q E s := by
 obtain ⟨mb, h1, h2⟩ := I.mod.blt
 exact Calls.Name_function_global I.ok.kind hg (Calls.loadGlobal_builtin (by rw [I.ok.glob]; exact I.mod.glob.keeps I.bk) hm (by rw [I.ok.blt]; exact h1.keeps I.bk) ((h2 x hn).trans hv) h) hd
theorem Qgr {x : Str} {v : V} {u : Value} {pos : Pos} (hg : Gl X x) (hm : X.mg x = some u) (r : RelV v u) (hd : autoParam ((x == ("__debug__" : Str)) = false) L2.aDec._auto_1) : PE X (.Name x pos) (tC v) :=
 fun _ _ _ H _ I h => Qlh I hg hm ⟨v, H, I, r, h⟩ hd
theorem Qsh {x : Str} {v : V} {u : Value} {pos : Pos} (hg : Gl X x) (hm : X.mg x = none) (hv : bootBuiltins x = some u) (r : RelV v u) (hn : autoParam (x ≠ "__name__") L2.aDec._auto_1) (hd : autoParam ((x == ("__debug__" : Str)) = false) L2.aDec._auto_1) : PE X (.Name x pos) (tC v) :=
 fun _ _ _ H _ I h => Qab I hg hm hv ⟨v, H, I, r, h⟩ hn hd
variable {a b : Expr} {ta tb : TE} {pos : Pos}
def PC (X : Cx) (op : CmpOp) (a b : Expr) (t : TE) : Prop :=
 ∀ (pins : List (Addr × Obj)) (s : Shared) (σ : St) (H : Hp) (Q : VK), Inv X pins σ H s → t σ H Q →
  wpAny (model X.prog X.w) X.A (eval a X.env) (fun v s₁ => wpAny (model X.prog X.w) X.A (eval b X.env) (fun u s₂ => wpAny (model X.prog X.w) X.A (compareOp op v u) (EP X pins σ Q) X.xe s₂) X.xe s₁) X.xe s
def tB (t : TE) : TT := fun σ H Q => t σ H fun x H1 => ∃ c, x = .bl c ∧ Q c H1
theorem Qrj {op : CmpOp} {t : TE} (h : PC X op a b t) (h1 : behindInMarks op b = false := by first | exact nobehind _ (by decide) (by decide) | rfl) : PT X (.Compare a [op] [b] pos) (tB t) := by
 intro pins s σ H Q I hw
 refine wpAny_isTrue_Compare1 (thn (h pins s σ H _ I hw) fun v s1 h1 => thn h1 fun u s2 h2 => thn h2 fun c s3 hqP => ?_) h1
 obtain ⟨x, H1, I1, r1, q1⟩ := hqP
 obtain ⟨d, rfl, q⟩ := q1
 cases r1
 exact wpAny_truthy_bool ⟨H1, I1, q⟩
theorem Ya {e : Expr} {t : TE} (h : PE X e t) (he : autoParam (∀ whole, isTrue e X.env whole = (do let v ← whole; standAt e.pos; holding [v] (truthy v))) L2.aIrf._auto_1) : PT X e (tB t) := by
 intro pins s σ H Q I hw
 refine isTrue_plain (thn (h pins s σ H _ I hw) fun v s1 hqP => ?_) (he _)
 obtain ⟨x, H1, I1, r1, q1⟩ := hqP
 obtain ⟨d, rfl, q⟩ := q1
 cases r1
 exact wpAny_truthy_bool ⟨H1, I1, q⟩
variable {tA tB' : TT} {rest : List Expr}
def tAnd (t u : TT) : TT := fun σ H Q => t σ H fun c H1 => if c = true then u σ H1 Q else Q false H1
def tOr (t u : TT) : TT := fun σ H Q => t σ H fun c H1 => if c = true then Q true H1 else u σ H1 Q
def tNot (t : TT) : TT := fun σ H Q => t σ H fun c H1 => Q (!c) H1
theorem Jl (ha : PT X a tA) : PW X (.BoolOp .And [a] pos) tA := by
 intro wh pins s σ H Q I h
 refine isTrue_and (thn (ha pins s σ H Q I h) fun c s1 e => ?_)
 cases c with
 | true => exact isTrue_and_nil e
 | false => exact e
theorem Jf (ha : PT X a tA) : PW X (.BoolOp .Or [a] pos) tA := by
 intro wh pins s σ H Q I h
 refine isTrue_or (thn (ha pins s σ H Q I h) fun c s1 e => ?_)
 cases c with
 | false => exact isTrue_or_nil e
 | true => exact e
theorem Kc (ha : PT X a tA) (hb : PW X (.BoolOp .And (b :: rest) pos) tB') : PW X (.BoolOp .And (a :: b :: rest) pos) (tAnd tA tB') := by
 intro wh pins s σ H Q I h
 refine isTrue_and (thn (ha pins s σ H _ I h) fun c s1 hqP => ?_)
 obtain ⟨H1, I1, q1⟩ := hqP
 cases c with
 | true => exact hb wh pins s1 σ H1 Q I1 q1
 | false => exact ⟨H1, I1, q1⟩
theorem Ki (ha : PT X a tA) (hb : PW X (.BoolOp .Or (b :: rest) pos) tB') : PW X (.BoolOp .Or (a :: b :: rest) pos) (tOr tA tB') := by
 intro wh pins s σ H Q I h
 refine isTrue_or (thn (ha pins s σ H _ I h) fun c s1 hqP => ?_)
 obtain ⟨H1, I1, q1⟩ := hqP
 cases c with
 | true => exact ⟨H1, I1, q1⟩
 | false => exact hb wh pins s1 σ H1 Q I1 q1
theorem Yh (ha : PT X a tA) : PT X (.UnaryOp .Not a pos) (tNot tA) := by
 intro pins s σ H Q I h
 exact isTrue_not (ha pins s σ H (fun c H1 => Q (!c) H1) I h)
def tAndV (ta tb : TE) : TE := fun σ H Q => ta σ H fun x H1 => ∃ c, x = .bl c ∧ if c = true then tb σ H1 Q else Q (.bl false) H1
def tOrV (ta tb : TE) : TE := fun σ H Q => ta σ H fun x H1 => ∃ c, x = .bl c ∧ if c = true then Q (.bl true) H1 else tb σ H1 Q
def tNotV (ta : TE) : TE := fun σ H Q => ta σ H fun x H1 => ∃ c, x = .bl c ∧ Q (.bl (!c)) H1
theorem Kj {op} {t : TE} (h : PE X a t) : PE X (.BoolOp op [a] pos) t := fun pins s σ H Q I hw => BoolOp_one (h pins s σ H Q I hw)
theorem Jo (ha : PE X a ta) (hb : PE X (.BoolOp .And (b :: rest) pos) tb) : PE X (.BoolOp .And (a :: b :: rest) pos) (tAndV ta tb) := by
 intro pins s σ H Q I h
 refine BoolOp_and (thn (ha pins s σ H _ I h) fun v s1 hqP => ?_)
 obtain ⟨x, H1, I1, r1, q1⟩ := hqP
 obtain ⟨c, rfl, q1⟩ := q1
 cases r1
 refine wpAny_truthy_bool ?_
 cases c with
 | true => exact hb pins s1 σ H1 Q I1 q1
 | false => exact ⟨.bl false, H1, I1, rfl, q1⟩
theorem pe_or (ha : PE X a ta) (hb : PE X (.BoolOp .Or (b :: rest) pos) tb) : PE X (.BoolOp .Or (a :: b :: rest) pos) (tOrV ta tb) := by
 intro pins s σ H Q I h
 refine BoolOp_or (thn (ha pins s σ H _ I h) fun v s1 hqP => ?_)
 obtain ⟨x, H1, I1, r1, q1⟩ := hqP
 obtain ⟨c, rfl, q1⟩ := q1
 cases r1
 refine wpAny_truthy_bool ?_
 cases c with
 | false => exact hb pins s1 σ H1 Q I1 q1
 | true => exact ⟨.bl true, H1, I1, rfl, q1⟩
theorem Qrk (ha : PE X a ta) : PE X (.UnaryOp .Not a pos) (tNotV ta) := by
 intro pins s σ H Q I h
 refine UnaryOp_ (thn (ha pins s σ H _ I h) fun v s1 hqP => ?_)
 obtain ⟨x, H1, I1, r1, q1⟩ := hqP
 obtain ⟨c, rfl, q1⟩ := q1
 cases r1
 exact not_of (wpAny_truthy_bool ⟨.bl (!c), H1, I1, rfl, q1⟩)
end
def SqL (K : Fg) (H : Hp) (a : Addr) (xs : List V) : Prop :=
 Rd H a (.lst xs) ∨
  ∃ (o : Obj) (its : Array Value) (n : Nat), K.lookup a = some o ∧ o.cls = .type "list" ∧ o.dict = none ∧ o.data = .seq its n ∧ its.size ≤ sizeLine ∧ Vals xs its.toList
def SqT (K : Fg) (H : Hp) (a : Addr) (xs : List V) : Prop :=
 Rd H a (.tup xs) ∨
  ∃ (o : Obj) (its : Array Value) (n : Nat), K.lookup a = some o ∧ o.cls = .type "tuple" ∧ o.data = .seq its n ∧ its.size ≤ sizeLine ∧ Vals xs its.toList
def absV : Value → Option V
 | .none => some .non
 | .bool b => some (.bl b)
 | .int i _ => some (.int i)
 | .str x _ => some (.str x)
 | .bytes b _ => some (.byt b)
 | .float b _ => some (.flt b)
 | .ref a => some (.ref a)
 | .type n => some (.ty n)
 | _ => none
theorem RelV.abs {x : V} {u : Value} (r : RelV x u) : absV u = some x := by
 cases x with
 | non => cases r; rfl
 | bl _ => cases r; rfl
 | int _ => obtain ⟨t, rfl⟩ := r; rfl
 | str _ => obtain ⟨t, rfl⟩ := r; rfl
 | byt _ => obtain ⟨t, rfl⟩ := r; rfl
 | flt _ => obtain ⟨t, rfl⟩ := r; rfl
 | ref _ => cases r; rfl
 | ty _ => cases r; rfl
theorem RelV.inj {x y : V} {u : Value} (r : RelV x u) (q : RelV y u) : x = y := Option.some.inj (r.abs.symm.trans q.abs)
theorem Vals.inj {xs ys : List V} {us : List Value} (h : Vals xs us) (g : Vals ys us) : xs = ys := by
 induction h generalizing ys with
 | nil => cases g; rfl
 | cons r t ih =>
  cases g with
  | cons r' t' => rw [r.inj r', ih t']
section
variable {X : Cx} {pins : List (Addr × Obj)} {σ : St} {H : Hp} {s : Shared} {a : Addr} {xs ys : List V}
theorem Inv.list (I : Inv X pins σ H s) (h : SqL X.K H a xs) : ∃ its : List Value, Vals xs its ∧ PlainL s.heap a its.toArray ∧ xs.length ≤ sizeLine := by
 rcases h with h | ⟨o, its, n, hk, hc, hd, hs, hz, r⟩
 ·obtain ⟨z, its, n, r, e⟩ := h.ok I.hok
  exact ⟨its, r, ⟨_, n, e, rfl, rfl, rfl⟩, z⟩
 ·refine ⟨its.toList, r, ⟨o, n, I.kIn a o hk, hc, hd, by simpa using hs⟩, ?_⟩
  have e := r.length
  simp only [wV] at e
  omega
theorem Inv.tuple (I : Inv X pins σ H s) (h : SqT X.K H a xs) : ∃ its : List Value, Vals xs its ∧ IsTup s.heap a its.toArray ∧ xs.length ≤ sizeLine := by
 rcases h with h | ⟨o, its, n, hk, hc, hs, hz, r⟩
 ·obtain ⟨z, its, r, p⟩ := h.ok I.hok
  exact ⟨its, r, p, z⟩
 ·refine ⟨its.toList, r, ⟨o, I.kIn a o hk, hc, n, by simpa using hs⟩, ?_⟩
  have e := r.length
  simp only [wV] at e
  omega
theorem Inv.list_inj (I : Inv X pins σ H s) (h : SqL X.K H a xs) (h' : SqL X.K H a ys) : xs = ys := by
 obtain ⟨its, r, ⟨o, n, e, _, _, d⟩, _⟩ := I.list h
 obtain ⟨its', r', ⟨o', n', e', _, _, d'⟩, _⟩ := I.list h'
 rw [e] at e'; cases e'
 rw [d] at d'
 injection d' with d1 _
 have : its = its' := by simpa using congrArg Array.toList d1
 subst this
 exact r.inj r'
theorem Inv.tuple_inj (I : Inv X pins σ H s) (h : SqT X.K H a xs) (h' : SqT X.K H a ys) : xs = ys := by
 obtain ⟨its, r, ⟨o, e, _, n, d⟩, _⟩ := I.tuple h
 obtain ⟨its', r', ⟨o', e', _, n', d'⟩, _⟩ := I.tuple h'
 rw [e] at e'; cases e'
 rw [d] at d'
 injection d' with d1 _
 have : its = its' := by simpa using congrArg Array.toList d1
 subst this
 exact r.inj r'
end
abbrev Cx.wish (X : Cx) (E : Value → Shared → Prop) : Cx := { X with xe := E }
abbrev Cx.nox (X : Cx) : Cx := X.wish fun _ _ => False
theorem Cx.Ok.wish {X : Cx} (ok : X.Ok) (E : Value → Shared → Prop) : (X.wish E).Ok :=
 ⟨ok.mod, ok.kind, ok.glob, ok.blt, ok.above, ok.inj, ok.has, ok.cab, ok.hd, ok.frames, ok.stk, ok.exf, ok.bs, ok.bsz, ok.noex, ok.exfs, ok.funs, ok.frf⟩
theorem Cx.Ok.unwish {X : Cx} {E : Value → Shared → Prop} (ok : (X.wish E).Ok) : X.Ok :=
 ⟨ok.mod, ok.kind, ok.glob, ok.blt, ok.above, ok.inj, ok.has, ok.cab, ok.hd, ok.frames, ok.stk, ok.exf, ok.bs, ok.bsz, ok.noex, ok.exfs, ok.funs, ok.frf⟩
section
variable {X : Cx} {pins : List (Addr × Obj)} {σ : St} {H : Hp} {s : Shared} {E : Value → Shared → Prop}
theorem Inv.wish (I : Inv X pins σ H s) (E : Value → Shared → Prop) : Inv (X.wish E) pins σ H s := ⟨I.ok.wish E, I.os, I.bare, I.base, I.loc, I.cell, I.free, I.freeC, I.pin, I.hok, I.len⟩
theorem Inv.unwish (I : Inv (X.wish E) pins σ H s) : Inv X pins σ H s := ⟨I.ok.unwish, I.os, I.bare, I.base, I.loc, I.cell, I.free, I.freeC, I.pin, I.hok, I.len⟩
theorem SP.unwish {D : Ends} {f : Flow} {s' : Shared} (h : SP (X.wish E) pins D f s') : SP X pins D f s' := by
 cases f with
 | next => obtain ⟨σ', H', I, q⟩ := h; exact ⟨σ', H', I.unwish, q⟩
 | brk => obtain ⟨σ', H', I, q⟩ := h; exact ⟨σ', H', I.unwish, q⟩
 | cont => obtain ⟨σ', H', I, q⟩ := h; exact ⟨σ', H', I.unwish, q⟩
 | ret u => obtain ⟨v, σ', H', I, r, q⟩ := h; exact ⟨v, σ', H', I.unwish, r, q⟩
theorem PSs.nox {st : List Stmt} {t : TS} (h : PSs X.nox st t) : PSs X st t := fun pins s σ H D I hw =>
 wpAny_mono (h pins s σ H D (I.wish _) hw) (fun _ _ q => q.unwish) fun _ _ z => False.elim z
end
section
variable {X : Cx} {st : Stmt} {rest : List Stmt} {t u : TS} {e : Expr} {te : TE} {pos : Pos}
def tNext : TS := fun D σ H => D.nx σ H
def tSeq (t u : TS) : TS := fun D σ H => t { D with nx := u D } σ H
theorem Xg : PSs X [] tNext := fun _ _ σ H _ I h => wpAny_execs_nil ⟨σ, H, I, h⟩
theorem Qg (h1 : PS X st t) (h2 : PSs X rest u) : PSs X (st :: rest) (tSeq t u) := by
 intro pins s σ H D I h
 refine wpAny_execs_cons (thn (h1 pins s σ H { D with nx := u D } I h) fun f s1 q => ?_)
 cases f with
 | next =>
  obtain ⟨σ', H', I', q⟩ := q
  exact h2 pins s1 σ' H' D I' q
 | ret v => exact q
 | brk => exact q
 | cont => exact q
theorem Qn (h1 : PS X st t) : PSs X [st] t := by
 intro pins s σ H D I h
 refine wpAny_execs_cons (thn (h1 pins s σ H D I h) fun f s1 q => ?_)
 cases f with
 | next => exact wpAny_execs_nil q
 | ret v => exact q
 | brk => exact q
 | cont => exact q
def tBreak : TS := fun D σ H => D.bk σ H
theorem Qoy : PS X (.Break pos) tBreak := fun _ _ σ H _ I h => wpAny_Break ⟨σ, H, I, h⟩
theorem Inv.quiet {pins : List (Addr × Obj)} {σ : St} {H : Hp} {s : Shared} (I : Inv X pins σ H s) : interactive X.env = false := by simp [interactive, I.ok.kind]
def tDrop (te : TE) : TS := fun D σ H => te σ H fun _ H1 => D.nx σ H1
theorem Kk (he : PE X e te) (hs : autoParam (swapsWith e none pos.line X.env = pure false) L2.aRfl._auto_1) : PS X (.Expr e pos) (tDrop te) := by
 intro pins s σ H D I h
 exact wpAny_Expr_any (thn (he pins s σ H _ I h) fun v s1 ⟨x, H1, I1, r1, q1⟩ => ⟨σ, H1, I1, q1⟩) I.quiet hs
def tRet (te : TE) : TS := fun D σ H => te σ H D.rt
theorem Qv (he : PE X e te) : PS X (.Return (some e) pos) (tRet te) := by
 intro pins s σ H D I h
 exact wpAny_Return_some (thn (he pins s σ H _ I h) fun v s1 ⟨x, H1, I1, r1, q1⟩ => ⟨x, σ, H1, I1, r1, q1⟩)
def tIfS (c : TT) (t u : TS) : TS := fun D σ H => c σ H fun b H1 => if b = true then t D σ H1 else u D σ H1
theorem Yi {c : Expr} {a b : List Stmt} {tc : TT} (hc : PT X c tc) (ha : PSs X a t) (hb : PSs X b u) : PS X (.If c a b pos) (tIfS tc t u) := by
 intro pins s σ H D I h
 refine wpAny_If (thn (hc pins s σ H _ I h) fun d s1 hqP => ?_)
 obtain ⟨H1, I1, q1⟩ := hqP
 cases d with
 | true => exact ha pins s1 σ H1 D I1 q1
 | false => exact hb pins s1 σ H1 D I1 q1
end
abbrev TG := V → St → Hp → (St → Hp → Prop) → Prop
abbrev TGs := List V → St → Hp → (St → Hp → Prop) → Prop
def PG (X : Cx) (target : Expr) (t : TG) : Prop :=
 ∀ (pins : List (Addr × Obj)) (s : Shared) (σ : St) (H : Hp) (v : V) (u : Value) (Q : St → Hp → Prop), Inv X pins σ H s → RelV v u → t v σ H Q →
  wpAny (model X.prog X.w) X.A (assign target X.env u) (fun _ s' => ∃ σ' H', Inv X pins σ' H' s' ∧ Q σ' H') X.xe s
def PGs (X : Cx) (ts : List Expr) (t : TGs) : Prop :=
 ∀ (pins : List (Addr × Obj)) (s : Shared) (σ : St) (H : Hp) (vs : List V) (us : List Value) (Q : St → Hp → Prop), Inv X pins σ H s → Vals vs us → t vs σ H Q →
  wpAny (model X.prog X.w) X.A (assignInOrder ((assignEach ts X.env).map (·.2)) us) (fun _ s' => ∃ σ' H', Inv X pins σ' H' s' ∧ Q σ' H') X.xe s
abbrev TSet := V → V → V → Hp → (Hp → Prop) → Prop
def PSet (X : Cx) (t : TSet) : Prop :=
 ∀ (pins : List (Addr × Obj)) (s : Shared) (σ : St) (H : Hp) (o i v : V) (ov iv u : Value) (Q : Hp → Prop), Inv X pins σ H s → RelV o ov → RelV i iv → RelV v u → t o i v H Q →
  wpAny (model X.prog X.w) X.A (setItem ov iv u) (fun _ s' => ∃ H', Inv X pins σ H' s' ∧ Q H') X.xe s
abbrev TIp := V → V → Hp → VK → Prop
def PIp (X : Cx) (op : Operator) (t : TIp) : Prop :=
 ∀ (pins : List (Addr × Obj)) (s : Shared) (σ : St) (H : Hp) (x y : V) (v u : Value) (Q : VK), Inv X pins σ H s → RelV x v → RelV y u → t x y H Q →
  wpAny (model X.prog X.w) X.A (inplaceOp op v u) (EP X pins σ Q) X.xe s
section
variable {X : Cx} {pos : Pos}
def Qjv (i : Nat) : TG := fun v σ H Q => Q (σ.set i (some v)) H
theorem Xe {i : Nat} {x : Str} (hN : X.N.Nodup) (hi : X.N[i]? = some x) (hx : Loc X.env.scope x) (hf : autoParam (X.fn x = true ∨ X.env.scope.names.lookup x = some .local) L2.aFst._auto_1) : PG X (.Name x pos) (Qjv i) := by
 intro pins s σ H v u Q I r h
 exact wpAny_assign_Name (Vr I hN hi hx r (fun s' I' => ⟨_, H, I', h⟩) hf)
def gNil : TGs := fun vs σ H Q => vs = [] ∧ Q σ H
def Qsi (t : TG) (u : TGs) : TGs := fun vs σ H Q => ∃ v r, vs = v :: r ∧ t v σ H fun σ' H' => u r σ' H' Q
theorem Qli : PGs X [] gNil := by
 intro pins s σ H vs us Q I r h
 obtain ⟨e, h⟩ := h
 subst e
 cases r
 exact assignInOrder_nil ⟨σ, H, I, h⟩
theorem Qal {e : Expr} {es : List Expr} {t : TG} {u : TGs} (h1 : PG X e t) (h2 : PGs X es u)
  (hs : autoParam ((assignEach (e :: es) X.env).map (·.2) = assign e X.env :: (assignEach es X.env).map (·.2)) L2.aRfl._auto_1) : PGs X (e :: es) (Qsi t u) := by
 intro pins s σ H vs us Q I r h
 obtain ⟨v, vr, e1, h⟩ := h
 subst e1
 cases r with
 | cons r rr =>
  rw [hs]
  refine assignInOrder_cons (thn (h1 pins s σ H _ _ _ I r h) fun _ s1 hqP => ?_)
  obtain ⟨σ1, H1, I1, q1⟩ := hqP
  exact h2 pins s1 σ1 H1 _ _ Q I1 rr q1
def gTup (K : Fg) (n : Nat) (t : TGs) : TG := fun v σ H Q => ∃ a xs, v = .ref a ∧ SqT K H a xs ∧ xs.length = n ∧ t xs σ H Q
theorem Qrl {es : List Expr} {k : Nat} {t : TGs} {n : Nat} (hc : X.calm = true) (h : PGs X es t)
  (hn : autoParam ((assignEach es X.env).length = n) L2.aRfl._auto_1) (hst : autoParam ((assignEach es X.env).findIdx? (·.1) = none) L2.aRfl._auto_1) : PG X (.Tuple es k pos) (gTup X.K n t) := by
 intro pins s σ H v u Q I r hw
 obtain ⟨a, xs, e1, hq, hl, hw⟩ := hw
 subst e1
 cases r
 obtain ⟨its, rv, ht, hz⟩ := I.tuple hq
 refine assign_Tuple_tuple (I.ok.hd hc) ht (by simp [hn, ← hl, rv.length]) hst fun h' hx => ?_
 have I1 : Inv X pins σ H { s with heap := h' } := I.kept (t' := s.toks) fun b o e => hx b o (yW (kJ e)) e
 exact h pins _ σ H xs _ Q I1 (by simpa using rv) hw
def gSub (to ti : TE) (t : TSet) : TG := fun v σ H Q => to σ H fun o H1 => ti σ H1 fun i H2 => t o i v H2 fun H3 => Q σ H3
theorem Jp {o i : Expr} {to ti : TE} {t : TSet} (ho : PE X o to) (hi : PE X i ti) (hs : PSet X t)
  (ha : ∀ v, assign (.Subscript o i pos) X.env v = (do
   let ov ← holding [v] (eval o X.env)
   let iv ← holding [v, ov] (eval i X.env)
   standAt pos
   holding [v, ov, iv] (setItem ov iv v)
   release [v, ov, iv] []) := by intro _; rfl) : PG X (.Subscript o i pos) (gSub to ti t) := by
 intro pins s σ H v u Q I r h
 rw [ha]
 refine jX (wpAny_holding (thn (ho pins s σ H _ I h) fun ov s1 hqP => ?_))
 obtain ⟨x, H1, I1, r1, q1⟩ := hqP
 refine jX (wpAny_holding (thn (hi pins s1 σ H1 _ I1 q1) fun iv s2 hqP => ?_))
 obtain ⟨y, H2, I2, r2, q2⟩ := hqP
 refine jX (wpAny_standAt (jX (wpAny_holding (thn (hs pins s2 σ H2 x y v ov iv u _ I2 r1 r2 r q2) fun _ s3 hqP => ?_))))
 obtain ⟨H3, I3, q3⟩ := hqP
 exact wpAny_release ⟨σ, H3, I3, q3⟩
def tAsg (te : TE) (g : TG) : TS := fun D σ H => te σ H fun x H1 => g x σ H1 D.nx
theorem Vc {tg e : Expr} {te : TE} {g : TG} (he : PE X e te) (hg : PG X tg g) (hs : autoParam (swapsWithSole [tg] e pos.line X.env = pure false) L2.aRfl._auto_1) (hw : autoParam (swappedStores [tg] e X.env = pure none) L2.aRfl._auto_1)
  (h1 : autoParam ((assignEach [tg] X.env).map (·.2) = [assign tg X.env]) L2.aRfl._auto_1) : PS X (.Assign [tg] e pos) (tAsg te g) := by
 intro pins s σ H D I h
 refine wpAny_Assign_stores (thn (he pins s σ H _ I h) fun v s1 hqP => ?_) hs hw
 obtain ⟨x, H1, I1, r1, q1⟩ := hqP
 rw [h1]
 exact thn (hg pins s1 σ H1 x v _ I1 r1 q1) fun _ s2 q => q
theorem Qx {i : Nat} {x : Str} {e : Expr} {te : TE} {pos' : Pos} (hN : X.N.Nodup) (hi : X.N[i]? = some x) (hx : Loc X.env.scope x) (he : PE X e te) (hs : autoParam (swapsWith e (some (.Name x pos')) pos.line X.env = pure false) L2.aRfl._auto_1) (hf : autoParam (X.fn x = true ∨ X.env.scope.names.lookup x = some .local) L2.aFst._auto_1) :
  PS X (.Assign [.Name x pos'] e pos) (tAsg te (Qjv i)) := by
 intro pins s σ H D I h
 refine wpAny_Assign_Name (thn (he pins s σ H _ I h) fun v s1 hqP => ?_) hs
 obtain ⟨y, H1, I1, r1, q1⟩ := hqP
 exact Vr I1 hN hi hx r1 (fun s2 I2 => ⟨_, H1, I2, q1⟩) hf
def tPar (i j : Nat) (ta : TA) : TS := fun D σ H => ta σ H fun vs H1 => ∃ v w, vs = [v, w] ∧ D.nx ((σ.set i (some v)).set j (some w)) H1
theorem ps_par {i j : Nat} {x y : Str} {a b : Expr} {ta : TA} {px py pt : Pos} {kt k2 pt2} (hc : X.calm = true) (hN : X.N.Nodup) (hi : X.N[i]? = some x) (hj : X.N[j]? = some y) (hij : i ≠ j)
  (hx : X.env.scope.names.lookup x = some .local) (hy : X.env.scope.names.lookup y = some .local) (ha : PA X [a, b] ta)
  (hw : swappedStores [.Tuple [.Name x px, .Name y py] kt pt] (.Tuple [a, b] k2 pt2) X.env = pure (some [x, y]))
  (hs : autoParam (swapsWithSole [.Tuple [.Name x px, .Name y py] kt pt] (.Tuple [a, b] k2 pt2) pos.line X.env = pure false) L2.aRfl._auto_1) :
  PS X (.Assign [.Tuple [.Name x px, .Name y py] kt pt] (.Tuple [a, b] k2 pt2) pos) (tPar i j ta) := by
 intro pins s σ H D I h
 rw [exec_Assign_arm]
 refine jX (wpAny_standAt ?_)
 rw [hs]
 refine jX (kQ ?_)
 rw [if_neg (by decide)]
 refine jX (Tuple_ (thn (ha _ pins s σ H _ I h) fun us s1 hqP => ?_))
 obtain ⟨vs, H1, I1, r1, q1⟩ := hqP
 obtain ⟨v, w, e1, q1⟩ := q1
 subst e1
 obtain ⟨u1, u2, rfl, rv, rw'⟩ : ∃ u1 u2, us = [u1, u2] ∧ RelV v u1 ∧ RelV w u2 := by
  cases r1 with
  | cons p q =>
   cases q with
   | cons p' q' =>
    cases q'
    exact ⟨_, _, rfl, p, p'⟩
 refine wpAny_newObj_type ?_ (by show 2 ≤ sizeLine; decide)
 have I2 : Inv X pins σ H1 { s1 with heap := s1.heap.push { cls := .type "tuple", data := .seq [u1, u2].toArray } } := I1.kept (t' := s1.toks) fun b o e => jJ _ e
 rw [hw]
 refine jX (kQ ?_)
 show wpAny (model X.prog X.w) X.A (do rule "assign.swapped-stores"; let items ← unpackItems (.ref s1.heap.objs.size) 2 none; assignInOrder [fun v => bindName X.env y v, fun v => bindName X.env x v] items.reverse; pure Flow.next) _ _ _
 refine jX (wpAny_rule (jX (unpackItems_tuple (items := #[u1, u2]) (I.ok.hd hc) (IsTup.new s1.heap _) fun h' hx' => ?_)))
 have I3 := I2.kept (h' := h') (t' := s1.toks) fun b o e => hx' b o (yW (kJ e)) e
 show wpAny _ _ (assignInOrder [fun v => bindName X.env y v, fun v => bindName X.env x v] [u2, u1] >>= fun _ => pure Flow.next) _ _ _
 refine jX (assignInOrder_cons (wpAny_bindName (Vr I3 hN hj (.inl hy) rw' (fun s2 I4 => ?_) (.inr hy))))
 refine assignInOrder_cons (wpAny_bindName (Vr I4 hN hi (.inl hx) rv (fun s3 I5 => assignInOrder_nil (kQ ?_)) (.inr hx)))
 rw [List.set_comm _ _ (Ne.symm hij)] at I5
 exact ⟨_, H1, I5, q1⟩
def tAug (i : Nat) (te : TE) (ti : TIp) : TS := fun D σ H => ∃ x, σ[i]? = some (some x) ∧ te σ H fun y H1 => ti x y H1 fun z H2 => D.nx (σ.set i (some z)) H2
theorem Qhx {i : Nat} {x : Str} {e : Expr} {te : TE} {op : Operator} {ti : TIp} {pos' : Pos} (hN : X.N.Nodup) (hi : X.N[i]? = some x) (hx : Loc X.env.scope x) (he : PE X e te) (ho : PIp X op ti) (hf : autoParam (X.fn x = true ∨ X.env.scope.names.lookup x = some .local) L2.aFst._auto_1) :
  PS X (.AugAssign (.Name x pos') op e pos) (tAug i te ti) := by
 intro pins s σ H D I h
 obtain ⟨v, e1, h⟩ := h
 obtain ⟨m, hn, hl⟩ := I.loc
 have vis : Vis X.env.scope x := by rcases hx with k | k; exact .inl k; exact .inr (.inl k)
 obtain ⟨u, r, l⟩ := hl i x v hi e1 vis
 refine wpAny_AugAssign_Name ?_
 have go : wpAny (model X.prog X.w) X.A (eval e X.env) (fun w s₂ => wpAny (model X.prog X.w) X.A (inplaceOp op u w) (fun r s₃ => wpAny (model X.prog X.w) X.A (storeName X.env x r) (fun _ => SP X pins D .next) X.xe s₃) X.xe s₂) X.xe s := by
  refine thn (he pins s σ H _ I h) fun w s1 hqP => ?_
  obtain ⟨y, H1, I1, r1, q1⟩ := hqP
  refine thn (ho pins s1 σ H1 v y u w _ I1 r r1 q1) fun z s2 hqP => ?_
  obtain ⟨zv, H2, I2, r2, q2⟩ := hqP
  exact Vr I2 hN hi hx r2 (fun s3 I3 => ⟨_, H2, I3, q2⟩) hf
 rcases l with ⟨hk, hm⟩ | ⟨hk, c, hc, hcell⟩
 ·exact wpAny_loadName_local I.ok.kind hk hn hm go
 ·rcases hk with hk | hk
  ·exact wpAny_loadName_cell I.ok.kind hk hc hcell go
  ·rcases hx with k | k
   ·have : X.env.scope.names.lookup x = some .free := hk
    rw [k] at this; cases this
   ·have : X.env.scope.names.lookup x = some .free := hk
    rw [k] at this; cases this
def tAugS (to ti te : TE) (tget : V → V → Hp → VK → Prop) (tip : TIp) (tset : TSet) : TS := fun D σ H => to σ H fun o H1 => ti σ H1 fun i H2 => tget o i H2 fun x H3 => te σ H3 fun y H4 => tip x y H4 fun z H5 => tset o i z H5 fun H6 => D.nx σ H6
def PGet (X : Cx) (t : V → V → Hp → VK → Prop) : Prop :=
 ∀ (pins : List (Addr × Obj)) (s : Shared) (σ : St) (H : Hp) (o i : V) (ov iv : Value) (Q : VK), Inv X pins σ H s → RelV o ov → RelV i iv → t o i H Q →
  wpAny (model X.prog X.w) X.A (getItem ov iv) (EP X pins σ Q) X.xe s
theorem Qlj {o i e : Expr} {to ti te : TE} {tget : V → V → Hp → VK → Prop} {tip : TIp} {tset : TSet} {op : Operator} {tpos : Pos} (ho : PE X o to) (hi : PE X i ti) (hg : PGet X tget) (he : PE X e te) (hp : PIp X op tip) (hs : PSet X tset)
  (ha : ∀ ov iv new, augStore i ov iv new = (do holding [new, ov, iv] (setItem ov iv new); release [new, ov, iv] []; pure .next) := by intros; rfl) : PS X (.AugAssign (.Subscript o i tpos) op e pos) (tAugS to ti te tget tip tset) := by
 intro pins s σ H D I h
 refine wpAny_AugAssign_SubscriptAny (thn (ho pins s σ H _ I h) fun ov s1 hqP => ?_) ha
 obtain ⟨x1, H1, I1, r1, q1⟩ := hqP
 refine thn (hi pins s1 σ H1 _ I1 q1) fun iv s2 hqP => ?_
 obtain ⟨x2, H2, I2, r2, q2⟩ := hqP
 refine thn (hg pins s2 σ H2 x1 x2 ov iv _ I2 r1 r2 q2) fun old s3 hqP => ?_
 obtain ⟨x3, H3, I3, r3, q3⟩ := hqP
 refine thn (he pins s3 σ H3 _ I3 q3) fun v s4 hqP => ?_
 obtain ⟨x4, H4, I4, r4, q4⟩ := hqP
 refine thn (hp pins s4 σ H4 x3 x4 old v _ I4 r3 r4 q4) fun new s5 hqP => ?_
 obtain ⟨x5, H5, I5, r5, q5⟩ := hqP
 exact thn (hs pins s5 σ H5 x1 x2 x5 ov iv new _ I5 r1 r2 r5 q5) fun _ s6 ⟨H6, I6, q6⟩ => ⟨σ, H6, I6, q6⟩
def ipI (f : Int → Int → Int) : TIp := fun x y H Q => ∃ i j, x = .int i ∧ y = .int j ∧ Q (.int (f i j)) H
theorem Qlk : PIp X .Add (ipI fun i j => i + j) := by
 intro pins s σ H x y v u Q I r1 r2 h
 obtain ⟨i, j, e1, e2, q⟩ := h
 subst e1; subst e2
 obtain ⟨t, rfl⟩ := r1
 obtain ⟨t', rfl⟩ := r2
 exact iadd_int ⟨.int _, H, I.tok _, ⟨_, rfl⟩, q⟩
theorem Qrm : PIp X .Sub (ipI fun i j => i - j) := by
 intro pins s σ H x y v u Q I r1 r2 h
 obtain ⟨i, j, e1, e2, q⟩ := h
 subst e1; subst e2
 obtain ⟨t, rfl⟩ := r1
 obtain ⟨t', rfl⟩ := r2
 exact isub_int ⟨.int _, H, I.tok _, ⟨_, rfl⟩, q⟩
end
section
variable {X : Cx} {pos : Pos}
end
set_option genInjectivity false in
set_option genInjectivity false in
structure It where
 go : Nat → Hp → Prop
 yld : Nat → Hp → V → Hp → Prop
 stop : Nat → Hp → Prop
def FpOk (X : Cx) (pins : List (Addr × Obj)) (H : Hp) (b : Addr) : Prop :=
 H b = none ∧ b ≠ X.env.locals ∧ b ∉ X.fs ∧ (b ∈ X.ex ∨ X.s₀.heap.objs.size ≤ b) ∧ (∀ x c, X.env.cells.lookup x = some c → c ≠ b) ∧ ∀ p ∈ X.pn ++ pins, p.1 ≠ b
theorem Inv.fpOk {X : Cx} {pins : List (Addr × Obj)} {σ : St} {H H' : Hp} {s : Shared} {b : Addr} (I : Inv X pins σ H s) (hb : s.heap.objs.size ≤ b) (hn : H' b = none) : FpOk X pins H' b := by
 refine ⟨hn, Nat.ne_of_gt (zJ I.lt hb), I.nofs hb, .inr (jQf I.sz hb), fun x c e z => ?_, fun p hp z => ?_⟩
 ·obtain ⟨v, q⟩ := I.cell x c e
  exact absurd (zJ q.lt (by rw [z]; exact hb)) (jZb _)
 ·exact absurd (zJ (kJ (I.pin p hp).1) (by rw [z]; exact hb)) (jZb _)
structure Turn (P : Program) (w : World) (K : Fg) (tg : Expr) (J : It) (fp : List Addr) (it : Addr) (tn : Nat → Heap → Prop) : Prop where
 mem : it ∈ fp
 obj : ∀ i h, tn i h → ∀ b ∈ fp, ∃ o, h.get? b = some o ∧ ∀ v, o.data ≠ .cell v
 keep : ∀ i h h', tn i h → (∀ b ∈ fp, ∀ o, h.get? b = some o → h'.get? b = some o) → tn i h'
 item : ∀ (X : Cx), X.prog = P → X.w = w → X.K = K → X.calm = true → ∀ (i : Nat) (pins : List (Addr × Obj)) (s : Shared) (σ : St) (H : Hp) (E : Value → Shared → Prop), Inv X pins σ H s → (∀ b ∈ fp, FpOk X pins H b) → tn i s.heap → J.go i H →
  wpAny (model P w) X.A (pyNext (.ref it)) (fun r s1 => ∃ u, r = some u ∧
   wpAny (model P w) X.A (letOwnedTupleGo tg (.ref it) u) (fun _ s2 => ∃ x H', Inv X pins σ H' s2 ∧ RelV x u ∧ J.yld i H x H' ∧ tn (i + 1) s2.heap ∧ ∀ b ∈ fp, H' b = none) E s1) E s
 done : ∀ (X : Cx), X.prog = P → X.w = w → X.K = K → X.calm = true → ∀ (i : Nat) (pins : List (Addr × Obj)) (s : Shared) (σ : St) (H : Hp) (E : Value → Shared → Prop), Inv X pins σ H s → (∀ b ∈ fp, FpOk X pins H b) → tn i s.heap → J.stop i H →
  wpAny (model P w) X.A (pyNext (.ref it)) (fun r s1 => r = none ∧ Inv X pins σ H s1) E s
 self : ∀ (A : Around) (i : Nat) (s : Shared) (Q : Value → Shared → Prop) (E : Value → Shared → Prop), tn i s.heap → Q (.ref it) s → wpAny (model P w) A (pyIter (.ref it)) Q E s
abbrev TI := St → Hp → (It → Hp → Prop) → Prop
def PIE (X : Cx) (pins : List (Addr × Obj)) (σ : St) (tg : Expr) (R : It → Hp → Prop) (itv : Value) (s2 : Shared) : Prop :=
 ∃ (it : Addr) (fp : List Addr) (tn : Nat → Heap → Prop) (J : It) (H' : Hp), itv = .ref it ∧ Inv X pins σ H' s2 ∧ Turn X.prog X.w X.K tg J fp it tn ∧ tn 0 s2.heap ∧ (∀ b ∈ fp, FpOk X pins H' b) ∧ R J H'
def PI (X : Cx) (tg iter : Expr) (wi : TI) : Prop :=
 ∀ (pins : List (Addr × Obj)) (s : Shared) (σ : St) (H : Hp) (R : It → Hp → Prop), Inv X pins σ H s → wi σ H R →
  wpAny (model X.prog X.w) X.A (eval iter X.env) (fun v s1 => wpAny (model X.prog X.w) X.A (pyIter v) (PIE X pins σ tg R) X.xe s1) X.xe s
theorem Qoz {M : Model} {A : Around} {E : Value → Shared → Prop} {s : Shared} {tg : Expr} {it : Addr} {u : Value} {o : Obj} {n : String} {vs : Array Value} {Q : Unit → Shared → Prop} (ho : s.heap.get? it = some o) (hc : o.cls = .type n) (hd : o.data = .fields vs)
    (hn : ["enumerate", "zip", "dict_itemiterator", "dict_reverseitemiterator", "odict_iterator", "itertools.zip_longest", "itertools.pairwise"].contains n = false) (hQ : Q () s) : wpAny M A (letOwnedTupleGo tg (.ref it) u) Q E s := by
  unfold letOwnedTupleGo
  cases tg <;> first
    | exact kQ hQ
    | (cases u <;> first
        | exact kQ hQ
        | (refine jX (wpAny_load ho ?_)
           rw [hc, hd]
           show wpAny M A (if (["enumerate", "zip", "dict_itemiterator", "dict_reverseitemiterator", "odict_iterator", "itertools.zip_longest", "itertools.pairwise"].contains n && vs[0]? == some (rawInt _)) = true then _ else _) Q E s
           rw [if_neg (by intro h; rw [hn, Bool.false_and] at h; cases h)]
           exact kQ hQ))
def Itl (K : Fg) (a : Addr) : It :=
 ⟨fun i H => ∃ xs x, SqL K H a xs ∧ xs[i]? = some x, fun i H x H' => H' = H ∧ ∀ xs, SqL K H a xs → xs[i]? = some x, fun i H => ∃ xs, SqL K H a xs ∧ xs.length ≤ i⟩
def Itt (K : Fg) (a : Addr) : It :=
 ⟨fun i H => ∃ xs x, SqT K H a xs ∧ xs[i]? = some x, fun i H x H' => H' = H ∧ ∀ xs, SqT K H a xs → xs[i]? = some x, fun i H => ∃ xs, SqT K H a xs ∧ xs.length ≤ i⟩
def Itr (lo : Int) (n : Nat) : It := ⟨fun i _ => i < n, fun i H x H' => H' = H ∧ x = .int (lo + i), fun i _ => n ≤ i⟩
theorem Qll {P : Program} {w : World} {K : Fg} {tg : Expr} (a it : Addr) : Turn P w K tg (Itl K a) [it] it (fun i h => h.IsListIter it a i) where
 mem := by simp
 obj := fun i h st b hb => by
  have e : b = it := by simpa using hb
  subst e
  obtain ⟨o, e, c, d⟩ := st
  exact ⟨o, e, fun v z => by rw [d] at z; cases z⟩
 keep := fun i h h' st k => st.at fun o e => k it (by simp) o e
 item := by
  intro X hP hw hK hc i pins s σ H E I hf st hg
  subst hP hw hK
  obtain ⟨xs, x, hq, hx⟩ := hg
  obtain ⟨its, rv, p, hz⟩ := I.list hq
  obtain ⟨u, hu, ru⟩ := rv.get hx
  obtain ⟨f0, f1, f2, f3, f4, f5⟩ := hf it (by simp)
  refine wpAny_pyNext_list_item st p.isList (x := u) (by simpa using hu) fun h' st' sb => ?_
  have I1 : Inv X pins σ H { s with heap := h' } := I.turned (t' := s.toks) (fun b o hb e => (sb.2 b hb).trans e) f0 f1 f3 f4 f5
  obtain ⟨o, e, c, d⟩ := id st'
  exact ⟨u, rfl, Qoz (s := { s with heap := h' }) e c d (by decide) ⟨x, H, I1, ru, ⟨rfl, fun ys hy => by rw [I.list_inj hy hq]; exact hx⟩, st', fun b hb => (hf b hb).1⟩⟩
 done := by
  intro X hP hw hK hc i pins s σ H E I hf st hg
  subst hP hw hK
  obtain ⟨xs, hq, hx⟩ := hg
  obtain ⟨its, rv, p, hz⟩ := I.list hq
  obtain ⟨f0, f1, f2, f3, f4, f5⟩ := hf it (by simp)
  have hl := rv.length
  exact wpAny_pyNext_list_end (I.ok.hd hc) st p.isList (by simp; omega) fun h' eb => ⟨rfl, I.turned (t' := s.toks) (fun b o hb e => eb b o hb e) f0 f1 f3 f4 f5⟩
 self := fun _ _ _ _ _ st h => wpAny_pyIter_listiter st h
theorem Qjw {P : Program} {w : World} {K : Fg} {tg : Expr} (a it : Addr) : Turn P w K tg (Itt K a) [it] it (fun i h => h.IsTupleIter it a i) where
 mem := by simp
 obj := fun i h st b hb => by
  have e : b = it := by simpa using hb
  subst e
  obtain ⟨o, e, c, d⟩ := st
  exact ⟨o, e, fun v z => by rw [d] at z; cases z⟩
 keep := fun i h h' st k => st.at fun o e => k it (by simp) o e
 item := by
  intro X hP hw hK hc i pins s σ H E I hf st hg
  subst hP hw hK
  obtain ⟨xs, x, hq, hx⟩ := hg
  obtain ⟨its, rv, p, hz⟩ := I.tuple hq
  obtain ⟨u, hu, ru⟩ := rv.get hx
  obtain ⟨f0, f1, f2, f3, f4, f5⟩ := hf it (by simp)
  refine wpAny_pyNext_tuple_item st (show s.heap.IsTuple a its.toArray from p) (x := u) (by simpa using hu) fun h' st' sb => ?_
  have I1 : Inv X pins σ H { s with heap := h' } := I.turned (t' := s.toks) (fun b o hb e => (sb.2 b hb).trans e) f0 f1 f3 f4 f5
  obtain ⟨o, e, c, d⟩ := id st'
  exact ⟨u, rfl, Qoz (s := { s with heap := h' }) e c d (by decide) ⟨x, H, I1, ru, ⟨rfl, fun ys hy => by rw [I.tuple_inj hy hq]; exact hx⟩, st', fun b hb => (hf b hb).1⟩⟩
 done := by
  intro X hP hw hK hc i pins s σ H E I hf st hg
  subst hP hw hK
  obtain ⟨xs, hq, hx⟩ := hg
  obtain ⟨its, rv, p, hz⟩ := I.tuple hq
  obtain ⟨f0, f1, f2, f3, f4, f5⟩ := hf it (by simp)
  have hl := rv.length
  exact wpAny_pyNext_tuple_end (I.ok.hd hc) st (show s.heap.IsTuple a its.toArray from p) (by simp; omega) fun h' eb => ⟨rfl, I.turned (t' := s.toks) (fun b o hb e => eb b o hb e) f0 f1 f3 f4 f5⟩
 self := fun _ _ _ _ _ st h => wpAny_pyIter_tupleiter st h
theorem Qjx {P : Program} {w : World} {K : Fg} {tg : Expr} (it : Addr) (lo : Int) (n : Nat) : Turn P w K tg (Itr lo n) [it] it (fun i h => IsRangeIter h it (lo + (i : Nat) * 1) ((n : Int) - (i : Nat)) 1) where
 mem := by simp
 obj := fun i h st b hb => by
  have e : b = it := by simpa using hb
  subst e
  exact ⟨_, st, fun v z => by
   have z' : Data.fields _ = Data.cell v := z
   cases z'⟩
 keep := fun i h h' st k => k it (by simp) _ st
 item := by
  intro X hP hw hK hc i pins s σ H E I hf st hg
  subst hP hw hK
  obtain ⟨f0, f1, f2, f3, f4, f5⟩ := hf it (by simp)
  have W := Walks.range (prog := X.prog) (w := X.w) (I.ok.hd hc) it lo 1 n
  refine W.item i s _ _ hg st fun v h' tk hv st' kk => ?_
  obtain ⟨t, rfl⟩ := hv
  have I1 : Inv X pins σ H { s with heap := h', toks := tk } := I.turned (fun b o hb e => kk b o (by simpa using hb) e) f0 f1 f3 f4 f5
  refine ⟨_, rfl, Qoz (s := { s with heap := h', toks := tk }) (n := "range_iterator") st' rfl rfl (by decide) ⟨.int (lo + i), H, I1, ⟨t, ?_⟩, ⟨rfl, rfl⟩, st', fun b hb => (hf b hb).1⟩⟩
  rw [Int.mul_one]
 done := by
  intro X hP hw hK hc i pins s σ H E I hf st hg
  subst hP hw hK
  obtain ⟨f0, f1, f2, f3, f4, f5⟩ := hf it (by simp)
  exact wpAny_pyNext_range_end (I.ok.hd hc) st (by have : n ≤ i := hg; omega) fun h' eb => ⟨rfl, I.turned (t' := s.toks) (fun b o hb e => eb b o hb e) f0 f1 f3 f4 f5⟩
 self := fun _ _ _ _ _ st h => wpAny_pyIter_rangeiter st h
section
variable {X : Cx} {tg : Expr}
def iList (K : Fg) (tl : TE) : TI := fun σ H R => tl σ H fun x H1 => ∃ a, x = .ref a ∧ (∃ xs, SqL K H1 a xs) ∧ R (Itl K a) H1
def iTup (K : Fg) (tl : TE) : TI := fun σ H R => tl σ H fun x H1 => ∃ a, x = .ref a ∧ (∃ xs, SqT K H1 a xs) ∧ R (Itt K a) H1
theorem Yk {l : Expr} {tl : TE} (hl : PE X l tl) : PI X tg l (iList X.K tl) := by
 intro pins s σ H R I h
 refine thn (hl pins s σ H _ I h) fun v s1 hqP => ?_
 obtain ⟨x, H1, I1, r1, q1⟩ := hqP
 obtain ⟨a, e, ⟨xs, hq⟩, q⟩ := q1
 subst e
 cases r1
 obtain ⟨its, rv, p, hz⟩ := I1.list hq
 refine wpAny_pyIter_list p.isList ?_
 refine ⟨s1.heap.objs.size, [s1.heap.objs.size], _, _, H1, rfl, I1.kept (t' := s1.toks) fun b o e => jJ _ e, Qll a _, ⟨_, yZ _ rfl, rfl, rfl⟩, fun b hb => ?_, q⟩
 have e : b = s1.heap.objs.size := by simpa using hb
 subst e
 exact I1.fpOk (jZ _) (I1.hok.fresh (jZ _))
theorem Qac {l : Expr} {tl : TE} (hl : PE X l tl) : PI X tg l (iTup X.K tl) := by
 intro pins s σ H R I h
 refine thn (hl pins s σ H _ I h) fun v s1 hqP => ?_
 obtain ⟨x, H1, I1, r1, q1⟩ := hqP
 obtain ⟨a, e, ⟨xs, hq⟩, q⟩ := q1
 subst e
 cases r1
 obtain ⟨its, rv, p, hz⟩ := I1.tuple hq
 refine wpAny_pyIter_tuple (show s1.heap.IsTuple a its.toArray from p) ?_
 refine ⟨s1.heap.objs.size, [s1.heap.objs.size], _, _, H1, rfl, I1.kept (t' := s1.toks) fun b o e => jJ _ e, Qjw a _, ⟨_, yZ _ rfl, rfl, rfl⟩, fun b hb => ?_, q⟩
 have e : b = s1.heap.objs.size := by simpa using hb
 subst e
 exact I1.fpOk (jZ _) (I1.hok.fresh (jZ _))
theorem Qpa {pins : List (Addr × Obj)} {σ : St} {H : Hp} {s : Shared} {R : It → Hp → Prop} {E : Value → Shared → Prop} {lo hi : Int} {t u v : Tok} {tk : Nat} (I : Inv X pins σ H s) (h1 : -(2 ^ 62) ≤ lo) (h2 : lo < 2 ^ 62) (h3 : -(2 ^ 62) ≤ hi) (h4 : hi < 2 ^ 62)
  (q : R (Itr lo (hi - lo).toNat) H) : wpAny (model X.prog X.w) X.A (pyIter (.ref s.heap.objs.size)) (PIE X pins σ tg R) E { s with heap := s.heap.push { cls := .type "range", data := .fields #[.int lo t, .int hi u, .int 1 v] }, toks := tk } := by
 refine wpAny_pyIter_range (IsRange.new ..) (small_one h1 h2 h3 h4) ?_
 have I1 : Inv X pins σ H { s with heap := s.heap.push { cls := .type "range", data := .fields #[.int lo t, .int hi u, .int 1 v] }, toks := tk } := I.kept fun b o e => jJ _ e
 refine ⟨(s.heap.push { cls := .type "range", data := .fields #[.int lo t, .int hi u, .int 1 v] }).objs.size, [(s.heap.push { cls := .type "range", data := .fields #[.int lo t, .int hi u, .int 1 v] }).objs.size], _, _, H, rfl,
  I1.kept (t' := tk) fun b o e => jJ _ e, Qjx _ lo (hi - lo).toNat, ?_, fun b hb => ?_, q⟩
 ·have e1 : lo + ((0 : Nat) : Int) * 1 = lo := by simp
  have e2 : (((hi - lo).toNat : Nat) : Int) - ((0 : Nat) : Int) = Builtin.Range.rangeSize lo hi 1 := by rw [rangeSize_one]; split <;> omega
  show IsRangeIter _ _ (lo + ((0 : Nat) : Int) * 1) ((((hi - lo).toNat : Nat) : Int) - ((0 : Nat) : Int)) 1
  rw [e1, e2]
  exact yZ _ rfl
 ·have e : b = (s.heap.push { cls := .type "range", data := .fields #[.int lo t, .int hi u, .int 1 v] }).objs.size := by simpa using hb
  subst e
  exact I1.fpOk (jZ _) (I1.hok.fresh (jZ _))
def iRng1 (ta : TA) : TI := fun σ H R => ta σ H fun vs H1 => ∃ j : Int, vs = [.int j] ∧ -(2 ^ 62) ≤ j ∧ j < 2 ^ 62 ∧ R (Itr 0 j.toNat) H1
theorem Xz {a : Expr} {ta : TA} {p pos : Pos} (hg : Gl X "range") (hm : X.mg "range" = none) (ha : PA X [a] ta) (hs : autoParam (starEach [a] X.env = [(false, eval a X.env)]) L2.aRfl._auto_1) : PI X tg (.Call (.Name "range" p) [a] [] pos) (iRng1 ta) := by
 intro pins s σ H R I h
 refine Call_ (Qab I hg hm boot_range (PyProof.Rows.callWith_type1 (thn (ha pos pins s σ H _ I h) fun us s1 hqP => ?_) hs rfl))
 obtain ⟨vs, H1, I1, r1, q1⟩ := hqP
 obtain ⟨j, e, q1, q2, q⟩ := q1
 subst e
 cases r1 with
 | cons r rr =>
  cases rr
  obtain ⟨t, rfl⟩ := r
  exact call_range_1 (Qpa I1 (by omega) (by omega) q1 q2 (by simpa using q))
def tFor (wi : TI) (g : TG) (tb : TS) : TS := fun D σ H => wi σ H fun J H1 => ∃ W : Nat → Nat → St → Hp → Prop, (∃ m, W 0 m σ H1) ∧ ∀ i m σ H, W i m σ H →
 (J.stop i H ∧ D.nx σ H) ∨ (J.go i H ∧ ∃ N : St → Hp → Prop, (∀ σ' H', N σ' H' → ∃ m', m' < m ∧ W (i + 1) m' σ' H') ∧ ∀ x H', J.yld i H x H' → g x σ H' fun σ2 H2 => tb { D with nx := N, ct := N, bk := D.nx } σ2 H2)
def Qej (fp : List Addr) (h : Heap) : List (Addr × Obj) := fp.filterMap fun b => (h.get? b).map fun o => (b, o)
theorem Ku {fp : List Addr} {h : Heap} {b : Addr} {o : Obj} (hb : b ∈ fp) (e : h.get? b = some o) : (b, o) ∈ Qej fp h := List.mem_filterMap.mpr ⟨b, hb, by rw [e]; rfl⟩
theorem Qlm {fp : List Addr} {h : Heap} {p : Addr × Obj} (hp : p ∈ Qej fp h) : p.1 ∈ fp ∧ h.get? p.1 = some p.2 := by
 obtain ⟨b, hb, e⟩ := List.mem_filterMap.mp hp
 cases q : h.get? b with
 | none => rw [q] at e; cases e
 | some o =>
  rw [q] at e
  have e' : (b, o) = p := Option.some.inj e
  subst e'
  exact ⟨hb, q⟩
theorem Inv.pinned {pins : List (Addr × Obj)} {σ : St} {H : Hp} {s : Shared} {fp : List Addr} (I : Inv X pins σ H s) (hf : ∀ b ∈ fp, FpOk X pins H b) (ho : ∀ b ∈ fp, ∃ o, s.heap.get? b = some o ∧ ∀ v, o.data ≠ .cell v) : Inv X (pins ++ Qej fp s.heap) σ H s :=
 I.pins_of fun p hp => (wJ.mp hp).elim (fun z => I.pin p (xJ _ z)) fun z => by
  obtain ⟨hb, e⟩ := Qlm z
  obtain ⟨f0, f1, f2, _⟩ := hf p.1 hb
  obtain ⟨o, e', d⟩ := ho p.1 hb
  rw [e] at e'; cases e'
  exact ⟨e, f0, f1, f2, d⟩
theorem Inv.unpinned {pins pl : List (Addr × Obj)} {σ : St} {H : Hp} {s : Shared} (I : Inv X (pins ++ pl) σ H s) : Inv X pins σ H s := I.pins_of fun p hp => I.pin p (xJ _ (kXe _ hp))
theorem Yq {iter : Expr} {body : List Stmt} {wi : TI} {g : TG} {tb : TS} {pos : Pos} (hp : PassesOwn (model X.prog X.w) X.A X.env X.xe) (hc : X.calm = true) (hi : PI X tg iter wi) (hg : PG X tg g) (hb : PSs X body tb)
  (hs : autoParam (∀ x, foldedSetIterable iter X.env x = pure x) L2.aIrf._auto_1) : PS X (.For tg iter body [] pos) (tFor wi g tb) := by
 intro pins s σ H D I h
 refine wpAny_For (thn (hi pins s σ H _ I h) fun v s1 h1 => thn h1 fun itv s2 h2 => ?_) hs
 obtain ⟨it, fp, tn, J, H2, e, I2, T, st2, f2, W, ⟨m0, w0⟩, turn⟩ := h2
 subst e
 -- what stays true of the iterator's objects through the loop
 have stat : ∀ {H' : Hp}, (∀ b ∈ fp, H' b = none) → ∀ b ∈ fp, FpOk X pins H' b := fun hn b hb => ⟨hn b hb, (f2 b hb).2⟩
 refine codeAny_forLoop_any (fun n s' => ∃ i σ' H', Inv X pins σ' H' s' ∧ tn i s'.heap ∧ (∀ b ∈ fp, H' b = none) ∧ W i n σ' H') ?_ m0 ⟨0, σ, H2, I2, st2, fun b hb => (f2 b hb).1, w0⟩
 rintro n s3 ⟨i, σ3, H3, I3, st3, fr3, w3⟩
 rcases turn i n σ3 H3 w3 with ⟨stop, qn⟩ | ⟨go, N, hN, step⟩
 ·refine wpAny_passesOwn hp (thn (T.done X rfl rfl rfl hc i pins s3 σ3 H3 X.xe I3 (stat fr3) st3 stop) fun r s4 hqP => ?_)
  obtain ⟨hr, I4⟩ := hqP
  subst hr
  exact wpAny_execs_nil ⟨σ3, H3, I4, qn⟩
 ·refine wpAny_passesOwn hp (thn (T.item X rfl rfl rfl hc i pins s3 σ3 H3 X.xe I3 (stat fr3) st3 go) fun r s4 hqP => ?_)
  obtain ⟨u, hr, h4⟩ := hqP
  subst hr
  refine wpAny_passesOwn hp (thn h4 fun _ s5 hqP => ?_)
  obtain ⟨x, H5, I5, r5, y5, st5, fr5⟩ := hqP
  have I5' := I5.pinned (stat fr5) (T.obj _ _ st5)
  refine wpAny_passesOwn hp (thn (hg _ s5 σ3 H5 x u _ I5' r5 (step x H5 y5)) fun _ s6 hqP => ?_)
  obtain ⟨σ6, H6, I6, q6⟩ := hqP
  refine wpAny_passesOwn hp (thn (hb _ s6 σ6 H6 _ I6 q6) fun f s7 q7 => ?_)
  have again : ∀ {σ7 : St} {H7 : Hp}, Inv X (pins ++ Qej fp s5.heap) σ7 H7 s7 → N σ7 H7 → ∃ m, m < n ∧ ∃ i σ' H', Inv X pins σ' H' s7 ∧ tn i s7.heap ∧ (∀ b ∈ fp, H' b = none) ∧ W i m σ' H' := fun {σ7 H7} I7 n7 => by
   obtain ⟨m', hm, w7⟩ := hN σ7 H7 n7
   refine ⟨m', hm, i + 1, σ7, H7, I7.unpinned, T.keep _ _ _ st5 fun b hb o e => (I7.pin (b, o) (xJ _ (xJ _ (Ku hb e)))).1, fun b hb => ?_, w7⟩
   obtain ⟨o, e, d⟩ := T.obj _ _ st5 b hb
   exact (I7.pin (b, o) (xJ _ (xJ _ (Ku hb e)))).2.1
  cases f with
  | next => obtain ⟨σ7, H7, I7, n7⟩ := q7; exact again I7 n7
  | cont => obtain ⟨σ7, H7, I7, n7⟩ := q7; exact again I7 n7
  | brk => obtain ⟨σ7, H7, I7, q7⟩ := q7; exact ⟨σ7, H7, I7.unpinned, q7⟩
  | ret v => obtain ⟨x7, σ7, H7, I7, r7, q7⟩ := q7; exact ⟨x7, σ7, H7, I7.unpinned, r7, q7⟩
end
theorem Ju {K : Fg} {a : Addr} {xs : List V} {g : TG} {tb : TS} {D : Ends} {σ : St} {H : Hp} (Pv : Nat → St → Hp → Prop) (h0 : Pv 0 σ H) (hl : ∀ i σ H, i ≤ xs.length → Pv i σ H → SqL K H a xs)
  (hs : ∀ i x σ H, xs[i]? = some x → Pv i σ H → g x σ H fun σ2 H2 => tb { D with nx := Pv (i + 1), ct := Pv (i + 1), bk := D.nx } σ2 H2) (hd : ∀ σ H, Pv xs.length σ H → D.nx σ H) :
  ∃ W : Nat → Nat → St → Hp → Prop, (∃ m, W 0 m σ H) ∧ ∀ i m σ H, W i m σ H →
   ((Itl K a).stop i H ∧ D.nx σ H) ∨ ((Itl K a).go i H ∧ ∃ N : St → Hp → Prop, (∀ σ' H', N σ' H' → ∃ m', m' < m ∧ W (i + 1) m' σ' H') ∧ ∀ x H', (Itl K a).yld i H x H' → g x σ H' fun σ2 H2 => tb { D with nx := N, ct := N, bk := D.nx } σ2 H2) := by
 refine ⟨fun i m σ H => m = xs.length - i ∧ i ≤ xs.length ∧ Pv i σ H, ⟨xs.length, by simp, jXb _, h0⟩, ?_⟩
 rintro i m σ H ⟨rfl, hi, p⟩
 have q := hl i σ H hi p
 by_cases hlt : i < xs.length
 ·refine .inr ⟨⟨xs, xs[i], q, by simp [hlt]⟩, Pv (i + 1), fun σ' H' p' => ⟨xs.length - (i + 1), by omega, rfl, hlt, p'⟩, fun x H' y => ?_⟩
  obtain ⟨e, y⟩ := y
  subst e
  exact hs i x σ _ (y xs q) p
 ·have e : i = xs.length := by omega
  subst e
  exact .inl ⟨⟨xs, q, jZ _⟩, hd σ H p⟩
theorem Yd {lo : Int} {n : Nat} {g : TG} {tb : TS} {D : Ends} {σ : St} {H : Hp} (Pv : Nat → St → Hp → Prop) (h0 : Pv 0 σ H)
  (hs : ∀ i σ H, i < n → Pv i σ H → g (.int (lo + i)) σ H fun σ2 H2 => tb { D with nx := Pv (i + 1), ct := Pv (i + 1), bk := D.nx } σ2 H2) (hd : ∀ σ H, Pv n σ H → D.nx σ H) :
  ∃ W : Nat → Nat → St → Hp → Prop, (∃ m, W 0 m σ H) ∧ ∀ i m σ H, W i m σ H →
   ((Itr lo n).stop i H ∧ D.nx σ H) ∨ ((Itr lo n).go i H ∧ ∃ N : St → Hp → Prop, (∀ σ' H', N σ' H' → ∃ m', m' < m ∧ W (i + 1) m' σ' H') ∧ ∀ x H', (Itr lo n).yld i H x H' → g x σ H' fun σ2 H2 => tb { D with nx := N, ct := N, bk := D.nx } σ2 H2) := by
 refine ⟨fun i m σ H => m = n - i ∧ i ≤ n ∧ Pv i σ H, ⟨n, by simp, jXb _, h0⟩, ?_⟩
 rintro i m σ H ⟨rfl, hi, p⟩
 by_cases hlt : i < n
 ·refine .inr ⟨hlt, Pv (i + 1), fun σ' H' p' => ⟨n - (i + 1), by omega, rfl, hlt, p'⟩, fun x H' y => ?_⟩
  obtain ⟨e, y⟩ := y
  subst e y
  exact hs i σ _ hlt p
 ·have e : i = n := by omega
  subst e
  exact .inl ⟨jZ _, hd σ H p⟩
abbrev R2 := V → V → Hp → VK → Prop
def OpR (X : Cx) (f : Value → Value → Sem Value) (r : R2) : Prop :=
 ∀ (pins : List (Addr × Obj)) (s : Shared) (σ : St) (H : Hp) (x y : V) (v u : Value) (Q : VK), Inv X pins σ H s → RelV x v → RelV y u → r x y H Q →
  wpAny (model X.prog X.w) X.A (f v u) (EP X pins σ Q) X.xe s
def UnR (X : Cx) (f : Value → Sem Value) (r : V → Hp → VK → Prop) : Prop :=
 ∀ (pins : List (Addr × Obj)) (s : Shared) (σ : St) (H : Hp) (x : V) (v : Value) (Q : VK), Inv X pins σ H s → RelV x v → r x H Q →
  wpAny (model X.prog X.w) X.A (f v) (EP X pins σ Q) X.xe s
def Jq (X : Cx) (f : Value) (r : List V → Hp → VK → Prop) : Prop :=
 ∀ (pins : List (Addr × Obj)) (s : Shared) (σ : St) (H : Hp) (xs : List V) (us : List Value) (Q : VK), Inv X pins σ H s → Vals xs us → r xs H Q →
  wpAny (model X.prog X.w) X.A (call f us) (EP X pins σ Q) X.xe s
def tOp (r : R2) (ta tb : TE) : TE := fun σ H Q => ta σ H fun x H1 => tb σ H1 fun y H2 => r x y H2 Q
def tUn (r : V → Hp → VK → Prop) (ta : TE) : TE := fun σ H Q => ta σ H fun x H1 => r x H1 Q
def rI (C : Int → Int → Prop) (g : Int → Int → V) : R2 := fun x y H Q => ∃ i j, x = .int i ∧ y = .int j ∧ C i j ∧ Q (g i j) H
def rI0 (g : Int → Int → V) : R2 := fun x y H Q => ∃ i j, x = .int i ∧ y = .int j ∧ Q (g i j) H
def rU (g : Int → V) : V → Hp → VK → Prop := fun x H Q => ∃ i, x = .int i ∧ Q (g i) H
section
variable {X : Cx} {a b c : Expr} {ta tb tc : TE} {pos : Pos}
theorem binT (ha : PE X a ta) (hb : PE X b tb) {pins : List (Addr × Obj)} {s : Shared} {σ : St} {H : Hp} {R : V → V → Hp → Prop} (I : Inv X pins σ H s)
  (h : ta σ H fun x H1 => tb σ H1 fun y H2 => R x y H2) {Q : Value → Shared → Prop} {f : Value → Value → Sem Value}
  (hf : ∀ v u s2 x y H2, Inv X pins σ H2 s2 → RelV x v → RelV y u → R x y H2 → wpAny (model X.prog X.w) X.A (f v u) Q X.xe s2) :
  wpAny (model X.prog X.w) X.A (eval a X.env) (fun v s₁ => wpAny (model X.prog X.w) X.A (eval b X.env) (fun u s₂ => wpAny (model X.prog X.w) X.A (f v u) Q X.xe s₂) X.xe s₁) X.xe s := by
 refine thn (ha pins s σ H _ I h) fun v s1 hqP => ?_
 obtain ⟨x, H1, I1, r1, q1⟩ := hqP
 refine thn (hb pins s1 σ H1 _ I1 q1) fun u s2 hqP => ?_
 obtain ⟨y, H2, I2, r2, q2⟩ := hqP
 exact hf v u s2 x y H2 I2 r1 r2 q2
theorem Qr {op : Operator} {r : R2} (ho : OpR X (binaryOp op) r) (ha : PE X a ta) (hb : PE X b tb) : PE X (.BinOp a op b pos) (tOp r ta tb) := by
 intro pins s σ H Q I h
 exact wpAny_BinOp (binT ha hb I h fun v u s2 x y H2 I2 rx ry q => ho pins s2 σ H2 x y v u Q I2 rx ry q)
theorem Vi {op : UnaryOp} {r : V → Hp → VK → Prop} (ho : UnR X (unaryOp op) r) (ha : PE X a ta) : PE X (.UnaryOp op a pos) (tUn r ta) := by
 intro pins s σ H Q I h
 exact UnaryOp_ (thn (ha pins s σ H _ I h) fun v s1 ⟨x, H1, I1, r1, q1⟩ => ho pins s1 σ H1 x v Q I1 r1 q1)
theorem opI {f : Value → Value → Sem Value} {C : Int → Int → Prop} {g : Int → Int → Int}
  (rule : ∀ (i j : Int) (t u : Tok) (s : Shared) (Q : Value → Shared → Prop) (E : Value → Shared → Prop), C i j → Q (.int (g i j) s.toks) { s with toks := s.toks + 1 } → wpAny (model X.prog X.w) X.A (f (.int i t) (.int j u)) Q E s) :
  OpR X f (rI C fun i j => .int (g i j)) := by
 intro pins s σ H x y v u Q I rx ry h
 obtain ⟨i, j, rfl, rfl, hc, q⟩ := h
 obtain ⟨t, rfl⟩ := rx
 obtain ⟨t', rfl⟩ := ry
 exact rule i j t t' s _ _ hc ⟨.int (g i j), H, I.tok _, ⟨_, rfl⟩, q⟩
theorem opI0 {f : Value → Value → Sem Value} {g : Int → Int → Int}
  (rule : ∀ (i j : Int) (t u : Tok) (s : Shared) (Q : Value → Shared → Prop) (E : Value → Shared → Prop), Q (.int (g i j) s.toks) { s with toks := s.toks + 1 } → wpAny (model X.prog X.w) X.A (f (.int i t) (.int j u)) Q E s) :
  OpR X f (rI0 fun i j => .int (g i j)) := by
 intro pins s σ H x y v u Q I rx ry h
 obtain ⟨i, j, rfl, rfl, q⟩ := h
 obtain ⟨t, rfl⟩ := rx
 obtain ⟨t', rfl⟩ := ry
 exact rule i j t t' s _ _ ⟨.int (g i j), H, I.tok _, ⟨_, rfl⟩, q⟩
theorem opB0 {f : Value → Value → Sem Value} {g : Int → Int → Bool}
  (rule : ∀ (i j : Int) (t u : Tok) (s : Shared) (Q : Value → Shared → Prop) (E : Value → Shared → Prop), Q (.bool (g i j)) s → wpAny (model X.prog X.w) X.A (f (.int i t) (.int j u)) Q E s) :
  OpR X f (rI0 fun i j => .bl (g i j)) := by
 intro pins s σ H x y v u Q I rx ry h
 obtain ⟨i, j, rfl, rfl, q⟩ := h
 obtain ⟨t, rfl⟩ := rx
 obtain ⟨t', rfl⟩ := ry
 exact rule i j t t' s _ _ ⟨.bl (g i j), H, I, rfl, q⟩
def CDiv (i j : Int) : Prop := 0 < j ∧ j < 1073741824
def CMul (i j : Int) : Prop := (-(2 ^ 64) < i ∧ i < 2 ^ 64) ∨ (-(2 ^ 64) < j ∧ j < 2 ^ 64)
theorem CMul.ok {i j : Int} (h : CMul i j) : IntMulOk i j := by
 rcases h with ⟨h1, h2⟩ | ⟨h1, h2⟩
 ·exact .of_left (intBits_le_64 h1 h2)
 ·exact .of_right (intBits_le_64 h1 h2)
theorem Xr : OpR X (binaryOp .Add) (rI0 fun i j => .int (i + j)) := opI0 fun _ _ _ _ _ _ _ q => add_int q
theorem Zv : OpR X (binaryOp .Sub) (rI0 fun i j => .int (i - j)) := opI0 fun _ _ _ _ _ _ _ q => sub_int q
theorem Kd : OpR X (binaryOp .Mult) (rI CMul fun i j => .int (i * j)) := opI fun _ _ _ _ _ _ _ hc q => mul_int q hc.ok
theorem Kl : OpR X (binaryOp .FloorDiv) (rI CDiv fun i j => .int (i / j)) := opI fun i j _ _ _ _ _ hc q => by
 have h1 : (0 : Int) < j := hc.1
 have h2 : j < 1073741824 := hc.2
 exact floordiv_int (by omega) (by rw [jKe i (by omega)]; exact q) (.inl (PyProof.noPylong_small (by omega)))
theorem Xn : OpR X (binaryOp .Mod) (rI (fun _ j => 0 < j) fun i j => .int (i % j)) := opI fun i j _ _ _ _ _ hc q => by
 have h1 : (0 : Int) < j := hc
 exact mod_int' (by omega) (by rw [Int.fmod_eq_emod_of_nonneg i (by omega)]; exact q)
theorem unI {f : Value → Sem Value} {g : Int → Int}
  (rule : ∀ (i : Int) (t : Tok) (s : Shared) (Q : Value → Shared → Prop) (E : Value → Shared → Prop), Q (.int (g i) s.toks) { s with toks := s.toks + 1 } → wpAny (model X.prog X.w) X.A (f (.int i t)) Q E s) :
  UnR X f (rU fun i => .int (g i)) := by
 intro pins s σ H x v Q I rx h
 obtain ⟨i, rfl, q⟩ := h
 obtain ⟨t, rfl⟩ := rx
 exact rule i t s _ _ ⟨.int (g i), H, I.tok _, ⟨_, rfl⟩, q⟩
theorem Zw : UnR X (unaryOp .USub) (rU fun i => .int (-i)) := unI fun _ _ _ _ _ q => neg_int q
end
def scal : V → V → Bool
 | .non, .non => true | .non, .int _ => true | .int _, .non => true | .non, .bl _ => true | .bl _, .non => true | .non, .str _ => true | .str _, .non => true
 | .int _, .int _ => true | .bl _, .bl _ => true | .str _, .str _ => true | .byt _, .byt _ => true
 | .int _, .str _ => true | .str _, .int _ => true | .bl _, .str _ => true | .str _, .bl _ => true
 | _, _ => false
def rEq : R2 := fun x y H Q => scal x y = true ∧ Q (.bl (decide (x = y))) H
def rNe : R2 := fun x y H Q => scal x y = true ∧ Q (.bl (!decide (x = y))) H
theorem Qln {i j : Int} : decide (V.int i = V.int j) = (i == j) := by
 rw [xY]
 simp
theorem Qrn {i j : Bool} : decide (V.bl i = V.bl j) = (i == j) := by
 rw [xY]
 simp
theorem Qlo {i j : Str} : decide (V.str i = V.str j) = (i == j) := by
 rw [xY]
 simp
theorem Qlp {i j : Array UInt8} : decide (V.byt i = V.byt j) = (i.toList == j.toList) := by
 rw [xY]
 cases i
 cases j
 simp
section
variable {X : Cx} {a b c : Expr} {ta tb tc : TE} {pos : Pos}
theorem Xw {pins : List (Addr × Obj)} {σ : St} {H : Hp} {s : Shared} {Q : VK} {k k' : Bool} (I : Inv X pins σ H s) (q : Q (.bl k) H) (e : k = k') : EP X pins σ Q (.bool k') s := by
 subst e
 exact ⟨.bl k, H, I, rfl, q⟩
theorem Yl : OpR X (compareOp .Eq) rEq := by
 intro pins s σ H x y v u Q I rx ry h
 obtain ⟨hs, q⟩ := h
 cases x with
 | non =>
  cases rx
  cases y with
  | non => cases ry; exact PySem.EqNone.eq_none_none (Xw I q (by simp))
  | bl j => cases ry; exact PySem.EqNone.eq_none_bool (Xw I q (by simp))
  | int j => obtain ⟨t', rfl⟩ := ry; exact PySem.EqNone.eq_none_int (Xw I q (by simp))
  | str j => obtain ⟨t', rfl⟩ := ry; exact PySem.EqNone.eq_none_str (Xw I q (by simp))
  | _ => exact absurd (show false = true from hs) kY
 | bl i =>
  cases rx
  cases y with
  | non => cases ry; exact PySem.EqNone.eq_bool_none (Xw I q (by simp))
  | bl j => cases ry; exact eq_bool (Xw I q Qrn)
  | str j => obtain ⟨t', rfl⟩ := ry; exact PySem.EqMixed.eq_bool_str (Xw I q (by simp))
  | _ => exact absurd (show false = true from hs) kY
 | int i =>
  obtain ⟨t, rfl⟩ := rx
  cases y with
  | non => cases ry; exact PySem.EqNone.eq_int_none (Xw I q (by simp))
  | int j => obtain ⟨t', rfl⟩ := ry; exact eq_int (Xw I q Qln)
  | str j => obtain ⟨t', rfl⟩ := ry; exact PySem.EqMixed.eq_int_str (Xw I q (by simp))
  | _ => exact absurd (show false = true from hs) kY
 | str i =>
  obtain ⟨t, rfl⟩ := rx
  cases y with
  | non => cases ry; exact PySem.EqNone.eq_str_none (Xw I q (by simp))
  | bl j => cases ry; exact PySem.EqMixed.eq_str_bool (Xw I q (by simp))
  | int j => obtain ⟨t', rfl⟩ := ry; exact PySem.EqMixed.eq_str_int (Xw I q (by simp))
  | str j => obtain ⟨t', rfl⟩ := ry; exact eq_str (Xw I q Qlo)
  | _ => exact absurd (show false = true from hs) kY
 | byt i =>
  obtain ⟨t, rfl⟩ := rx
  cases y with
  | byt j => obtain ⟨t', rfl⟩ := ry; exact PySem.W.eq_bytes (Xw I q Qlp)
  | _ => exact absurd (show false = true from hs) kY
 | _ => cases y <;> exact absurd (show false = true from hs) kY
theorem Qcy : OpR X (compareOp .NotEq) rNe := by
 intro pins s σ H x y v u Q I rx ry h
 obtain ⟨hs, q⟩ := h
 cases x with
 | non =>
  cases rx
  cases y with
  | non => cases ry; exact PySem.EqNone.ne_none_none (Xw I q (by simp))
  | bl j => cases ry; exact PySem.EqNone.ne_none_bool (Xw I q (by simp))
  | int j => obtain ⟨t', rfl⟩ := ry; exact PySem.EqNone.ne_none_int (Xw I q (by simp))
  | str j => obtain ⟨t', rfl⟩ := ry; exact PySem.EqNone.ne_none_str (Xw I q (by simp))
  | _ => exact absurd (show false = true from hs) kY
 | bl i =>
  cases rx
  cases y with
  | non => cases ry; exact PySem.EqNone.ne_bool_none (Xw I q (by simp))
  | bl j => cases ry; exact ne_bool (Xw I q (congrArg not Qrn))
  | str j => obtain ⟨t', rfl⟩ := ry; exact PySem.EqMixed.ne_bool_str (Xw I q (by simp))
  | _ => exact absurd (show false = true from hs) kY
 | int i =>
  obtain ⟨t, rfl⟩ := rx
  cases y with
  | non => cases ry; exact PySem.EqNone.ne_int_none (Xw I q (by simp))
  | int j => obtain ⟨t', rfl⟩ := ry; exact ne_int (Xw I q (congrArg not Qln))
  | str j => obtain ⟨t', rfl⟩ := ry; exact PySem.EqMixed.ne_int_str (Xw I q (by simp))
  | _ => exact absurd (show false = true from hs) kY
 | str i =>
  obtain ⟨t, rfl⟩ := rx
  cases y with
  | non => cases ry; exact PySem.EqNone.ne_str_none (Xw I q (by simp))
  | bl j => cases ry; exact PySem.EqMixed.ne_str_bool (Xw I q (by simp))
  | int j => obtain ⟨t', rfl⟩ := ry; exact PySem.EqMixed.ne_str_int (Xw I q (by simp))
  | str j => obtain ⟨t', rfl⟩ := ry; exact ne_str (Xw I q (congrArg not Qlo))
  | _ => exact absurd (show false = true from hs) kY
 | byt i =>
  obtain ⟨t, rfl⟩ := rx
  cases y with
  | byt j => obtain ⟨t', rfl⟩ := ry; exact PySem.W.ne_bytes (Xw I q (congrArg not Qlp))
  | _ => exact absurd (show false = true from hs) kY
 | _ => cases y <;> exact absurd (show false = true from hs) kY
theorem Qah : OpR X (compareOp .Lt) (rI0 fun i j => .bl (decide (i < j))) := opB0 fun _ _ _ _ _ _ _ q => lt_int q
theorem op_le : OpR X (compareOp .LtE) (rI0 fun i j => .bl (decide (i ≤ j))) := opB0 fun _ _ _ _ _ _ _ q => le_int q
theorem Qlq : OpR X (compareOp .Gt) (rI0 fun i j => .bl (decide (j < i))) := opB0 fun _ _ _ _ _ _ _ q => gt_int q
theorem Qlr : OpR X (compareOp .GtE) (rI0 fun i j => .bl (decide (j ≤ i))) := opB0 fun _ _ _ _ _ _ _ q => ge_int q
theorem Qhy : OpR X (compareOp .Is) (fun x y H Q => y = .non ∧ Q (.bl (decide (x = .non))) H) := by
 intro pins s σ H x y v u Q I rx ry h
 obtain ⟨rfl, q⟩ := h
 cases ry
 refine is_none_gen (Xw I q ?_)
 cases x <;> first
  | (cases rx; rfl)
  | (obtain ⟨t, rfl⟩ := rx; rfl)
theorem Qgs : OpR X (compareOp .IsNot) (fun x y H Q => y = .non ∧ Q (.bl (!decide (x = .non))) H) := by
 intro pins s σ H x y v u Q I rx ry h
 obtain ⟨rfl, q⟩ := h
 cases ry
 refine isnot_none_gen (Xw I q ?_)
 cases x <;> first
  | (cases rx; rfl)
  | (obtain ⟨t, rfl⟩ := rx; rfl)
theorem Qs (b : Expr) {op : CmpOp} (h : autoParam (op ≠ .In) L2.aDec._auto_1) (h2 : autoParam (op ≠ .NotIn) L2.aDec._auto_1) : behindInMarks op b = false := by
 have e1 : (op == CmpOp.In) = false := by cases op <;> first | rfl | exact absurd rfl h
 have e2 : (op == CmpOp.NotIn) = false := by cases op <;> first | rfl | exact absurd rfl h2
 cases b <;> simp [behindInMarks, e1, e2]
theorem Yg {op : CmpOp} {r : R2} (ho : OpR X (compareOp op) r) (ha : PE X a ta) (hb : PE X b tb) (hm : behindInMarks op b = false) : PE X (.Compare a [op] [b] pos) (tOp r ta tb) := by
 intro pins s σ H Q I h
 exact wpAny_Compare1 (binT ha hb I h fun v u s2 x y H2 I2 rx ry q => ho pins s2 σ H2 x y v u Q I2 rx ry q) hm
def tTest (t : TE) : TT := fun σ H Q => t σ H fun x H' => ∃ k, x = .bl k ∧ Q k H'
theorem Qq {op : CmpOp} {r : R2} (ho : OpR X (compareOp op) r) (ha : PE X a ta) (hb : PE X b tb) (hm : behindInMarks op b = false) : PT X (.Compare a [op] [b] pos) (tTest (tOp r ta tb)) := by
 intro pins s σ H Q I h
 refine wpAny_isTrue_Compare1 (thn (ha pins s σ H _ I h) fun v s1 ⟨x, H1, I1, r1, q1⟩ => thn (hb pins s1 σ H1 _ I1 q1) fun u s2 ⟨y, H2, I2, r2, q2⟩ =>
  thn (ho pins s2 σ H2 x y v u _ I2 r1 r2 q2) fun c s3 ⟨z, H3, I3, r3, k, e, q3⟩ => ?_) hm
 subst e
 cases r3
 exact wpAny_truthy_bool ⟨H3, I3, q3⟩
def tChain (r r' : R2) (ta tb tc : TE) : TE := fun σ H Q => ta σ H fun x H1 => tb σ H1 fun y H2 => r x y H2 fun z H3 => ∃ k, z = .bl k ∧
 (if k = true then tc σ H3 fun w' H4 => r' y w' H4 Q else Q (.bl false) H3)
theorem Qpb {op op' : CmpOp} {r r' : R2} (ho : OpR X (compareOp op) r) (ho' : OpR X (compareOp op') r') (ha : PE X a ta) (hb : PE X b tb) (hc : PE X c tc)
  (hm : lastMarks [op, op'] [b, c] = false := by with_unfolding_all rfl) : PE X (.Compare a [op, op'] [b, c] pos) (tChain r r' ta tb tc) := by
 intro pins s σ H Q I h
 refine Compare_chain (thn (ha pins s σ H _ I h) fun v s1 ⟨x, H1, I1, r1, q1⟩ => chain_link (thn (hb pins s1 σ H1 _ I1 q1) fun u s2 ⟨y, H2, I2, r2, q2⟩ =>
  thn (ho pins s2 σ H2 x y v u _ I2 r1 r2 q2) fun d s3 ⟨z, H3, I3, r3, k, e, q3⟩ => ?_)) hm
 subst e
 cases r3
 refine wpAny_truthy_bool ?_
 cases k with
 | false => exact ite_ff ⟨.bl false, H3, I3, rfl, q3⟩
 | true => exact ite_tt (chain_last (thn (hc pins s3 σ H3 _ I3 q3) fun w' s4 ⟨z', H4, I4, r4, q4⟩ => ho' pins s4 σ H4 y z' u w' Q I4 r2 r4 q4))
theorem Qek : (sizeLine : Nat) < 2 ^ 63 := by rw [sizeLine_eq]; decide
theorem vals1 {x : V} {us : List Value} (r : Vals [x] us) : ∃ u, us = [u] ∧ RelV x u := by
 cases r with
 | cons r1 r2 => cases r2; exact ⟨_, rfl, r1⟩
theorem vals2 {x y : V} {us : List Value} (r : Vals [x, y] us) : ∃ u w', us = [u, w'] ∧ RelV x u ∧ RelV y w' := by
 cases r with
 | cons r1 r2 =>
  cases r2 with
  | cons r3 r4 => cases r4; exact ⟨_, _, rfl, r1, r3⟩
theorem Zx (hc : X.calm = true) : Jq X (.builtin "max") (fun xs H Q => ∃ i j, xs = [.int i, .int j] ∧ Q (.int (if j > i then j else i)) H) := by
 intro pins s σ H xs us Q I r h
 obtain ⟨i, j, rfl, q⟩ := h
 obtain ⟨u, w', rfl, ⟨t, rfl⟩, ⟨t', rfl⟩⟩ := vals2 r
 refine max_two_ints (I.ok.hd hc) fun h' tk k => ⟨_, H, I.kept k, ?_, q⟩
 by_cases hj : j > i
 ·rw [if_pos hj, if_pos hj]; exact ⟨_, rfl⟩
 ·rw [if_neg hj, if_neg hj]; exact ⟨_, rfl⟩
theorem Vs (hc : X.calm = true) : Jq X (.builtin "min") (fun xs H Q => ∃ i j, xs = [.int i, .int j] ∧ Q (.int (if j < i then j else i)) H) := by
 intro pins s σ H xs us Q I r h
 obtain ⟨i, j, rfl, q⟩ := h
 obtain ⟨u, w', rfl, ⟨t, rfl⟩, ⟨t', rfl⟩⟩ := vals2 r
 refine min_two_ints (I.ok.hd hc) fun h' tk k => ⟨_, H, I.kept k, ?_, q⟩
 by_cases hj : j < i
 ·rw [if_pos hj, if_pos hj]; exact ⟨_, rfl⟩
 ·rw [if_neg hj, if_neg hj]; exact ⟨_, rfl⟩
theorem Qls : Jq X (.type "int") (fun xs H Q => (∃ i, xs = [.int i] ∧ Q (.int i) H) ∨ ∃ k, xs = [.bl k] ∧ Q (.int (if k then 1 else 0)) H) := by
 intro pins s σ H xs us Q I r h
 rcases h with ⟨i, rfl, q⟩ | ⟨k, rfl, q⟩
 ·obtain ⟨u, rfl, t, rfl⟩ := vals1 r
  exact call_int_int ⟨.int i, H, I, ⟨_, rfl⟩, q⟩
 ·obtain ⟨u, rfl, r1⟩ := vals1 r
  cases r1
  exact call_int_bool ⟨.int (if k then 1 else 0), H, I.tok _, ⟨_, rfl⟩, q⟩
end
section
variable {prog : Program} {w : World} {A : Around} {E : Value → Shared → Prop} {s : Shared} {K : Fg} {x dx C f : Addr} {mA : Str → Option Value} {name : Str} {v : Value}
end
theorem RelO.some_of {v : V} {o : Option Value} (r : RelO (some v) o) : ∃ u, o = some u ∧ RelV v u := by
 cases o with
 | none => exact (show False from r).elim
 | some u => exact ⟨u, rfl, r⟩
section
variable {P : Program} {w : World} {H H' : Hp} {h h' : Heap} {a C dx : Addr} {fs fs' : List (Str × V)}
end
section
variable {X : Cx} {pins : List (Addr × Obj)} {σ : St} {H : Hp} {s : Shared} {a C dx : Addr} {fs : List (Str × V)} {f : Str} {v : V} {A : Around} {E : Value → Shared → Prop}
end
section
variable {X : Cx} {o e value : Expr} {f : Str} {pos pos' tpos : Pos} {ta tv : TE}
end
section
variable {X : Cx} {pins : List (Addr × Obj)} {σ : St} {H : Hp} {s : Shared} {A : Around} {E : Value → Shared → Prop} {Q : Value → Shared → Prop} {c : Value} {b : Bool}
end
structure Room (k : Nat) (A : Around) : Prop where
 hd : A.handled = none
 dp : A.depth + 3 * k + 5 < recursionLimit
 un : A.units + 16 * k + 200 < cLine
theorem Room.mono {j k : Nat} {A : Around} (r : Room k A) (h : j ≤ k) : Room j A := ⟨r.hd, by have := r.dp; omega, by have := r.un; omega⟩
theorem Room.deeper {k : Nat} {A : Around} (r : Room (k + 1) A) (env : Env) : Room k (A.deeper env) :=
 ⟨r.hd, by have := r.dp; show A.depth + 1 + 3 * k + 5 < _; omega, by have := r.un; show A.units + 3 + 16 * k + 200 < _; omega⟩
theorem Room.depth {k : Nat} {A : Around} (r : Room k A) : A.depth < recursionLimit := by have := r.dp; omega
def tNil : TA := fun _ H Q => Q [] H
def Va (ta : TE) (tr : TA) : TA := fun σ H Q => ta σ H fun x H1 => tr σ H1 fun xs H2 => Q (x :: xs) H2
section
variable {X : Cx} {e : Expr} {es : List Expr} {te : TE} {t : TA} {pos : Pos}
theorem Qe : PA X [] tNil := fun _ _ _ _ H Q I h => Calls.spliced_nil ⟨[], H, I, .nil, h⟩
theorem Qa (ha : PE X e te) (hr : PA X es t) (hs : autoParam (starEach (e :: es) X.env = (false, eval e X.env) :: starEach es X.env) L2.aRfl._auto_1) : PA X (e :: es) (Va te t) := by
 intro pos pins s σ H Q I h
 rw [hs]
 show wpAny _ _ (spliced ((false, eval e X.env) :: backTo pos (starEach es X.env))) _ _ s
 refine Calls.spliced_cons (thn (ha pins s σ H _ I h) fun u s1 hqP => ?_)
 obtain ⟨x, H1, I1, r1, q1⟩ := hqP
 exact thn (hr pos pins s1 σ H1 _ I1 q1) fun us s2 ⟨xs, H2, I2, r2, q2⟩ => ⟨x :: xs, H2, I2, .cons r1 r2, q2⟩
def tTup (t : TA) : TE := fun σ H Q => t σ H fun xs H1 => xs.length ≤ sizeLine ∧ ∀ p, H1 p = none → Q (.ref p) (upd H1 p (.tup xs))
def tLst (t : TA) : TE := fun σ H Q => t σ H fun xs H1 => xs.length ≤ sizeLine ∧ ∀ p, H1 p = none → Q (.ref p) (upd H1 p (.lst xs))
theorem Yy {x1} (h : PA X es t) : PE X (.Tuple es x1 pos) (tTup t) := by
 intro pins s σ H Q I hq
 refine wpAny_Tuple_spliced (thn (h pos pins s σ H _ I hq) fun us s1 ⟨xs, H1, I1, r, z, q⟩ => ⟨by rw [← r.length]; exact z, ?_⟩)
 have hf : H1 s1.heap.objs.size = none := I1.hok.fresh (jZ _)
 refine ⟨.ref s1.heap.objs.size, upd H1 s1.heap.objs.size (.tup xs), I1.laid (t' := s1.toks) (fun b u e => jJ _ e) (jZ _) ?_, rfl, q _ hf⟩
 exact ⟨z, us, r, ⟨_, yZ _ rfl, rfl, _, rfl⟩⟩
theorem Jg (h : PA X es t) : PE X (.List es pos) (tLst t) := by
 intro pins s σ H Q I hq
 refine wpAny_List_spliced (thn (h pos pins s σ H _ I hq) fun us s1 ⟨xs, H1, I1, r, z, q⟩ => ⟨by rw [← r.length]; exact z, ?_⟩)
 have hf : H1 s1.heap.objs.size = none := I1.hok.fresh (jZ _)
 refine ⟨.ref s1.heap.objs.size, upd H1 s1.heap.objs.size (.lst xs), I1.laid (t' := s1.toks) (fun b u e => jJ _ e) (jZ _) ?_, rfl, q _ hf⟩
 exact ⟨z, us, 0, r, yZ _ rfl⟩
end
abbrev Sp := List V → Hp → VK → XK → Prop
abbrev CXT := List Env → Hp → Shared → XK → Value → Shared → Prop
structure Env0 (P : Program) (w : World) (K : Fg) (mg : Str → Option Value) (base : Heap) (A : Around) (outer : List Env) (s : Shared) (H : Hp) : Prop where
 frames : A.frames = some outer
 mod : Mod K mg base
 bs : ∀ b o, base.get? b = some o → s.heap.get? b = some o ∧ H b = none
 bsz : base.objs.size ≤ s.heap.objs.size
 funs : s.heap.FunFrames base outer
 frf : ∀ b ∈ frs outer, H b = none
 hok : HOk P w H s.heap
 bare : AllBare s.gens
def CE (outer : List Env) (P : Program) (w : World) (H : Hp) (s : Shared) (Q : VK) (u : Value) (s' : Shared) : Prop :=
 ∃ v H', s'.os = s.os ∧ AllBare s'.gens ∧ Un (frs outer) [] H H' s.heap s'.heap ∧ HOk P w H' s'.heap ∧ RelV v u ∧ Q v H'
def CR (CX : CXT) (outer : List Env) (P : Program) (w : World) (H : Hp) (s : Shared) (Q : VK) (E : XK) (r : Result) (s' : Shared) : Prop :=
 match r with
 | .ok (.ret u) => CE outer P w H s Q u s'
 | .ok _ => False
 | .error e => CX outer H s E e s'
structure FnOk (P : Program) (w : World) (K : Fg) (mg : Str → Option Value) (base : Heap) (CX : CXT) (k : Nat) (f : Addr) (fd : FuncData) (ps : List Str) (sp : Sp) : Prop where
 len : ∀ vs H Q E, sp vs H Q E → vs.length = ps.length
 run : ∀ (A : Around) (outer : List Env) (s : Shared) (H : Hp) (args : Args) (us : List Value) (vs : List V) (Q : VK) (E : XK), Room k A → Env0 P w K mg base A outer s H → BindsTo s fd args (ps.zip us) → Vals vs us → sp vs H Q E →
  codeAny (model P w) A (.call (.ref f) args) (CR CX outer P w H s Q E) s
theorem FnOk.mono {P : Program} {w : World} {K : Fg} {mg : Str → Option Value} {base : Heap} {CX : CXT} {j k : Nat} {f : Addr} {fd : FuncData} {ps : List Str} {sp : Sp} (F : FnOk P w K mg base CX j f fd ps sp) (h : j ≤ k) :
  FnOk P w K mg base CX k f fd ps sp := ⟨F.len, fun A outer s H args us vs Q E hr => F.run A outer s H args us vs Q E (hr.mono h)⟩
section
variable {X : Cx} {pins : List (Addr × Obj)} {σ : St} {H : Hp} {s s' : Shared}
theorem Inv.env0 (I : Inv X pins σ H s) : Env0 X.prog X.w X.K X.mg X.base X.A X.stack s H :=
 ⟨I.ok.frames, I.ok.mod, I.bs, jQf I.ok.bsz I.sz, I.stack, I.stkFree, I.hok, I.bare⟩
theorem Inv.after {Q : VK} {u : Value} (I : Inv X pins σ H s) (h : CE X.stack X.prog X.w H s Q u s') : EP X pins σ Q u s' := by
 obtain ⟨v, H', os, bare, un, hok, r, q⟩ := h
 obtain ⟨hh, g, d, t, os'⟩ := s'
 obtain rfl : os' = s.os := os
 exact ⟨v, H', I.call (h' := hh) (g' := g) (d' := d) (t' := t) (ch := []) un hok bare (fun b z => absurd z (by simp)), r, q⟩
end
def Qsj (sp : Sp) (dvs : List V) (E : XK) (t : TA) : TE := fun σ H Q => t σ H fun vs H1 => sp (vs ++ dvs) H1 Q E
def Binds (K : Fg) (fd : FuncData) (ps : List Str) (ds : List Value) : Prop :=
 ∀ (s : Shared) (us : List Value), K.In s.heap → (us ++ ds).length = ps.length → BindsTo s fd ⟨us, []⟩ (ps.zip (us ++ ds))
theorem Binds.all {K : Fg} {fd : FuncData} {ps : List Str} (h : ∀ us : List Value, us.length = ps.length → bindArgs fd ⟨us, []⟩ = pure (ps.zip us)) : Binds K fd ps [] := fun s us _ hl => by
 rw [kXa] at hl ⊢
 exact .of_eq (h us hl)
def Qlt (CX : CXT) (X : Cx) (E : XK) : Prop := ∀ (pins : List (Addr × Obj)) (σ : St) (H : Hp) (s : Shared) (e : Value) (s' : Shared), Inv X pins σ H s → CX X.stack H s E e s' → X.xe e s'
section
variable {X : Cx} {CX : CXT} {k : Nat} {f C : Addr} {fd : FuncData} {ps : List Str} {sp : Sp} {dvs : List V} {ds : List Value} {E : XK} {x m : Str} {p pos apos : Pos} {e o : Expr} {es : List Expr} {ta : TE} {t : TA}
theorem Qro {pins : List (Addr × Obj)} {σ : St} {H : Hp} {s : Shared} {Q : VK} {us : List Value} {vs : List V} (F : FnOk X.prog X.w X.K X.mg X.base CX k f fd ps sp) (hr : Room k X.A) (hb : Binds X.K fd ps ds) (hd : Vals dvs ds) (hx : Qlt CX X E)
  (I : Inv X pins σ H s) (r : Vals vs us) (h : sp (vs ++ dvs) H Q E) : wpAny (model X.prog X.w) X.A (call (.ref f) us) (EP X pins σ Q) X.xe s := by
 have r2 : Vals (vs ++ dvs) (us ++ ds) := r.append hd
 have hl : (us ++ ds).length = ps.length := by rw [← r2.length]; exact F.len _ _ _ _ h
 refine wpAny_call (codeAny_mono (F.run X.A X.stack s H ⟨us, []⟩ (us ++ ds) (vs ++ dvs) Q E hr I.env0 (hb s us I.kIn hl) r2 h) fun r s' hq => ?_)
 cases r with
 | error e => exact hx pins σ H s e s' I hq
 | ok fl =>
  cases fl with
  | ret u => exact I.after hq
  | next => exact False.elim hq
  | brk => exact False.elim hq
  | cont => exact False.elim hq
theorem Qsk (F : FnOk X.prog X.w X.K X.mg X.base CX k f fd ps sp) (hr : Room k X.A) (hg : Gl X x) (hm : X.mg x = some (.ref f)) (hk : PySem.W.keepIn X.K (.ref f) = true) (hb : Binds X.K fd ps ds) (hd : Vals dvs ds) (hx : Qlt CX X E)
  (ha : PA X (e :: es) t) (hdb : autoParam ((x == ("__debug__" : Str)) = false) L2.aDec._auto_1) (he : autoParam (starEach (e :: es) X.env = (false, eval e X.env) :: starEach es X.env) L2.aRfl._auto_1) (hpl : autoParam ((backTo pos (starEach es X.env)).any (·.1) = false) L2.aRfl._auto_1) :
  PE X (.Call (.Name x p) (e :: es) [] pos) (Qsj sp dvs E t) := by
 intro pins s σ H Q I h
 refine wpAny_Call_Name_kw (Qlh I hg hm ?_ hdb)
 refine PySem.W.callWith_K (h₀ := X.base) I.ok.mod.kin hk (thn (ha pos pins s σ H _ I h) fun us s1 ⟨vs, H1, I1, r, q⟩ => ⟨I1.kIn, ?_⟩) he hpl
 exact Qro F hr hb hd hx I1 r q
end
section
variable {X : Cx} {CX : CXT} {k : Nat} {f C : Addr} {fd : FuncData} {ps ks : List Str} {sp : Sp} {E : XK} {x m : Str} {p pos apos kpos : Pos} {e o : Expr} {es : List Expr} {kws : List Keyword} {te ta : TE} {t tk : TA} {nm : Option Str}
variable {g : List Value → List Value → List Value} {gV : List V → List V → List V}
end
structure FnScope (N P : List Str) (sc : Scope) : Prop where
 kind : sc.kind = .function
 co : sc.isCoroutine = false
 gen : sc.isGenerator = false
 nd : N.Nodup
 pre : N.take P.length = P
 par : ∀ x ∈ P, sc.names.lookup x = some .local ∨ sc.names.lookup x = some .cell
 nofree : ∀ y ∈ sc.names, y.2 ≠ .free
theorem Qel {kindOf : Str → Option NameKind} {x : Str} : ∀ {binds : List (Str × Value)} {m : Str → Option Value}, (∀ v, (x, v) ∉ binds) → bindL kindOf binds m x = m x
 | [], _, _ => rfl
 | (n, v) :: r, m, h => by
  unfold bindL
  rw [Qel fun w hw => h w (zW _ hw)]
  split
  ·have : x ≠ n := by rintro rfl; exact h v zY
   simp [this]
  ·rfl
theorem Qem {kindOf : Str → Option NameKind} {x : Str} : ∀ {binds : List (Str × Value)} {m : Str → Option Value}, (∀ v, (x, v) ∉ binds) → bindC kindOf binds m x = m x
 | [], _, _ => rfl
 | (n, v) :: r, m, h => by
  unfold bindC
  rw [Qem fun w hw => h w (zW _ hw)]
  split
  ·rfl
  ·have : x ≠ n := by rintro rfl; exact h v zY
   simp [this]
theorem Qen {kindOf : Str → Option NameKind} {x : Str} {v : Value} : ∀ {P : List Str} {vs : List Value} {i : Nat} {m : Str → Option Value}, P.Nodup → P[i]? = some x → vs[i]? = some v → kindOf x = some .local →
  bindL kindOf (P.zip vs) m x = some v
 | [], _, _, _, _, h, _, _ => by simp at h
 | _ :: _, [], _, _, _, _, h, _ => by simp at h
 | p :: P, w :: vs, 0, m, nd, h1, h2, hk => by
  simp at h1 h2; subst h1; subst h2
  show bindL kindOf ((p, w) :: P.zip vs) m p = _
  unfold bindL
  rw [Qel fun v hv => (jJc.mp nd).1 (List.of_mem_zip hv).1, if_pos hk]
  simp
 | p :: P, w :: vs, i + 1, m, nd, h1, h2, hk => by
  show bindL kindOf ((p, w) :: P.zip vs) m x = _
  unfold bindL
  exact Qen (i := i) (jJc.mp nd).2 (by simpa using h1) (by simpa using h2) hk
theorem Qeo {kindOf : Str → Option NameKind} {x : Str} {v : Value} : ∀ {P : List Str} {vs : List Value} {i : Nat} {m : Str → Option Value}, P.Nodup → P[i]? = some x → vs[i]? = some v → kindOf x ≠ some .local →
  bindC kindOf (P.zip vs) m x = some v
 | [], _, _, _, _, h, _, _ => by simp at h
 | _ :: _, [], _, _, _, _, h, _ => by simp at h
 | p :: P, w :: vs, 0, m, nd, h1, h2, hk => by
  simp at h1 h2; subst h1; subst h2
  show bindC kindOf ((p, w) :: P.zip vs) m p = _
  unfold bindC
  rw [Qem fun v hv => (jJc.mp nd).1 (List.of_mem_zip hv).1, if_neg hk]
  simp
 | p :: P, w :: vs, i + 1, m, nd, h1, h2, hk => by
  show bindC kindOf ((p, w) :: P.zip vs) m x = _
  unfold bindC
  exact Qeo (i := i) (jJc.mp nd).2 (by simpa using h1) (by simpa using h2) hk
def start (N : List Str) (vs : List V) : St := vs.map some ++ List.replicate (N.length - vs.length) none
def cxOf (CX : CXT) (P : Program) (w : World) (K : Fg) (mg : Str → Option Value) (base : Heap) (N : List Str) (qual : Str) (scope : Scope) (f : Addr) (cd : Value) (A : Around) (outer : List Env) (s : Shared) (H : Hp) (E : XK) : Cx where
 prog := P
 w := w
 K := K
 mg := mg
 base := base
 A := A.deeper (envOfC qual scope s.heap.objs.size f cd)
 N := N
 s₀ := s
 H₀ := H
 env := envOfC qual scope s.heap.objs.size f cd
 outer := outer
 stack := envOfC qual scope s.heap.objs.size f cd :: outer
 ex := []
 calm := true
 fn := fun _ => true
 pn := []
 xe := fun e s' => wpAny (model P w) (A.deeper (envOfC qual scope s.heap.objs.size f cd)) (leaving (envOfC qual scope s.heap.objs.size f cd) e) (fun _ s'' => CX outer H s E e s'') (fun e' s'' => CX outer H s E e' s'') s'
theorem Qhz {sc : Scope} {n : Nat} {x : Str} (h : sc.names.lookup x = some .cell) : ∃ c, (cellsFrom n sc.names []).lookup x = some c := by
 have q := PySem.W.cellsFrom_some sc.names n [] (.inl h)
 exact jYa.mp q
theorem Qlu {CX : CXT} {P : Program} {w : World} {K : Fg} {mg : Str → Option Value} {base : Heap} {N ps : List Str} {qual : Str} {scope : Scope} {f : Addr} {cd : Value} {A : Around} {outer : List Env} {s s1 : Shared} {H : Hp} {E : XK} {us : List Value} {vs : List V}
  (S : FnScope N ps scope) (hd : A.handled = none) (e0 : Env0 P w K mg base A outer s H) (hl : vs.length = ps.length) (r : Vals vs us)
  (x : InCallC s s.heap.objs.size (bindL (envOfC qual scope s.heap.objs.size f cd).kindOf (ps.zip us) fun _ => none) (cellsFrom (s.heap.objs.size + 1) scope.names []) (bindC (envOfC qual scope s.heap.objs.size f cd).kindOf (ps.zip us) fun _ => none) s1) :
  Inv (cxOf CX P w K mg base N qual scope f cd A outer s H E) [] (start N vs) H s1 := by
 have hpl : ps.length ≤ N.length := by have := congrArg List.length S.pre; rw [kW] at this; omega
 obtain ⟨h1, tk, rfl, hk⟩ := x.done
 have noA : ∀ b : Addr, b ∉ (cxOf CX P w K mg base N qual scope f cd A outer s H E).ex := fun b z => absurd (show b ∈ ([] : List Addr) from z) (by simp)
 refine ⟨⟨e0.mod, S.kind, rfl, rfl, jZ _, fun y z c h1 h2 => ?_, fun y hy => ?_, fun y c _ h => ?_, fun _ => hd, Around.frames_deeper e0.frames, .inr ⟨rfl, rfl⟩, fun b z => absurd z (noA b), e0.bs, e0.bsz, fun b _ _ => noA b, fun b z => absurd z (noA b), e0.funs, e0.frf⟩,
  rfl, e0.bare, Un.kept hk, ⟨_, x.toInCall.ns, fun i y v h1 h2 h3 => ?_⟩, fun y c h => ⟨_, x.cell y c h⟩, e0.hok.fresh (jZ _), fun y c h => ?_, fun p hp => absurd (show p ∈ ([] : List (Addr × Obj)) from hp) (by simp), e0.hok.kept hk, ?_⟩
 ·exact name_of_addr x.apart (PySem.mem_of_lookup h1) (PySem.mem_of_lookup h2)
 ·have hy : scope.names.lookup y = some .cell ∨ scope.names.lookup y = some .free := hy
  rcases hy with hy | hy
  ·exact Qhz hy
  ·exact absurd rfl (S.nofree _ (PySem.mem_of_lookup hy))
 ·exact jKd (x.above y c (PySem.mem_of_lookup h))
 ·have hi : i < vs.length := by
   unfold start at h2
   by_cases hi : i < vs.length
   ·exact hi
   ·rw [jZf (by simpa using hi)] at h2
    rw [kQc] at h2
    split at h2 <;> cases h2
  have ha : vs[i]? = some v := by
   unfold start at h2
   rw [jKf (by simpa using hi), jY] at h2
   cases e : vs[i]? with
   | none => rw [e] at h2; cases h2
   | some a => rw [e] at h2; cases h2; rfl
  obtain ⟨u, hu, rv⟩ := r.get ha
  have hp : ps[i]? = some y := by
   rw [← S.pre, List.getElem?_take_of_lt (by omega)]; exact h1
  have ndP : ps.Nodup := by rw [← S.pre]; exact S.nd.sublist (List.take_sublist _ _)
  refine ⟨u, rv, ?_⟩
  rcases S.par y (kK hp) with k | k
  ·exact .inl ⟨k, Qen ndP hp hu k⟩
  ·obtain ⟨c, e⟩ := Qhz (n := s.heap.objs.size + 1) k
   refine .inr ⟨.inl k, c, e, ?_⟩
   have q := x.cell y c e
   rw [Qeo ndP hp hu (by show scope.names.lookup y ≠ _; rw [k]; decide)] at q
   exact q
 ·exact e0.hok.fresh (jKd (x.above y c (PySem.mem_of_lookup h)))
 ·unfold start
  show _ = N.length
  rw [kZ, jQ, xQ]
  omega
theorem fn_of {CX : CXT} {P : Program} {w : World} {K : Fg} {mg : Str → Option Value} {base : Heap} {k : Nat} {f : Addr} {name qual : Str} {params : Arguments} {body : List Stmt} {scope : Scope} {dV kV doc pm cdv ct oc : Value} {an od : Option Addr}
  {osl : Array (Option Value)} {N ps : List Str} {sp : Sp} (lk : K.lookup f = some ⟨oc, od, .func (PySem.W.fnOf name qual params body scope dV kV doc pm an cdv ct), osl⟩) (hcd : PySem.W.codeIn K cdv qual = true) (S : FnScope N ps scope)
  (len : ∀ vs H Q E, sp vs H Q E → vs.length = ps.length)
  (hbody : ∀ (A : Around) (outer : List Env) (s : Shared) (H : Hp) (vs : List V) (Q : VK) (E : XK), Room k (A.deeper (envOfC qual scope s.heap.objs.size f cdv)) → sp vs H Q E →
   ∃ t, PSs (cxOf CX P w K mg base N qual scope f cdv A outer s H E) body t ∧ t { nx := fun _ H' => Q .non H', rt := Q } (start N vs) H) :
  FnOk P w K mg base CX (k + 1) f (PySem.W.fnOf name qual params body scope dV kV doc pm an cdv ct) ps sp := by
 refine ⟨len, fun A outer s H args us vs Q E hr e0 hb r hsp => ?_⟩
 have hl := len _ _ _ _ hsp
 have KX : K.In s.heap := e0.mod.kin.keeps fun b o e => (e0.bs b o e).1
 have lim : s.heap.NoLimit := e0.mod.nolimit.keeps fun b o e => (e0.bs b o e).1
 have hkind : ∀ y ∈ ps.zip us, scope.names.lookup y.1 = some .local ∨ (scope.names.lookup y.1 = some .cell ∧ ((cellsFrom (s.heap.objs.size + 1) scope.names []).lookup y.1).isSome = true) := fun ⟨n, v⟩ hy => by
  rcases S.par n (List.of_mem_zip hy).1 with q | q
  ·exact .inl q
  ·exact .inr ⟨q, PySem.W.cellsFrom_some _ _ _ (.inl q)⟩
 refine codeAny_call_function hr.depth (KX _ _ lk) rfl S.co S.gen rfl (PySem.W.codeRec_of KX hcd) (hb _ _ _ _ ?_)
 refine wpAny_newFunctionEnv_cells S.kind hkind fun env he s1 x => ?_
 subst he
 refine ⟨lim.keeps x.toInCall.keep, codeAny_func ?_⟩
 obtain ⟨t, ht, hq⟩ := hbody A outer s H vs Q E (hr.deeper _) hsp
 have I : Inv (cxOf CX P w K mg base N qual scope f cdv A outer s H E) [] (start N vs) H s1 := Qlu S hr.hd e0 hl r x
 refine wpAny_mono (ht [] s1 (start N vs) H _ I hq) (fun fl s' hs => ?_) fun e s' hs => hs
 have fin : ∀ {σ' : St} {H' : Hp} {v : V} {u : Value}, Inv (cxOf CX P w K mg base N qual scope f cdv A outer s H E) [] σ' H' s' → RelV v u → Q v H' → CE outer P w H s Q u s' :=
  fun {σ' H' v u} J rv q => ⟨v, H', J.os, J.bare, J.base, J.hok, rv, q⟩
 cases fl with
 | ret u =>
  obtain ⟨v, σ', H', J, rv, q⟩ := hs
  exact fin J rv q
 | next =>
  obtain ⟨σ', H', J, q⟩ := hs
  exact fin (v := V.non) (u := Value.none) J rfl q
 | brk =>
  obtain ⟨_, _, _, q⟩ := hs
  exact False.elim q
 | cont =>
  obtain ⟨_, _, _, q⟩ := hs
  exact False.elim q
section
variable {X : Cx} {x : Str} {p pos : Pos} {e : Expr} {es : List Expr} {t : TA} {id T : String} {r : List V → Hp → VK → Prop}
def tCB (r : List V → Hp → VK → Prop) (t : TA) : TE := fun σ H Q => t σ H fun vs H1 => r vs H1 Q
theorem Qk (hc : Jq X (.builtin id) r) (hg : Gl X x) (hm : X.mg x = none) (hv : bootBuiltins x = some (.builtin id)) (ha : PA X (e :: es) t) (hn : autoParam (x ≠ "__name__") L2.aDec._auto_1) (hdb : autoParam ((x == ("__debug__" : Str)) = false) L2.aDec._auto_1)
  (he : autoParam (starEach (e :: es) X.env = (false, eval e X.env) :: starEach es X.env) L2.aRfl._auto_1) (hpl : autoParam ((backTo pos (starEach es X.env)).any (·.1) = false) L2.aRfl._auto_1) : PE X (.Call (.Name x p) (e :: es) [] pos) (tCB r t) := by
 intro pins s σ H Q I h
 refine wpAny_Call_Name_kw (Qab I hg hm hv ?_ hn hdb)
 exact PyProof.Rows.callWith_builtin1 (thn (ha pos pins s σ H _ I h) fun us s1 ⟨vs, H1, I1, r1, q1⟩ => hc pins s1 σ H1 vs us Q I1 r1 q1) he hpl
theorem Qz (hc : Jq X (.type T) r) (hg : Gl X x) (hm : X.mg x = none) (hv : bootBuiltins x = some (.type T)) (ha : PA X (e :: es) t) (hn : autoParam (x ≠ "__name__") L2.aDec._auto_1) (hdb : autoParam ((x == ("__debug__" : Str)) = false) L2.aDec._auto_1)
  (he : autoParam (starEach (e :: es) X.env = (false, eval e X.env) :: starEach es X.env) L2.aRfl._auto_1) (hpl : autoParam ((backTo pos (starEach es X.env)).any (·.1) = false) L2.aRfl._auto_1) : PE X (.Call (.Name x p) (e :: es) [] pos) (tCB r t) := by
 intro pins s σ H Q I h
 refine wpAny_Call_Name_kw (Qab I hg hm hv ?_ hn hdb)
 exact PyProof.Rows.callWith_type1 (thn (ha pos pins s σ H _ I h) fun us s1 ⟨vs, H1, I1, r1, q1⟩ => hc pins s1 σ H1 vs us Q I1 r1 q1) he hpl
end
end L2
namespace HT
open PySem PyProof.Rows
section
open PySem.SeqAt
open PySem.AutoSeq1 (wpAny_loadPart')
open PySem.MeetsSeq PySem.MeetsSeq2 PySem.MeetsSeq3
end
section
variable {prog : Program} {w : World} {A : Around} {E : Value → Shared → Prop} {s : Shared}
theorem cat_tup {t b : Addr} {vs ws : List Value} {Q : Value → Shared → Prop} (ht : IsTup s.heap t vs.toArray) (hb : IsTup s.heap b ws.toArray) (hv : vs ≠ [])
  (h1 : ws = [] → Q (.ref t) s) (h2 : ws ≠ [] → Q (.ref s.heap.objs.size) { s with heap := s.heap.push { cls := .type "tuple", data := .seq (vs ++ ws).toArray } })
  (hsz : vs.length + ws.length ≤ sizeLine) : wpAny (model prog w) A (binaryOp .Add (.ref t) (.ref b)) Q E s := by
 obtain ⟨⟨cls, dd, data, sl⟩, ho, hc, n, hd⟩ := id ht
 obtain ⟨⟨cls2, dd2, data2, sl2⟩, ho2, hc2, n2, hd2⟩ := id hb
 simp only at hc hd hc2 hd2
 subst hc hd hc2 hd2
 have e : vs.toArray ++ ws.toArray = (vs ++ ws).toArray := by simp
 by_cases hw : ws = []
 ·exact concat_meets ⟨_, ho, rfl⟩ ⟨_, ho2, rfl⟩ noFill_tuple_add seq_tuple_add PySem.F.slot_tuple_add PySem.F.entry_tuple_add (PySem.F.args_tuple_add_2 _ _)
   (tuple_addW1 t b vs.toArray ws.toArray n n2 dd dd2 sl sl2 (by simpa using hv) (by simp [hw])) ⟨ho, ho2, h1 hw⟩
 ·refine concat_meets ⟨_, ho, rfl⟩ ⟨_, ho2, rfl⟩ noFill_tuple_add seq_tuple_add PySem.F.slot_tuple_add PySem.F.entry_tuple_add (PySem.F.args_tuple_add_2 _ _)
   (tuple_addW2 t b vs.toArray ws.toArray n n2 dd dd2 sl sl2 (by simpa using hv) (by simpa using hw) (by rw [jV, jV]; exact hsz)) ⟨ho, ho2, ?_⟩
  rw [e]
  exact h2 hw
def sIx (n d : Nat) : Option Int → Nat
 | none => d
 | some v => if v < 0 then (v + (n : Int)).toNat else min v.toNat n
theorem sIx_le (n d : Nat) (hd : d ≤ n) (o : Option Int) : sIx n d o ≤ n := by
 cases o with
 | none => exact hd
 | some v =>
  show (if v < 0 then (v + (n : Int)).toNat else min v.toNat n) ≤ n
  by_cases hv : v < 0
  ·rw [if_pos hv]; omega
  ·rw [if_neg hv]; exact Nat.min_le_right _ _
theorem min_cast (v : Int) (n : Nat) (h : ¬ v < 0) : min v (n : Int) = ((min v.toNat n : Nat) : Int) := by
 obtain ⟨k, rfl⟩ := Int.eq_ofNat_of_zero_le (Int.not_lt.mp h)
 rw [jZc]
 rcases Nat.le_total k n with h | h
 ·rw [jYe h, Int.min_eq_left (Int.ofNat_le.mpr h)]
 ·rw [Nat.min_eq_right h, Int.min_eq_right (Int.ofNat_le.mpr h)]
theorem clip_eq (v : Int) (n d : Nat) : (if v < 0 then max (v + (n : Int)) 0 else min v (n : Int)) = ((sIx n d (some v) : Nat) : Int) := by
 show (if v < 0 then max (v + (n : Int)) 0 else min v (n : Int)) = (((if v < 0 then (v + (n : Int)).toNat else min v.toNat n) : Nat) : Int)
 by_cases hv : v < 0
 ·rw [if_pos hv, if_pos hv]; exact (Int.ofNat_toNat _).symm
 ·rw [if_neg hv, if_neg hv]; exact min_cast v n hv
theorem Qjy (lo hi : Option Int) (n : Nat) : Builtin.Slice.sliceAdjust lo hi 1 (n : Int) = (((sIx n 0 lo : Nat) : Int), ((sIx n n hi : Nat) : Int)) := by
 have h1 : ¬ ((1 : Int) < 0) := by omega
 unfold Builtin.Slice.sliceAdjust
 simp only [h1, if_false]
 refine Prod.ext ?_ ?_
 ·cases lo with
  | none => rfl
  | some v => exact clip_eq v n 0
 ·cases hi with
  | none => rfl
  | some v => exact clip_eq v n n
theorem Qjz (i j : Nat) : Builtin.Slice.slicePlaces (i : Int) (j : Int) 1 = j - i := by
 unfold Builtin.Slice.slicePlaces
 have h1 : (1 : Int) > 0 := by omega
 simp only [h1, if_true, Int.ediv_one]
 split <;> omega
theorem Qcp {v : Value} {o : Option Int} {Q : Option Int → Shared → Prop} (p : IsPart v o) (h : Q o s) : wpAny (model prog w) A (Builtin.Slice.slicePartIndex v) Q E s := by
 cases p with
 | none => exact slicePart_none h
 | int i t => exact slicePart_int h
theorem Ke {sl : Addr} {vl vu : Value} {lo hi : Option Int} {n : Nat} {Q : Int × Int × Nat → Shared → Prop} (hs : s.heap.IsSliceOf sl vl vu .none) (pl : IsPart vl lo) (pu : IsPart vu hi)
  (h : Q (((sIx n 0 lo : Nat) : Int), 1, sIx n n hi - sIx n 0 lo) s) : wpAny (model prog w) A (Builtin.Slice.sliceApplied (.ref sl) (pure (n : Int))) Q E s := by
 obtain ⟨os, hos, hcs, hds⟩ := id hs
 unfold Builtin.Slice.sliceApplied Builtin.Slice.sliceFields
 refine jX (jX (wpAny_field hos hds (x := vl) rfl (jX (wpAny_field hos hds (x := vu) rfl (jX (wpAny_field hos hds (x := .none) rfl (kQ ?_)))))))
 refine jX (slicePart_none ?_)
 show wpAny _ _ (if ((1 : Int) == 0) = true then _ else _) _ _ s
 rw [if_neg (by decide)]
 refine jX (Qcp pl (jX (Qcp pu (jX (kQ ?_)))))
 show wpAny _ _ (match Builtin.Slice.sliceAdjust lo hi 1 (n : Int) with | (lo, hi) => pure (lo, (1 : Int), Builtin.Slice.slicePlaces lo hi 1)) _ _ s
 rw [Qjy lo hi n]
 show wpAny _ _ (pure (((sIx n 0 lo : Nat) : Int), (1 : Int), Builtin.Slice.slicePlaces ((sIx n 0 lo : Nat) : Int) ((sIx n n hi : Nat) : Int) 1)) _ _ s
 rw [Qjz]
 exact kQ h
theorem Qpc (xs : Array Value) (i k : Nat) : ((List.range k).filterMap fun (m : Nat) => xs[((i : Int) + (m : Int) * 1).toNat]?).toArray = ((xs.toList.drop i).take k).toArray := by
 have e : (fun (m : Nat) => xs[((i : Int) + (m : Int) * 1).toNat]?) = fun m => xs[i + m]? := by
  funext m
  have : ((i : Int) + (m : Int) * 1).toNat = i + m := by omega
  rw [this]
 rw [e]
 have := pick_run xs i k
 rw [List.filterMap_map] at this
 have e2 : ((fun x => xs[x]?) ∘ fun x => i + x) = fun m => xs[i + m]? := rfl
 rw [e2] at this
 rw [this]
theorem getItem_tuple_cut {t sl : Addr} {items : Array Value} {vl vu : Value} {lo hi : Option Int} {Q : Value → Shared → Prop} (ht : IsTup s.heap t items) (hs : s.heap.IsSliceOf sl vl vu .none) (pl : IsPart vl lo) (pu : IsPart vu hi)
  (hw : ¬ (sIx items.size 0 lo = 0 ∧ sIx items.size items.size hi = items.size))
  (h : Q (.ref s.heap.objs.size) { s with heap := s.heap.push { cls := .type "tuple", data := .seq ((items.toList.drop (sIx items.size 0 lo)).take (sIx items.size items.size hi - sIx items.size 0 lo)).toArray } })
  (hsz : items.size ≤ sizeLine) : wpAny (model prog w) A (getItem (.ref t) (.ref sl)) Q E s := by
 have htake : sizeOk (.seq ((items.toList.drop (sIx items.size 0 lo)).take (sIx items.size items.size hi - sIx items.size 0 lo)).toArray) := by
  show ((items.toList.drop (sIx items.size 0 lo)).take (sIx items.size items.size hi - sIx items.size 0 lo)).toArray.size ≤ sizeLine
  rw [jV, kW, jYb, wV]
  omega
 have hj : sIx items.size items.size hi ≤ items.size := sIx_le _ _ (jZ _) hi
 obtain ⟨os, hos, hcs, hds⟩ := id hs
 have hTs : s.TypeIs (.ref sl) "slice" := ⟨os, hos, hcs⟩
 unfold getItem
 try with_reducible refine wpAny_holding ?_
 first | refine jX (kQ ?_) | skip
 refine jX (wpAny_sequenceKey ht.typeIs (by decide) ?_)
 refine jX (wpAny_callSpecial?_slot (name := Str.ofString "__getitem__") ht.typeIs PyProof.Rows.slot_tuple_getitem
  (wpAny_call_entry PyProof.Rows.slot_tuple_getitem ht.typeIs entry_tuple_getitem ?_ (args_tuple_getitem _ _)))
 show wpAny _ _ (Builtin.Tuple.tupleItemsOf (.ref t) >>= _) _ _ s
 refine jX (tupleItemsOf_ ht ?_)
 refine jX (wpAny_typeOf hTs ?_)
 rw [if_pos (by decide)]
 refine jX (Ke hs pl pu ?_)
 have hno : ¬ ((((sIx items.size 0 lo : Nat) : Int) == 0 && (1 : Int) == 1 && (sIx items.size items.size hi - sIx items.size 0 lo) == items.size) = true) := by
  intro q
  rw [zV, zV] at q
  have q1 : ((sIx items.size 0 lo : Nat) : Int) = 0 := eq_of_beq q.1.1
  have q2 : sIx items.size items.size hi - sIx items.size 0 lo = items.size := eq_of_beq q.2
  exact hw ⟨by omega, by omega⟩
 show wpAny _ _ (if (((sIx items.size 0 lo : Nat) : Int) == 0 && (1 : Int) == 1 && (sIx items.size items.size hi - sIx items.size 0 lo) == items.size) = true then _ else _) _ _ s
 rw [if_neg hno, Qpc]
 first
  | exact jX (m := Builtin.Tuple.tupleExact _) (wpAny_newObj_type (kQ ⟨_, rfl, kQ h⟩) htake)
  | exact jX (m := Builtin.Tuple.tupleExact _) (wpAny_newObj_type (jX (kQ (kQ ⟨_, rfl, kQ h⟩))) htake)
  | exact jX (jX (m := Builtin.Tuple.tupleExact _) (wpAny_newObj_type (kQ (kQ ⟨_, rfl, kQ h⟩)) htake))
  | exact jX (jX (m := Builtin.Tuple.tupleExact _) (wpAny_newObj_type (kQ ⟨_, rfl, kQ h⟩) htake))
end
end HT
namespace L2
open PySem PySem.Spec PyProof.Rows
abbrev TO := St → Hp → (Option Int → Hp → Prop) → Prop
def PO (X : Cx) (e : Option Expr) (t : TO) : Prop :=
 ∀ (pins : List (Addr × Obj)) (s : Shared) (σ : St) (H : Hp) (Q : Option Int → Hp → Prop), Inv X pins σ H s → t σ H Q →
  wpAny (model X.prog X.w) X.A (evalPart e X.env) (fun u s' => ∃ o H', Inv X pins σ H' s' ∧ IsPart u o ∧ Q o H') X.xe s
def Qsl : TO := fun _ H Q => Q none H
def tPart (t : TE) : TO := fun σ H Q => t σ H fun x H1 => ∃ i, x = .int i ∧ Q (some i) H1
theorem intsAre_of {ns : List Int} : ∀ {us : List Value}, Vals (ns.map V.int) us → IntsAre us ns := by
 induction ns with
 | nil => intro us r; rw [jJb] at r; cases r; exact .nil
 | cons n ns ih =>
  intro us r
  rw [xX] at r
  cases r with
  | cons r1 r2 =>
   obtain ⟨t, e⟩ := r1
   subst e
   exact .cons n t (ih r2)
section
variable {X : Cx} {e : Expr} {te : TE} {lo hi : Option Expr} {tl th : TO} {pos p2 : Pos}
theorem Qbc : PO X none Qsl := by
 intro pins s σ H Q I h
 rw [evalPart_none]
 exact kQ ⟨none, H, I, .none, h⟩
theorem Qbd (h : PE X e te) : PO X (some e) (tPart te) := by
 intro pins s σ H Q I hw
 rw [evalPart_some]
 refine thn (h pins s σ H _ I hw) fun u s1 hqP => ?_
 obtain ⟨x, H1, I1, r1, q1⟩ := hqP
 obtain ⟨i, rfl, q⟩ := q1
 obtain ⟨t, rfl⟩ := r1
 exact ⟨some i, H1, I1, .int i t, q⟩
def SlR (X : Cx) (r : V → Option Int → Option Int → Hp → VK → Prop) : Prop :=
 ∀ (pins : List (Addr × Obj)) (s : Shared) (σ : St) (H : Hp) (x : V) (v vl vu : Value) (lo hi : Option Int) (sl : Addr) (Q : VK), Inv X pins σ H s → RelV x v → s.heap.IsSliceOf sl vl vu .none → IsPart vl lo → IsPart vu hi → r x lo hi H Q →
  ∃ T id, typeLookup (.type T) "__getitem__" = pure (some (.builtin id)) ∧ s.TypeIs v T ∧ wpAny (model X.prog X.w) X.A (getItem v (.ref sl)) (EP X pins σ Q) X.xe s
def tSl (r : V → Option Int → Option Int → Hp → VK → Prop) (te : TE) (tl th : TO) : TE := fun σ H Q => te σ H fun x H1 => tl σ H1 fun l H2 => th σ H2 fun u H3 => r x l u H3 Q
theorem Vt {r : V → Option Int → Option Int → Hp → VK → Prop} (hr : SlR X r) (he : PE X e te) (hl : PO X lo tl) (hu : PO X hi th) : PE X (.Subscript e (.Slice lo hi none p2) pos) (tSl r te tl th) := by
 intro pins s σ H Q I h
 refine Subscript_ (thn (he pins s σ H _ I h) fun v s1 hqP => ?_)
 obtain ⟨x, H1, I1, r1, q1⟩ := hqP
 refine wpAny_Slice (thn (hl pins s1 σ H1 _ I1 q1) fun vl s2 ⟨l, H2, I2, pl, q2⟩ => thn (hu pins s2 σ H2 _ I2 q2) fun vu s3 hqP => ?_)
 obtain ⟨u, H3, I3, pu, q3⟩ := hqP
 rw [evalPart_none]
 refine kQ ?_
 have I4 : Inv X pins σ H3 { s3 with heap := s3.heap.push { cls := .type "slice", data := .fields #[vl, vu, .none] } } := I3.kept (t' := s3.toks) fun b ob q => jJ _ q
 obtain ⟨T, id, hT, ht, hg⟩ := hr pins { s3 with heap := s3.heap.push { cls := .type "slice", data := .fields #[vl, vu, .none] } } σ H3 x v vl vu l u s3.heap.objs.size Q I4 r1 (Heap.IsSliceOf.new ..) pl pu q3
 show wpAny (model X.prog X.w) X.A (subscriptTail e (.Slice lo hi none p2) v (.ref s3.heap.objs.size)) (EP X pins σ Q) X.xe { s3 with heap := s3.heap.push { cls := .type "slice", data := .fields #[vl, vu, .none] } }
 exact tail_any (ops := [.ref s3.heap.objs.size, v]) ht hT hg (by with_unfolding_all rfl)
def cutV (xs : List V) (lo hi : Option Int) : List V := (xs.drop (HT.sIx xs.length 0 lo)).take (HT.sIx xs.length xs.length hi - HT.sIx xs.length 0 lo)
theorem Qbe (xs : List V) (lo hi : Option Int) : (cutV xs lo hi).length ≤ xs.length := by
 unfold cutV
 rw [kW, jYb]
 omega
def rSlT (K : Fg) : V → Option Int → Option Int → Hp → VK → Prop := fun x lo hi H Q => ∃ a xs, x = .ref a ∧ SqT K H a xs ∧
 ¬ (HT.sIx xs.length 0 lo = 0 ∧ HT.sIx xs.length xs.length hi = xs.length) ∧ ∀ p, H p = none → Q (.ref p) (upd H p (.tup (cutV xs lo hi)))
theorem Qlv : SlR X (rSlT X.K) := by
 intro pins s σ H x v vl vu lo hi sl Q I rx hs pl pu h
 obtain ⟨a, xs, rfl, hx, hw, q⟩ := h
 cases rx
 obtain ⟨its, r, ht, hz⟩ := I.tuple hx
 have hlen : its.toArray.size = xs.length := by rw [jV]; exact r.length.symm
 refine ⟨"tuple", _, PyProof.Rows.slot_tuple_getitem.lookup, ht.typeIs, ?_⟩
 refine HT.getItem_tuple_cut ht hs pl pu (by rw [hlen]; exact hw) ?_ (by rw [hlen]; exact hz)
 rw [hlen]
 refine ⟨.ref s.heap.objs.size, _, I.laid (t' := s.toks) (o := .tup (cutV xs lo hi)) (fun b ob q => jJ _ q) (jZ _) ?_, rfl, q _ (I.hok.fresh (jZ _))⟩
 exact ⟨jQf (Qbe xs lo hi) hz, _, (r.drop (HT.sIx xs.length 0 lo)).take (HT.sIx xs.length xs.length hi - HT.sIx xs.length 0 lo), IsTup.new _ _⟩
def rCatT (K : Fg) : R2 := fun x y H Q => ∃ a b xs ys, x = .ref a ∧ y = .ref b ∧ SqT K H a xs ∧ SqT K H b ys ∧ xs ≠ [] ∧ xs.length + ys.length ≤ sizeLine ∧
 (ys = [] → Q (.ref a) H) ∧ (ys ≠ [] → ∀ p, H p = none → Q (.ref p) (upd H p (.tup (xs ++ ys))))
theorem Vals.nil_iff {xs : List V} {us : List Value} (r : Vals xs us) : us = [] ↔ xs = [] := by
 cases r with
 | nil => simp
 | cons _ _ => simp
theorem Qlw : OpR X (binaryOp .Add) (rCatT X.K) := by
 intro pins s σ H x y v u Q I rx ry h
 obtain ⟨a, b, xs, ys, rfl, rfl, ha, hb, hx, hz, q1, q2⟩ := h
 cases rx
 cases ry
 obtain ⟨its, r1, p1, _⟩ := I.tuple ha
 obtain ⟨its2, r2, p2, _⟩ := I.tuple hb
 refine HT.cat_tup p1 p2 (fun z => hx (r1.nil_iff.mp z)) (fun z => ⟨.ref a, H, I, rfl, q1 (r2.nil_iff.mp z)⟩) (fun z => ?_) (by rw [← r1.length, ← r2.length]; exact hz)
 refine ⟨.ref s.heap.objs.size, _, I.laid (t' := s.toks) (o := .tup (xs ++ ys)) (fun b ob q => jJ _ q) (jZ _) ?_, rfl, q2 (fun w => z (r2.nil_iff.mpr w)) _ (I.hok.fresh (jZ _))⟩
 exact ⟨by rw [kZ]; exact hz, _, r1.append r2, IsTup.new _ _⟩
end
def ixN (n : Nat) (i : Int) : Option Nat := if 0 ≤ i then (if i < n then some i.toNat else none) else if -(n : Int) ≤ i then some (i + n).toNat else none
def atI {α : Type} (xs : List α) (i : Int) : Option α := (ixN xs.length i).bind fun j => xs[j]?
theorem Qlx {n : Nat} {i : Int} {j : Nat} (h : ixN n i = some j) : seqIndex? i n = some j ∧ j < n ∧ -(n : Int) ≤ i ∧ i < n := by
 unfold ixN at h
 by_cases h0 : 0 ≤ i
 ·rw [if_pos h0] at h
  by_cases h1 : i < n
  ·rw [if_pos h1] at h
   have e : i.toNat = j := Option.some.inj h
   exact ⟨by rw [seqIndex_of h0 h1, e], by omega, by omega, h1⟩
  ·rw [if_neg h1] at h; cases h
 ·rw [if_neg h0] at h
  by_cases h1 : -(n : Int) ≤ i
  ·rw [if_pos h1] at h
   have e : (i + n).toNat = j := Option.some.inj h
   exact ⟨by rw [seqIndex_neg (by omega) h1, e], by omega, h1, by omega⟩
  ·rw [if_neg h1] at h; cases h
theorem Qgt {α : Type} {xs : List α} {i : Int} {v : α} (h : atI xs i = some v) : ∃ j, seqIndex? i xs.length = some j ∧ xs[j]? = some v ∧ j < xs.length ∧ -(xs.length : Int) ≤ i ∧ i < xs.length := by
 unfold atI at h
 cases e : ixN xs.length i with
 | none => rw [e] at h; cases h
 | some j =>
  rw [e] at h
  obtain ⟨h1, h2, h3, h4⟩ := Qlx e
  exact ⟨j, h1, h, h2, h3, h4⟩
theorem Qly {α : Type} {xs : List α} {j : Nat} {v : α} (h : xs[j]? = some v) : atI xs (j : Int) = some v := by
 have hj : j < xs.length := (yK.mp h).1
 have e : ixN xs.length (j : Int) = some j := by
  unfold ixN
  rw [if_pos (by omega), if_pos (by omega)]; simp
 unfold atI; rw [e]; exact h
def Qlz (b : Expr) : Prop := ∀ o i, subscripted b false o i = operate [o, i] (getItem o i)
def IxR (X : Cx) (r : R2) : Prop :=
 ∀ (value slice : Expr) (pins : List (Addr × Obj)) (s : Shared) (σ : St) (H : Hp) (x y : V) (v u : Value) (Q : VK), Inv X pins σ H s → RelV x v → RelV y u → r x y H Q →
  subscripted slice false v u = operate [v, u] (getItem v u) → wpAny (model X.prog X.w) X.A (subscriptTail value slice v u) (EP X pins σ Q) X.xe s
def MtR (X : Cx) (id : String) (r : V → List V → Hp → VK → Prop) : Prop :=
 ∀ (pins : List (Addr × Obj)) (s : Shared) (σ : St) (H : Hp) (x : V) (xs : List V) (v : Value) (us : List Value) (Q : VK), Inv X pins σ H s → RelV x v → Vals xs us → r x xs H Q →
  wpAny (model X.prog X.w) X.A (call (.builtin id) (v :: us)) (EP X pins σ Q) X.xe s
section
variable {X : Cx} {a b : Expr} {ta tb : TE} {pos : Pos}
theorem Qm {r : R2} (hr : IxR X r) (ha : PE X a ta) (hb : PE X b tb) (hs : Qlz b) : PE X (.Subscript a b pos) (tOp r ta tb) := by
 intro pins s σ H Q I h
 exact Subscript_ (binT ha hb I h fun v u s2 x y H2 I2 rx ry q => hr a b pins s2 σ H2 x y v u Q I2 rx ry q (hs _ _))
def rIxL (K : Fg) : R2 := fun x y H Q => ∃ p xs i v, x = .ref p ∧ y = .int i ∧ SqL K H p xs ∧ atI xs i = some v ∧ Q v H
def rIxT (K : Fg) : R2 := fun x y H Q => ∃ p xs i v, x = .ref p ∧ y = .int i ∧ SqT K H p xs ∧ atI xs i = some v ∧ Q v H
theorem Qw : IxR X (rIxL X.K) := by
 intro value slice pins s σ H x y v u Q I rx ry h hs
 obtain ⟨p, xs, i, z, rfl, rfl, hq, he, q⟩ := h
 cases rx
 obtain ⟨t, rfl⟩ := ry
 obtain ⟨its, r, pl, hz⟩ := I.list hq
 obtain ⟨j, h1, h2, h3, h4, h5⟩ := Qgt he
 obtain ⟨w, ew, rw'⟩ := r.get h2
 have hl := r.length
 have hn := Qek
 have fin : EP X pins σ Q w s := ⟨z, H, I, rw', q⟩
 by_cases h0 : 0 ≤ i
 ·have hj : i.toNat = j := by
   rw [seqIndex_of h0 h5] at h1
   exact Option.some.inj h1
  exact item_listR pl.isList h0 (by omega) (by rw [hj]; simpa using ew) fin hs
 ·have hj : (i + (its.toArray.size : Int)).toNat = j := by
   rw [seqIndex_neg (by omega) h4] at h1
   rw [jV, ← hl]
   exact Option.some.inj h1
  exact subscriptTail_builtinR (x := w) pl.isList.typeIs slot_list_getitem.lookup
   (wpAny_getItem_list_neg (Q := fun r s' => r = w ∧ EP X pins σ Q r s') pl.isList (by omega) (by rw [jV] <;> omega) (by omega) (by rw [hj]; simpa using ew) ⟨rfl, fin⟩) hs
theorem Ql : IxR X (rIxT X.K) := by
 intro value slice pins s σ H x y v u Q I rx ry h hs
 obtain ⟨p, xs, i, z, rfl, rfl, hq, he, q⟩ := h
 cases rx
 obtain ⟨t, rfl⟩ := ry
 obtain ⟨its, r, pl, hz⟩ := I.tuple hq
 obtain ⟨j, h1, h2, h3, h4, h5⟩ := Qgt he
 obtain ⟨w, ew, rw'⟩ := r.get h2
 have hl := r.length
 have hn := Qek
 have fin : EP X pins σ Q w s := ⟨z, H, I, rw', q⟩
 exact subscriptTail_builtinR (x := w) pl.typeIs slot_tuple_getitem.lookup
  (getItem_tuple (j := j) (Q := fun r s' => r = w ∧ EP X pins σ Q r s') pl (by omega) (by omega) (by rw [jV, ← hl]; exact h1) (by simpa using ew) ⟨rfl, fin⟩) hs
theorem Qka (its : List Value) (n j : Nat) (u : Value) : Obj.mapSeq (·.setIfInBounds j u) { cls := .type "list", data := .seq its.toArray n } = { cls := .type "list", data := .seq (its.set j u).toArray n } := by
 simp [Obj.mapSeq]
theorem Inv.lst {pins : List (Addr × Obj)} {σ : St} {H : Hp} {s : Shared} {p : Addr} {xs : List V} (I : Inv X pins σ H s) (h : H p = some (.lst xs)) :
  ∃ (its : List Value) (n : Nat), Vals xs its ∧ s.heap.get? p = some { cls := .type "list", data := .seq its.toArray n } ∧ xs.length ≤ sizeLine := by
 obtain ⟨z, its, n, r, e⟩ := I.hok p _ h
 exact ⟨its, n, r, e, z⟩
theorem Inv.lstUpd {pins : List (Addr × Obj)} {σ : St} {H : Hp} {s : Shared} {p : Addr} {xs ys : List V} {its its' : List Value} {n n' : Nat} {f : Obj → Obj} (I : Inv X pins σ H s) (h : H p = some (.lst xs))
  (ho : s.heap.get? p = some { cls := .type "list", data := .seq its.toArray n }) (hf : f { cls := .type "list", data := .seq its.toArray n } = { cls := .type "list", data := .seq its'.toArray n' }) (r : Vals ys its') (hz : ys.length ≤ sizeLine) (t : Nat) :
  Inv X pins σ (upd H p (.lst ys)) { s with heap := s.heap.update p f, toks := t } := by
 have e : (s.heap.update p f).get? p = some { cls := .type "list", data := .seq its'.toArray n' } := by
  rw [Heap.get?_update_self f ho (by rw [hf] <;> rfl), hf]
 refine I.write (x := p) (e := p) (by rw [h]; trivial) (.inl rfl) (fun b u hb q => (Heap.get?_update_other _ _ (Ne.symm hb)).trans q) ⟨_, e⟩ ?_
 exact ⟨hz, its', n', r, e⟩
def rSetL : V → V → V → Hp → (Hp → Prop) → Prop := fun o i v H Q => ∃ p xs k j, o = .ref p ∧ i = .int k ∧ H p = some (.lst xs) ∧ ixN xs.length k = some j ∧ Q (upd H p (.lst (xs.set j v)))
theorem set_list : PSet X rSetL := by
 intro pins s σ H o i v ov iv u Q I ro ri rv h
 obtain ⟨p, xs, k, j, rfl, rfl, hp, hj, q⟩ := h
 cases ro
 obtain ⟨t, rfl⟩ := ri
 obtain ⟨its, n, r, ho, hz⟩ := I.lst hp
 obtain ⟨h1, h2, h3, h4⟩ := Qlx hj
 have hl := r.length
 have hn := Qek
 have I' : Inv X pins σ (upd H p (.lst (xs.set j v))) { s with heap := s.heap.update p (Obj.mapSeq (·.setIfInBounds j u)) } :=
  I.lstUpd hp ho (Qka its n j u) (r.set rv j) (by rw [zX]; exact hz) s.toks
 by_cases h0 : 0 ≤ k
 ·have hk : k.toNat = j := by
   rw [seqIndex_of h0 h4] at h1
   exact Option.some.inj h1
  exact PySem.W.ki_setAt ho h0 (by omega) (by rw [jV, ← hl]; exact h4) (by rw [hk]; exact ⟨_, I', q⟩)
 ·have hk : (k + (its.toArray.size : Int)).toNat = j := by
   rw [seqIndex_neg (by omega) h3] at h1
   rw [jV, ← hl]
   exact Option.some.inj h1
  exact PySem.W.ki_setBack ho (by omega) (by rw [jV, ← hl]; exact h3) (by omega) (by rw [hk]; exact ⟨_, I', q⟩)
theorem Qbf (i : Int) (n d : Nat) : max 0 (min (if i < 0 then i + (n : Int) else i) (n : Int)) = ((HT.sIx n d (some i) : Nat) : Int) := by
 rw [← HT.clip_eq]
 by_cases h : i < 0
 ·rw [if_pos h, if_pos h, Int.min_eq_left (by have := Int.add_le_add_right (Int.le_of_lt h) (n : Int); rwa [Int.zero_add] at this), Int.max_comm]
 ·rw [if_neg h, if_neg h, HT.min_cast i n h, Int.max_eq_right (jJf _)]
theorem Qep (lo hi : Option Int) (n : Nat) : (sliceBounds lo hi none n).1 = ((HT.sIx n 0 lo : Nat) : Int) ∧ (sliceBounds lo hi none n).2.1 = ((HT.sIx n n hi : Nat) : Int) ∧ (sliceBounds lo hi none n).2.2 = 1 := by
 refine ⟨?_, ?_, rfl⟩
 ·cases lo with
  | none => rfl
  | some i => exact Qbf i n 0
 ·cases hi with
  | none => rfl
  | some i => exact Qbf i n n
theorem Qcz (its : List Value) (lo hi : Option Int) : slicePick its.toArray lo hi none = ((its.drop (HT.sIx its.length 0 lo)).take (HT.sIx its.length its.length hi - HT.sIx its.length 0 lo)).toArray := by
 obtain ⟨h1, h2, h3⟩ := Qep lo hi its.toArray.size
 unfold slicePick
 rw [h1, h2, h3]
 simp only [sliceRange_one, pick_run, jV] <;> rfl
def rSlL (K : Fg) : V → Option Int → Option Int → Hp → VK → Prop := fun x lo hi H Q => ∃ a xs, x = .ref a ∧ SqL K H a xs ∧ ∀ p, H p = none → Q (.ref p) (upd H p (.lst (cutV xs lo hi)))
theorem Qsm : SlR X (rSlL X.K) := by
 intro pins s σ H x v vl vu lo hi sl Q I rx hs pl pu h
 obtain ⟨a, xs, rfl, hx, q⟩ := h
 cases rx
 obtain ⟨its, r, ht, hz⟩ := I.list hx
 have hlen := r.length
 refine ⟨"list", _, slot_list_getitem.lookup, ht.isList.typeIs, ?_⟩
 refine wpAny_getItem_list_slice ht.isList hs pl pu .none (by simp) ?_ (by rw [jV] <;> omega)
 rw [Qcz, ← hlen]
 refine ⟨.ref s.heap.objs.size, _, I.laid (t' := s.toks) (o := .lst (cutV xs lo hi)) (fun b ob q => jJ _ q) (jZ _) ?_, rfl, q _ (I.hok.fresh (jZ _))⟩
 exact ⟨jQf (Qbe xs lo hi) hz, _, 0, (r.drop (HT.sIx xs.length 0 lo)).take (HT.sIx xs.length xs.length hi - HT.sIx xs.length 0 lo), yZ _ rfl⟩
def Qeq : V → Bool
 | .non => true
 | .bl _ => true
 | .int _ => true
 | .str _ => true
 | _ => false
def eqV : V → V → Bool
 | .non, .non => true
 | .bl a, .bl b => a == b
 | .bl a, .int b => (if a then 1 else 0) == b
 | .int a, .bl b => a == (if b then 1 else 0)
 | .int a, .int b => a == b
 | .str a, .str b => a == b
 | _, _ => false
theorem eqAt_V {A : Around} {s : Shared} {y x : V} {u v : Value} (ry : RelV y u) (rx : RelV x v) (fy : Qeq y = true) (fx : Qeq x = true) : SeqAt.EqAt A s u v (eqV y x) := by
 cases y with
 | non =>
  cases ry
  cases x with
  | non => cases rx; exact SeqAt.EqAt.same _
  | bl b => cases rx; exact SeqAt.EqAt.none_bool b
  | int b => obtain ⟨t, rfl⟩ := rx; exact SeqAt.EqAt.none_int b t
  | str b => obtain ⟨t, rfl⟩ := rx; exact SeqAt.EqAt.none_str b t
  | _ => exact absurd (show false = true from fx) kY
 | bl a =>
  cases ry
  cases x with
  | non => cases rx; exact SeqAt.EqAt.bool_none a
  | bl b => cases rx; exact SeqAt.EqAt.bool_bool a b
  | int b => obtain ⟨t, rfl⟩ := rx; exact SeqAt.EqAt.bool_int a b t
  | str b => obtain ⟨t, rfl⟩ := rx; exact SeqAt.EqAt.bool_str a b t
  | _ => exact absurd (show false = true from fx) kY
 | int a =>
  obtain ⟨t', rfl⟩ := ry
  cases x with
  | non => cases rx; exact SeqAt.EqAt.int_none a t'
  | bl b => cases rx; exact SeqAt.EqAt.int_bool a t' b
  | int b => obtain ⟨t, rfl⟩ := rx; exact SeqAt.EqAt.int_int a t' b t
  | str b => obtain ⟨t, rfl⟩ := rx; exact SeqAt.EqAt.int_str a t' b t
  | _ => exact absurd (show false = true from fx) kY
 | str a =>
  obtain ⟨t', rfl⟩ := ry
  cases x with
  | non => cases rx; exact SeqAt.EqAt.str_none a t'
  | bl b => cases rx; exact SeqAt.EqAt.str_bool a t' b
  | int b => obtain ⟨t, rfl⟩ := rx; exact SeqAt.EqAt.str_int a t' b t
  | str b => obtain ⟨t, rfl⟩ := rx; exact SeqAt.EqAt.str_str a t' b t
  | _ => exact absurd (show false = true from fx) kY
 | _ => exact absurd (show false = true from fy) kY
def eqU (x : V) (u : Value) : Bool := match u with
 | .none => eqV .non x
 | .bool b => eqV (.bl b) x
 | .int i _ => eqV (.int i) x
 | .str z _ => eqV (.str z) x
 | _ => false
theorem Qrp {x y : V} {u : Value} (r : RelV y u) (f : Qeq y = true) : eqU x u = eqV y x := by
 cases y with
 | non => cases r; rfl
 | bl b => cases r; rfl
 | int i => obtain ⟨t, rfl⟩ := r; rfl
 | str z => obtain ⟨t, rfl⟩ := r; rfl
 | _ => exact absurd (show false = true from f) kY
theorem Qbg {x : V} : ∀ {xs : List V} {us : List Value}, Vals xs us → xs.all Qeq = true → us.any (eqU x) = xs.any fun y => eqV y x
 | _, _, .nil, _ => rfl
 | y :: xs, u :: us, .cons r t, f => by
  rw [List.all_cons, zV] at f
  rw [kQb, kQb, Qrp r f.1, Qbg t f.2]
theorem Vu {A : Around} {s : Shared} {x : V} {v : Value} (rx : RelV x v) (fx : Qeq x = true) : ∀ {xs : List V} {us : List Value}, Vals xs us → xs.all Qeq = true → ∀ u ∈ us, SeqAt.EqAt A s u v (eqU x u)
 | _, _, .nil, _ => fun u hu => by cases hu
 | y :: xs, u :: us, .cons r t, f => fun u' hu => by
  rw [List.all_cons, zV] at f
  rcases yJ.mp hu with rfl | hu
  ·rw [Qrp r f.1]; exact eqAt_V r rx f.1 fx
  ·exact Vu rx fx t f.2 u' hu
def inV (x : V) (xs : List V) : Bool := xs.any fun y => eqV y x
def rIn (K : Fg) (neg : Bool) : R2 := fun x y H Q => ∃ p xs, y = .ref p ∧ (SqL K H p xs ∨ SqT K H p xs) ∧ Qeq x = true ∧ xs.all Qeq = true ∧ Q (.bl (if neg then !inV x xs else inV x xs)) H
theorem Qer : OpR X (compareOp .In) (rIn X.K false) := by
 intro pins s σ H x y v u Q I rx ry h
 obtain ⟨p, xs, rfl, hq, fx, fs, q⟩ := h
 cases ry
 rcases hq with hq | hq
 ·obtain ⟨its, r, pl, hz⟩ := I.list hq
  refine SeqAt.in_listAt (eqU x) pl.isList (fun w hw => Vu rx fx r fs w (by simpa using hw)) ⟨.bl _, H, I, rfl, ?_⟩
  rw [show its.toArray.any (eqU x) = its.any (eqU x) by simp, Qbg r fs]
  exact q
 ·obtain ⟨its, r, pl, hz⟩ := I.tuple hq
  refine SeqAt.in_tupleAt (eqU x) pl (fun w hw => Vu rx fx r fs w (by simpa using hw)) ⟨.bl _, H, I, rfl, ?_⟩
  rw [show its.toArray.any (eqU x) = its.any (eqU x) by simp, Qbg r fs]
  exact q
theorem Qes : OpR X (compareOp .NotIn) (rIn X.K true) := by
 intro pins s σ H x y v u Q I rx ry h
 obtain ⟨p, xs, rfl, hq, fx, fs, q⟩ := h
 cases ry
 rcases hq with hq | hq
 ·obtain ⟨its, r, pl, hz⟩ := I.list hq
  refine SeqAt.notIn_listAt (eqU x) pl.isList (fun w hw => Vu rx fx r fs w (by simpa using hw)) ⟨.bl _, H, I, rfl, ?_⟩
  rw [show its.toArray.any (eqU x) = its.any (eqU x) by simp, Qbg r fs]
  exact q
 ·obtain ⟨its, r, pl, hz⟩ := I.tuple hq
  refine SeqAt.notIn_tupleAt (eqU x) pl (fun w hw => Vu rx fx r fs w (by simpa using hw)) ⟨.bl _, H, I, rfl, ?_⟩
  rw [show its.toArray.any (eqU x) = its.any (eqU x) by simp, Qbg r fs]
  exact q
theorem Qi : Jq X (.builtin "len") (fun xs H Q => ∃ p ys, xs = [.ref p] ∧ (SqL X.K H p ys ∨ SqT X.K H p ys) ∧ Q (.int ys.length) H) := by
 intro pins s σ H xs us Q I r h
 obtain ⟨p, ys, rfl, hq, q⟩ := h
 obtain ⟨u, rfl, rx⟩ := vals1 r
 cases rx
 have hn := Qek
 rcases hq with hq | hq
 ·obtain ⟨its, r', pl, hz⟩ := I.list hq
  have hlen := r'.length
  exact Calls.call_len_list pl.isList (by simp only [jV] <;> omega) ⟨.int ys.length, H, I.tok _, ⟨s.toks + 1, by rw [jV, hlen]⟩, q⟩
 ·obtain ⟨its, r', pl, hz⟩ := I.tuple hq
  have hlen := r'.length
  exact len_tuple pl (by simp only [jV] <;> omega) ⟨.int ys.length, H, I.tok _, ⟨s.toks + 1, by rw [jV, hlen]⟩, q⟩
theorem Zl : Jq X (.type "list") (fun xs H Q => ∃ p ys, xs = [.ref p] ∧ (SqL X.K H p ys ∨ SqT X.K H p ys) ∧ ∀ l, H l = none → Q (.ref l) (upd H l (.lst ys))) := by
 intro pins s σ H xs us Q I r h
 obtain ⟨p, ys, rfl, hq, q⟩ := h
 obtain ⟨u, rfl, rx⟩ := vals1 r
 cases rx
 have fin : ∀ (its : List Value), Vals ys its → ys.length ≤ sizeLine → ∀ (h' : Heap) (c' : Nat), (∀ b o', s.heap.get? b = some o' → h'.get? b = some o') →
   h'.get? s.heap.objs.size = some { cls := .type "list", dict := none, data := .seq its.toArray c', slots := #[] } → EP X pins σ Q (.ref s.heap.objs.size) { s with heap := h' } := fun its r' hz h' c' kp e =>
  ⟨.ref s.heap.objs.size, _, I.laid (t' := s.toks) kp (jZ _) (show ObjOk X.prog X.w _ h' _ (.lst ys) from ⟨hz, its, c', r', e⟩), rfl, q _ (I.hok.fresh (jZ _))⟩
 rcases hq with hq | hq
 ·obtain ⟨its, r', pl, hz⟩ := I.list hq
  have hlen := r'.length
  obtain ⟨o, ho, hc, n, hd⟩ := pl.isList
  exact call_list_seq p (.inl rfl) ho hc hd (fun h' c' kp e => fin its r' hz h' c' kp e) (by simp only [jV] <;> omega)
 ·obtain ⟨its, r', pl, hz⟩ := I.tuple hq
  have hlen := r'.length
  obtain ⟨o, ho, hc, n, hd⟩ := pl
  exact call_list_seq p (.inr rfl) ho hc hd (fun h' c' kp e => fin its r' hz h' c' kp e) (by simp only [jV] <;> omega)
theorem Qy : Jq X (.type "tuple") (fun xs H Q => ∃ p ys, xs = [.ref p] ∧ ((SqL X.K H p ys ∧ ∀ l, H l = none → Q (.ref l) (upd H l (.tup ys))) ∨ (SqT X.K H p ys ∧ Q (.ref p) H))) := by
 intro pins s σ H xs us Q I r h
 obtain ⟨p, ys, rfl, h⟩ := h
 obtain ⟨u, rfl, rx⟩ := vals1 r
 cases rx
 rcases h with ⟨hq, q⟩ | ⟨hq, q⟩
 ·obtain ⟨its, r', pl, hz⟩ := I.list hq
  have hlen := r'.length
  refine call_tuple_list pl.isList (fun h' kp => ?_) (by simp only [jV] <;> omega)
  have I1 : Inv X pins σ H { s with heap := h' } := I.kept (t' := s.toks) kp
  have I2 : Inv X pins σ (upd H h'.objs.size (.tup ys)) { s with heap := h'.push { cls := .type "tuple", data := .seq its.toArray } } :=
   I1.laid (t' := s.toks) (fun b o e => jJ _ e) (jZ _) (show ObjOk X.prog X.w _ _ _ (.tup ys) from ⟨hz, its, r', IsTup.new _ _⟩)
  exact ⟨.ref h'.objs.size, _, I2, rfl, q _ (I1.hok.fresh (jZ _))⟩
 ·obtain ⟨its, r', pl, hz⟩ := I.tuple hq
  exact call_tuple_same pl ⟨.ref p, H, I, rfl, q⟩
def tyV (K : Fg) (T : String) (x : V) (H : Hp) : Prop := match x with
 | .str _ => T = "str"
 | .int _ => T = "int"
 | .ref p => (T = "list" ∧ ∃ xs, SqL K H p xs) ∨ (T = "tuple" ∧ ∃ o, K.lookup p = some o ∧ o.cls = .type "tuple" ∧ o.dict = none) ∨
   (T = "dict" ∧ ((∃ kvs, H p = some (.dK kvs)) ∨ ∃ kvs, H p = some (.dT kvs))) ∨ (T = "set" ∧ ∃ S n, H p = some (.set S n))
 | _ => False
theorem tyV_is {pins : List (Addr × Obj)} {σ : St} {H : Hp} {s : Shared} {T : String} {x : V} {v : Value} (I : Inv X pins σ H s) (r : RelV x v) (ty : tyV X.K T x H) :
  s.TypeIs v T ∧ ∀ a, v = .ref a → ∃ ob, s.heap.get? a = some ob ∧ ob.dict = none := by
 cases x with
 | str z =>
  obtain ⟨t, rfl⟩ := r
  cases (show T = "str" from ty)
  exact ⟨typeIs_str s z t, fun _ e => nomatch e⟩
 | int i =>
  obtain ⟨t, rfl⟩ := r
  cases (show T = "int" from ty)
  exact ⟨typeIs_int s i t, fun _ e => nomatch e⟩
 | ref p =>
  cases r
  rcases ty with ⟨rfl, xs, hq⟩ | ⟨rfl, o, hk, hc, hd⟩ | ⟨rfl, hk⟩ | ⟨rfl, S, n, hk⟩
  ·obtain ⟨its, _, pl, _⟩ := I.list hq
   refine ⟨pl.isList.typeIs, fun a e => ?_⟩
   cases e
   obtain ⟨o, n, e, c, hd, _⟩ := pl
   exact ⟨o, e, hd⟩
  ·refine ⟨⟨o, I.kIn p o hk, hc⟩, fun a e => ?_⟩
   cases e
   exact ⟨o, I.kIn _ o hk, hd⟩
  ·have z : ∃ o, s.heap.get? p = some o ∧ o.ExactDict := by
    rcases hk with ⟨kvs, hk⟩ | ⟨kvs, hk⟩
    ·obtain ⟨_, _, _, _, o, _, _, e, ex, _⟩ := I.hok p _ hk
     exact ⟨o, e, ex⟩
    ·obtain ⟨_, _, _, _, o, _, _, e, ex, _⟩ := I.hok p _ hk
     exact ⟨o, e, ex⟩
   obtain ⟨o, e, ex⟩ := z
   refine ⟨⟨o, e, ex.1⟩, fun a e2 => ?_⟩
   cases e2
   exact ⟨o, e, ex.2.1⟩
  ·obtain ⟨o, _, _, _, e, ex, _⟩ := I.hok p _ hk
   refine ⟨⟨o, e, ex.1⟩, fun a e2 => ?_⟩
   cases e2
   exact ⟨o, e, ex.2.1⟩
 | _ => exact False.elim ty
def tBM (K : Fg) (T : String) (r : V → List V → Hp → VK → Prop) (to : TE) (t : TA) : TE := fun σ H Q => to σ H fun x H1 => tyV K T x H1 ∧ t σ H1 fun xs H2 => r x xs H2 Q
variable {o e : Expr} {es : List Expr} {to : TE} {t : TA} {name : Str} {apos cpos : Pos} {T id : String} {r : V → List V → Hp → VK → Prop}
theorem Qck (pa : PlainAttrs T) (slot : Slot T name id) (hty : typeOf (.builtin id) = pure (.type "method_descriptor")) (hm : MtR X id r) (ho : PE X o to) (ha : PA X (e :: es) t)
  (hbase : autoParam (attributeBase o name X.env (eval o X.env) = eval o X.env) L2.aRfl._auto_1)
  (hfew : ((backTo cpos (starEach (e :: es) X.env)).all (fun x => !x.1) && (backToKw cpos (keywordEach [] X.env)).all (fun x => x.1.isSome)
   && decide ((e :: es).length + ([] : List Keyword).length + (if ([] : List Keyword).isEmpty then 0 else 1) < 30)) = true := by rfl)
  (hline : autoParam ((apos.endLine == cpos.line) = true) L2.aRfl._auto_1) (hs : autoParam (starEach (e :: es) X.env = (false, eval e X.env) :: starEach es X.env) L2.aRfl._auto_1) (hplain : autoParam ((backTo cpos (starEach es X.env)).any (·.1) = false) L2.aRfl._auto_1) :
  PE X (.Call (.Attribute o name apos) (e :: es) [] cpos) (tBM X.K T r to t) := by
 intro pins s σ H Q I h
 refine wpAny_Call_method_late hbase hfew hline rfl (thn (ho pins s σ H _ I h) fun v s1 hqP => ?_)
 obtain ⟨x, H1, I1, r1, ty, q1⟩ := hqP
 obtain ⟨h1, h2⟩ := tyV_is I1 r1 ty
 refine ⟨T, id, pa, slot, hty, h1, h2, ?_⟩
 have hA := ha cpos pins s1 σ H1 _ I1 q1
 rw [hs] at hA ⊢
 refine Calls.callWith_builtin (by show (false || (backTo cpos (starEach es X.env)).any (·.1)) = false; rw [hplain] <;> rfl) (Calls.evalArgs_plain ?_)
 exact thn hA fun us s2 ⟨vs, H2, I2, r2, q2⟩ => hm pins s2 σ H2 x vs v us Q I2 r1 r2 q2
/- xs.append(e), list.index on a module's tuple .. are MtR facts of 06m -/
end
def MtM (X : Cx) (id : String) (r : V → List V → Hp → VK → Prop) : Prop :=
 ∀ (pins : List (Addr × Obj)) (s : Shared) (σ : St) (H : Hp) (x : V) (xs : List V) (v : Value) (us : List Value) (Q : VK), Inv X pins σ H s → RelV x v → Vals xs us → r x xs H Q →
  wpAny (model X.prog X.w) X.A (call (.builtin id) (v :: us)) (EP X pins σ Q) X.xe s
theorem Vals.one {x : V} {us : List Value} (h : Vals [x] us) : ∃ u, us = [u] ∧ RelV x u := by
 cases h with
 | cons r t => cases t; exact ⟨_, rfl, r⟩
theorem Vals.two {x y : V} {us : List Value} (h : Vals [x, y] us) : ∃ u v, us = [u, v] ∧ RelV x u ∧ RelV y v := by
 cases h with
 | cons r t =>
  cases t with
  | cons q t => cases t; exact ⟨_, _, rfl, r, q⟩
theorem Vals.rep {xs : List V} {us : List Value} (h : Vals xs us) : ∀ k : Nat, Vals (List.replicate k xs).flatten (List.replicate k us).flatten
 | 0 => .nil
 | k + 1 => by
  rw [wX, wX, jXe, jXe]
  exact Vals.append h (Vals.rep h k)
theorem foldl_rep (its : List Value) : ∀ (k : Nat) (acc : List Value),
  List.foldl (fun x1 x2 => x1 ++ x2) acc.toArray (List.replicate k its.toArray) = (acc ++ (List.replicate k its).flatten).toArray
 | 0, acc => by simp
 | k + 1, acc => by
  have e : acc.toArray ++ its.toArray = (acc ++ its).toArray := by simp
  have e2 : (acc ++ its) ++ (List.replicate k its).flatten = acc ++ (List.replicate (k + 1) its).flatten := by
   rw [wX, jXe, List.append_assoc]
  rw [← e2, ← foldl_rep its k (acc ++ its), ← e, wX, jJd]
section
variable {X : Cx} {pins : List (Addr × Obj)} {σ : St} {H : Hp} {s : Shared} {l b : Addr} {xs ys zs : List V}
theorem Inv.lset {its its' : List Value} {n : Nat} {f : Array Value → Array Value} {t' : Nat} (I : Inv X pins σ H s) (hH : H l = some (.lst xs))
  (e : s.heap.get? l = some { cls := .type "list", data := .seq its.toArray n }) (hf : f its.toArray = its'.toArray) (hv : Vals ys its') (hz : ys.length ≤ sizeLine) :
  Inv X pins σ (upd H l (.lst ys)) { s with heap := s.heap.update l (Obj.mapSeq f), toks := t' } := by
 have q := PySem.IsL.update e f
 rw [hf] at q
 refine I.write (x := l) (e := l) (by rw [hH]; exact trivial) (.inl rfl) (fun b' u hb hu => (Heap.get?_update_other s.heap (Obj.mapSeq f) (Ne.symm hb)).trans hu) ⟨_, q⟩ ?_
 exact ⟨hz, its', _, hv, q⟩
theorem Inv.lnew {its : List Value} {t' : Nat} (I : Inv X pins σ H s) (hv : Vals ys its) (hz : ys.length ≤ sizeLine) :
  Inv X pins σ (upd H s.heap.objs.size (.lst ys)) { s with heap := s.heap.push { cls := .type "list", data := .seq its.toArray }, toks := t' } :=
 I.laid (fun _ _ q => jJ _ q) (jZ _) ⟨hz, its, 0, hv, yZ _ rfl⟩
theorem Inv.fresh (I : Inv X pins σ H s) : H s.heap.objs.size = none := I.hok.fresh (jZ _)
theorem Inv.lstM (I : Inv X pins σ H s) (hH : H l = some (.lst xs)) : xs.length ≤ sizeLine ∧ ∃ (its : List Value) (n : Nat), Vals xs its ∧ xs.length = its.length ∧ s.heap.get? l = some { cls := .type "list", data := .seq its.toArray n } := by
 obtain ⟨z, its, n, r, e⟩ := I.hok l _ hH
 exact ⟨z, its, n, r, r.length, e⟩
theorem Qpd {n : Nat} (h : n ≤ sizeLine) : Builtin.List.listTooLong n = false := by
 unfold Builtin.List.listTooLong
 exact yQ (by omega)
end
section
variable {X : Cx}
def Qsn : V → List V → Hp → VK → Prop := fun x vs H Q => ∃ l xs y, x = .ref l ∧ vs = [y] ∧ H l = some (.lst xs) ∧ xs.length < sizeLine ∧ Q .non (upd H l (.lst (xs ++ [y])))
theorem Zm : MtM X "list.append" Qsn := by
 intro pins s σ H x vs v us Q I rx rv h
 obtain ⟨l, xs, y, rfl, rfl, hH, hz, q⟩ := h
 cases rx
 obtain ⟨u, rfl, ru⟩ := rv.one
 obtain ⟨z, its, n, r, hl, e⟩ := I.lstM hH
 refine call_meets F.slot_list_append ⟨_, e, rfl⟩ F.entry_list_append (F.args_list_append_2 _ _) (PySem.list_append l its.toArray n u (by rw [jV]; omega)) ⟨e, ?_⟩
 refine ⟨.non, _, I.lset (its' := its ++ [u]) hH e (by simp) (r.append (.cons ru .nil)) ?_, rfl, q⟩
 rw [kZ, jKa]
 omega
def rRep : R2 := fun x y H Q => ∃ l k xs, x = .ref l ∧ y = .int k ∧ H l = some (.lst xs) ∧ -(2 ^ 63) ≤ k ∧ k < 2 ^ 63 ∧ xs.length * k.toNat ≤ sizeLine ∧
 ∀ p, H p = none → Q (.ref p) (upd H p (.lst (List.replicate k.toNat xs).flatten))
theorem len_rep {α : Type} (xs : List α) (k : Nat) : (List.replicate k xs).flatten.length = k * xs.length := by
 induction k with
 | zero => simp
 | succ k ih => rw [wX, jXe, kZ, ih, Nat.succ_mul, Nat.add_comm]
theorem Vd : OpR X (binaryOp .Mult) rRep := by
 intro pins s σ H x y v u Q I rx ry h
 obtain ⟨l, k, xs, rfl, rfl, hH, h1, h2, hz, q⟩ := h
 cases rx
 obtain ⟨t, rfl⟩ := ry
 obtain ⟨z, its, n, r, hl, e⟩ := I.lstM hH
 have hlen : its.toArray.size * k.toNat ≤ sizeLine := by rw [jV, ← hl]; exact hz
 have hcap : ¬ its.toArray.size * k.toNat > (2 ^ 63 - 1) / 8 := by
  have : (sizeLine : Nat) ≤ (2 ^ 63 - 1) / 8 := by decide
  omega
 have hfit : ¬ (!Builtin.List.listFitsIndex k) = true := by
  rw [fitsIndex_both h1 h2]
  exact kY
 have hlong : ¬ Builtin.List.listTooLong (its.toArray.size * k.toNat) = true := by
  rw [Qpd hlen]
  exact kY
 have hnew : List.foldl (fun x1 x2 => x1 ++ x2) #[] (List.replicate (if its.toArray.isEmpty = true then 0 else k.toNat) its.toArray) = (List.replicate k.toNat its).flatten.toArray := by
  have f0 : ∀ m : Nat, List.foldl (fun x1 x2 => x1 ++ x2) #[] (List.replicate m its.toArray) = (List.replicate m its).flatten.toArray := fun m => by
   have := foldl_rep its m []
   rw [List.nil_append] at this
   exact this
  rw [f0]
  cases its with
  | nil => simp
  | cons a r' => rw [if_neg (by simp)]
 refine wpAny_binaryOp_repeat_ref (T := "list") (U := "int") (by decide) ⟨_, e, rfl⟩ (fun s' => typeIs_int s' k t) noFill_list_mul F.fills_int_mul F.slot_int_rmul repeat_list F.slot_int_index.lookup
  (call_meets F.slot_int_rmul (typeIs_int s k t) F.entry_int_rmul (F.args_int_rmul_2 _ _) (int___rmul___int_list k t l its.toArray n)
   ⟨e, rfl, ⟨_, e, rfl⟩, call_meets F.slot_list_mul ⟨_, e, rfl⟩ F.entry_list_mul (F.args_list_mul_2 _ _) (AutoListH.list___mul___list_int_3 l its.toArray n k t hfit hcap hlong) ⟨e, ?_⟩⟩)
 rw [hnew]
 exact ⟨.ref _, _, I.lnew (t' := s.toks) (r.rep k.toNat) (by rw [len_rep, Nat.mul_comm]; exact hz), rfl, q _ I.fresh⟩
end
section
variable {prog : Program} {w : World} {A : Around} {E : Value → Shared → Prop} {s : Shared}
end
section
variable {X : Cx}
end
end L2
namespace Att
open PySem PySem.W PySem.Calls PyProof.Rows
theorem Qbh {P : Params} {h : Heap} : ∀ (ns : List Int) (vs : List Value), WellAll P h vs (ns.map WData.int) → IntsAre vs ns := by
 intro ns
 induction ns with
 | nil =>
  intro vs w
  rw [jJb] at w
  cases w
  exact .nil
 | cons n ns ih =>
  intro vs w
  rw [xX] at w
  cases w with
  | cons a b =>
   cases a
   exact .cons _ _ (ih _ b)
theorem Qma {l : OpenLaw} {n : Nat} (hn : l.most = some n) {P : Params} {h : Heap} {args : List WData} {vals : List Value}
  (hpre : l.row.toRowW.claim.pre args = true) (hwl : WellAll P h vals args) :
  ∃ a vs ns, vals = [Value.ref a] ∧ args = [WData.list (ns.map WData.int)] ∧ h.get? a = some { cls := .type "list", data := .seq vs.toArray } ∧ IntsAre vs ns ∧ ns.length ≤ n := by
 have hsh : WShape.hasAll [] args [.list .int] = true := (pre_splitW hpre).1
 have hc : l.pre.holds [] { args := args } = true := (pre_splitW hpre).2
 obtain ⟨d, r, rfl, h1, h2⟩ := hasAllW_cons hsh
 obtain rfl := hasAllW_nil h2
 obtain ⟨xs, rfl, h3⟩ := hasW_list h1
 obtain ⟨ns, rfl⟩ := items_int h3
 have hlen : ns.length ≤ n := by
  unfold OpenLaw.pre at hc
  have h4 : (WTm.not (.lt (.lit (.int (n : Int))) (.len (.arg 0)))).holds [] { args := [.list (ns.map .int)] } = true := by
   have h4 := (holds_andW hc).1
   rw [hn] at h4
   exact h4
  have h5 := condW_of h4 (w_not (w_lt w_lit (w_len_list (w_arg rfl))))
  rw [jQ] at h5
  refine Nat.le_of_not_lt fun q => ?_
  have q' : (n : Int) < ((ns.length : Nat) : Int) := by omega
  first
   | (rw [jW q'] at h5; exact absurd h5 (by decide))
   | (simp at h5; omega)
 cases hwl with
 | cons w1 w2 =>
  cases w2
  cases w1 with
  | list ho hall => exact ⟨_, _, ns, rfl, rfl, ho, Qbh ns _ hall, hlen⟩
theorem Qmb (l : OpenLaw) (args : List WData) : l.row.toRowW.claim.post args (.bool true) args = true :=
 postW_of (r := l.row.toRowW) (X := (true == true))
  (show WShape.has [] (.bool true) .bool = true by first | rfl | decide | simp [WShape.has, WShape.arms, WShape.armsAll])
  (show (WTm.eq .res (.lit (.bool true))).value [] { args := args, res := some (.bool true), after := args } = some (.bool (true == true)) from w_eq_bool (w_res rfl) w_lit) rfl
theorem attach_call {l : OpenLaw} {n : Nat} {q : Program} {loose : List Str} {XP : (Str → Option Value) → Heap → Prop} {YP : World → Heap → Prop} {d : DefRec}
  (hn : l.most = some n) (hdf : d.params.defaults = [])
  (call : ∀ (w : World) (s₀ s₁ : Shared) (mg mb : Str → Option Value) (fa : Addr) (o : Obj) (pm cd doc : Value) (a : Addr) (vs : List Value) (ns : List Int),
   Ground q loose [] XP w s₀ mg mb s₁.heap → YP w s₁.heap →
   s₁.heap.get? fa = some o → o.data = .func (docDef d.name d.params d.body d.scope pm cd doc) → s₁.heap.CodeRec cd d.name → mg d.name = some (.ref fa) →
   s₁.heap.get? a = some { cls := .type "list", data := .seq vs.toArray } → IntsAre vs ns → ns.length ≤ n → s₁.gens = #[] →
   codeAny (model l.prog w) callerA (.call (.ref fa) ⟨[.ref a], []⟩) (fun r s' => r = .ok (.ret (.bool true)) ∧ OldK s₁.heap s'.heap ∧ s'.os = s₁.os ∧ AllBare s'.gens) s₁) :
  WalkO q loose XP YP l.row.toRowW d [] (fun f vs => PySem.call f vs) := by
 intro w s₀ s₁ mg mb G Y fa o pm cd doc dV kV ho hd hcd hD hmg hg args vals as hpre hlay hrd hwl hlo
 obtain rfl : dV = .none := Dflts.none hD hdf
 obtain rfl : kV = .none := Dflts.noKw hD
 obtain ⟨a, vs, ns, rfl, rfl, hobj, hints, hlen⟩ := Qma hn hpre hwl
 refine enter_call (codeAny_mono (call w s₀ s₁ mg mb fa o pm cd doc a vs ns G Y ho (fd_plain hd) hcd hmg hobj hints hlen hg) fun r s' hq => ?_)
 obtain ⟨rfl, h2, h3, h4⟩ := hq
 exact ⟨.inl ⟨.bool true, .bool true, [], rfl, fun _ => rfl, .bool true, Qmb l _, fun _ => ⟨List.Pairwise.nil, fun _ hm => (nomatch hm)⟩⟩, h2, h3, h4⟩
section
variable {prog : Program} {w : World} {A : Around} {E : Value → Shared → Prop} {s : Shared} {K : Frag}
end
end Att
namespace L2
open PySem PySem.Spec PyProof.Rows
theorem Qet : ∀ {vs : List Value} {ns : List Int}, IntsAre vs ns → Vals (ns.map V.int) vs
 | _, _, .nil => .nil
 | _, _, .cons n t h => .cons ⟨t, rfl⟩ (Qet h)
def Only (H : Hp) : Prop := ∀ b, H b = none ∨ ∃ o xs, H b = some (.frz o (.lst xs))
theorem Qpe {P : Program} {w : World} {K : Fg} {mg mb : Str → Option Value} {CX : CXT} {k : Nat} {fa a : Addr} {fd : FuncData} {x : Str} {sp : Sp} {s₁ : Shared} {vs : List Value} {ns : List Int}
  (KX : K.In s₁.heap) (hns : s₁.heap.Ns mainGlobals mg) (hb : s₁.heap.Ns builtinsNs mb) (hbb : ∀ x : Str, x ≠ "__name__" → mb x = bootBuiltins x) (hlim : s₁.heap.NoLimit) (hg : s₁.gens = #[])
  (ha : s₁.heap.get? a = some { cls := .type "list", data := .seq vs.toArray }) (hi : IntsAre vs ns) (hl : ns.length ≤ sizeLine) (hr : Room k callerA)
  (F : ∀ base : Heap, K.In base → base.Ns mainGlobals mg → FnOk P w K mg base CX k fa fd [x] sp) (hbind : ∀ (s : Shared) (u : Value), BindsTo s fd ⟨[u], []⟩ [(x, u)])
  (hsp : ∀ H : Hp, Only H → SqL K H a (ns.map V.int) → sp [.ref a] H (fun v _ => v = .bl true) fun _ _ _ => False)
  (hCX : ∀ H e s', CX [] H s₁ (fun _ _ _ => False) e s' → False) :
  codeAny (model P w) callerA (.call (.ref fa) ⟨[.ref a], []⟩) (fun r s' => r = .ok (.ret (.bool true)) ∧ OldK s₁.heap s'.heap ∧ s'.os = s₁.os ∧ AllBare s'.gens) s₁ := by
 have rv := Qet hi
 have lenV := hi.length
 -- from an abstract heap in which nothing but the script may be tracked
 have core : ∀ H : Hp, Only H → SqL K H a (ns.map V.int) → HOk P w H s₁.heap → (∀ b, H b ≠ none → b = a) → (H a ≠ none → K.lookup a = none) →
   codeAny (model P w) callerA (.call (.ref fa) ⟨[.ref a], []⟩) (fun r s' => r = .ok (.ret (.bool true)) ∧ OldK s₁.heap s'.heap ∧ s'.os = s₁.os ∧ AllBare s'.gens) s₁ := by
  intro H hO hS hok hA hK
  have base_of : ∀ {b : Addr} {o : Obj}, s₁.heap.get? b = some o → H b = none → (hidT s₁.heap H).get? b = some o := fun e n => Qox e n
  have noA : ∀ {b : Addr} {o : Obj} {es : Array DictEntry} {ep : Nat}, s₁.heap.get? b = some o → o.data = .dict es ep → H b = none := fun {b o es ep} e d => by
   cases q : H b with
   | none => rfl
   | some u =>
    have e' : b = a := hA b (by rw [q]; simp)
    subst e'
    rw [ha] at e; cases e
    have d' : Data.seq vs.toArray _ = Data.dict es ep := d
    cases d'
  have nsK : ∀ {b : Addr} {m : Str → Option Value}, s₁.heap.Ns b m → (hidT s₁.heap H).Ns b m := fun {b m} ⟨o, es, ep, e, d, r⟩ => ⟨o, es, ep, base_of e (noA e d), d, r⟩
  have hKb : K.In (hidT s₁.heap H) := fun b o e => base_of (KX b o e) (by
   cases q : H b with
   | none => rfl
   | some u =>
    have e' : b = a := hA b (by rw [q]; simp)
    subst e'
    rw [hK (by rw [q]; simp)] at e; cases e)
  have hM : Mod K mg (hidT s₁.heap H) := ⟨hKb, nsK hns, ⟨mb, nsK hb, hbb⟩, let ⟨mc, h1, h2⟩ := hlim; ⟨mc, nsK h1, h2⟩⟩
  have e0 : Env0 P w K mg (hidT s₁.heap H) callerA [] s₁ H := ⟨rfl, hM, fun b o e => Qsg e, Nat.le_of_eq (Qlg _ _), trivial, fun b hb => absurd (show b ∈ ([] : List Addr) from hb) (by simp), hok, .of_eq hg⟩
  refine codeAny_mono ((F _ hKb (nsK hns)).run callerA [] s₁ H ⟨[.ref a], []⟩ [.ref a] [.ref a] _ _ hr e0 (hbind s₁ (.ref a)) (.cons rfl .nil) (hsp H hO hS)) fun r s' h => ?_
  cases r with
  | error e => exact (hCX H e s' h).elim
  | ok fl =>
   cases fl with
   | next => exact False.elim h
   | brk => exact False.elim h
   | cont => exact False.elim h
   | ret u =>
    obtain ⟨v, H', os, bare, un, hok', r', q⟩ := h
    have q' : v = .bl true := q
    subst q'
    obtain rfl : u = Value.bool true := r'
    refine ⟨rfl, OldK.of_keep fun b o e => ?_, os, bare⟩
    cases q : H b with
    | none => exact un.keep b o e q (by intro z; exact absurd (show b ∈ ([] : List Addr) from z) (by simp)) (by simp)
    | some u =>
     rcases hO b with z | ⟨ob, xs, z⟩
     ·rw [q] at z; cases z
     ·have z2 := un.frzs b ob _ z
      obtain ⟨e1, _⟩ := hok b _ z
      obtain ⟨e2, _⟩ := hok' b _ z2
      rw [e] at e1; cases e1
      exact e2
 cases hk : K.lookup a with
 | some o =>
  -- the script is one of the module's own objects
  have e := KX a o hk
  rw [ha] at e
  cases e
  refine core (fun _ => none) (fun _ => .inl rfl) (.inr ⟨_, vs.toArray, _, hk, rfl, rfl, rfl, by rw [jV, lenV]; exact hl, by simpa using rv⟩) (fun b u z => by have z' : (none : Option HO) = some u := z; cases z') (fun b z => absurd rfl z) fun z => absurd rfl z
 | none =>
  refine core (fun b => if b = a then some (.frz { cls := .type "list", data := .seq vs.toArray } (.lst (ns.map V.int))) else none) (fun b => ?_) (.inl (.inr ⟨{ cls := .type "list", data := .seq vs.toArray }, if_pos rfl⟩)) (fun b u z => ?_) (fun b z => ?_) fun _ => hk
  ·by_cases hb : b = a
   ·exact .inr ⟨_, _, if_pos hb⟩
   ·exact .inl (if_neg hb)
  ·by_cases hb : b = a
   ·have z' := (if_pos hb).symm.trans z
    cases z'
    subst hb
    exact ⟨ha, by rw [jQ]; exact hl, vs, _, rv, ha⟩
   ·have z' := (if_neg hb).symm.trans z
    cases z'
  ·by_cases hb : b = a
   ·exact hb
   ·exact absurd (if_neg hb) z
abbrev KOf {K : Fg} {h : Heap} (_ : K.In h) : Fg := K
theorem Qmc {l : PySem.W.OpenLaw} {n k : Nat} {q : Program} {loose : List Str} {XP : (Str → Option Value) → Heap → Prop} {YP : World → Heap → Prop} {d : DefRec} {K : Params → Fg} {CX : World → CXT} {sp : World → Sp} {x : Str}
  (hn : l.most = some n) (hn2 : n ≤ sizeLine) (hdf : d.params.defaults = []) (hr : Room k callerA)
  (hY : ∀ (w : World) (h : Heap), YP w h → (K w.params).In h)
  (F : ∀ (w : World) (mg : Str → Option Value) (fa : Addr) (h : Heap), (K w.params).In h → h.Ns mainGlobals mg → mg d.name = some (.ref fa) →
   ∃ fd : FuncData, (∀ (s : Shared) (u : Value), BindsTo s fd ⟨[u], []⟩ [(x, u)]) ∧
    ∀ base : Heap, (K w.params).In base → base.Ns mainGlobals mg → FnOk l.prog w (K w.params) mg base (CX w) k fa fd [x] (sp w))
  (hsp : ∀ (w : World) (H : Hp) (a : Addr) (ns : List Int), ns.length ≤ n → Only H → SqL (K w.params) H a (ns.map V.int) → sp w [.ref a] H (fun v _ => v = .bl true) fun _ _ _ => False)
  (hCX : ∀ (w : World) (H : Hp) (s : Shared) (e : Value) (s' : Shared), CX w [] H s (fun _ _ _ => False) e s' → False) :
  PySem.W.WalkO q loose XP YP l.row.toRowW d [] (fun f vs => PySem.call f vs) := by
 refine Att.attach_call hn hdf fun w s₀ s₁ mg mb fa o pm cd doc a vs ns G Y ho hd hcd hmg hobj hints hlen hg => ?_
 have KX := hY w _ Y
 obtain ⟨fd, hb, hF⟩ := F w mg fa _ KX G.T.g hmg
 exact Qpe KX G.T.g G.T.b G.T.builtins G.T.nolimit hg hobj hints (jQf hlen hn2) hr hF hb (fun H hO hS => hsp w H a ns hlen hO hS) fun H e s' => hCX w H s₁ e s'
end L2
/- THE LAST THEOREM (shape; LID, My.* are yours):
   My.Adr: a structure of the addresses that your layer names (classes, functions); My.Txt K t: a structure (Prop) of the equations over K;
   My.txt_mk : {K} {implicit addresses ..} (e1 : nsIn K mainGlobals "law" = some (some (.ref f))) (e2 : K.lookup f = some ⟨oc, od, .func (fnOf "law" "law" params body scope dV kV doc pm an cdv ct), sl⟩) (e3 : codeIn K cdv "law" = true) .. : ∃ t, My.Txt K t
set_option maxRecDepth 100000 in
set_option maxHeartbeats 0 in
theorem PySem.Challenge.cw_LID_holds : PySem.Challenge.rw_LID.Holds := by
 w_on; o_law; k_head; (case hw => w_witness2)
 k_fill
 refine L2.Qmc (l := PySem.Challenge.rw_LID) (n := 63) (k := 40) (x := "script") (CX := fun w => ..) (sp := fun _ => My.sp_law) rfl (by decide) rfl ⟨rfl, by decide, by decide⟩ (fun w h Y => PySem.W.kIn_of Y) ?F ?S ?C
 case F =>
  intro w mg fa h KX G hmg
  have T : ∃ t, My.Txt (L2.KOf KX) t := by
   dsimp only [L2.KOf]                          -- K must stand as «<heap const> w.params» for k_is
   refine' My.txt_mk ?e1 ?e2 ?e3 ..
   (case e1 => PySem.W.k_is)                    -- in the order: a name -> its address -> its object -> its parts
   (case e2 => PySem.W.k_is)
   ..
  obtain ⟨t, T⟩ := T
  have e0 := hmg.symm.trans (PySem.W.mg_of KX G T.law)
  cases e0                                       -- fa is the law's own address
  exact ⟨_, fun s u => .of_eq rfl, fun base kb nb => My.law_fn T kb nb⟩     -- if «.of_eq rfl» comes too early: refine' ⟨_, ?b, fun base kb nb => My.law_fn T kb nb⟩; exact fun s u => .of_eq rfl
 case S => exact fun w H a ns hl hO hS => ..
 case C => exact ..
(the tactic k_is has no namespace: write k_is) -/
namespace L2
open PySem PySem.Spec PyProof.Rows
def Qu (s : Stmt) : Arguments := match s with
 | .FunctionDef _ a _ _ _ _ _ _ _ _ => a
 | _ => { posonlyargs := [], args := [], vararg := none, kwonlyargs := [], kw_defaults := [], kwarg := none, defaults := [] }
def Qt (s : Stmt) : List Stmt := match s with
 | .FunctionDef _ _ b _ _ _ _ _ _ _ => b
 | _ => []
def Qf (s : Stmt) : Scope := match s with
 | .FunctionDef _ _ _ _ _ _ sc _ _ _ => sc
 | _ => { kind := .function, names := [], isGenerator := false, isCoroutine := false }
abbrev CX0 : CXT := fun _ _ _ _ _ _ => False
abbrev E0 : XK := fun _ _ _ => False
theorem pass0 {X : Cx} : Qlt CX0 X E0 := fun _ _ _ _ _ _ _ h => h.elim
structure Fun (K : Fg) (x qual : Str) (st : Stmt) (f : Addr) (fd : FuncData) : Prop where
 ex : ∃ (oc : Value) (od : Option Addr) (kV doc pm : Value) (an : Option Addr) (cdv ct : Value) (osl : Array (Option Value)),
  fd = PySem.W.fnOf x qual (Qu st) (Qt st) (Qf st) .none kV doc pm an cdv ct ∧ K.lookup f = some ⟨oc, od, .func fd, osl⟩ ∧ PySem.W.codeIn K cdv qual = true
 kp : PySem.W.keepIn K (.ref f) = true
section
variable {P : Program} {w : World} {K : Fg} {mg : Str → Option Value} {base : Heap}
theorem Fun.ok {x qual : Str} {st : Stmt} {f : Addr} {fd : FuncData} {N ps : List Str} {k : Nat} {sp : Sp} (F : Fun K x qual st f fd) (S : FnScope N ps (Qf st)) (len : ∀ vs H Q E, sp vs H Q E → vs.length = ps.length)
  (hbody : ∀ (cdv : Value) (A : Around) (outer : List Env) (s : Shared) (H : Hp) (vs : List V) (Q : VK) (E : XK), Room k (A.deeper (envOfC qual (Qf st) s.heap.objs.size f cdv)) → sp vs H Q E →
   ∃ t, PSs (cxOf CX0 P w K mg base N qual (Qf st) f cdv A outer s H E).nox (Qt st) t ∧ t { nx := fun _ H' => Q .non H', rt := Q } (start N vs) H) : FnOk P w K mg base CX0 (k + 1) f fd ps sp := by
 obtain ⟨oc, od, kV, doc, pm, an, cdv, ct, osl, rfl, lk, hcd⟩ := F.ex
 refine fn_of lk hcd S len fun A outer s H vs Q E hr hsp => ?_
 obtain ⟨t, h, q⟩ := hbody cdv A outer s H vs Q E hr hsp
 exact ⟨t, h.nox, q⟩
theorem Fun.binds {x qual : Str} {st : Stmt} {f : Addr} {fd : FuncData} {ps : List Str} (F : Fun K x qual st f fd)
  (h : ∀ (kV doc pm : Value) (an : Option Addr) (cdv ct : Value) (us : List Value), us.length = ps.length → bindArgs (PySem.W.fnOf x qual (Qu st) (Qt st) (Qf st) .none kV doc pm an cdv ct) ⟨us, []⟩ = pure (ps.zip us)) : Binds K fd ps [] := by
 obtain ⟨oc, od, kV, doc, pm, an, cdv, ct, osl, rfl, lk, hcd⟩ := F.ex
 exact .all (h kV doc pm an cdv ct)
theorem fun_mk {x qual : Str} {st : Stmt} {f : Addr} {oc : Value} {od an : Option Addr} {osl : Array (Option Value)} {kV doc pm cdv ct : Value} (l : K.lookup f = some ⟨oc, od, .func (PySem.W.fnOf x qual (Qu st) (Qt st) (Qf st) .none kV doc pm an cdv ct), osl⟩)
  (c : PySem.W.codeIn K cdv qual = true) (k : PySem.W.keepIn K (.ref f) = true) : Fun K x qual st f (PySem.W.fnOf x qual (Qu st) (Qt st) (Qf st) .none kV doc pm an cdv ct) := ⟨⟨oc, od, kV, doc, pm, an, cdv, ct, osl, rfl, l, c⟩, k⟩
end
section
variable {X : Cx}
theorem pv (i : Nat) {x : Str} {pos : Pos} (hN : autoParam (X.N[i]? = some x) L2.aRfl._auto_1) (hv : Vis X.env.scope x := by first | exact Or.inl rfl | exact Or.inr (Or.inl rfl) | exact Or.inr (Or.inr rfl)) (hd : autoParam ((x == ("__debug__" : Str)) = false) L2.aDec._auto_1)
  (hcd : autoParam ((x == ("__classdict__" : Str)) = false) L2.aDec._auto_1) : PE X (.Name x pos) (tVar i) := pe_var hN hv hd hcd
end
theorem iteF {A B : Prop} (h : B) : if false = true then A else B := by
 rw [if_neg kY]
 exact h
theorem iteT {A B : Prop} (h : A) : if true = true then A else B := by
 rw [if_pos rfl]
 exact h
theorem ite2 {c A B : Prop} [Decidable c] (h1 : c → A) (h2 : ¬ c → B) : if c then A else B := by
 by_cases h : c
 ·rw [if_pos h]
  exact h1 h
 ·rw [if_neg h]
  exact h2 h
def Same (H H' : Hp) : Prop := ∀ b o, H b = some o → H' b = some o
theorem Same.refl (H : Hp) : Same H H := fun _ _ h => h
theorem Same.trans {H H1 H2 : Hp} (a : Same H H1) (b : Same H1 H2) : Same H H2 := fun c o h => b c o (a c o h)
theorem Same.seq {K : Fg} {H H' : Hp} {a : Addr} {xs : List V} (e : Same H H') (h : SqL K H a xs) : SqL K H' a xs := by
 rcases h with (h | ⟨o, h⟩) | h
 ·exact .inl (.inl (e _ _ h))
 ·exact .inl (.inr ⟨o, e _ _ h⟩)
 ·exact .inr h
theorem Qeu {prog : Program} {w : World} {A : Around} {R : Result → Shared → Prop} {s : Shared} {elt target iter : Expr} {ifs : List Expr} {scope : Scope} {pos : Pos} {it acc : Value} {env : Env} (I : Nat → Shared → Prop)
  (turn : ∀ n s, I n s → wpAny (model prog w) A (pyNext it) (fun r s1 => match r with
   | none => R (.ok .next) s1
   | some v => wpAny (model prog w) A (letOwnedTupleGo target it v) (fun _ s1' => wpAny (model prog w) A (assign target env v) (fun _ s2 =>
     wpAny (model prog w) A (forIn ifs true fun c r => if r = true then do let ok ← isTrue c env (eval c env); pure (ForInStep.yield ok) else pure (ForInStep.yield r)) (fun ok s3 =>
      if ok = true then wpAny (model prog w) A (eval elt env) (fun x s4 =>
       wpAny (model prog w) A (call (.builtin "list.append") [acc, x]) (fun _ s5 => ∃ m, m < n ∧ I m s5) (fun _ _ => False) s4) (fun _ _ => False) s3
      else ∃ m, m < n ∧ I m s3) (fun _ _ => False) s2) (fun _ _ => False) s1') (fun _ _ => False) s1) (fun _ _ => False) s)
  (n : Nat) (h : I n s) :
  codeAny (model prog w) A (.compLoop (.ListComp elt [⟨target, iter, ifs, 0⟩] scope pos) 0 it acc env) R s := by
 refine codeAny_loop rfl I (fun n s hI => ?_) n h
 show wpAny _ A ((compTurn (.ListComp elt [⟨target, iter, ifs, 0⟩] scope pos) 0 it acc env).onRaise (fun x => do noteFrame x env; theTreesLotGoes x)) _ _ s
 refine wpAny_noted ?_
 rw [compTurn_list]
 refine jX (wpAny_standAt (jX (wpAny_mono (turn n s hI) (fun r s1 h1 => ?_) fun _ _ h' => h'.elim)))
 cases r with
 | none => exact kQ h1
 | some v =>
  refine jX (wpAny_mono h1 (fun _ s1' h1' => ?_) fun _ _ h' => h'.elim)
  refine jX (wpAny_mono h1' (fun _ s2 h2 => jX (wpAny_mono h2 (fun ok s3 h3 => ?_) fun _ _ h' => h'.elim)) fun _ _ h' => h'.elim)
  cases ok with
  | false => exact kQ ⟨rfl, h3⟩
  | true =>
   exact jX (jX (wpAny_mono h3 (fun x s4 h4 => jX (wpAny_mono h4 (fun _ s5 h5 => kQ (kQ ⟨rfl, h5⟩)) fun _ _ h' => h'.elim)) fun _ _ h' => h'.elim))
def freeOk (sc : Scope) : List (Str × NameKind) → Bool
 | [] => true
 | (n, k) :: r => (k != .free || sc.names.lookup n == some .cell || sc.names.lookup n == some .free) && freeOk sc r
def Zh (env : Env) : List (Str × NameKind) → List (Str × Addr) → List (Str × Addr)
 | [], cs => cs
 | (n, k) :: r, cs => Zh env r (if k = .free then (n, (env.cells.lookup n).getD 0) :: cs else cs)
theorem Vj {env : Env} : ∀ (l : List (Str × NameKind)) (cs : List (Str × Addr)), (∀ n, (n, NameKind.free) ∈ l → ∃ c, env.cells.lookup n = some c) → (∀ x c, cs.lookup x = some c → env.cells.lookup x = some c) →
  ∀ x c, (Zh env l cs).lookup x = some c → env.cells.lookup x = some c
 | [], cs, _, h => h
 | (n, k) :: r, cs, hl, h => by
  refine Vj r _ (fun m hm => hl m (zW _ hm)) fun x c e => ?_
  by_cases hk : k = .free
  ·rw [if_pos hk] at e
   subst hk
   obtain ⟨c', hc⟩ := hl n zY
   rw [jXc] at e
   cases hx : x == n with
   | true =>
    rw [hx] at e
    have : x = n := by simpa using hx
    subst this
    rw [hc] at e
    simp at e
    rw [hc, e]
   | false => rw [hx] at e; exact h x c e
  ·rw [if_neg hk] at e
   exact h x c e
theorem Vk {env : Env} : ∀ (l : List (Str × NameKind)) (cs : List (Str × Addr)) (x : Str), ((cs.lookup x).isSome = true ∨ (x, NameKind.free) ∈ l) → ((Zh env l cs).lookup x).isSome = true
 | [], cs, x, h => by
  rcases h with h | h
  ·exact h
  ·exact nomatch h
 | (n, k) :: r, cs, x, h => by
  refine Vk r _ x ?_
  rcases h with h | h
  ·left
   split
   ·rw [jXc]
    split
    ·rfl
    ·exact h
   ·exact h
  ·rcases yJ.mp h with e | e
   ·cases e
    left
    rw [if_pos rfl, jXc]
    simp
   ·exact .inr e
theorem Kf {scope : Scope} {env : Env} (h : ∀ n, (n, NameKind.free) ∈ scope.names → ∃ c, env.cells.lookup n = some c) : closureFor scope env = pure (Zh env scope.names []) := by
 unfold closureFor
 suffices ∀ (l : List (Str × NameKind)) (cs : List (Str × Addr)), (∀ n, (n, NameKind.free) ∈ l → ∃ c, env.cells.lookup n = some c) → (forIn l cs fun x r =>
   if (x.2 == NameKind.free) = true then do let a ← cellOf env x.1; pure (ForInStep.yield ((x.1, a) :: r)) else pure (ForInStep.yield r) : Sem _) = pure (Zh env l cs) by
  have := this scope.names [] h
  simp only at this ⊢
  rw [this]
  rfl
 intro l
 induction l with
 | nil => intro cs _; rfl
 | cons p r ih =>
  intro cs hl
  obtain ⟨n, k⟩ := p
  rw [List.forIn_cons]
  by_cases hk : k = .free
  ·subst hk
   obtain ⟨c, hc⟩ := hl n zY
   have e : cellOf env n = pure c := by unfold cellOf; rw [hc]
   have hb : (NameKind.free == NameKind.free) = true := rfl
   simp only [hb, if_true, e, Zh, hc, Option.getD_some]
   exact ih _ fun m hm => hl m (zW _ hm)
  ·have hb : (k == NameKind.free) = false := by simpa using hk
   simp only [hb, Bool.false_eq_true, if_false, Zh, if_neg hk]
   exact ih _ fun m hm => hl m (zW _ hm)
theorem Zu {sc : Scope} : ∀ {l : List (Str × NameKind)}, freeOk sc l = true → ∀ n, (n, NameKind.free) ∈ l → sc.names.lookup n = some .cell ∨ sc.names.lookup n = some .free
 | [], _, n, h => nomatch h
 | (m, k) :: r, h, n, hm => by
  simp only [freeOk, zV] at h
  rcases yJ.mp hm with e | e
  ·cases e
   have h1 := h.1
   have hb : (NameKind.free != NameKind.free) = false := rfl
   rw [hb] at h1
   simp only [Bool.false_or, jYf, beq_iff_eq] at h1
   exact h1
  ·exact Zu h.2 n e
theorem Ys {env : Env} : ∀ {names : List (Str × NameKind)} {x : Str} {k : NameKind}, (names.map fun (n, k) => if (k == NameKind.free && env.scope.kind == .function && env.kindOf n == some .cell) then (n, NameKind.cell) else (n, k)).lookup x = some k →
  ∃ k0, names.lookup x = some k0 ∧ (k = k0 ∨ (k = .cell ∧ k0 = .free))
 | [], _, _, h => by simp at h
 | (n, k0) :: r, x, k, h => by
  rw [xX] at h
  by_cases hc : (k0 == NameKind.free && env.scope.kind == .function && env.kindOf n == some .cell) = true
  ·simp only [hc, if_true, jXc] at h
   rw [jXc]
   cases hx : x == n with
   | true =>
    rw [hx] at h
    refine ⟨k0, rfl, .inr ⟨(Option.some.inj h).symm, ?_⟩⟩
    simp only [zV, beq_iff_eq] at hc
    exact hc.1.1
   | false => rw [hx] at h; exact Ys h
  ·simp only [hc, Bool.false_eq_true, if_false, jXc] at h
   rw [jXc]
   cases hx : x == n with
   | true => rw [hx] at h; exact ⟨k0, rfl, .inl (Option.some.inj h).symm⟩
   | false => rw [hx] at h; exact Ys h
theorem lookup_mem {α : Type} : ∀ {l : List (Str × α)} {x : Str} {k : α}, l.lookup x = some k → (x, k) ∈ l
 | [], _, _, h => by simp at h
 | (n, k0) :: r, x, k, h => by
  rw [jXc] at h
  cases hx : x == n with
  | true =>
   rw [hx] at h
   have e1 : x = n := by simpa using hx
   have e2 : k0 = k := Option.some.inj h
   subst e1 e2
   exact zY
  | false => rw [hx] at h; exact zW _ (lookup_mem h)
def Qbi (cp : List (Option Nat)) (σ : St) : St := cp.map fun (o : Option Nat) => match o with
 | none => none
 | some j => match σ[(j : Nat)]? with
  | some v => v
  | none => none
def Vv (X : Cx) (scope : Scope) : List Str → List (Option Nat) → Bool
 | [], [] => true
 | x :: N, o :: cp => (match o with | none => true | some j => X.N[j]? == some x && scope.names.lookup x == some .free) && Vv X scope N cp
 | _, _ => false
theorem Qev {X : Cx} {scope : Scope} : ∀ {N : List Str} {cp : List (Option Nat)}, Vv X scope N cp = true → cp.length = N.length
 | [], [], _ => rfl
 | _ :: N, _ :: cp, h => by
  simp only [Vv, zV] at h
  simp [Qev h.2]
 | [], _ :: _, h => by simp [Vv] at h
 | _ :: _, [], h => by simp [Vv] at h
theorem Qew {X : Cx} {scope : Scope} : ∀ {N : List Str} {cp : List (Option Nat)} {i : Nat} {x : Str} {v : V} {σ : St}, Vv X scope N cp = true → N[i]? = some x → (Qbi cp σ)[i]? = some (some v) →
  ∃ j : Nat, X.N[j]? = some x ∧ σ[j]? = some (some v) ∧ scope.names.lookup x = some .free
 | [], [], i, x, v, σ, _, h, _ => by simp at h
 | y :: N, o :: cp, 0, x, v, σ, h, e, e2 => by
  simp only [Vv, zV] at h
  have e' : y = x := by simpa using e
  subst e'
  cases o with
  | none => simp [Qbi] at e2
  | some j =>
   have h1 := h.1
   simp only [zV, beq_iff_eq] at h1
   refine ⟨j, h1.1, ?_, h1.2⟩
   simp only [Qbi, xX, List.getElem?_cons_zero, Option.some.injEq] at e2
   cases q : σ[j]? with
   | none => rw [q] at e2; cases e2
   | some z => rw [q] at e2; exact congrArg some e2
 | y :: N, o :: cp, i + 1, x, v, σ, h, e, e2 => by
  simp only [Vv, zV] at h
  exact Qew (i := i) h.2 (by simpa using e) (by simpa [Qbi] using e2)
 | [], _ :: _, _, _, _, _, h, _, _ => by simp [Vv] at h
 | _ :: _, [], _, _, _, _, h, _, _ => by simp [Vv] at h
def Yc (X : Cx) (N : List Str) (scope : Scope) (fp : List Addr) (H : Hp) (s : Shared) : Cx :=
 { X with N := N, s₀ := s, H₀ := H, env := compEnvC scope (Zh X.env scope.names []) s.heap.objs.size X.env, outer := X.stack, stack := X.stack, ex := fp, fn := fun _ => false, pn := [], xe := fun _ _ => False }
section
variable {X : Cx}
theorem Qcq {l : List (Str × NameKind)} (h : (l.all fun p => p.2 != .cell) = true) : ∀ y ∈ l, y.2 ≠ .cell := fun y hy => by
 have := xW.mp h y hy
 simpa using this
theorem Qkb {pins : List (Addr × Obj)} {σ : St} {H : Hp} {s : Shared} {N : List Str} {scope : Scope} {fp : List Addr} (I : Inv X pins σ H s) (hf : ∀ b ∈ fp, FpOk X pins H b) (hlt : ∀ b ∈ fp, b < s.heap.objs.size) (hk : scope.kind = .function)
  (hcell : (scope.names.all fun p => p.2 != .cell) = true) (hfree : freeOk X.env.scope scope.names = true) : (Yc X N scope fp H s).Ok := by
 have has : ∀ n, (n, NameKind.free) ∈ scope.names → ∃ c, X.env.cells.lookup n = some c := fun n hn => I.ok.has n (Zu hfree n hn)
 have sub : ∀ x c, (Zh X.env scope.names []).lookup x = some c → X.env.cells.lookup x = some c := Vj _ _ has fun x c e => by simp at e
 have fs : ∀ b ∈ fp, b ∉ frs X.stack := fun b hb z => by
  obtain ⟨_, f1, f2, _⟩ := hf b hb
  rcases yJ.mp (I.stkSub b z) with e | e
  ·exact f1 e
  ·exact f2 e
 refine ⟨I.ok.mod, hk, I.ok.glob, I.ok.blt, jZ _, fun x y c h1 h2 => I.ok.inj x y c (sub x c h1) (sub y c h2), fun x hx => ?_, (fun x c h => nomatch h), I.ok.hd, I.ok.frames, .inl rfl, fun b hb => ⟨yW (hlt b hb), fun x c e => (hf b hb).2.2.2.2.1 x c (sub x c e)⟩,
  I.bs, jQf I.ok.bsz I.sz, fun b o e hb => ?_, fs, I.stack, I.stkFree⟩
 ·have hx' : (scope.names.map fun (n, k) => if (k == NameKind.free && X.env.scope.kind == .function && X.env.kindOf n == some .cell) then (n, NameKind.cell) else (n, k)).lookup x = some .cell ∨
    (scope.names.map fun (n, k) => if (k == NameKind.free && X.env.scope.kind == .function && X.env.kindOf n == some .cell) then (n, NameKind.cell) else (n, k)).lookup x = some .free := hx
  have fr : (x, NameKind.free) ∈ scope.names := by
   rcases hx' with e | e
   ·obtain ⟨k0, e0, z | z⟩ := Ys e
    ·subst z
     exact absurd rfl (Qcq hcell _ (lookup_mem e0))
    ·obtain ⟨_, z⟩ := z
     subst z
     exact lookup_mem e0
   ·obtain ⟨k0, e0, z | z⟩ := Ys e
    ·subst z
     exact lookup_mem e0
    ·exact nomatch z.1
  exact jYa.mp (Vk _ _ x (.inr fr))
 ·obtain ⟨_, _, _, f3, _⟩ := hf b hb
  rcases f3 with z | z
  ·exact I.ok.noex b o e z
  ·exact absurd (zJ (kJ (I.ok.bs b o e).1) z) (jZb _)
theorem Qmd {pins : List (Addr × Obj)} {σ : St} {H : Hp} {s : Shared} {N : List Str} {scope : Scope} {fp : List Addr} {cp : List (Option Nat)} {h' : Heap} {m : Str → Option Value} {t' : Nat} (I : Inv X pins σ H s) (hf : ∀ b ∈ fp, FpOk X pins H b) (hlt : ∀ b ∈ fp, b < s.heap.objs.size) (hk : scope.kind = .function)
  (hcell : (scope.names.all fun p => p.2 != .cell) = true) (hfree : freeOk X.env.scope scope.names = true) (hcap : Vv X scope N cp = true)
  (hns : h'.Ns s.heap.objs.size m) (hx : ∀ b o, s.heap.get? b = some o → h'.get? b = some o) : Inv (Yc X N scope fp H s) [] (Qbi cp σ) H { s with heap := h', toks := t' } := by
 have has : ∀ n, (n, NameKind.free) ∈ scope.names → ∃ c, X.env.cells.lookup n = some c := fun n hn => I.ok.has n (Zu hfree n hn)
 have sub : ∀ x c, (Zh X.env scope.names []).lookup x = some c → X.env.cells.lookup x = some c := Vj _ _ has fun x c e => by simp at e
 refine ⟨Qkb I hf hlt hk hcell hfree, rfl, I.bare, ⟨fun b o e n _ _ => hx b o e, fun b o e n _ _ => ⟨o.slots, hx b o e⟩, fun b o e n _ => n, fun b o e _ => ⟨o, hx b o e⟩, fun b xs e => e, fun b o xs e => e, fun b ps e => ⟨#[], by rw [Array.append_empty]; exact e⟩⟩, ⟨m, hns, fun i x v e1 e2 e3 => ?_⟩, fun x c e => ?_, I.hok.fresh (jZ _), fun x c e => I.freeC x c (sub x c e), (fun p hp => nomatch hp), I.hok.kept hx, ?_⟩
 ·obtain ⟨j, h1, h2, h3⟩ := Qew hcap e1 e2
  obtain ⟨m', _, hl⟩ := I.loc
  have hkx := Zu hfree x (lookup_mem h3)
  obtain ⟨u, r, l⟩ := hl j x v h1 h2 (.inr hkx)
  rcases l with ⟨l, _⟩ | ⟨_, c, hc, hcell'⟩
  ·rcases hkx with z | z
   ·exact nomatch (Option.some.inj (l.symm.trans z))
   ·exact nomatch (Option.some.inj (l.symm.trans z))
  ·obtain ⟨c', hc'⟩ := jYa.mp (Vk (env := X.env) scope.names [] x (.inr (lookup_mem h3)))
   have ec := sub x c' hc'
   rw [hc] at ec
   cases ec
   refine ⟨u, r, .inr ⟨?_, c, hc', ?_⟩⟩
   ·rcases e3 with z | z | z
    ·obtain ⟨k0, e0, y | y⟩ := Ys (show (scope.names.map fun (n, k) => if (k == NameKind.free && X.env.scope.kind == .function && X.env.kindOf n == some .cell) then (n, NameKind.cell) else (n, k)).lookup x = some .local from z)
     ·rw [h3] at e0; cases e0; cases y
     ·exact nomatch y.1
    ·exact .inl z
    ·exact .inr z
   ·obtain ⟨o, ho, hd⟩ := hcell'
    exact ⟨o, hx c o ho, hd⟩
 ·obtain ⟨v, o, ho, hd⟩ := I.cell x c (sub x c e)
  exact ⟨v, o, hx c o ho, hd⟩
 ·show (Qbi cp σ).length = N.length
  unfold Qbi
  rw [jQ]
  exact Qev hcap
theorem Qgu {pins : List (Addr × Obj)} {σ σ' : St} {H H' : Hp} {s s' : Shared} {N : List Str} {scope : Scope} {fp : List Addr} {pins' : List (Addr × Obj)} (I : Inv X pins σ H s) (hf : ∀ b ∈ fp, FpOk X pins H b)
  (J : Inv (Yc X N scope fp H s) pins' σ' H' s') : Inv X pins σ H' s' :=
 I.call' (ch := fp) J.os J.base J.hok J.bare fun b hb => ⟨(hf b hb).2.2.2.1, (hf b hb).2.1, (hf b hb).2.2.2.2.1, (hf b hb).2.2.2.2.2⟩
def PF (X : Cx) (ifs : List Expr) (t : TT) : Prop :=
 ∀ (pins : List (Addr × Obj)) (s : Shared) (σ : St) (H : Hp) (Q : Bool → Hp → Prop), Inv X pins σ H s → t σ H Q →
  wpAny (model X.prog X.w) X.A (forIn ifs true fun c r => if r = true then do let ok ← isTrue c X.env (eval c X.env); pure (ForInStep.yield ok) else pure (ForInStep.yield r)) (TP X pins σ Q) X.xe s
def tYes : TT := fun _ H Q => Q true H
theorem Yt : PF X [] tYes := fun _ _ _ H _ I h => wpAny_tests_nil ⟨H, I, h⟩
theorem Qrq {c : Expr} {t : TT} (hc : PT X c t) : PF X [c] t := fun pins s σ H Q I h => wpAny_tests_one (hc pins s σ H Q I h)
def LcW (J : It) (D : Addr) (τ0 : St) (H : Hp) (g : TG) (tt : TT) (te : TE) (Q : Addr → Hp → Prop) : Prop := ∃ W : Nat → Nat → St → List V → Hp → Prop, (∃ m, W 0 m τ0 [] (upd H D (.lst []))) ∧ ∀ i m τ ys H, W i m τ ys H →
 H D = some (.lst ys) ∧ ((J.stop i H ∧ Q D H) ∨ (J.go i H ∧ ys.length < sizeLine ∧ ∃ (N1 : St → V → Hp → Prop) (N2 : St → Hp → Prop), (∀ τ v H, N1 τ v H → ∃ m', m' < m ∧ W (i + 1) m' τ (ys ++ [v]) (upd H D (.lst (ys ++ [v])))) ∧ (∀ τ H, N2 τ H → ∃ m', m' < m ∧ W (i + 1) m' τ ys H) ∧
  ∀ x H', J.yld i H x H' → g x τ H' fun σ2 H2 => tt σ2 H2 fun ok H3 => if ok = true then te σ2 H3 fun v H4 => H4 D = some (.lst ys) ∧ N1 σ2 v H4 else N2 σ2 H3))
def tLC (cp : List (Option Nat)) (wi : TI) (g : TG) (tt : TT) (te : TE) (σ : St) (H : Hp) (Q : Addr → Hp → Prop) : Prop := wi σ H fun J H1 => ∀ D, H1 D = none → LcW J D (Qbi cp σ) H1 g tt te Q
theorem Qia {elt iter target : Expr} {ifs : List Expr} {scope : Scope} {pos : Pos} {N : List Str} {cp : List (Option Nat)} {g : TG} {tt : TT} {te : TE} {pins : List (Addr × Obj)} {σ : St} {H : Hp} {s : Shared} {E : Value → Shared → Prop} {Q : Addr → Hp → Prop}
  {it : Addr} {fp : List Addr} {tn : Nat → Heap → Prop} {J : It} {RR : Value → Addr → Result → Shared → Prop} (hc : X.calm = true) (hk : scope.kind = .function) (hcell : (scope.names.all fun p => p.2 != .cell) = true) (hfree : freeOk X.env.scope scope.names = true) (hcap : Vv X scope N cp = true)
  (hg : ∀ fp H s, PG (Yc X N scope fp H s) target g) (ht : ∀ fp H s, PF (Yc X N scope fp H s) ifs tt) (he : ∀ fp H s, PE (Yc X N scope fp H s) elt te)
  (I : Inv X pins σ H s) (T : Turn X.prog X.w X.K target J fp it tn) (st : tn 0 s.heap) (hf : ∀ b ∈ fp, FpOk X pins H b)
  (h : ∀ D, H D = none → LcW J D (Qbi cp σ) H g tt te Q)
  (hRR : ∀ D C s' H' m, Inv X pins σ H' s' → FpOk X pins H' C → s'.heap.Ns C m → Q D H' → RR (.ref D) C (.ok .next) s') :
  wpAny (model X.prog X.w) X.A (newList []) (fun acc s3 => wpAny (model X.prog X.w) X.A (newFunctionEnv scope X.env.globals (Zh X.env scope.names []) [] X.env.qual none .none (some X.env)) (fun cenv s4 =>
   codeAny (model X.prog X.w) X.A (.compStart (.ListComp elt [⟨target, iter, ifs, 0⟩] scope pos) 0 (.ref it) acc { cenv with scope := relabel scope X.env }) (RR acc cenv.locals) s4) E s3) E s := by
 have hlt : ∀ b ∈ fp, b < s.heap.objs.size := fun b hb => by
  obtain ⟨o, e, _⟩ := T.obj _ _ st b hb
  exact kJ e
 refine wpAny_newObj_type (wpAny_newFunctionEnv (Qcq hcell) (by intro y hy; simp at hy) (fun h1 hns1 hsb1 => ?_) hk)
 dsimp only at hns1 hsb1 ⊢
 have hD : H s.heap.objs.size = none := I.hok.fresh (jZ _)
 have I3 : Inv X pins σ (upd H s.heap.objs.size (.lst [])) { s with heap := s.heap.push { cls := .type "list", dict := none, data := .seq ([] : List Value).toArray } } :=
  I.laid (t' := s.toks) (fun b u e => jJ _ e) (jZ _) ⟨jXb _, [], 0, .nil, yZ _ rfl⟩
 have hf3 : ∀ b ∈ fp, FpOk X pins (upd H s.heap.objs.size (.lst [])) b := fun b hb => ⟨by rw [Qo (yW (hlt b hb))]; exact (hf b hb).1, (hf b hb).2⟩
 have hlt3 : ∀ b ∈ fp, b < (s.heap.push { cls := .type "list", dict := none, data := .seq ([] : List Value).toArray }).objs.size := fun b hb => by rw [jJa]; exact Nat.lt_succ_of_lt (hlt b hb)
 generalize hH2 : s.heap.push { cls := .type "list", dict := none, data := .seq ([] : List Value).toArray } = H2 at hns1 hsb1 I3 hlt3 ⊢
 generalize hs3 : ({ s with heap := H2 } : Shared) = s3 at I3
 have hs3h : s3.heap = H2 := by rw [← hs3]
 have ext1 : ∀ b o, s3.heap.get? b = some o → h1.get? b = some o := fun b o e => by
  rw [hs3h] at e
  exact hsb1.extBut b o (yW (kJ e)) (jJ _ e)
 have J0 : Inv (Yc X N scope fp (upd H s.heap.objs.size (.lst [])) s3) [] (Qbi cp σ) (upd H s.heap.objs.size (.lst [])) { s3 with heap := h1, toks := s.toks + ([] : List (Str × Value)).length } :=
  Qmd I3 hf3 (by rw [hs3h]; exact hlt3) hk hcell hfree hcap (by rw [hs3h]; exact hns1) ext1
 have st1 : tn 0 h1 := T.keep _ _ _ st fun b hb o e => ext1 b o (by rw [hs3h, ← hH2]; exact jJ _ e)
 obtain ⟨W, ⟨m0, w0⟩, turn⟩ := h s.heap.objs.size hD
 have stat : ∀ {H' : Hp}, (∀ b ∈ fp, H' b = none) → ∀ b ∈ fp, FpOk (Yc X N scope fp (upd H s.heap.objs.size (.lst [])) s3) [] H' b := fun {H'} hn b hb =>
  ⟨hn b hb, (J0.ok.exf b hb).1, J0.ok.exfs b hb, .inl hb, (J0.ok.exf b hb).2, fun p hp => nomatch hp⟩
 have loop : codeAny (model X.prog X.w) X.A (.compLoop (.ListComp elt [⟨target, iter, ifs, 0⟩] scope pos) 0 (.ref it) (.ref s.heap.objs.size) (compEnvC scope (Zh X.env scope.names []) H2.objs.size X.env))
   (RR (.ref s.heap.objs.size) H2.objs.size) { s3 with heap := h1, toks := s.toks + ([] : List (Str × Value)).length } := by
  have eEnv : compEnvC scope (Zh X.env scope.names []) H2.objs.size X.env = (Yc X N scope fp (upd H s.heap.objs.size (.lst [])) s3).env := by
   rw [← hs3h]; rfl
  rw [eEnv]
  refine Qeu (fun n s' => ∃ i τ ys H', Inv (Yc X N scope fp (upd H s.heap.objs.size (.lst [])) s3) [] τ H' s' ∧ tn i s'.heap ∧ (∀ b ∈ fp, H' b = none) ∧ W i n τ ys H') ?_ m0 ⟨0, Qbi cp σ, [], _, J0, st1, fun b hb => (hf3 b hb).1, w0⟩
  rintro n s4 ⟨i, τ, ys, H4, I4, st4, fr4, w4⟩
  obtain ⟨hD4, hh⟩ := turn i n τ ys H4 w4
  rcases hh with ⟨stop, qn⟩ | ⟨go, hlen, N1, N2, hN1, hN2, step⟩
  ·refine thn (T.done (Yc X N scope fp (upd H s.heap.objs.size (.lst [])) s3) rfl rfl rfl hc i [] s4 τ H4 _ I4 (stat fr4) st4 stop) fun r s5 hqP => ?_
   obtain ⟨hr, I5⟩ := hqP
   subst hr
   obtain ⟨m, hm, _⟩ := I5.loc
   have e5 : H2.objs.size = (Yc X N scope fp (upd H s.heap.objs.size (.lst [])) s3).env.locals := by rw [← eEnv]; rfl
   refine hRR _ _ s5 H4 m (Qgu I3 hf3 I5) ?_ (by rw [e5]; exact hm) qn
   exact I3.fpOk (by rw [hs3h]; exact jZ _) (by rw [e5]; exact I5.free)
  ·refine thn (T.item (Yc X N scope fp (upd H s.heap.objs.size (.lst [])) s3) rfl rfl rfl hc i [] s4 τ H4 _ I4 (stat fr4) st4 go) fun r s5 hqP => ?_
   obtain ⟨u, hr, h5⟩ := hqP
   subst hr
   refine thn h5 fun _ s6 hqP => ?_
   obtain ⟨x, H6, I6, r6, y6, st6, fr6⟩ := hqP
   have I6' := I6.pinned (stat fr6) (T.obj _ _ st6)
   refine thn (hg fp _ _ _ s6 τ H6 x u _ I6' r6 (step x H6 y6)) fun _ s7 hqP => ?_
   obtain ⟨σ7, H7, I7, q7⟩ := hqP
   refine thn (ht fp _ _ _ s7 σ7 H7 _ I7 q7) fun ok s8 hqP => ?_
   obtain ⟨H8, I8, q8⟩ := hqP
   have back : ∀ {σ' : St} {H' : Hp} {s' : Shared}, Inv (Yc X N scope fp (upd H s.heap.objs.size (.lst [])) s3) ([] ++ Qej fp s6.heap) σ' H' s' → Inv (Yc X N scope fp (upd H s.heap.objs.size (.lst [])) s3) [] σ' H' s' ∧ tn (i + 1) s'.heap ∧ ∀ b ∈ fp, H' b = none := fun {σ' H' s'} I' => by
    refine ⟨I'.unpinned, T.keep _ _ _ st6 fun b hb o e => (I'.pin (b, o) (xJ _ (xJ _ (Ku hb e)))).1, fun b hb => ?_⟩
    obtain ⟨o, e, d⟩ := T.obj _ _ st6 b hb
    exact (I'.pin (b, o) (xJ _ (xJ _ (Ku hb e)))).2.1
   cases ok with
   | false =>
    rw [if_neg kY] at q8 ⊢
    obtain ⟨m', hm, w8⟩ := hN2 _ _ q8
    obtain ⟨b1, b2, b3⟩ := back I8
    exact ⟨m', hm, i + 1, σ7, ys, H8, b1, b2, b3, w8⟩
   | true =>
    rw [if_pos rfl] at q8 ⊢
    refine thn (he fp _ _ _ s8 σ7 H8 _ I8 q8) fun y s9 hqP => ?_
    obtain ⟨v, H9, I9, r9, hD9, n9⟩ := hqP
    obtain ⟨m', hm, w9⟩ := hN1 _ _ _ n9
    refine thn (Zm _ s9 σ7 H9 (.ref s.heap.objs.size) [v] (.ref s.heap.objs.size) [y] (fun _ H' => H' = upd H9 s.heap.objs.size (.lst (ys ++ [v]))) I9 rfl (.cons r9 .nil) ⟨_, ys, v, rfl, rfl, hD9, hlen, rfl⟩) fun _ s10 hqP => ?_
    obtain ⟨_, H10, I10, _, e10⟩ := hqP
    subst e10
    obtain ⟨b1, b2, b3⟩ := back I10
    exact ⟨m', hm, i + 1, σ7, _, _, b1, b2, b3, w9⟩
 have e3 : ({ s with heap := h1, toks := s.toks + ([] : List (Str × Value)).length } : Shared) = { s3 with heap := h1, toks := s.toks + ([] : List (Str × Value)).length } := by rw [← hs3]
 rw [e3]
 exact codeAny_compStart_list loop (T.self _ 0 _ _ _ st1 loop)
theorem Jr {elt iter target : Expr} {ifs : List Expr} {scope : Scope} {pos : Pos} (N : List Str) (cp : List (Option Nat)) {wi : TI} {g : TG} {tt : TT} {te : TE} (hc : X.calm = true) (hi : PI X target iter wi)
  (hg : ∀ fp H s, PG (Yc X N scope fp H s) target g) (ht : ∀ fp H s, PF (Yc X N scope fp H s) ifs tt) (he : ∀ fp H s, PE (Yc X N scope fp H s) elt te)
  (hk : autoParam (scope.kind = .function) L2.aRfl._auto_1) (hcell : autoParam ((scope.names.all fun p => p.2 != .cell) = true) L2.aRfl._auto_1) (hfree : autoParam (freeOk X.env.scope scope.names = true) L2.aRfl._auto_1) (hcap : autoParam (Vv X scope N cp = true) L2.aRfl._auto_1)
  (hnames : autoParam ((scope.names.all fun p => p.2 != .local || scope.names.lookup p.1 == some .local) = true) L2.aRfl._auto_1) (hs : autoParam (∀ x, foldedSetIterable iter X.env x = pure x) L2.aIrf._auto_1) :
  PE X (.ListComp elt [⟨target, iter, ifs, 0⟩] scope pos) (fun σ H Q => tLC cp wi g tt te σ H fun D H' => Q (.ref D) H') := by
 intro pins s σ H Q I h
 rw [eval_ListComp]
 have has : ∀ n, (n, NameKind.free) ∈ scope.names → ∃ c, X.env.cells.lookup n = some c := fun n hn => I.ok.has n (Zu hfree n hn)
 refine wpAny_comprehension_free (use := none) rfl hs (Kf has) hk (fun x hx hl => ?_) (thn (hi pins s σ H _ I h) fun xv s1 h1 => thn h1 fun itv s2 h2 => ?_)
 ·have := xW.mp hnames x hx
  simp only [jYf, bne_iff_ne, beq_iff_eq] at this
  exact this.resolve_left fun z => z hl
 ·obtain ⟨it, fp, tn, J, H2, e, I2, T, st2, f2, hW⟩ := h2
  subst e
  refine Qia (N := N) (cp := cp) hc hk hcell hfree hcap hg ht he I2 T st2 f2 hW fun D C s' H' m I' fC hm q => ⟨m, hm, fun h' hsb => ?_⟩
  exact ⟨.ref D, H', I'.turned (t' := s'.toks) (fun b o hb e => hsb.extBut b o hb e) fC.1 fC.2.1 fC.2.2.2.1 fC.2.2.2.2.1 fC.2.2.2.2.2, rfl, q⟩
theorem Qgv {i : Nat} {x : Str} {px : Pos} {elt iter target : Expr} {ifs : List Expr} {scope : Scope} {pos spos : Pos} (N : List Str) (cp : List (Option Nat)) {wi : TI} {g : TG} {tt : TT} {te : TE} (hc : X.calm = true) (hN : X.N.Nodup) (hi' : X.N[i]? = some x) (hx : Loc X.env.scope x) (hi : PI X target iter wi)
  (hg : ∀ fp H s, PG (Yc X N scope fp H s) target g) (ht : ∀ fp H s, PF (Yc X N scope fp H s) ifs tt) (he : ∀ fp H s, PE (Yc X N scope fp H s) elt te)
  (hsw : autoParam (swapsWith (.ListComp elt [⟨target, iter, ifs, 0⟩] scope pos) (some (.Name x px)) spos.line X.env = pure true) L2.aRfl._auto_1)
  (hk : autoParam (scope.kind = .function) L2.aRfl._auto_1) (hcell : autoParam ((scope.names.all fun p => p.2 != .cell) = true) L2.aRfl._auto_1) (hfree : autoParam (freeOk X.env.scope scope.names = true) L2.aRfl._auto_1) (hcap : autoParam (Vv X scope N cp = true) L2.aRfl._auto_1)
  (hnames : autoParam ((scope.names.all fun p => p.2 != .local || scope.names.lookup p.1 == some .local) = true) L2.aRfl._auto_1) (hs : autoParam (∀ x, foldedSetIterable iter X.env x = pure x) L2.aIrf._auto_1)
  (hf : autoParam (X.fn x = true ∨ X.env.scope.names.lookup x = some .local) L2.aFst._auto_1) :
  PS X (.Assign [.Name x px] (.ListComp elt [⟨target, iter, ifs, 0⟩] scope pos) spos) (fun D σ H => tLC cp wi g tt te σ H fun a H' => D.nx (σ.set i (some (.ref a))) H') := by
 intro pins s σ H D I h
 have has : ∀ n, (n, NameKind.free) ∈ scope.names → ∃ c, X.env.cells.lookup n = some c := fun n hn => I.ok.has n (Zu hfree n hn)
 rw [exec_Assign_Name_used _ _ _ _ hsw]
 refine jX (wpAny_standAt (jX ?_))
 show wpAny _ _ (do let _ ← comprehension (.ListComp elt [⟨target, iter, ifs, 0⟩] scope pos) scope X.env _ (newList []) false (eval iter X.env) (some (assign (.Name x px) X.env))) _ _ s
 refine jX (wpAny_mono (wpAny_comprehension_free (use := some (assign (.Name x px) X.env)) (Q := fun _ s' => SP X pins D .next s') rfl hs (Kf has) hk (fun x hx hl => ?_)
  (thn (hi pins s σ H _ I h) fun xv s1 h1 => thn h1 fun itv s2 h2 => ?_)) (fun _ s' hq => kQ (kQ hq)) fun _ _ e => e)
 ·have := xW.mp hnames x hx
  simp only [jYf, bne_iff_ne, beq_iff_eq] at this
  exact this.resolve_left fun z => z hl
 ·obtain ⟨it, fp, tn, J, H2, e, I2, T, st2, f2, hW⟩ := h2
  subst e
  refine Qia (N := N) (cp := cp) hc hk hcell hfree hcap hg ht he I2 T st2 f2 hW fun D' C s' H' m I' fC hm q => ?_
  show wpAny _ _ (assign (.Name x px) X.env (.ref D')) _ _ _
  refine wpAny_assign_Name (Qei I' hN hi' hx (v := .ref D') rfl (fun s'' I'' hsb => ?_) hf)
  obtain ⟨a, hsb, ha⟩ := hsb
  have hCa : C ≠ a := by
   rcases ha with e | e
   ·rw [e]; exact fC.2.1
   ·exact fun z => fC.2.2.2.2.1 x a e z.symm
  refine ⟨m, hm.sameBut hsb hCa, fun h' hsb' => ?_⟩
  exact ⟨_, H', I''.turned (t' := s''.toks) (fun b o hb e => hsb'.extBut b o hb e) fC.1 fC.2.1 fC.2.2.2.1 fC.2.2.2.2.1 fC.2.2.2.2.2, q⟩
end
structure Drw (P : Program) (w : World) (it l : Addr) (st : Nat → Heap → Prop) (src : List Value → Heap → Prop) : Prop where
 obj : ∀ i h, st i h → ∃ o, h.get? it = some o ∧ ∀ v, o.data ≠ .cell v
 keep : ∀ i h h', st i h → (∀ o, h.get? it = some o → h'.get? it = some o) → st i h'
 srck : ∀ xs h h', src xs h → (∀ o, h.get? l = some o → h'.get? l = some o) → src xs h'
 item : ∀ (A : Around) (E : Value → Shared → Prop) (s : Shared) (i : Nat) (xs : List Value) (x : Value) (Q : Value → Shared → Prop), st i s.heap → src xs s.heap → xs[i]? = some x →
  (∀ h', st (i + 1) h' → Heap.SameBut it s.heap h' → Q x { s with heap := h' }) → wpAny (model P w) A (Builtin.SmallTypes.nextOf (.ref it)) Q E s
 done : ∀ (A : Around) (E : Value → Shared → Prop) (s : Shared) (i : Nat) (xs : List Value) (Q : Value → Shared → Prop), A.handled = none → st i s.heap → src xs s.heap → xs[i]? = none →
  (∀ h' e, Heap.ExtBut it s.heap h' → (∃ o, h'.get? e = some o ∧ o.cls = .type "StopIteration") → E (.ref e) { s with heap := h' }) → wpAny (model P w) A (Builtin.SmallTypes.nextOf (.ref it)) Q E s
theorem Qpf {P : Program} {w : World} (it l : Addr) : Drw P w it l (fun i h => h.IsListIter it l i) (fun xs h => h.IsList l xs.toArray) where
 obj := fun i h st => by
  obtain ⟨o, e, c, d⟩ := st
  exact ⟨o, e, fun v z => by rw [d] at z; cases z⟩
 keep := fun i h h' st k => st.at k
 srck := fun xs h h' sr k => sr.at k
 item := fun A E s i xs x Q st sr hx hQ => wpAny_nextOf_list_item st sr (by simpa using hx) hQ
 done := fun A E s i xs Q hh st sr hx hE => wpAny_nextOf_list_end hh st sr (by simpa using hx) hE
section
variable {P : Program} {w : World} {A : Around} {E : Value → Shared → Prop} {s : Shared}
theorem Qbj {it t : Addr} {i : Nat} {xs : Array Value} {x : Value} {Q : Value → Shared → Prop} (hI : s.heap.IsTupleIter it t i) (hT : s.heap.IsTuple t xs) (hx : xs[i]? = some x)
  (hQ : ∀ h', h'.IsTupleIter it t (i + 1) → Heap.SameBut it s.heap h' → Q x { s with heap := h' }) : wpAny (model P w) A (Builtin.SmallTypes.nextOf (.ref it)) Q E s := by
 obtain ⟨oI, gI, cI, dI⟩ := id hI
 obtain ⟨oT, gT, _, nT, dT⟩ := hT
 unfold Builtin.SmallTypes.nextOf
 refine jX (wpAny_callSpecial?_slot (name := Str.ofString "__next__") hI.typeIs F.slot_tuple_iterator_next (wpAny_call_entry F.slot_tuple_iterator_next hI.typeIs F.entry_tuple_iterator_next ?_ (F.args_tuple_iterator_next_1 _)))
 show wpAny _ _ (field (.ref it) 0 >>= _) _ _ s
 refine jX (wpAny_field gI dI (x := .ref t) rfl ?_)
 show wpAny _ _ (if (Value.ref t == Value.none) = true then _ else _) _ _ s
 rw [if_neg (show ¬ ((Value.ref t == Value.none) = true) from kY)]
 show wpAny _ _ (field (.ref it) 1 >>= _) _ _ s
 refine jX (wpAny_field gI dI (x := .int i 0) rfl ?_)
 show wpAny _ _ (seqItems? (.ref t) >>= _) _ _ s
 refine jX (wpAny_seqItems gT dT ?_)
 simp only [jZc, hx]
 refine jX (wpAny_setField gI dI (by simp) (kQ ⟨x, rfl, kQ (hQ _ ?_ (Heap.SameBut.update ..))⟩))
 refine ⟨_, Heap.get?_update_self _ gI (Obj.isFreed_of_fields (Obj.data_mapFields dI _)), (Obj.cls_mapFields ..).trans cI, ?_⟩
 rw [Obj.data_mapFields dI]; simp [rawInt]
theorem Qcl {it t : Addr} {i : Nat} {xs : Array Value} {Q : Value → Shared → Prop} (hh : A.handled = none) (hI : s.heap.IsTupleIter it t i) (hT : s.heap.IsTuple t xs) (hx : xs[i]? = none)
  (hE : ∀ h' e, Heap.ExtBut it s.heap h' → (∃ o, h'.get? e = some o ∧ o.cls = .type "StopIteration") → E (.ref e) { s with heap := h' }) : wpAny (model P w) A (Builtin.SmallTypes.nextOf (.ref it)) Q E s := by
 obtain ⟨oI, gI, cI, dI⟩ := id hI
 obtain ⟨oT, gT, _, nT, dT⟩ := hT
 unfold Builtin.SmallTypes.nextOf
 refine jX (wpAny_callSpecial?_slot (name := Str.ofString "__next__") hI.typeIs F.slot_tuple_iterator_next (wpAny_call_entry F.slot_tuple_iterator_next hI.typeIs F.entry_tuple_iterator_next ?_ (F.args_tuple_iterator_next_1 _)))
 show wpAny _ _ (field (.ref it) 0 >>= _) _ _ s
 refine jX (wpAny_field gI dI (x := .ref t) rfl ?_)
 show wpAny _ _ (if (Value.ref t == Value.none) = true then _ else _) _ _ s
 rw [if_neg (show ¬ ((Value.ref t == Value.none) = true) from kY)]
 show wpAny _ _ (field (.ref it) 1 >>= _) _ _ s
 refine jX (wpAny_field gI dI (x := .int i 0) rfl ?_)
 show wpAny _ _ (seqItems? (.ref t) >>= _) _ _ s
 refine jX (wpAny_seqItems gT dT ?_)
 simp only [jZc, hx]
 refine jX (wpAny_rule (jX (wpAny_setField gI dI (by simp) ?_)))
 show wpAny _ _ (newExc (.type "StopIteration") [] >>= _) _ _ _
 refine jX ?_
 simp only [newExc, newTuple]
 refine jX (wpAny_newObj_type ?_ (by size_fits))
 refine jX (m := firstArgMember _ _) (wpAny_of_eq (a := Value.none) (by first | rfl | (simp only [firstArgMember]; rfl)) ?_)
 refine wpAny_newObj_type ?_ (by size_fits)
 simp only [raiseNew]
 refine jX (wpAny_handled ?_)
 first | rw [show A.in1.handled = none from hh] | rw [hh]
 exact jX (kQ (wpAny_throw (hE _ _ (((Heap.SameBut.update ..).extBut.push _).push _) ⟨_, yZ _ rfl, rfl⟩)))
end
theorem Qso {P : Program} {w : World} (it l : Addr) : Drw P w it l (fun i h => h.IsTupleIter it l i) (fun xs h => h.IsTuple l xs.toArray) where
 obj := fun i h st => by
  obtain ⟨o, e, c, d⟩ := st
  exact ⟨o, e, fun v z => by rw [d] at z; cases z⟩
 keep := fun i h h' st k => st.at k
 srck := fun xs h h' sr k => sr.at k
 item := fun A E s i xs x Q st sr hx hQ => Qbj st sr (by simpa using hx) hQ
 done := fun A E s i xs Q hh st sr hx hE => Qcl hh st sr (by simpa using hx) hE
section
variable {P : Program} {w : World} {A : Around} {E : Value → Shared → Prop} {s : Shared} {z u o i1 i2 l1 l2 : Addr} {st1 st2 : Nat → Heap → Prop} {src1 src2 : List Value → Heap → Prop} {k1 k2 : Nat} {xs ys : List Value} {a b : Value}
theorem Qex {x y : Value} {Q : Option Value → Shared → Prop} (d1 : Drw P w i1 l1 st1 src1) (d2 : Drw P w i2 l2 st2 src2) (D : ZipApart z u o i1 i2 l1 l2) (hZ : IsZip s.heap z u o .none) (hU : IsPair s.heap u (.ref i1) (.ref i2)) (hO : IsPair s.heap o a b)
  (h1 : st1 k1 s.heap) (h2 : st2 k2 s.heap) (hl1 : src1 xs s.heap) (hl2 : src2 ys s.heap) (hx : xs[k1]? = some x) (hy : ys[k2]? = some y)
  (hQ : ∀ h', IsZip h' z u o (rawInt s.heap.objs.size) → IsPair h' o x y → st1 (k1 + 1) h' → st2 (k2 + 1) h' → IsPair h' s.heap.objs.size x y → h'.objs.size = s.heap.objs.size + 1 →
   (∀ c q, c ≠ z → c ≠ o → c ≠ i1 → c ≠ i2 → s.heap.get? c = some q → h'.get? c = some q) → Q (some (.ref s.heap.objs.size)) { s with heap := h' }) : wpAny (model P w) A (pyNext (.ref z)) Q E s := by
 have hTy : s.TypeIs (.ref z) "zip" := ⟨_, hZ, rfl⟩
 unfold pyNext
 refine jX (wpAny_attempt (wpAny_callSpecial?_slot (name := Str.ofString "__next__") hTy F.slot_zip_next (wpAny_call_entry F.slot_zip_next hTy F.entry_zip_next ?_ (F.args_zip_next_1 _))))
 show wpAny _ _ (field (.ref z) 2 >>= _) _ _ _
 refine jX (wpAny_field hZ rfl (x := .bool false) rfl ?_)
 show wpAny _ _ (field (.ref z) 3 >>= _) _ _ _
 refine jX (wpAny_field hZ rfl (x := .ref u) rfl (jX (wpAny_seqItems hU rfl ?_)))
 show wpAny _ _ (Builtin.SmallTypes.ownedTupleIsFree (.ref z) >>= _) _ _ _
 refine jX ?_
 unfold Builtin.SmallTypes.ownedTupleIsFree
 refine jX (wpAny_field hZ rfl (x := .none) rfl (kQ ?_))
 simp only [if_true]
 refine jX (wpAny_rule (jX (wpAny_field hZ rfl (x := .ref o) rfl (jX (wpAny_setField_rec hZ (by simp) fun g1 hZ1 e1 => ?_)))))
 replace hZ1 : IsZip g1 z u o .ellipsis := hZ1
 refine jX ?_
 simp only [List.zipIdx_cons, List.zipIdx_nil, List.forIn_cons, List.forIn_nil]
 refine jX (jX (wpAny_onRaise ?_))
 show wpAny _ _ (Builtin.SmallTypes.nextOf (.ref i1) >>= _) _ _ _
 refine jX (d1.item _ _ { s with heap := g1 } k1 xs x _ (d1.keep _ _ _ h1 fun q e => e1.extBut _ _ D.i1z e) (d1.srck _ _ _ hl1 fun q e => e1.extBut _ _ D.l1z e) hx fun g2 h1' e2 => kQ ?_)
 have hO2 : IsPair g2 o a b := e2.extBut _ _ D.TOi1 (e1.extBut _ _ D.TOz hO)
 refine jX (wpAny_seqItems hO2 rfl (jX (wpAny_updateSeq_pair hO2 fun g3 hO3 e3 => ?_)))
 replace hO3 : IsPair g3 o x b := hO3
 refine jX (wpAny_letGo (kQ ?_))
 refine jX (jX (wpAny_onRaise ?_))
 show wpAny _ _ (Builtin.SmallTypes.nextOf (.ref i2) >>= _) _ _ _
 refine jX (d2.item _ _ { s with heap := g3 } k2 ys y _ (d2.keep _ _ _ h2 fun q e => e3.extBut _ _ D.TOi2.symm (e2.extBut _ _ D.i12.symm (e1.extBut _ _ D.i2z e)))
  (d2.srck _ _ _ hl2 fun q e => e3.extBut _ _ D.l2TO (e2.extBut _ _ D.l2i1 (e1.extBut _ _ D.l2z e))) hy fun g4 h2' e4 => kQ ?_)
 have hO4 : IsPair g4 o x b := e4.extBut _ _ D.TOi2 hO3
 refine jX (wpAny_seqItems hO4 rfl (jX (wpAny_updateSeq_pair hO4 fun g5 hO5 e5 => ?_)))
 replace hO5 : IsPair g5 o x y := hO5
 refine jX (wpAny_letGo (kQ (kQ ?_)))
 refine jX (wpAny_seqItems hO5 rfl (jX (wpAny_newTuple ?_)))
 have hsz : g5.objs.size = s.heap.objs.size := by rw [e5.1, e4.1, e3.1, e2.1, e1.1]
 have hZ5 : IsZip g5 z u o .ellipsis := e5.extBut _ _ D.TOz.symm (e4.extBut _ _ D.i2z.symm (e3.extBut _ _ D.TOz.symm (e2.extBut _ _ D.i1z.symm hZ1)))
 have hk5 : ∀ c q, c ≠ z → c ≠ o → c ≠ i1 → c ≠ i2 → s.heap.get? c = some q → g5.get? c = some q := fun c q c1 c2 c3 c4 e =>
  e5.extBut _ _ c2 (e4.extBut _ _ c4 (e3.extBut _ _ c2 (e2.extBut _ _ c3 (e1.extBut _ _ c1 e))))
 have s15 : st1 (k1 + 1) g5 := d1.keep _ _ _ h1' fun q e => e5.extBut _ _ D.TOi1.symm (e4.extBut _ _ D.i12 (e3.extBut _ _ D.TOi1.symm e))
 have s25 : st2 (k2 + 1) g5 := d2.keep _ _ _ h2' fun q e => e5.extBut _ _ D.TOi2.symm e
 have zlt : z < g5.objs.size := kJ hZ5
 show wpAny _ _ (Builtin.SmallTypes.ownedTupleHandOut (.ref z) (.ref g5.objs.size) >>= _) _ _ _
 refine jX ?_
 unfold Builtin.SmallTypes.ownedTupleHandOut
 have hZ6 : IsZip (g5.push { cls := .type "tuple", data := .seq #[x, y] }) z u o .ellipsis := jJ _ hZ5
 refine jX (wpAny_setField_rec hZ6 (by simp) fun g7 hZ7 e7 => ?_)
 replace hZ7 : IsZip g7 z u o (rawInt g5.objs.size) := hZ7
 refine wpAny_setField_rec hZ7 (by simp) fun g8 hZ8 e8 => ?_
 replace hZ8 : IsZip g8 z u o (rawInt g5.objs.size) := hZ8
 have up : ∀ c q, c ≠ z → g5.get? c = some q → g8.get? c = some q := fun c q c1 e => e8.extBut _ _ c1 (e7.extBut _ _ c1 (jJ _ e))
 have hT8 : IsPair g8 g5.objs.size x y := e8.extBut _ _ (Nat.ne_of_gt zlt) (e7.extBut _ _ (Nat.ne_of_gt zlt) (yZ _ rfl))
 have hs8 : g8.objs.size = g5.objs.size + 1 := by rw [e8.1, e7.1, jJa]
 rw [hsz] at hZ8 hT8 hs8
 refine kQ ⟨_, rfl, kQ ?_⟩
 show Q (some (.ref g5.objs.size)) _
 rw [hsz]
 exact hQ g8 hZ8 (up _ _ D.TOz hO5) (d1.keep _ _ _ s15 fun q e => up _ q D.i1z e) (d2.keep _ _ _ s25 fun q e => up _ q D.i2z e) hT8 hs8 fun c q c1 c2 c3 c4 e => up c q c1 (hk5 c q c1 c2 c3 c4 e)
theorem Qgw {Q : Option Value → Shared → Prop} (hh : A.handled = none) (d1 : Drw P w i1 l1 st1 src1) (d2 : Drw P w i2 l2 st2 src2) (D : ZipApart z u o i1 i2 l1 l2) (hZ : IsZip s.heap z u o .none) (hU : IsPair s.heap u (.ref i1) (.ref i2)) (hO : IsPair s.heap o a b)
  (h1 : st1 k1 s.heap) (h2 : st2 k2 s.heap) (hl1 : src1 xs s.heap) (hl2 : src2 ys s.heap) (hend : xs[k1]? = none ∨ ys[k2]? = none)
  (hQ : ∀ h', (∀ c q, c ≠ z → c ≠ o → c ≠ i1 → c ≠ i2 → s.heap.get? c = some q → h'.get? c = some q) → Q none { s with heap := h' }) : wpAny (model P w) A (pyNext (.ref z)) Q E s := by
 have hTy : s.TypeIs (.ref z) "zip" := ⟨_, hZ, rfl⟩
 unfold pyNext
 have fin : ∀ (h' : Heap) (e : Addr), (∀ c q, c ≠ z → c ≠ o → c ≠ i1 → c ≠ i2 → s.heap.get? c = some q → h'.get? c = some q) → (∃ o, h'.get? e = some o ∧ o.cls = .type "StopIteration") →
   wpAny (model P w) A (isInstance (.ref e) (.type "StopIteration") >>= fun b => if b = true then pure none else throw (Value.ref e)) Q E { s with heap := h' } := fun h' e hk he => by
  obtain ⟨q, hq, hc⟩ := he
  exact jX (wpAny_isInstance (T := "StopIteration") (b := true) ⟨q, hq, hc⟩ isSubtype_stop (kQ (hQ _ hk)))
 refine jX (wpAny_attempt (wpAny_callSpecial?_slot (name := Str.ofString "__next__") hTy F.slot_zip_next (wpAny_call_entry F.slot_zip_next hTy F.entry_zip_next ?_ (F.args_zip_next_1 _))))
 show wpAny _ _ (field (.ref z) 2 >>= _) _ _ _
 refine jX (wpAny_field hZ rfl (x := .bool false) rfl ?_)
 show wpAny _ _ (field (.ref z) 3 >>= _) _ _ _
 refine jX (wpAny_field hZ rfl (x := .ref u) rfl (jX (wpAny_seqItems hU rfl ?_)))
 show wpAny _ _ (Builtin.SmallTypes.ownedTupleIsFree (.ref z) >>= _) _ _ _
 refine jX ?_
 unfold Builtin.SmallTypes.ownedTupleIsFree
 refine jX (wpAny_field hZ rfl (x := .none) rfl (kQ ?_))
 simp only [if_true]
 refine jX (wpAny_rule (jX (wpAny_field hZ rfl (x := .ref o) rfl (jX (wpAny_setField_rec hZ (by simp) fun g1 hZ1 e1 => ?_)))))
 replace hZ1 : IsZip g1 z u o .ellipsis := hZ1
 refine jX ?_
 simp only [List.zipIdx_cons, List.zipIdx_nil, List.forIn_cons, List.forIn_nil]
 refine jX (jX (wpAny_onRaise ?_))
 show wpAny _ _ (Builtin.SmallTypes.nextOf (.ref i1) >>= _) _ _ _
 cases hx : xs[k1]? with
 | none =>
  refine jX (d1.done _ _ { s with heap := g1 } k1 xs _ hh (d1.keep _ _ _ h1 fun q e => e1.extBut _ _ D.i1z e) (d1.srck _ _ _ hl1 fun q e => e1.extBut _ _ D.l1z e) hx fun g2 e e2 he => ?_)
  obtain ⟨qe, ge, ce⟩ := he
  have hZ2 : IsZip g2 z u o .ellipsis := e2 _ _ D.i1z.symm hZ1
  have hez : e ≠ z := fun x => by subst x; rw [hZ2] at ge; cases ge; simp at ce
  refine wpAny_setField_rec hZ2 (by simp) fun g3 _ e3 => ?_
  exact fin g3 e (fun c q c1 _ c3 _ x => e3.extBut _ _ c1 (e2 _ _ c3 (e1.extBut _ _ c1 x))) ⟨qe, e3.extBut _ _ hez ge, ce⟩
 | some x =>
  have hy : ys[k2]? = none := hend.resolve_left fun h => by rw [hx] at h; cases h
  refine jX (d1.item _ _ { s with heap := g1 } k1 xs x _ (d1.keep _ _ _ h1 fun q e => e1.extBut _ _ D.i1z e) (d1.srck _ _ _ hl1 fun q e => e1.extBut _ _ D.l1z e) hx fun g2 h1' e2 => kQ ?_)
  have hO2 : IsPair g2 o a b := e2.extBut _ _ D.TOi1 (e1.extBut _ _ D.TOz hO)
  refine jX (wpAny_seqItems hO2 rfl (jX (wpAny_updateSeq_pair hO2 fun g3 hO3 e3 => ?_)))
  refine jX (wpAny_letGo (kQ ?_))
  refine jX (jX (wpAny_onRaise ?_))
  show wpAny _ _ (Builtin.SmallTypes.nextOf (.ref i2) >>= _) _ _ _
  refine jX (d2.done _ _ { s with heap := g3 } k2 ys _ hh (d2.keep _ _ _ h2 fun q e => e3.extBut _ _ D.TOi2.symm (e2.extBut _ _ D.i12.symm (e1.extBut _ _ D.i2z e)))
   (d2.srck _ _ _ hl2 fun q e => e3.extBut _ _ D.l2TO (e2.extBut _ _ D.l2i1 (e1.extBut _ _ D.l2z e))) hy fun g4 e e4 he => ?_)
  obtain ⟨qe, ge, ce⟩ := he
  have hZ4 : IsZip g4 z u o .ellipsis := e4 _ _ D.i2z.symm (e3.extBut _ _ D.TOz.symm (e2.extBut _ _ D.i1z.symm hZ1))
  have hez : e ≠ z := fun x => by subst x; rw [hZ4] at ge; cases ge; simp at ce
  refine wpAny_setField_rec hZ4 (by simp) fun g5 _ e5 => ?_
  exact fin g5 e (fun c q c1 c2 c3 c4 x => e5.extBut _ _ c1 (e4 _ _ c4 (e3.extBut _ _ c2 (e2.extBut _ _ c3 (e1.extBut _ _ c1 x))))) ⟨qe, e5.extBut _ _ hez ge, ce⟩
end
def Vb (n : String) (l : Addr) : Obj := { cls := .type n, data := .fields #[.ref l, .int 0 0] }
structure Itr0 (n : String) (l : Addr) (pr : Heap → Prop) : Prop where
 go : ∀ (P : Program) (w : World) (A : Around) (E : Value → Shared → Prop) (s : Shared) (Q : Value → Shared → Prop), pr s.heap → Q (.ref s.heap.objs.size) { s with heap := s.heap.push (Vb n l) } → wpAny (model P w) A (pyIter (.ref l)) Q E s
 push : ∀ h o, pr h → pr (h.push o)
theorem Qme (l : Addr) (xs : Array Value) : Itr0 "list_iterator" l (fun h => h.IsList l xs) := ⟨fun _ _ _ _ _ _ hl h => wpAny_pyIter_list hl h, fun _ _ hl => hl.push _⟩
theorem Qpg (l : Addr) (xs : Array Value) : Itr0 "tuple_iterator" l (fun h => h.IsTuple l xs) := ⟨fun _ _ _ _ _ _ hl h => wpAny_pyIter_tuple hl h, fun _ _ hl => hl.push _⟩
def zH1 (h : Heap) (n1 : String) (l1 : Addr) : Heap := h.push (Vb n1 l1)
def zH2 (h : Heap) (n1 n2 : String) (l1 l2 : Addr) : Heap := (zH1 h n1 l1).push (Vb n2 l2)
def zH3 (h : Heap) (n1 n2 : String) (l1 l2 : Addr) : Heap := (zH2 h n1 n2 l1 l2).push { cls := .type "tuple", data := .seq #[.ref h.objs.size, .ref (zH1 h n1 l1).objs.size] }
def zH4 (h : Heap) (n1 n2 : String) (l1 l2 : Addr) : Heap := (zH3 h n1 n2 l1 l2).push { cls := .type "tuple", data := .seq #[.none, .none] }
def zH5 (h : Heap) (n1 n2 : String) (l1 l2 : Addr) : Heap := (zH4 h n1 n2 l1 l2).push { cls := .type "zip", data := .fields #[.none, .bool false, .bool false, .ref (zH2 h n1 n2 l1 l2).objs.size, .ref (zH3 h n1 n2 l1 l2).objs.size] }
theorem Qmf {n1 n2 : String} {l1 l2 : Addr} {p1 p2 : Heap → Prop} (I1 : Itr0 n1 l1 p1) (I2 : Itr0 n2 l2 p2) :
  Meets (Builtin.«zip.__new__» ⟨[.type "zip", .ref l1, .ref l2], []⟩) (fun _ R s => p1 s.heap ∧ p2 s.heap ∧ R (.ok (.ret (.ref (zH4 s.heap n1 n2 l1 l2).objs.size))) { s with heap := zH5 s.heap n1 n2 l1 l2 }) :=
 .of_wp fun prog w A R s h => by
  obtain ⟨hp, g, d, tk, os⟩ := s
  obtain ⟨q1, q2, h⟩ := h
  have hsub := sub_zip
  have f1 := fun (A : Around) (E : Value → Shared → Prop) (Q : Value → Shared → Prop) => I1.go prog w A E ⟨hp, g, d, tk, os⟩ Q q1
  have f2 := fun (A : Around) (E : Value → Shared → Prop) (Q : Value → Shared → Prop) => I2.go prog w A E ⟨hp.push (Vb n1 l1), g, d, tk, os⟩ Q (I2.push _ _ q2)
  wp_walk using f1 _ _ _, f2 _ _ _
  exact ⟨_, rfl, h⟩
def Sq (K : Fg) (m : Bool) (H : Hp) (a : Addr) (xs : List V) : Prop := if m = true then SqL K H a xs else SqT K H a xs
def itN (m : Bool) : String := if m = true then "list_iterator" else "tuple_iterator"
def itSt (m : Bool) (it l : Addr) (i : Nat) (h : Heap) : Prop := if m = true then h.IsListIter it l i else h.IsTupleIter it l i
def Qkc (m : Bool) (l : Addr) (xs : List Value) (h : Heap) : Prop := if m = true then h.IsList l xs.toArray else h.IsTuple l xs.toArray
theorem Yu {P : Program} {w : World} (m : Bool) (it l : Addr) : Drw P w it l (itSt m it l) (Qkc m l) := by
 cases m
 ·exact Qso it l
 ·exact Qpf it l
theorem Qgx (m : Bool) (l : Addr) (xs : List Value) : Itr0 (itN m) l (Qkc m l xs) := by
 cases m
 ·exact Qpg l xs.toArray
 ·exact Qme l xs.toArray
theorem Qda (m : Bool) {h : Heap} {it l : Addr} (e : h.get? it = some (Vb (itN m) l)) : itSt m it l 0 h := by
 cases m
 ·exact ⟨_, e, rfl, rfl⟩
 ·exact ⟨_, e, rfl, rfl⟩
section
variable {X : Cx} {pins : List (Addr × Obj)} {σ : St} {H : Hp} {s : Shared}
theorem Inv.sq {m : Bool} {a : Addr} {xs : List V} (I : Inv X pins σ H s) (h : Sq X.K m H a xs) : ∃ its : List Value, Vals xs its ∧ Qkc m a its s.heap ∧ xs.length ≤ sizeLine := by
 cases m
 ·obtain ⟨its, rv, p, hz⟩ := I.tuple h
  exact ⟨its, rv, p, by first | exact hz | omega⟩
 ·obtain ⟨its, rv, p, hz⟩ := I.list h
  exact ⟨its, rv, p.isList, by first | exact hz | omega⟩
theorem Inv.sq_inj {m : Bool} {a : Addr} {xs ys : List V} (I : Inv X pins σ H s) (h : Sq X.K m H a xs) (h' : Sq X.K m H a ys) : xs = ys := by
 cases m
 ·exact I.tuple_inj h h'
 ·exact I.list_inj h h'
theorem Inv.tupNew {xs : List V} {its : List Value} {h' : Heap} {ch : List Addr} {T : Addr} (I : Inv X pins σ H s) (hT : s.heap.objs.size ≤ T) (r : Vals xs its) (hz : xs.length ≤ sizeLine) (e : h'.get? T = some { cls := .type "tuple", data := .seq its.toArray })
  (hf : ∀ b ∈ ch, FpOk X pins H b) (k : ∀ b o, b ∉ ch → s.heap.get? b = some o → h'.get? b = some o) (th : ∀ b ∈ ch, ∃ o, h'.get? b = some o) : Inv X pins σ (upd H T (.tup xs)) { s with heap := h' } := by
 have hn : H T = none := I.hok.fresh hT
 have tr : ∀ b o, H b = some o → b ∉ ch := fun b o e z => by rw [(hf b z).1] at e; cases e
 refine I.step (g' := s.gens) (t' := s.toks) (d' := s.drawn) (ch := ch) (fun b hb => ⟨(hf b hb).2.2.2.1, (hf b hb).2.1, (hf b hb).2.2.2.2.1, (hf b hb).2.2.2.2.2⟩) (fun b o _ _ hc q _ => k b o hc q) (fun b o _ _ hc q _ => ⟨o.slots, k b o hc q⟩) (fun b o _ q n => ?_) (fun b o hc q => ⟨o, k b o hc q⟩)
  (fun b xs q => ?_) (fun b o u q => ?_) (fun b ps q => ⟨#[], ?_⟩) (fun m hm => ?_) (fun b ob q => ?_) I.bare
 ·rw [Qo (yW (zJ (kJ q) hT))]; exact n
 ·rw [Qo (Qh q hn)]; exact q
 ·rw [Qo (Qh q hn)]; exact q
 ·rw [Qo (Qh q hn), Array.append_empty]; exact q
 ·obtain ⟨o, es, ep, q, d, r⟩ := hm
  exact ⟨o, es, ep, k _ o (fun z => (hf _ z).2.1 rfl) q, d, r⟩
 ·by_cases hb : b = T
  ·subst hb
   rw [Qc] at q; cases q
   exact ⟨hz, its, r, _, e, rfl, _, rfl⟩
  ·rw [Qo hb] at q
   refine (I.hok b ob q).stay (fun c v hc r => k c v ?_ r) (fun c r => by rw [Qo (Qh r hn)]; exact r) fun c xs r => by rw [Qo (Qh r hn)]; exact r
   rcases hc with rfl | hc
   ·exact tr _ _ q
   ·exact tr _ _ hc
end
def Itz (K : Fg) (m1 m2 : Bool) (a b : Addr) : It :=
  ⟨fun i H => ∃ xs ys x y, Sq K m1 H a xs ∧ Sq K m2 H b ys ∧ xs[i]? = some x ∧ ys[i]? = some y,
   fun i H v H' => ∃ T x y, v = .ref T ∧ H T = none ∧ H' = upd H T (.tup [x, y]) ∧ (∀ xs, Sq K m1 H a xs → xs[i]? = some x) ∧ ∀ ys, Sq K m2 H b ys → ys[i]? = some y,
   fun i H => ∃ xs ys, Sq K m1 H a xs ∧ Sq K m2 H b ys ∧ (xs.length ≤ i ∨ ys.length ≤ i)⟩
def zTn (m1 m2 : Bool) (z u o i1 i2 a b : Addr) (i : Nat) (h : Heap) : Prop := IsZip h z u o .none ∧ IsPair h u (.ref i1) (.ref i2) ∧ (∃ p q, IsPair h o p q) ∧ itSt m1 i1 a i h ∧ itSt m2 i2 b i h
theorem Qph {P : Program} {w : World} {K : Fg} {es : List Expr} {kk : Nat} {tp : Pos} {m1 m2 : Bool} {z u o i1 i2 a b : Addr} (D : ZipApart z u o i1 i2 a b) :
  Turn P w K (.Tuple es kk tp) (Itz K m1 m2 a b) [z, u, o, i1, i2] z (zTn m1 m2 z u o i1 i2 a b) where
 mem := by simp
 obj := fun i h st c hc => by
  obtain ⟨h1, h2, ⟨p, q, h3⟩, h4, h5⟩ := st
  simp only [yJ, xK, or_false] at hc
  rcases hc with rfl | rfl | rfl | rfl | rfl
  ·exact ⟨_, h1, fun v z => by cases z⟩
  ·exact ⟨_, h2, fun v z => by cases z⟩
  ·exact ⟨_, h3, fun v z => by cases z⟩
  ·exact (Yu (P := P) (w := w) m1 c a).obj i h h4
  ·exact (Yu (P := P) (w := w) m2 c b).obj i h h5
 keep := fun i h h' st k => by
  obtain ⟨h1, h2, ⟨p, q, h3⟩, h4, h5⟩ := st
  exact ⟨k z (by simp) _ h1, k u (by simp) _ h2, ⟨p, q, k o (by simp) _ h3⟩, (Yu (P := P) (w := w) m1 i1 a).keep i h h' h4 (k i1 (by simp)), (Yu (P := P) (w := w) m2 i2 b).keep i h h' h5 (k i2 (by simp))⟩
 item := by
  intro X hP hw hK hc i pins s σ H E I hf st hg
  subst hP hw hK
  obtain ⟨xs, ys, x, y, q1, q2, hx, hy⟩ := hg
  obtain ⟨is1, r1, p1, z1⟩ := I.sq q1
  obtain ⟨is2, r2, p2, z2⟩ := I.sq q2
  obtain ⟨v1, e1, rv1⟩ := r1.get hx
  obtain ⟨v2, e2, rv2⟩ := r2.get hy
  obtain ⟨hZ, hU, ⟨p, q, hO⟩, s1, s2⟩ := st
  refine Qex (Yu m1 i1 a) (Yu m2 i2 b) D hZ hU hO s1 s2 p1 p2 e1 e2 fun h' a1 a2 a3 a4 a5 a6 a7 => ⟨_, rfl, ?_⟩
  have hf' : ∀ c ∈ [z, o, i1, i2], FpOk X pins H c := fun c hc => hf c (by simp only [yJ, xK, or_false] at hc ⊢; rcases hc with rfl | rfl | rfl | rfl <;> simp)
  have I1 : Inv X pins σ (upd H s.heap.objs.size (.tup [x, y])) { s with heap := h' } := I.tupNew (ch := [z, o, i1, i2]) (jZ _) (.cons rv1 (.cons rv2 .nil)) (by show 2 ≤ sizeLine; decide) a5 hf'
   (fun c q hc e => by simp only [yJ, xK, or_false, not_or] at hc; exact a7 c q hc.1 hc.2.1 hc.2.2.1 hc.2.2.2 e)
   (fun c hc => by
    simp only [yJ, xK, or_false] at hc
    rcases hc with rfl | rfl | rfl | rfl
    ·exact ⟨_, a1⟩
    ·exact ⟨_, a2⟩
    ·obtain ⟨q, e, _⟩ := (Yu (P := X.prog) (w := X.w) m1 c a).obj _ _ a3; exact ⟨q, e⟩
    ·obtain ⟨q, e, _⟩ := (Yu (P := X.prog) (w := X.w) m2 c b).obj _ _ a4; exact ⟨q, e⟩)
  refine wpAny_letOwnedTupleGo_zip (s := { s with heap := h' }) a1 fun h2 g1 g2 => ?_
  obtain ⟨f0, f1, f2, f3, f4, f5⟩ := hf z (by simp)
  have ltz : z < s.heap.objs.size := kJ hZ
  have I2 : Inv X pins σ (upd H s.heap.objs.size (.tup [x, y])) { s with heap := h2 } := I1.turned (h' := h2) (t' := s.toks) (fun c q hc e => g2.extBut c q hc e) (by rw [Qo (yW ltz)]; exact f0) f1 f3 f4 f5
  have hU' : IsPair h' u (.ref i1) (.ref i2) := a7 u _ D.TIz D.TITO D.TIi1 D.TIi2 hU
  refine ⟨.ref s.heap.objs.size, _, I2, rfl, ⟨_, x, y, rfl, I.hok.fresh (jZ _), rfl, fun xs' hq => by rw [I.sq_inj hq q1]; exact hx, fun ys' hq => by rw [I.sq_inj hq q2]; exact hy⟩, ?_, fun c hc => ?_⟩
  ·exact ⟨g1, g2.extBut _ _ D.TIz hU', ⟨_, _, g2.extBut _ _ D.TOz a2⟩, (Yu (P := X.prog) (w := X.w) m1 i1 a).keep _ _ _ a3 fun q e => g2.extBut _ _ D.i1z e, (Yu (P := X.prog) (w := X.w) m2 i2 b).keep _ _ _ a4 fun q e => g2.extBut _ _ D.i2z e⟩
  ·have hlt : c ≠ s.heap.objs.size := by
    have st' : zTn m1 m2 z u o i1 i2 a b i s.heap := ⟨hZ, hU, ⟨p, q, hO⟩, s1, s2⟩
    simp only [yJ, xK, or_false] at hc
    rcases hc with rfl | rfl | rfl | rfl | rfl
    ·exact yW ltz
    ·exact yW (kJ hU)
    ·exact yW (kJ hO)
    ·obtain ⟨q, e, _⟩ := (Yu (P := X.prog) (w := X.w) m1 c a).obj _ _ s1; exact yW (kJ e)
    ·obtain ⟨q, e, _⟩ := (Yu (P := X.prog) (w := X.w) m2 c b).obj _ _ s2; exact yW (kJ e)
   rw [Qo hlt]
   exact (hf c hc).1
 done := by
  intro X hP hw hK hc i pins s σ H E I hf st hg
  subst hP hw hK
  obtain ⟨xs, ys, q1, q2, hx⟩ := hg
  obtain ⟨is1, r1, p1, z1⟩ := I.sq q1
  obtain ⟨is2, r2, p2, z2⟩ := I.sq q2
  obtain ⟨hZ, hU, ⟨p, q, hO⟩, s1, s2⟩ := st
  have l1 := r1.length
  have l2 := r2.length
  refine Qgw (I.ok.hd hc) (Yu m1 i1 a) (Yu m2 i2 b) D hZ hU hO s1 s2 p1 p2 (by
   rcases hx with h | h
   ·exact .inl (wK.mpr (by omega))
   ·exact .inr (wK.mpr (by omega))) fun h' k => ⟨rfl, ?_⟩
  have hf' : ∀ c ∈ [z, o, i1, i2], FpOk X pins H c := fun c hc => hf c (by simp only [yJ, xK, or_false] at hc ⊢; rcases hc with rfl | rfl | rfl | rfl <;> simp)
  have tr : ∀ c q, H c = some q → c ∉ [z, o, i1, i2] := fun c q e y => by rw [(hf' c y).1] at e; cases e
  have kk : ∀ c q, c ∉ [z, o, i1, i2] → s.heap.get? c = some q → h'.get? c = some q := fun c q hc e => by
   simp only [yJ, xK, or_false, not_or] at hc
   exact k c q hc.1 hc.2.1 hc.2.2.1 hc.2.2.2 e
  refine I.step (g' := s.gens) (t' := s.toks) (d' := s.drawn) (ch := [z, o, i1, i2]) (fun b hb => ⟨(hf' b hb).2.2.2.1, (hf' b hb).2.1, (hf' b hb).2.2.2.2.1, (hf' b hb).2.2.2.2.2⟩) (fun b o _ _ hc q _ => kk b o hc q) (fun b o _ _ hc q _ => ⟨o.slots, kk b o hc q⟩) (fun b o _ q n => n) (fun b o hc q => ⟨o, kk b o hc q⟩)
   (fun b xs q => q) (fun b o u q => q) (fun b ps q => ⟨#[], by rw [Array.append_empty]; exact q⟩) (fun m hm => ?_) (fun b ob q => ?_) I.bare
  ·obtain ⟨o, es, ep, q, d, r⟩ := hm
   exact ⟨o, es, ep, kk _ o (fun z => (hf' _ z).2.1 rfl) q, d, r⟩
  ·refine (I.hok b ob q).stay (fun c v hc r => kk c v ?_ r) (fun c r => r) fun c xs r => r
   rcases hc with rfl | hc
   ·exact tr _ _ q
   ·exact tr _ _ hc
 self := fun _ _ _ _ _ st h => wpAny_pyIter_zip st.1 h
section
variable {X : Cx}
def iZip (K : Fg) (m1 m2 : Bool) (ta : TA) : TI := fun σ H R => ta σ H fun vs H1 => ∃ a b, vs = [.ref a, .ref b] ∧ (∃ xs, Sq K m1 H1 a xs) ∧ (∃ ys, Sq K m2 H1 b ys) ∧ R (Itz K m1 m2 a b) H1
theorem Qmg {P : Program} {w : World} {A : Around} {E : Value → Shared → Prop} {s : Shared} {m1 m2 : Bool} {a b : Addr} {xs ys : List Value} {Q : Value → Shared → Prop} (h1 : Qkc m1 a xs s.heap) (h2 : Qkc m2 b ys s.heap)
  (h : ∀ h', IsZip h' (s.heap.objs.size + 4) (s.heap.objs.size + 2) (s.heap.objs.size + 3) .none → IsPair h' (s.heap.objs.size + 2) (.ref s.heap.objs.size) (.ref (s.heap.objs.size + 1)) → IsPair h' (s.heap.objs.size + 3) .none .none →
   itSt m1 s.heap.objs.size a 0 h' → itSt m2 (s.heap.objs.size + 1) b 0 h' → (∀ c o, s.heap.get? c = some o → h'.get? c = some o) → Q (.ref (s.heap.objs.size + 4)) { s with heap := h' }) :
  wpAny (model P w) A (call (.type "zip") [.ref a, .ref b]) Q E s := by
 refine callType_new F.called_zip (by decide) (F.typeCall_zip_2 _ _) (F.newCall_zip_2 _ _) (fun obj => F.args_object_init_3 obj _ _) F.entry_zip_new (Qmf (Qgx m1 a xs) (Qgx m2 b ys)) ⟨h1, h2, ?_⟩
 have z1 : (zH1 s.heap (itN m1) a).objs.size = s.heap.objs.size + 1 := jJa ..
 have z2 : (zH2 s.heap (itN m1) (itN m2) a b).objs.size = s.heap.objs.size + 2 := by unfold zH2; rw [jJa, z1]
 have z3 : (zH3 s.heap (itN m1) (itN m2) a b).objs.size = s.heap.objs.size + 3 := by unfold zH3; rw [jJa, z2]
 have z4 : (zH4 s.heap (itN m1) (itN m2) a b).objs.size = s.heap.objs.size + 4 := by unfold zH4; rw [jJa, z3]
 have g5 : (zH5 s.heap (itN m1) (itN m2) a b).get? (zH4 s.heap (itN m1) (itN m2) a b).objs.size = some { cls := .type "zip", data := .fields #[.none, .bool false, .bool false, .ref (zH2 s.heap (itN m1) (itN m2) a b).objs.size, .ref (zH3 s.heap (itN m1) (itN m2) a b).objs.size] } := yZ _ rfl
 have up4 : ∀ c o, (zH4 s.heap (itN m1) (itN m2) a b).get? c = some o → (zH5 s.heap (itN m1) (itN m2) a b).get? c = some o := fun c o e => jJ _ e
 have up3 : ∀ c o, (zH3 s.heap (itN m1) (itN m2) a b).get? c = some o → (zH5 s.heap (itN m1) (itN m2) a b).get? c = some o := fun c o e => up4 c o (jJ _ e)
 have up2 : ∀ c o, (zH2 s.heap (itN m1) (itN m2) a b).get? c = some o → (zH5 s.heap (itN m1) (itN m2) a b).get? c = some o := fun c o e => up3 c o (jJ _ e)
 have up1 : ∀ c o, (zH1 s.heap (itN m1) a).get? c = some o → (zH5 s.heap (itN m1) (itN m2) a b).get? c = some o := fun c o e => up2 c o (jJ _ e)
 have g4 : (zH5 s.heap (itN m1) (itN m2) a b).get? (zH3 s.heap (itN m1) (itN m2) a b).objs.size = some { cls := .type "tuple", data := .seq #[.none, .none] } := up4 _ _ (yZ _ rfl)
 have g3 : (zH5 s.heap (itN m1) (itN m2) a b).get? (zH2 s.heap (itN m1) (itN m2) a b).objs.size = some { cls := .type "tuple", data := .seq #[.ref s.heap.objs.size, .ref (zH1 s.heap (itN m1) a).objs.size] } := up3 _ _ (yZ _ rfl)
 have g2 : (zH5 s.heap (itN m1) (itN m2) a b).get? (zH1 s.heap (itN m1) a).objs.size = some (Vb (itN m2) b) := up2 _ _ (yZ _ rfl)
 have g1 : (zH5 s.heap (itN m1) (itN m2) a b).get? s.heap.objs.size = some (Vb (itN m1) a) := up1 _ _ (yZ _ rfl)
 show _ ∧ _
 rw [z2, z3, z4] at g5
 rw [z1, z2] at g3
 rw [z3] at g4
 rw [z1] at g2
 rw [z4]
 exact ⟨⟨_, g5, rfl⟩, h _ g5 g3 g4 (Qda m1 g1) (Qda m2 g2) fun c o x => up1 c o (jJ _ x)⟩
theorem Qmh {n l1 l2 : Addr} (h1 : l1 < n) (h2 : l2 < n) : ZipApart (n + 4) (n + 2) (n + 3) n (n + 1) l1 l2 := by
 have h1' : @LT.lt Nat _ l1 n := h1
 have h2' : @LT.lt Nat _ l2 n := h2
 constructor <;> (show @Ne Nat _ _) <;> omega
theorem Qdb {m : Bool} {a : Addr} {xs : List Value} {h : Heap} (e : Qkc m a xs h) : a < h.objs.size := by
 cases m
 ·obtain ⟨o, e, _⟩ := e; exact kJ e
 ·obtain ⟨o, e, _⟩ := e; exact kJ e
theorem Qmi {a b : Expr} {ta : TA} {p pos tp : Pos} {es : List Expr} {kk : Nat} (m1 m2 : Bool) (hg : Gl X "zip") (hm : X.mg "zip" = none) (ha : PA X [a, b] ta) (hs : autoParam (starEach [a, b] X.env = [(false, eval a X.env), (false, eval b X.env)]) L2.aRfl._auto_1) (hs2 : autoParam (starEach [b] X.env = [(false, eval b X.env)]) L2.aRfl._auto_1) :
  PI X (.Tuple es kk tp) (.Call (.Name "zip" p) [a, b] [] pos) (iZip X.K m1 m2 ta) := by
 intro pins s σ H R I h
 refine Call_ (Qab I hg hm (u := .type "zip") (by rfl) (PyProof.Rows.callWith_type1 (thn (ha pos pins s σ H _ I h) fun us s1 hqP => ?_) (by rw [hs, hs2]) (by rw [hs2]; rfl)))
 obtain ⟨vs, H1, I1, r1, q1⟩ := hqP
 obtain ⟨l1, l2, e, ⟨xs, q1⟩, ⟨ys, q2⟩, q⟩ := q1
 subst e
 obtain ⟨u1, u2, rfl, e1, e2⟩ := r1.two
 cases e1
 cases e2
 obtain ⟨is1, r1, p1, z1⟩ := I1.sq q1
 obtain ⟨is2, r2, p2, z2⟩ := I1.sq q2
 refine Qmg p1 p2 fun h' a1 a2 a3 a4 a5 a6 => ?_
 have I2 : Inv X pins σ H1 { s1 with heap := h' } := I1.kept (t' := s1.toks) a6
 refine wpAny_pyIter_zip (s := { s1 with heap := h' }) a1 ⟨_, [s1.heap.objs.size + 4, s1.heap.objs.size + 2, s1.heap.objs.size + 3, s1.heap.objs.size, s1.heap.objs.size + 1], _, _, H1, rfl, I2, Qph (Qmh (Qdb p1) (Qdb p2)), ⟨a1, a2, ⟨_, _, a3⟩, a4, a5⟩, fun c hc => ?_, q⟩
 have hle : s1.heap.objs.size ≤ c := by
  simp only [yJ, xK, or_false] at hc
  rcases hc with rfl | rfl | rfl | rfl | rfl
  ·exact jYc _ _
  ·exact jYc _ _
  ·exact jYc _ _
  ·exact jZ _
  ·exact jYc _ _
 exact I1.fpOk hle (I1.hok.fresh hle)
end
section
variable {X : Cx}
def isiV (K : Fg) (H : Hp) : V → String → Bool → Prop
 | .int _, T, b => (T = "int" ∧ b = true) ∨ (T = "bool" ∧ b = false) ∨ (T = "tuple" ∧ b = false)
 | .bl _, T, b => (T = "int" ∧ b = true) ∨ (T = "bool" ∧ b = true) ∨ (T = "tuple" ∧ b = false)
 | .ref a, T, b => (∃ xs, SqT K H a xs) ∧ ((T = "tuple" ∧ b = true) ∨ (T = "int" ∧ b = false) ∨ (T = "bool" ∧ b = false))
 | _, _, _ => False
theorem Qib : Jq X (.builtin "isinstance") (fun xs H Q => ∃ x T b, xs = [x, .ty T] ∧ isiV X.K H x T b ∧ Q (.bl b) H) := by
 intro pins s σ H xs us Q I rv h
 obtain ⟨x, T, b, rfl, hi, q⟩ := h
 obtain ⟨u, v, rfl, ru, rT⟩ := rv.two
 cases rT
 have fin : ∀ (tk : Nat), EP X pins σ Q (.bool b) { s with toks := tk } := fun tk => ⟨.bl b, H, I.tok tk, rfl, q⟩
 cases x with
 | int n =>
  obtain ⟨t, rfl⟩ := ru
  rcases hi with ⟨rfl, rfl⟩ | ⟨rfl, rfl⟩ | ⟨rfl, rfl⟩
  ·exact IsiPair.int_int (fin s.toks)
  ·exact IsiPair.int_bool (fin _)
  ·exact IsiPair.int_tuple (fin _)
 | bl n =>
  cases ru
  rcases hi with ⟨rfl, rfl⟩ | ⟨rfl, rfl⟩ | ⟨rfl, rfl⟩
  ·exact IsiPair.bool_int (fin s.toks)
  ·exact IsiPair.bool_bool (fin s.toks)
  ·exact IsiPair.bool_tuple (fin _)
 | ref a =>
  cases ru
  obtain ⟨⟨xs, hq⟩, hi⟩ := hi
  obtain ⟨its, r, ⟨o, e, c, _⟩, _⟩ := I.tuple hq
  rcases hi with ⟨rfl, rfl⟩ | ⟨rfl, rfl⟩ | ⟨rfl, rfl⟩
  ·exact IsiPair.tuple_tuple e c (fin s.toks)
  ·exact IsiPair.tuple_int e c (fin _)
  ·exact IsiPair.tuple_bool e c (fin _)
 | non => exact hi.elim
 | str _ => exact hi.elim
 | byt _ => exact hi.elim
 | flt _ => exact hi.elim
 | ty _ => exact hi.elim
theorem Qmj (hc : X.calm = true) : Jq X (.builtin "sum") (fun xs H Q => ∃ (a : Addr) (ns : List Int), xs = [.ref a] ∧ SqL X.K H a (ns.map V.int) ∧ Q (.int ns.sum) H) := by
 intro pins s σ H xs us Q I rv h
 obtain ⟨a, ns, rfl, hq, q⟩ := h
 obtain ⟨u, rfl, ru⟩ := rv.one
 cases ru
 obtain ⟨its, r, p, hz⟩ := I.list hq
 have hi : IntsAre its.toArray.toList ns := intsAre_of r
 have hall : AllInts its.toArray := hi.allInts
 obtain ⟨xs, hx⟩ := hall.items
 have hl' : s.heap.IsList a (intItems xs) := hx ▸ p.isList
 refine sum_intListG (I.ok.hd hc) hl' fun h' tk t' hk => ?_
 have e1 : ns = xs.toList.map (·.1) := by
  rw [← nums_intItems, ← hx]
  exact (show numsOf its.toArray.toList = ns from hi.numsOf).symm
 have e2 : preSum (numAt xs) xs.size = ns.sum := by
  rw [preSum_eq, zQ (by simp), e1]
 rw [e2]
 exact ⟨.int ns.sum, H, I.kept hk, ⟨_, rfl⟩, q⟩
theorem Qmk {bs : List Bool} {its : List Value} (r : Vals (bs.map V.bl) its) {i : Nat} {v : Value} (h : its[i]? = some v) : ∃ b, bs[i]? = some b ∧ v = .bool b := by
 have hl := r.length
 obtain ⟨hi, _⟩ := yK.mp h
 rw [jQ] at hl
 have hb : bs[i]? = some bs[i] := gE (by omega)
 obtain ⟨u, h1, h2⟩ := r.get (i := i) (x := .bl bs[i]) (by rw [jY, hb]; rfl)
 rw [h] at h1; cases h1
 exact ⟨_, hb, h2⟩
theorem Qpi (bs : List Bool) : ((List.range bs.length).all fun i => (bs[i]?).getD true) = bs.all id := by
 rw [xY]
 simp only [xW, wZ, id]
 constructor
 ·intro h b hb
  obtain ⟨i, hi, e⟩ := kYb hb
  have := h i hi
  rw [gE hi] at this
  simpa [e] using this
 ·intro h i hi
  rw [gE hi]
  exact h _ (jQc hi)
theorem Qpj (bs : List Bool) : ((List.range bs.length).any fun i => (bs[i]?).getD false) = bs.any id := by
 rw [xY]
 simp only [List.any_eq_true, wZ, id]
 constructor
 ·rintro ⟨i, hi, h⟩
  rw [gE hi] at h
  exact ⟨_, jQc hi, h⟩
 ·rintro ⟨b, hb, h⟩
  obtain ⟨i, hi, e⟩ := kYb hb
  exact ⟨i, hi, by rw [gE hi]; simpa [e] using h⟩
theorem Qml {h h' : Heap} {o : Obj} (hk : ∀ b x, b ∉ [h.objs.size] → (h.push o).get? b = some x → h'.get? b = some x) : ∀ b x, h.get? b = some x → h'.get? b = some x := fun b x e =>
 hk b x (fun hm => by rw [zK.mp hm] at e; exact jZb _ (kJ e)) (jJ _ e)
theorem Vw (hc : X.calm = true) : Jq X (.builtin "all") (fun xs H Q => ∃ (a : Addr) (bs : List Bool), xs = [.ref a] ∧ SqL X.K H a (bs.map V.bl) ∧ Q (.bl (bs.all id)) H) := by
 intro pins s σ H xs us Q I rv h
 obtain ⟨a, bs, rfl, hq, q⟩ := h
 obtain ⟨u, rfl, ru⟩ := rv.one
 cases ru
 obtain ⟨its, r, p, hz⟩ := I.list hq
 have hlt : a < s.heap.objs.size := by obtain ⟨_, e, _⟩ := p.isList; exact kJ e
 have hl := r.length
 rw [jQ] at hl
 refine call_all_walk (wpAny_pyIter_list p.isList ?_)
 refine ⟨s.heap.objs.size, [s.heap.objs.size, a], [s.heap.objs.size], its.toArray.size, _, _, fun i => (bs[i]?).getD true, rfl, Walks.list (A := X.A.in1) (I.ok.hd hc) _ a (yW hlt) its.toArray, ⟨⟨_, yZ _ rfl, rfl, rfl⟩, p.isList.push _⟩, fun i v s' Q' E' hP hQ => ?_, fun h' tk hk => ?_⟩
 ·obtain ⟨b, e, rfl⟩ := Qmk r (by simpa using hP)
  simp only [e, Option.getD_some] at hQ
  exact wpAny_truthy_bool hQ
 ·rw [jV, ← hl, Qpi]
  exact ⟨.bl (bs.all id), H, I.kept (Qml hk), rfl, q⟩
theorem Qey (hc : X.calm = true) : Jq X (.builtin "any") (fun xs H Q => ∃ (a : Addr) (bs : List Bool), xs = [.ref a] ∧ SqL X.K H a (bs.map V.bl) ∧ Q (.bl (bs.any id)) H) := by
 intro pins s σ H xs us Q I rv h
 obtain ⟨a, bs, rfl, hq, q⟩ := h
 obtain ⟨u, rfl, ru⟩ := rv.one
 cases ru
 obtain ⟨its, r, p, hz⟩ := I.list hq
 have hlt : a < s.heap.objs.size := by obtain ⟨_, e, _⟩ := p.isList; exact kJ e
 have hl := r.length
 rw [jQ] at hl
 refine call_any_walk (wpAny_pyIter_list p.isList ?_)
 refine ⟨s.heap.objs.size, [s.heap.objs.size, a], [s.heap.objs.size], its.toArray.size, _, _, fun i => (bs[i]?).getD false, rfl, Walks.list (A := X.A.in1) (I.ok.hd hc) _ a (yW hlt) its.toArray, ⟨⟨_, yZ _ rfl, rfl, rfl⟩, p.isList.push _⟩, fun i v s' Q' E' hP hQ => ?_, fun h' tk hk => ?_⟩
 ·obtain ⟨b, e, rfl⟩ := Qmk r (by simpa using hP)
  simp only [e, Option.getD_some] at hQ
  exact wpAny_truthy_bool hQ
 ·rw [jV, ← hl, Qpj]
  exact ⟨.bl (bs.any id), H, I.kept (Qml hk), rfl, q⟩
end
inductive D where
 | non | bl (b : Bool) | int (i : Int) | tup (xs : List D) | lst (xs : List D)
inductive HasD (K : Fg) (H : Hp) : V → D → Prop
 | non : HasD K H .non .non
 | bl (b) : HasD K H (.bl b) (.bl b)
 | int (i) : HasD K H (.int i) (.int i)
 | tup {a vs xs} : SqT K H a vs → vs.length = xs.length → (∀ (i : Nat) v x, vs[i]? = some v → xs[i]? = some x → HasD K H v x) → HasD K H (.ref a) (.tup xs)
 | lst {a vs xs} : SqL K H a vs → vs.length = xs.length → (∀ (i : Nat) v x, vs[i]? = some v → xs[i]? = some x → HasD K H v x) → HasD K H (.ref a) (.lst xs)
inductive Alike : Nat → D → D → Prop
 | non {n} : Alike n .non .non
 | bl {n} (a b) : Alike n (.bl a) (.bl b)
 | int {n} (a b) : Alike n (.int a) (.int b)
 | tup {n xs ys} : (∀ (i : Nat) x y, xs[i]? = some x → ys[i]? = some y → Alike n x y) → Alike (n + 1) (.tup xs) (.tup ys)
 | lst {n xs ys} : (∀ (i : Nat) x y, xs[i]? = some x → ys[i]? = some y → Alike n x y) → Alike (n + 1) (.lst xs) (.lst ys)
section
variable {X : Cx} {pins : List (Addr × Obj)} {σ : St} {H : Hp} {s : Shared}
theorem Qbk {α : Type} {xs ys : List α} (hl : xs.length = ys.length) (h : ∀ (i : Nat) x y, xs[i]? = some x → ys[i]? = some y → x = y) : xs = ys := by
 refine jZd fun i => ?_
 by_cases hi : i < xs.length
 ·rw [gE hi, gE (by omega : i < ys.length)]
  exact congrArg some (h i _ _ (gE hi) (gE (by omega)))
 ·rw [jQa (by omega), jQa (by omega)]
theorem Inv.noTL {a : Addr} {xs ys : List V} (I : Inv X pins σ H s) (h : SqT X.K H a xs) (h' : SqL X.K H a ys) : False := by
 obtain ⟨_, _, ⟨o, e, c, _⟩, _⟩ := I.tuple h
 obtain ⟨_, _, p, _⟩ := I.list h'
 obtain ⟨o', e', c', _⟩ := p.isList
 rw [e] at e'; cases e'
 rw [c] at c'
 injection c' with z
 exact absurd z (by decide)
theorem Qic (I : Inv X pins σ H s) {x : V} {d : D} (h : HasD X.K H x d) : ∀ e, HasD X.K H x e → d = e := by
 induction h with
 | non => intro e h; cases h; rfl
 | bl b => intro e h; cases h; rfl
 | int i => intro e h; cases h; rfl
 | tup hq hl hs ih =>
  intro e h
  cases h with
  | tup hq' hl' hs' =>
   obtain rfl := I.tuple_inj hq hq'
   refine congrArg D.tup (Qbk (hl.symm.trans hl') fun i x y ex ey => ?_)
   have hi : i < _ := (yK.mp ex).1
   rw [← hl] at hi
   exact ih i _ x (gE hi) ex y (hs' i _ y (gE hi) ey)
  | lst hq' hl' hs' => exact (I.noTL hq hq').elim
 | lst hq hl hs ih =>
  intro e h
  cases h with
  | lst hq' hl' hs' =>
   obtain rfl := I.list_inj hq hq'
   refine congrArg D.lst (Qbk (hl.symm.trans hl') fun i x y ex ey => ?_)
   have hi : i < _ := (yK.mp ex).1
   rw [← hl] at hi
   exact ih i _ x (gE hi) ex y (hs' i _ y (gE hi) ey)
  | tup hq' hl' hs' => exact (I.noTL hq' hq).elim
theorem Qid {n : Nat} {e : Nat → Bool} : (List.range n).all e = true ↔ ∀ i, i < n → e i = true := by simp [xW]
open PySem.SeqAt Classical in
theorem Qrr {n : Nat} {d e : D} (h : Alike n d e) : ∀ {A : Around} {x y : V} {u v : Value}, A.units + n < cLine → Inv X pins σ H s → RelV x u → RelV y v → HasD X.K H x d → HasD X.K H y e →
  ∃ b : Bool, (b = true ↔ d = e) ∧ EqAt A s u v b ∧ (∀ a c, u = .ref a → v = .ref c → RcAt A s u v b ∧ RcNeAt A s u v (!b)) := by
 induction h with
 | non =>
  intro A x y u v hu I ru rv hd he
  cases hd
  cases he
  cases ru
  cases rv
  exact ⟨true, by simp, EqAt.same _, fun a c e _ => nomatch e⟩
 | bl a b =>
  intro A x y u v hu I ru rv hd he
  cases hd
  cases he
  cases ru
  cases rv
  exact ⟨a == b, by simp, EqAt.bool_bool a b, fun a c e _ => nomatch e⟩
 | int a b =>
  intro A x y u v hu I ru rv hd he
  cases hd
  cases he
  obtain ⟨t, rfl⟩ := ru
  obtain ⟨t', rfl⟩ := rv
  exact ⟨a == b, by simp, EqAt.int_int a t b t', fun a c e _ => nomatch e⟩
 | @tup m xs ys hs ih =>
  intro A x y u v hu I ru rv hd he
  have hd' := hd
  have he' := he
  cases hd with
  | @tup p vs _ hq hl hv =>
  cases he with
  | @tup q ws _ hq' hl' hv' =>
  cases ru
  cases rv
  obtain ⟨its, r, pt, _⟩ := I.tuple hq
  obtain ⟨its', r', pt', _⟩ := I.tuple hq'
  have l1 := r.length
  have l2 := r'.length
  have key : ∀ j (h1 : j < its.toArray.size) (h2 : j < its'.toArray.size), EqAt A.in1 s its.toArray[j] its'.toArray[j] (decide (xs[j]? = ys[j]?)) := fun j h1 h2 => by
   rw [jV] at h1 h2
   have j1 : j < vs.length := by omega
   have j2 : j < ws.length := by omega
   have j3 : j < xs.length := by omega
   have j4 : j < ys.length := by omega
   obtain ⟨u1, e1, ru1⟩ := r.get (gE j1)
   obtain ⟨u2, e2, ru2⟩ := r'.get (gE j2)
   obtain ⟨b, hb, eq, _⟩ := ih j _ _ (gE j3) (gE j4) (A := A.in1) (by show A.units + 1 + m < cLine; omega) I ru1 ru2 (hv j _ _ (gE j1) (gE j3)) (hv' j _ _ (gE j2) (gE j4))
   have z1 : its.toArray[j] = u1 := by rw [gE (by omega)] at e1; simpa using e1
   have z2 : its'.toArray[j] = u2 := by rw [gE (by omega)] at e2; simpa using e2
   rw [z1, z2]
   have : (decide (xs[j]? = ys[j]?)) = b := by
    rw [xY, decide_eq_true_iff, hb, gE j3, gE j4]
    exact ⟨fun z => Option.some.inj z, fun z => congrArg some z⟩
   rw [this]
   exact eq
  have hb : ((List.range (min its.toArray.size its'.toArray.size)).all (fun j => decide (xs[j]? = ys[j]?)) && its.toArray.size == its'.toArray.size) = true ↔ D.tup xs = D.tup ys := by
   rw [zV, Qid, jV, jV, beq_iff_eq]
   constructor
   ·rintro ⟨z1, z2⟩
    refine congrArg D.tup (Qbk (by omega) fun i x y ex ey => ?_)
    have hi := (yK.mp ex).1
    have := yX (z1 i (by omega))
    rw [ex, ey] at this
    exact Option.some.inj this
   ·intro z
    injection z with z
    subst z
    exact ⟨fun i _ => jW rfl, by omega⟩
  refine ⟨_, hb, ?_, fun a c _ _ => ⟨RcAt.tuples pt pt' (by omega) key, RcNeAt.tuples pt pt' (by omega) key⟩⟩
  by_cases hpq : p = q
  ·subst hpq
   rw [hb.mpr (Qic I hd' _ he')]
   exact EqAt.same _
  ·exact EqAt.of_refs hpq (RcAt.tuples pt pt' (by omega) key)
 | @lst m xs ys hs ih =>
  intro A x y u v hu I ru rv hd he
  have hd' := hd
  have he' := he
  cases hd with
  | @lst p vs _ hq hl hv =>
  cases he with
  | @lst q ws _ hq' hl' hv' =>
  cases ru
  cases rv
  obtain ⟨its, r, pt, _⟩ := I.list hq
  obtain ⟨its', r', pt', _⟩ := I.list hq'
  have l1 := r.length
  have l2 := r'.length
  have key : ∀ j (h1 : j < its.toArray.size) (h2 : j < its'.toArray.size), EqAt A.in1 s its.toArray[j] its'.toArray[j] (decide (xs[j]? = ys[j]?)) := fun j h1 h2 => by
   rw [jV] at h1 h2
   have j1 : j < vs.length := by omega
   have j2 : j < ws.length := by omega
   have j3 : j < xs.length := by omega
   have j4 : j < ys.length := by omega
   obtain ⟨u1, e1, ru1⟩ := r.get (gE j1)
   obtain ⟨u2, e2, ru2⟩ := r'.get (gE j2)
   obtain ⟨b, hb, eq, _⟩ := ih j _ _ (gE j3) (gE j4) (A := A.in1) (by show A.units + 1 + m < cLine; omega) I ru1 ru2 (hv j _ _ (gE j1) (gE j3)) (hv' j _ _ (gE j2) (gE j4))
   have z1 : its.toArray[j] = u1 := by rw [gE (by omega)] at e1; simpa using e1
   have z2 : its'.toArray[j] = u2 := by rw [gE (by omega)] at e2; simpa using e2
   rw [z1, z2]
   have : (decide (xs[j]? = ys[j]?)) = b := by
    rw [xY, decide_eq_true_iff, hb, gE j3, gE j4]
    exact ⟨fun z => Option.some.inj z, fun z => congrArg some z⟩
   rw [this]
   exact eq
  by_cases hsz : its.toArray.size = its'.toArray.size
  ·have hb : ((List.range its.toArray.size).all (fun j => decide (xs[j]? = ys[j]?))) = true ↔ D.lst xs = D.lst ys := by
    rw [jV, jV] at hsz
    rw [Qid, jV]
    constructor
    ·intro z1
     refine congrArg D.lst (Qbk (by omega) fun i x y ex ey => ?_)
     have hi := (yK.mp ex).1
     have := yX (z1 i (by omega))
     rw [ex, ey] at this
     exact Option.some.inj this
    ·intro z
     injection z with z
     subst z
     exact fun i _ => jW rfl
   refine ⟨_, hb, ?_, fun a c _ _ => ⟨RcAt.lists pt.isList pt'.isList hsz (by omega) key, RcNeAt.lists pt.isList pt'.isList hsz (by omega) key⟩⟩
   by_cases hpq : p = q
   ·subst hpq
    rw [hb.mpr (Qic I hd' _ he')]
    exact EqAt.same _
   ·exact EqAt.of_refs hpq (RcAt.lists pt.isList pt'.isList hsz (by omega) key)
  ·have hne : (its.toArray.size != its'.toArray.size) = true := by simpa using hsz
   have hb : false = true ↔ D.lst xs = D.lst ys := by
    rw [jV, jV] at hsz
    constructor
    ·intro z; cases z
    ·intro z
     injection z with z
     subst z
     omega
   refine ⟨false, hb, ?_, fun a c _ _ => ⟨RcAt.lists_lengths pt.isList pt'.isList hne (by omega), RcNeAt.lists_lengths pt.isList pt'.isList hne (by omega)⟩⟩
   by_cases hpq : p = q
   ·subst hpq
    obtain rfl := I.list_inj hq hq'
    rw [jV, jV] at hsz
    omega
   ·exact EqAt.of_refs hpq (RcAt.lists_lengths pt.isList pt'.isList hne (by omega))
theorem Qie {n : Nat} (hu : X.A.units + n < cLine) : OpR X (compareOp .Eq) (fun x y H Q => ∃ a b d e, x = .ref a ∧ y = .ref b ∧ HasD X.K H x d ∧ HasD X.K H y e ∧ Alike n d e ∧ ∀ c : Bool, (c = true ↔ d = e) → Q (.bl c) H) := by
 intro pins s σ H x y v u Q I rx ry h
 obtain ⟨a, b, d, e, rfl, rfl, h1, h2, al, q⟩ := h
 cases rx
 cases ry
 obtain ⟨c, hc, _, hr⟩ := Qrr al (A := X.A) (x := .ref a) (y := .ref b) (u := .ref a) (v := .ref b) hu I rfl rfl h1 h2
 exact (hr a b rfl rfl).1 _ _ _ _ ⟨.bl c, H, I, rfl, q c hc⟩
theorem Qmm {n : Nat} (hu : X.A.units + n < cLine) : OpR X (compareOp .NotEq) (fun x y H Q => ∃ a b d e, x = .ref a ∧ y = .ref b ∧ HasD X.K H x d ∧ HasD X.K H y e ∧ Alike n d e ∧ ∀ c : Bool, (c = true ↔ d = e) → Q (.bl (!c)) H) := by
 intro pins s σ H x y v u Q I rx ry h
 obtain ⟨a, b, d, e, rfl, rfl, h1, h2, al, q⟩ := h
 cases rx
 cases ry
 obtain ⟨c, hc, _, hr⟩ := Qrr al (A := X.A) (x := .ref a) (y := .ref b) (u := .ref a) (v := .ref b) hu I rfl rfl h1 h2
 exact (hr a b rfl rfl).2 _ _ _ _ ⟨.bl (!c), H, I, rfl, q c hc⟩
end
def Fn (K : Fg) (mg : Str → Option Value) (x : Str) (st : Stmt) : Prop := ∃ f fd, Fun K x x st f fd ∧ mg x = some (.ref f)
theorem Xp {K : Fg} {h : Heap} {mg : Str → Option Value} {x : Str} {st : Stmt} {f : Addr} {oc : Value} {od an : Option Addr} {osl : Array (Option Value)} {kV doc pm cdv ct : Value} (X : K.In h) (G : h.Ns mainGlobals mg)
  (a : PySem.W.nsIn K mainGlobals x = some (some (.ref f))) (l : K.lookup f = some ⟨oc, od, .func (PySem.W.fnOf x x (Qu st) (Qt st) (Qf st) .none kV doc pm an cdv ct), osl⟩) (c : PySem.W.codeIn K cdv x = true) (k : PySem.W.keepIn K (.ref f) = true) : Fn K mg x st :=
 ⟨f, _, fun_mk l c k, PySem.W.mg_of X G a⟩
structure Cal (P : Program) (w : World) (K : Fg) (mg : Str → Option Value) (base : Heap) (k : Nat) (x : Str) (ps : List Str) (sp : Sp) : Prop where
 ex : ∃ f fd, FnOk P w K mg base CX0 k f fd ps sp ∧ mg x = some (.ref f) ∧ PySem.W.keepIn K (.ref f) = true ∧ Binds K fd ps []
theorem Cal.mono {P : Program} {w : World} {K : Fg} {mg : Str → Option Value} {base : Heap} {j k : Nat} {x : Str} {ps : List Str} {sp : Sp} (C : Cal P w K mg base j x ps sp) (h : j ≤ k) : Cal P w K mg base k x ps sp := by
 obtain ⟨f, fd, F, m, kp, b⟩ := C.ex
 exact ⟨f, fd, F.mono h, m, kp, b⟩
theorem Xd {P : Program} {w : World} {K : Fg} {mg : Str → Option Value} {base : Heap} {k : Nat} {x : Str} {st : Stmt} {N ps : List Str} {sp : Sp} (F : Fn K mg x st) (S : FnScope N ps (Qf st))
  (hb : ∀ (kV doc pm : Value) (an : Option Addr) (cdv ct : Value) (us : List Value), us.length = ps.length → bindArgs (PySem.W.fnOf x x (Qu st) (Qt st) (Qf st) .none kV doc pm an cdv ct) ⟨us, []⟩ = pure (ps.zip us)) (len : ∀ vs H Q E, sp vs H Q E → vs.length = ps.length)
  (hbody : ∀ (f : Addr) (cdv : Value) (A : Around) (outer : List Env) (s : Shared) (H : Hp) (vs : List V) (Q : VK) (E : XK), Room k (A.deeper (envOfC x (Qf st) s.heap.objs.size f cdv)) → sp vs H Q E →
   ∃ t, PSs (cxOf CX0 P w K mg base N x (Qf st) f cdv A outer s H E).nox (Qt st) t ∧ t { nx := fun _ H' => Q .non H', rt := Q } (start N vs) H) : Cal P w K mg base (k + 1) x ps sp := by
 obtain ⟨f, fd, F, m⟩ := F
 exact ⟨f, fd, F.ok S len (hbody f), m, F.kp, F.binds hb⟩
section
variable {X : Cx}
theorem Xj {k : Nat} {x : Str} {ps : List Str} {sp : Sp} {e : Expr} {es : List Expr} {t : TA} {p pos : Pos} (C : Cal X.prog X.w X.K X.mg X.base k x ps sp) (hr : Room k X.A) (ha : PA X (e :: es) t) (hg : autoParam (Gl X x) L2.aRfl._auto_1)
  (hdb : autoParam ((x == ("__debug__" : Str)) = false) L2.aDec._auto_1) (he : autoParam (starEach (e :: es) X.env = (false, eval e X.env) :: starEach es X.env) L2.aRfl._auto_1) (hpl : autoParam ((backTo pos (starEach es X.env)).any (·.1) = false) L2.aRfl._auto_1) :
  PE X (.Call (.Name x p) (e :: es) [] pos) (Qsj sp [] E0 t) := by
 obtain ⟨f, fd, F, m, kp, b⟩ := C.ex
 exact Qsk F hr hg m kp b .nil pass0 ha hdb he hpl
theorem Qai {x : Str} {T : String} {pos : Pos} (hm : X.mg x = none) (hv : bootBuiltins x = some (.type T)) (hg : autoParam (Gl X x) L2.aRfl._auto_1) (hn : autoParam (x ≠ "__name__") L2.aDec._auto_1) (hd : autoParam ((x == ("__debug__" : Str)) = false) L2.aDec._auto_1) : PE X (.Name x pos) (tC (.ty T)) :=
 Qsh hg hm hv (v := .ty T) rfl hn hd
end
def gPair (K : Fg) (i j : Nat) : TG := gTup K 2 (Qsi (Qjv i) (Qsi (Qjv j) gNil))
theorem Zi {X : Cx} {K : Fg} {i j : Nat} {x y : Str} {px py pos : Pos} {k : Nat} (hK : X.K = K) (hc : X.calm = true) (hN : X.N.Nodup) (hi : X.N[i]? = some x) (hj : X.N[j]? = some y) (hx : X.env.scope.names.lookup x = some .local) (hy : X.env.scope.names.lookup y = some .local) :
  PG X (.Tuple [.Name x px, .Name y py] k pos) (gPair K i j) := by
 subst hK
 exact Qrl hc (Qal (Xe hN hi (.inl hx) (.inr hx)) (Qal (Xe hN hj (.inl hy) (.inr hy)) Qli))
theorem Xf : bootBuiltins "len" = some (.builtin "len") := by decide +kernel
theorem bt_sum : bootBuiltins "sum" = some (.builtin "sum") := by decide +kernel
theorem Qif : bootBuiltins "all" = some (.builtin "all") := by decide +kernel
theorem Qrs : bootBuiltins "any" = some (.builtin "any") := by decide +kernel
theorem Xk : bootBuiltins "isinstance" = some (.builtin "isinstance") := by decide +kernel
theorem Qig : bootBuiltins "min" = some (.builtin "min") := by decide +kernel
theorem Qad : bootBuiltins "max" = some (.builtin "max") := by decide +kernel
theorem Km : bootBuiltins "sorted" = some (.builtin "sorted") := by decide +kernel
theorem Qmn : bootBuiltins "int" = some (.type "int") := by decide +kernel
theorem Qmo : bootBuiltins "bool" = some (.type "bool") := by decide +kernel
theorem Xo : bootBuiltins "tuple" = some (.type "tuple") := by decide +kernel
theorem Zy : bootBuiltins "list" = some (.type "list") := by decide +kernel
theorem Qmp : bootBuiltins "dict" = some (.type "dict") := by decide +kernel
theorem Qez : bootBuiltins "enumerate" = some (.type "enumerate") := by decide +kernel
theorem Qb {H : Hp} {p : Addr} (h : H p = none) (o : HO) : Same H (upd H p o) := fun b u q => by rw [Qo (Qh q h)]; exact q
theorem Same.tup {K : Fg} {H H' : Hp} {a : Addr} {xs : List V} (e : Same H H') (h : SqT K H a xs) : SqT K H' a xs := by
 rcases h with (h | ⟨o, h⟩) | h
 ·exact .inl (.inl (e _ _ h))
 ·exact .inl (.inr ⟨o, e _ _ h⟩)
 ·exact .inr h
theorem Xa {K : Fg} {H : Hp} {a : Addr} {xs : List V} (h : H a = some (.tup xs)) : SqT K H a xs := .inl (.inl h)
theorem Qj {K : Fg} {H : Hp} {a : Addr} {xs : List V} (h : H a = some (.lst xs)) : SqL K H a xs := .inl (.inl h)
theorem Qsp {K : Fg} {m1 m2 : Bool} {a b : Addr} {xs ys : List V} {g : TG} {tb : TS} {D : Ends} {σ : St} {H : Hp} (Pv : Nat → St → Hp → Prop) (h0 : Pv 0 σ H) (hl : ∀ i σ H, i ≤ min xs.length ys.length → Pv i σ H → Sq K m1 H a xs ∧ Sq K m2 H b ys)
  (hs : ∀ i x y σ H T, xs[i]? = some x → ys[i]? = some y → Pv i σ H → H T = none → g (.ref T) σ (upd H T (.tup [x, y])) fun σ2 H2 => tb { D with nx := Pv (i + 1), ct := Pv (i + 1), bk := D.nx } σ2 H2) (hd : ∀ σ H, Pv (min xs.length ys.length) σ H → D.nx σ H) :
  ∃ W : Nat → Nat → St → Hp → Prop, (∃ m, W 0 m σ H) ∧ ∀ i m σ H, W i m σ H →
   ((Itz K m1 m2 a b).stop i H ∧ D.nx σ H) ∨ ((Itz K m1 m2 a b).go i H ∧ ∃ N : St → Hp → Prop, (∀ σ' H', N σ' H' → ∃ m', m' < m ∧ W (i + 1) m' σ' H') ∧ ∀ x H', (Itz K m1 m2 a b).yld i H x H' → g x σ H' fun σ2 H2 => tb { D with nx := N, ct := N, bk := D.nx } σ2 H2) := by
 refine ⟨fun i m σ H => m = min xs.length ys.length - i ∧ i ≤ min xs.length ys.length ∧ Pv i σ H, ⟨_, rfl, jXb _, h0⟩, ?_⟩
 rintro i m σ H ⟨rfl, hi, p⟩
 obtain ⟨q1, q2⟩ := hl i σ H hi p
 by_cases hlt : i < min xs.length ys.length
 ·have i1 : i < xs.length := by omega
  have i2 : i < ys.length := by omega
  refine .inr ⟨⟨xs, ys, xs[i], ys[i], q1, q2, by simp [i1], by simp [i2]⟩, Pv (i + 1), fun σ' H' p' => ⟨min xs.length ys.length - (i + 1), by omega, rfl, hlt, p'⟩, fun x H' y => ?_⟩
  obtain ⟨T, u, v, rfl, hT, rfl, y1, y2⟩ := y
  exact hs i u v σ H T (y1 xs q1) (y2 ys q2) p hT
 ·have e : i = min xs.length ys.length := by omega
  subst e
  exact .inl ⟨⟨xs, ys, q1, q2, by omega⟩, hd σ H p⟩
theorem Ym {J : It} {n : Nat} {τ0 : St} {g : TG} {tt : TT} {te : TE} {H : Hp} {Q : Addr → Hp → Prop} {D : Addr} (Pv : Nat → St → List V → Hp → Prop)
  (h0 : Pv 0 τ0 [] (upd H D (.lst []))) (hD : ∀ i τ ys H, i ≤ n → Pv i τ ys H → H D = some (.lst ys) ∧ ys.length < sizeLine) (go : ∀ i τ ys H, i < n → Pv i τ ys H → J.go i H) (stop : ∀ τ ys H, Pv n τ ys H → J.stop n H)
  (hs : ∀ i τ ys H x H', i < n → Pv i τ ys H → J.yld i H x H' → g x τ H' fun σ2 H2 => tt σ2 H2 fun ok H3 => if ok = true then te σ2 H3 fun v H4 => H4 D = some (.lst ys) ∧ Pv (i + 1) σ2 (ys ++ [v]) (upd H4 D (.lst (ys ++ [v]))) else Pv (i + 1) σ2 ys H3)
  (hd : ∀ τ ys H, Pv n τ ys H → Q D H) :
  LcW J D τ0 H g tt te Q := by
 refine ⟨fun i m τ ys H => m = n - i ∧ i ≤ n ∧ Pv i τ ys H, ⟨n, by simp, jXb _, h0⟩, ?_⟩
 rintro i m τ ys H ⟨rfl, hi, p⟩
 obtain ⟨z1, z2⟩ := hD i τ ys H hi p
 refine ⟨z1, ?_⟩
 by_cases hlt : i < n
 ·refine .inr ⟨go i τ ys H hlt p, z2, fun τ v H => Pv (i + 1) τ (ys ++ [v]) (upd H D (.lst (ys ++ [v]))), fun τ H => Pv (i + 1) τ ys H, fun τ v H q => ⟨n - (i + 1), by omega, rfl, hlt, q⟩, fun τ H q => ⟨n - (i + 1), by omega, rfl, hlt, q⟩, fun x H' y => hs i τ ys H x H' hlt p y⟩
 ·have e : i = n := by omega
  subst e
  exact .inl ⟨stop τ ys H p, hd τ ys H p⟩
theorem Vals.of_get : ∀ {xs : List V} {us : List Value}, xs.length = us.length → (∀ (i : Nat) x u, xs[i]? = some x → us[i]? = some u → RelV x u) → Vals xs us
 | [], [], _, _ => .nil
 | x :: xs, u :: us, hl, h => .cons (h 0 x u rfl rfl) (Vals.of_get (by simpa using hl) fun i y v e1 e2 => h (i + 1) y v (by simpa using e1) (by simpa using e2))
 | [], _ :: _, hl, _ => by simp at hl
 | _ :: _, [], hl, _ => by simp at hl
section
variable {X : Cx}
def insV (xs : List V) (k : Nat) (y : V) : List V := xs.take k ++ y :: xs.drop k
theorem Vals.ins {xs : List V} {us : List Value} {y : V} {u : Value} (r : Vals xs us) (ry : RelV y u) (k : Nat) : Vals (insV xs k y) (us.take k ++ u :: us.drop k) :=
 (Vals.take k r).append (.cons ry (Vals.drop k r))
theorem Qmq : MtM X "list.insert" (fun x vs H Q => ∃ l xs k y, x = .ref l ∧ vs = [.int k, y] ∧ H l = some (.lst xs) ∧ 0 ≤ k ∧ k ≤ (xs.length : Int) ∧ xs.length < sizeLine ∧ Q .non (upd H l (.lst (insV xs k.toNat y)))) := by
 intro pins s σ H x vs v us Q I rx rv h
 obtain ⟨l, xs, k, y, rfl, rfl, hH, h0, h1, hz, q⟩ := h
 cases rx
 obtain ⟨u1, u2, rfl, ⟨t, rfl⟩, ru⟩ := rv.two
 obtain ⟨z, its, n, r, hl, e⟩ := I.lstM hH
 have fit : ¬ (!Builtin.List.listFitsIndex k) = true := by
  have : Builtin.List.listFitsIndex k = true := by
   unfold Builtin.List.listFitsIndex
   have : (sizeLine : Nat) = 16777216 := by decide
   simp only [zV, decide_eq_true_eq]
   constructor <;> omega
  rw [this]; simp
 refine call_meets F.slot_list_insert ⟨_, e, rfl⟩ F.entry_list_insert (F.args_list_insert_3 _ _ _) (PySem.AutoListH.list_insert_list_int_val_1 l its.toArray n k t u2 fit (by rw [jV]; omega)) ⟨e, ?_⟩
 refine ⟨.non, _, I.lset (its' := its.take k.toNat ++ u2 :: its.drop k.toNat) hH e ?_ (Vals.ins r ru k.toNat) ?_, rfl, q⟩
 ·have e1 : (if k < 0 then (k + ((its.toArray.size : Nat) : Int)).toNat else min k.toNat its.toArray.size) = k.toNat := by
   rw [if_neg (by omega), jV]; omega
  simp only [e1]
  apply Array.toList_inj.mp
  simp
  rw [zQ (by simp)]
 ·unfold insV
  rw [kZ, yV, kW, jYb]
  omega
theorem Qih {e : Expr} {ta : TA} {p pos : Pos} (hm : X.mg "range" = none) (ha : PA X [e] ta) (hg : autoParam (Gl X "range") L2.aRfl._auto_1) (hs : autoParam (starEach [e] X.env = [(false, eval e X.env)]) L2.aRfl._auto_1) :
  PE X (.Call (.Name "range" p) [e] [] pos) (fun σ H Q => ta σ H fun vs H1 => ∃ n : Int, vs = [.int n] ∧ ∀ r, H1 r = none → Q (.ref r) (upd H1 r (.rng 0 n))) := by
 intro pins s σ H Q I h
 refine Call_ (Qab I hg hm boot_range (PyProof.Rows.callWith_type1 (thn (ha pos pins s σ H _ I h) fun us s1 hqP => ?_) hs rfl))
 obtain ⟨vs, H1, I1, r1, q1⟩ := hqP
 obtain ⟨n, e, q⟩ := q1
 subst e
 obtain ⟨u, rfl, t, rfl⟩ := r1.one
 refine call_range_1 ⟨.ref s1.heap.objs.size, upd H1 s1.heap.objs.size (.rng 0 n), I1.laid (fun b u e => jJ _ e) (jZ _) ⟨_, _, _, yZ _ rfl⟩, rfl, q _ (I1.hok.fresh (jZ _))⟩
theorem Vx (hc : X.calm = true) : Jq X (.type "list") (fun xs H Q => ∃ (r : Addr) (n : Int), xs = [.ref r] ∧ H r = some (.rng 0 n) ∧ 0 ≤ n ∧ n ≤ 1000000 ∧ ∀ l, H l = none → Q (.ref l) (upd H l (.lst ((List.range n.toNat).map fun i => V.int (i : Nat))))) := by
 intro pins s σ H xs us Q I rv h
 obtain ⟨r, n, rfl, hr, h0, h1, q⟩ := h
 obtain ⟨u, rfl, ru⟩ := rv.one
 cases ru
 obtain ⟨t, u, v, e⟩ := I.hok r _ hr
 have hz : (sizeLine : Nat) = 16777216 := by decide
 refine call_list_range (n := n.toNat) (I.ok.hd hc) e (small_one (by omega) (by omega) (by omega) (by omega)) (by rw [rangeSize_one]; split <;> omega) (by omega) fun h' tk acc' c' hk hS hI => ?_
 refine ⟨.ref s.heap.objs.size, upd H s.heap.objs.size (.lst ((List.range n.toNat).map fun i => V.int (i : Nat))), I.laid hk (jZ _) ?_, rfl, q _ (I.hok.fresh (jZ _))⟩
 refine ⟨by rw [jQ, wY]; omega, acc'.toList, c', Vals.of_get (by rw [jQ, wY, wV, hI.1]) fun i x u e1 e2 => ?_, by simpa using hS⟩
 obtain ⟨t', rfl⟩ := hI.2 i u (by simpa using e2)
 rw [jY] at e1
 obtain ⟨j, ej, rfl⟩ := yY.mp e1
 have hj := yK.mp ej
 obtain ⟨hj1, hj2⟩ := hj
 rw [List.getElem_range] at hj2
 subst hj2
 exact ⟨t', by simp⟩
theorem Qdc {K : Fg} (hK : X.K = K) : IxR X (rIxL K) := by subst hK; exact Qw
theorem Wp {K : Fg} (hK : X.K = K) : IxR X (rIxT K) := by subst hK; exact Ql
end
end L2
namespace Nb
open PySem L2
structure Mg (mg : Str → Option Value) : Prop where
 len : mg "len" = none
 min : mg "min" = none
 max : mg "max" = none
 sum : mg "sum" = none
 all : mg "all" = none
 any : mg "any" = none
 abs : mg "abs" = none
 isinstance : mg "isinstance" = none
 sorted : mg "sorted" = none
 range_ : mg "range" = none
 zip_ : mg "zip" = none
 tuple_ : mg "tuple" = none
 list_ : mg "list" = none
 int_ : mg "int" = none
 bool_ : mg "bool" = none
 dict_ : mg "dict" = none
 enumerate_ : mg "enumerate" = none
 reversed_ : mg "reversed" = none
 ValueError_ : mg "ValueError" = none
 set_ : mg "set" = none
 str_ : mg "str" = none
theorem atNs {ns : List Int} {k : Int} (h0 : 0 ≤ k) (h : k < (((ns.map V.int).length : Nat) : Int)) : ∃ v : Int, atI (ns.map V.int) k = some (.int v) := by
 have hk : k.toNat < ns.length := by rw [jQ] at h; omega
 have ek : k = ((k.toNat : Nat) : Int) := by omega
 have q : atI (ns.map V.int) ((k.toNat : Nat) : Int) = some (.int ns[k.toNat]) := Qly (by rw [jY, gE hk] <;> rfl)
 rw [← ek] at q
 exact ⟨_, q⟩
def Qmr : Sp := fun vs H Q _ => ∃ z : Int, vs = [.int z] ∧ Q (.bl true) H
theorem Qdd {K : Fg} {H : Hp} {D a : Addr} {ys zs xs : List V} (hD : H D = some (.lst ys)) (h : SqT K H a xs) : SqT K (upd H D (.lst zs)) a xs := by
 rcases h with (h | ⟨o, h⟩) | h
 ·exact .inl (.inl (by rw [Qo (ne_of h hD (by intro z; cases z))]; exact h))
 ·exact .inl (.inr ⟨o, by rw [Qo (ne_of h hD (by intro z; cases z))]; exact h⟩)
 ·exact .inr h
def RowAt (K : Fg) (H : Hp) (t : Addr) (r : List Int × Int) : Prop := ∃ p, SqT K H t [.ref p, .int r.2] ∧ SqT K H p (r.1.map V.int)
theorem RowAt.same {K : Fg} {H H' : Hp} {t : Addr} {r : List Int × Int} (e : Same H H') (h : RowAt K H t r) : RowAt K H' t r := by obtain ⟨p, h1, h2⟩ := h; exact ⟨p, e.tup h1, e.tup h2⟩
theorem RowAt.upd {K : Fg} {H : Hp} {D t : Addr} {ys zs : List V} {r : List Int × Int} (hD : H D = some (.lst ys)) (h : RowAt K H t r) : RowAt K (upd H D (.lst zs)) t r := by obtain ⟨p, h1, h2⟩ := h; exact ⟨p, Qdd hD h1, Qdd hD h2⟩
def RowsAre (K : Fg) (H : Hp) : List V → List (List Int × Int) → Prop := Paired fun v r => ∃ t, v = .ref t ∧ RowAt K H t r
theorem RowsAre.imp {K : Fg} {H H' : Hp} {vs : List V} {rs : List (List Int × Int)} (f : ∀ t r, RowAt K H t r → RowAt K H' t r) (h : RowsAre K H vs rs) : RowsAre K H' vs rs := by
 induction h with
 | nil => exact .nil
 | cons r t ih => obtain ⟨a, e, z⟩ := r; exact .cons ⟨a, e, f _ _ z⟩ ih
theorem RowsAre.snoc {K : Fg} {H : Hp} {vs : List V} {rs : List (List Int × Int)} {t : Addr} {r : List Int × Int} (h : RowsAre K H vs rs) (z : RowAt K H t r) : RowsAre K H (vs ++ [.ref t]) (rs ++ [r]) := by
 induction h with
 | nil => exact .cons ⟨t, rfl, z⟩ .nil
 | cons q t ih => exact .cons q ih
theorem RowsAre.get {K : Fg} {H : Hp} {vs : List V} {rs : List (List Int × Int)} (h : RowsAre K H vs rs) : ∀ {i : Nat} {v : V}, vs[i]? = some v → ∃ t r, v = .ref t ∧ rs[i]? = some r ∧ RowAt K H t r := by
 induction h with
 | nil => intro i v e; simp at e
 | cons q t ih =>
  intro i v e
  cases i with
  | zero => obtain ⟨a, e1, z⟩ := q; simp at e; subst e; exact ⟨a, _, e1, rfl, z⟩
  | succ i => obtain ⟨a, r, e1, e2, z⟩ := ih (i := i) (v := v) (by simpa using e); exact ⟨a, r, e1, by simpa using e2, z⟩
theorem RowsAre.length {K : Fg} {H : Hp} {vs : List V} {rs : List (List Int × Int)} (h : RowsAre K H vs rs) : vs.length = rs.length := Paired.length h
def ProbAt (K : Fg) (H : Hp) (t : Addr) (rs : List (List Int × Int)) (cs : List Int) : Prop := ∃ l c vs, SqT K H t [.ref l, .ref c] ∧ SqL K H l vs ∧ RowsAre K H vs rs ∧ SqT K H c (cs.map V.int)
theorem ProbAt.same {K : Fg} {H H' : Hp} {t : Addr} {rs : List (List Int × Int)} {cs : List Int} (e : Same H H') (h : ProbAt K H t rs cs) : ProbAt K H' t rs cs := by
 obtain ⟨l, c, vs, h1, h2, h3, h4⟩ := h; exact ⟨l, c, vs, e.tup h1, e.seq h2, h3.imp fun _ _ z => z.same e, e.tup h4⟩
theorem at0 {x y : V} : atI [x, y] 0 = some x := by rfl
theorem at1 {x y : V} : atI [x, y] 1 = some y := by rfl
theorem Zz {α : Type} {l : List α} {i : Nat} {x : α} (h : l[i]? = some x) : l.take (i + 1) = l.take i ++ [x] := by rw [List.take_succ, h]; rfl
theorem Yn {ns : List Int} {i : Nat} {v : V} (h : (ns.map V.int)[i]? = some v) : ∃ n, ns[i]? = some n ∧ v = .int n := by
 rw [jY] at h
 cases e : ns[i]? with
 | none => rw [e] at h; cases h
 | some n => rw [e] at h; exact ⟨n, rfl, (Option.some.inj h).symm⟩
def rowD (r : List Int × Int) : D := .tup [.tup (r.1.map .int), .int r.2]
def Qsq (rs : List (List Int × Int)) (cs : List Int) : D := .tup [.lst (rs.map rowD), .tup (cs.map .int)]
theorem Qkd {K : Fg} {H : Hp} {a : Addr} {ns : List Int} (h : SqT K H a (ns.map V.int)) : HasD K H (.ref a) (.tup (ns.map .int)) := by
 refine .tup h (by rw [jQ, jQ]) fun i v x e1 e2 => ?_
 obtain ⟨n, en, rfl⟩ := Yn e1
 rw [jY, en] at e2
 cases e2
 exact .int n
theorem pairD {K : Fg} {H : Hp} {a : Addr} {v w : V} {d e : D} (h : SqT K H a [v, w]) (h1 : HasD K H v d) (h2 : HasD K H w e) : HasD K H (.ref a) (.tup [d, e]) := by
 refine .tup h rfl fun i v x e1 e2 => ?_
 match i with
 | 0 => simp at e1 e2; subst e1 e2; exact h1
 | 1 => simp at e1 e2; subst e1 e2; exact h2
 | i + 2 => simp at e1
theorem RowAt.hasD {K : Fg} {H : Hp} {t : Addr} {r : List Int × Int} (h : RowAt K H t r) : HasD K H (.ref t) (rowD r) := by
 obtain ⟨p, h1, h2⟩ := h
 exact pairD h1 (Qkd h2) (.int _)
theorem RowsAre.hasD {K : Fg} {H : Hp} {l : Addr} {vs : List V} {rs : List (List Int × Int)} (hl : SqL K H l vs) (h : RowsAre K H vs rs) : HasD K H (.ref l) (.lst (rs.map rowD)) := by
 refine .lst hl (by rw [jQ]; exact h.length) fun i v x e1 e2 => ?_
 obtain ⟨t, r, rfl, er, hr⟩ := h.get e1
 rw [jY, er] at e2
 cases e2
 exact hr.hasD
theorem ProbAt.hasD {K : Fg} {H : Hp} {t : Addr} {rs : List (List Int × Int)} {cs : List Int} (h : ProbAt K H t rs cs) : HasD K H (.ref t) (Qsq rs cs) := by
 obtain ⟨l, c, vs, h1, h2, h3, h4⟩ := h
 exact pairD h1 (RowsAre.hasD h2 h3) (Qkd h4)
theorem Vy {n : Nat} (ns ms : List Int) : Alike (n + 1) (.tup (ns.map .int)) (.tup (ms.map .int)) := by
 refine .tup fun i x y e1 e2 => ?_
 rw [jY] at e1 e2
 obtain ⟨a, _, rfl⟩ := yY.mp e1
 obtain ⟨b, _, rfl⟩ := yY.mp e2
 exact .int a b
theorem Qfa {n : Nat} {a b c d : D} (h1 : Alike n a c) (h2 : Alike n b d) : Alike (n + 1) (.tup [a, b]) (.tup [c, d]) := by
 refine .tup fun i x y e1 e2 => ?_
 match i with
 | 0 => simp at e1 e2; subst e1 e2; exact h1
 | 1 => simp at e1 e2; subst e1 e2; exact h2
 | i + 2 => simp at e1
theorem Qpk {n : Nat} (r r' : List Int × Int) : Alike (n + 2) (rowD r) (rowD r') := Qfa (Vy _ _) (.int _ _)
theorem Vz {n : Nat} (rs rs' : List (List Int × Int)) : Alike (n + 3) (.lst (rs.map rowD)) (.lst (rs'.map rowD)) := by
 refine .lst fun i x y e1 e2 => ?_
 rw [jY] at e1 e2
 obtain ⟨a, _, rfl⟩ := yY.mp e1
 obtain ⟨b, _, rfl⟩ := yY.mp e2
 exact Qpk a b
theorem Qms {n : Nat} (rs rs' : List (List Int × Int)) (cs cs' : List Int) : Alike (n + 4) (Qsq rs cs) (Qsq rs' cs') := Qfa (Vz rs rs') (Vy _ _)
def put (ns : List Int) (t : List Nat) : Nat → List Int
 | 0 => List.replicate t.length 0
 | m + 1 => (put ns t m).set (t.getD m 0) (ns.getD m 0)
theorem Kv (ns : List Int) (t : List Nat) : ∀ m, (put ns t m).length = t.length
 | 0 => xQ
 | m + 1 => by show ((put ns t m).set _ _).length = _; rw [zX, Kv ns t m]
structure IsTurn (n : Nat) (t : List Nat) : Prop where
 perm : t.Perm (List.range n)
theorem IsTurn.length {n : Nat} {t : List Nat} (h : IsTurn n t) : t.length = n := by rw [h.perm.length_eq, wY]
theorem IsTurn.nodup {n : Nat} {t : List Nat} (h : IsTurn n t) : t.Nodup := h.perm.nodup_iff.mpr List.nodup_range
theorem IsTurn.mem {n : Nat} {t : List Nat} (h : IsTurn n t) {k : Nat} : k ∈ t ↔ k < n := by rw [h.perm.mem_iff, wZ]
theorem IsTurn.lt {n : Nat} {t : List Nat} (h : IsTurn n t) {i k : Nat} (e : t[i]? = some k) : k < n := h.mem.mp (kK e)
theorem Qsr {l : List Nat} {i k : Nat} (h : l[i]? = some k) : l.getD i 0 = k := by simp [List.getD, h]
theorem Qpl {n : Nat} {t : List Nat} (h : IsTurn n t) (k : Nat) : IsTurn (n + 1) (t.take k ++ n :: t.drop k) := by
 refine ⟨List.perm_middle.trans ?_⟩
 rw [List.take_append_drop, jJe]
 exact (h.perm.cons n).trans (List.perm_append_singleton n (List.range n)).symm
def tI (t : List Nat) : List Int := t.map (fun k : Nat => (k : Int))
theorem Js (t : List Nat) : (tI t).length = t.length := jQ _
theorem tI_at {t : List Nat} {i : Nat} {z : Int} (h : (tI t)[i]? = some z) : ∃ k, t[i]? = some k ∧ z = (k : Int) := by
 unfold tI at h
 rw [jY] at h
 obtain ⟨k, e, rfl⟩ := yY.mp h
 exact ⟨k, e, rfl⟩
theorem rep1 (n : Nat) (x : V) : (List.replicate n [x]).flatten = List.replicate n x := by
 induction n with
 | zero => rfl
 | succ n ih => rw [wX, jXe, ih, wX]; rfl
theorem Vl {n k : Nat} (h : k < n) : ixN n (k : Int) = some k := by
 unfold ixN
 rw [if_pos (by omega), if_pos (by omega)]
 simp
theorem Xx {α : Type} {xs : List α} {k : Nat} {x : α} (h : xs[k]? = some x) : atI xs (k : Int) = some x := Qly h
theorem lstD {K : Fg} {H : Hp} {a : Addr} {ns : List Int} (h : SqL K H a (ns.map V.int)) : HasD K H (.ref a) (.lst (ns.map .int)) := by
 refine .lst h (by rw [jQ, jQ]) fun i v x e1 e2 => ?_
 obtain ⟨n, en, rfl⟩ := Yn e1
 rw [jY, en] at e2
 cases e2
 exact .int n
theorem Qii {ns : List Int} {t : List Nat} {i k : Nat} {x : Int} (e1 : ns[i]? = some x) (e2 : t[i]? = some k) : put ns t (i + 1) = (put ns t i).set k x := by
 show (put ns t i).set (t.getD i 0) (ns.getD i 0) = _
 rw [Qsr e2]
 simp [List.getD, e1]
def Qij (K : Fg) : Sp := fun vs H Q _ => ∃ (r u : Addr) (row : List Int × Int) (n : Nat) (t : List Nat), vs = [.ref r, .ref u] ∧ RowAt K H r row ∧ SqL K H u ((tI t).map V.int) ∧ IsTurn n t ∧ row.1.length = n ∧ n ≤ 1000 ∧ ∀ (r' : Addr) (H' : Hp), Same H H' → RowAt K H' r' (put row.1 t n, row.2) → Q (.ref r') H'
def Qpm (K : Fg) : Sp := fun vs H Q _ => ∃ (a : Addr) (ns : List Int), vs = [.ref a] ∧ SqL K H a (ns.map V.int) ∧ ns.length ≤ 63 ∧ ∀ H', Q (.bl true) H'
end Nb
namespace L2
open PySem PySem.Spec PyProof.Rows
section
variable (P : Program) (w : World)
end
section
variable {P : Program} {w : World} {H H' : Hp} {h h' : Heap} {a : Addr} {o : HO}
end
section
variable {P : Program} {w : World} {H : Hp} {h h' : Heap} {x e : Addr} {o' : HO}
end
section
variable {fs fs' ex ex' : List Addr} {H H1 H2 : Hp} {h h1 h2 h' : Heap} {a x e : Addr} {o : HO}
end
section
variable {X : Cx} {pins : List (Addr × Obj)} {σ : List (Option V)} {H H' : Hp} {s : Shared} {h' : Heap}
end
section
variable {X : Cx}
variable {a b : Expr} {ta tb : TE} {pos : Pos}
variable {tA tB' : TT} {rest : List Expr}
end
section
variable {X : Cx} {pins : List (Addr × Obj)} {σ : St} {H : Hp} {s : Shared} {a : Addr} {xs ys : List V}
end
section
variable {X : Cx} {pins : List (Addr × Obj)} {σ : St} {H : Hp} {s : Shared} {E : Value → Shared → Prop}
end
section
variable {X : Cx} {st : Stmt} {rest : List Stmt} {t u : TS} {e : Expr} {te : TE} {pos : Pos}
end
section
variable {X : Cx} {pos : Pos}
end
section
variable {X : Cx} {pos : Pos}
end
section
variable {X : Cx} {tg : Expr}
end
section
variable {X : Cx} {a b c : Expr} {ta tb tc : TE} {pos : Pos}
end
section
variable {X : Cx} {a b c : Expr} {ta tb tc : TE} {pos : Pos}
end
section
variable {prog : Program} {w : World} {A : Around} {E : Value → Shared → Prop} {s : Shared} {K : Fg} {x dx C f : Addr} {mA : Str → Option Value} {name : Str} {v : Value}
end
section
variable {P : Program} {w : World} {H H' : Hp} {h h' : Heap} {a C dx : Addr} {fs fs' : List (Str × V)}
end
section
variable {X : Cx} {pins : List (Addr × Obj)} {σ : St} {H : Hp} {s : Shared} {a C dx : Addr} {fs : List (Str × V)} {f : Str} {v : V} {A : Around} {E : Value → Shared → Prop}
end
section
variable {X : Cx} {o e value : Expr} {f : Str} {pos pos' tpos : Pos} {ta tv : TE}
end
section
variable {X : Cx} {pins : List (Addr × Obj)} {σ : St} {H : Hp} {s : Shared} {A : Around} {E : Value → Shared → Prop} {Q : Value → Shared → Prop} {c : Value} {b : Bool}
end
section
variable {X : Cx} {e : Expr} {es : List Expr} {te : TE} {t : TA} {pos : Pos}
end
section
variable {X : Cx} {pins : List (Addr × Obj)} {σ : St} {H : Hp} {s s' : Shared}
end
section
variable {X : Cx} {CX : CXT} {k : Nat} {f C : Addr} {fd : FuncData} {ps : List Str} {sp : Sp} {dvs : List V} {ds : List Value} {E : XK} {x m : Str} {p pos apos : Pos} {e o : Expr} {es : List Expr} {ta : TE} {t : TA}
end
section
variable {X : Cx} {CX : CXT} {k : Nat} {f C : Addr} {fd : FuncData} {ps ks : List Str} {sp : Sp} {E : XK} {x m : Str} {p pos apos kpos : Pos} {e o : Expr} {es : List Expr} {kws : List Keyword} {te ta : TE} {t tk : TA} {nm : Option Str}
variable {g : List Value → List Value → List Value} {gV : List V → List V → List V}
end
section
variable {X : Cx} {x : Str} {p pos : Pos} {e : Expr} {es : List Expr} {t : TA} {id T : String} {r : List V → Hp → VK → Prop}
end
section
variable {κ : Type} [DecidableEq κ]
def valV (kvs : List (κ × V)) (k : κ) : Option V := (kvs.find? fun kv => decide (kv.1 = k)).map (·.2)
def putK (kvs : List (κ × V)) (k : κ) (v : V) : List (κ × V) :=
 if (kvs.any fun kv => decide (kv.1 = k)) = true then kvs.map (fun kv => if kv.1 = k then (kv.1, v) else kv) else kvs ++ [(k, v)]
theorem Zb {p : κ × V} {r : List (κ × V)} {k : κ} (e : p.1 = k) : valV (p :: r) k = some p.2 := by simp [valV, jZa, e]
theorem Zc {p : κ × V} {r : List (κ × V)} {k : κ} (e : ¬ p.1 = k) : valV (p :: r) k = valV r k := by simp [valV, jZa, e]
theorem Qde (k : κ) : ∀ kvs : List (κ × V), (kvs.any fun kv => decide (kv.1 = k)) = (valV kvs k).isSome
 | [] => rfl
 | p :: r => by
  rw [kQb]
  by_cases e : p.1 = k
  ·simp only [Zb e, jW e, Bool.true_or, Option.isSome_some]
  ·rw [Zc e, yQ e, Bool.false_or]; exact Qde k r
theorem Qik (k j : κ) (y : V) : ∀ kvs : List (κ × V), valV (kvs.map fun kv => if kv.1 = k then (kv.1, y) else kv) j = (valV kvs j).map fun x => if j = k then y else x
 | [] => rfl
 | p :: r => by
  have ih := Qik k j y r
  rw [xX]
  by_cases h : p.1 = k
  ·rw [if_pos h]
   by_cases e : p.1 = j
   ·rw [Zb (p := (p.1, y)) e, Zb e, kXb, if_pos (e.symm.trans h)]
   ·rw [Zc (p := (p.1, y)) e, Zc e, ih]
  ·rw [if_neg h]
   by_cases e : p.1 = j
   ·rw [Zb (p := p) e, Zb e, kXb, if_neg (fun z => h (e.trans z))]
   ·rw [Zc (p := p) e, Zc e, ih]
theorem Qfb (k j : κ) (y : V) : ∀ kvs : List (κ × V), valV kvs k = none → valV (kvs ++ [(k, y)]) j = if j = k then some y else valV kvs j
 | [], _ => by
  by_cases e : k = j
  ·rw [if_pos e.symm]; exact Zb (p := (k, y)) e
  ·rw [if_neg (fun z => e z.symm)]; exact Zc (p := (k, y)) e
 | p :: r, hn => by
  rw [List.cons_append]
  have hk : ¬ p.1 = k := fun z => by rw [Zb z] at hn; cases hn
  rw [Zc hk] at hn
  have ih := Qfb k j y r hn
  by_cases e : p.1 = j
  ·rw [Zb e, Zb e, if_neg (fun z => hk (e.trans z))]
  ·rw [Zc e, Zc e, ih]
theorem Qpn (kvs : List (κ × V)) (k j : κ) (y : V) : valV (putK kvs k y) j = if j = k then some y else valV kvs j := by
 unfold putK
 by_cases a : (kvs.any fun kv => decide (kv.1 = k)) = true
 ·rw [if_pos a, Qik]
  rw [Qde] at a
  by_cases e : j = k
  ·obtain ⟨x, hx⟩ := jYa.mp a
   rw [if_pos e, e, hx, kXb, if_pos rfl]
  ·rw [if_neg e]
   cases valV kvs j with
   | none => rfl
   | some x => rw [kXb, if_neg e]
 ·rw [if_neg a]
  refine Qfb k j y kvs ?_
  rw [Qde] at a
  cases q : valV kvs k with
  | none => rfl
  | some x => rw [q] at a; exact (a rfl).elim
theorem Qbl (kvs : List (κ × V)) (k : κ) (v : V) : (putK kvs k v).length ≤ kvs.length + 1 := by
 unfold putK
 split
 ·rw [jQ]; omega
 ·rw [kZ, yV, jQb]; omega
theorem RelO.isSome_eq {o : Option V} {u : Option Value} (r : RelO o u) : o.isSome = u.isSome := by
 cases o with
 | none => cases u with
  | none => rfl
  | some _ => exact (show False from r).elim
 | some _ => cases u with
  | none => exact (show False from r).elim
  | some _ => rfl
theorem RelO.getD {o : Option V} {u : Option Value} {d : V} {d' : Value} (r : RelO o u) (rd : RelV d d') : RelV (o.getD d) (u.getD d') := by
 cases o with
 | none => cases u with
  | none => exact rd
  | some _ => exact (show False from r).elim
 | some _ => cases u with
  | none => exact (show False from r).elim
  | some _ => exact r
theorem KV.val {kvs : List (κ × V)} {vs : List (κ × Value)} (r : KV kvs vs) (k : κ) : RelO (valV kvs k) (valueAt vs k) := by
 unfold KV at r
 induction r with
 | nil => exact True.intro
 | @cons p q ps qs h t ih =>
  obtain ⟨h1, h2⟩ := h
  by_cases e : p.1 = k
  ·have e' : q.1 = k := h1.symm.trans e
   have b : valueAt (q :: qs) k = some q.2 := by simp [valueAt, jZa, e']
   rw [Zb e, b]; exact h2
  ·have e' : ¬ q.1 = k := fun z => e (h1.trans z)
   have b : valueAt (q :: qs) k = valueAt qs k := by simp [valueAt, jZa, e']
   rw [Zc e, b]; exact ih
theorem KV.any {kvs : List (κ × V)} {vs : List (κ × Value)} (r : KV kvs vs) (k : κ) : (kvs.any fun kv => decide (kv.1 = k)) = vs.any fun kv => decide (kv.1 = k) := by
 unfold KV at r
 induction r with
 | nil => rfl
 | cons h t ih => rw [kQb, kQb, ih, h.1]
theorem KV.repl {kvs : List (κ × V)} {vs : List (κ × Value)} (r : KV kvs vs) (k : κ) {y : V} {u : Value} (ry : RelV y u) :
  KV (kvs.map fun kv => if kv.1 = k then (kv.1, y) else kv) (vs.map fun kv => if kv.1 = k then (kv.1, u) else kv) := by
 unfold KV at r ⊢
 induction r with
 | nil => exact .nil
 | @cons p q ps qs h t ih =>
  rw [xX, xX]
  refine .cons ?_ ih
  obtain ⟨h1, h2⟩ := h
  by_cases e : p.1 = k
  ·rw [if_pos e, if_pos (h1.symm.trans e)]; exact ⟨h1, ry⟩
  ·rw [if_neg e, if_neg (fun z => e (h1.trans z))]; exact ⟨h1, h2⟩
theorem KV.put {kvs : List (κ × V)} {vs : List (κ × Value)} (r : KV kvs vs) (k : κ) {y : V} {u : Value} (ry : RelV y u) : KV (putK kvs k y) (stored vs k u) := by
 unfold putK stored
 rw [r.any k]
 by_cases e : (vs.any fun kv => decide (kv.1 = k)) = true
 ·rw [if_pos e, if_pos e]; exact r.repl k ry
 ·rw [if_neg e, if_neg e]; exact Paired.snoc r ⟨rfl, ry⟩
theorem KV.length {kvs : List (κ × V)} {vs : List (κ × Value)} (r : KV kvs vs) : kvs.length = vs.length := Paired.length r
end
theorem Qpo {P : Program} {w : World} {k : Key} {u : Value} (r : RelV (kV k) u) : (Yx P w).is k u = true := by
 cases k with
 | inl i => obtain ⟨t, e⟩ := (show ∃ t, u = Value.int i t from r); subst e; exact Qbb P w i t
 | inr x => obtain ⟨t, e⟩ := (show ∃ t, u = Value.str x t from r); subst e; exact Qgp P w x t
theorem Qfc {P : Program} {w : World} : ∀ {ks : List Key} {us : List Value}, Vals (ks.map kV) us → ItemsAre (Yx P w) ks us
 | [], _, r => by rw [jJb] at r; cases r; exact .nil
 | k :: ks, _, r => by
  rw [xX] at r
  cases r with
  | cons h t => exact .cons (Qpo h) (Qfc t)
abbrev KT (H : Hp) : List (List Key × V) → List (List Key × Addr × Value) → Prop := Paired fun p q => p.1 = q.1 ∧ H q.2.1 = some (.tup (p.1.map kV)) ∧ RelV p.2 q.2.2
theorem KT.val {H : Hp} {kvs : List (List Key × V)} {xs : List (List Key × Addr × Value)} (r : KT H kvs xs) (k : List Key) : RelO (valV kvs k) ((atKey xs k).map (·.2)) := by
 induction r with
 | nil => exact True.intro
 | @cons p q ps qs h t ih =>
  obtain ⟨h1, _, h2⟩ := h
  by_cases e : p.1 = k
  ·have e' : q.1 = k := h1.symm.trans e
   have b : atKey (q :: qs) k = some q.2 := by simp [atKey, jZa, e']
   rw [Zb e, b]; exact h2
  ·have e' : ¬ q.1 = k := fun z => e (h1.trans z)
   have b : atKey (q :: qs) k = atKey qs k := by simp [atKey, jZa, e']
   rw [Zc e, b]; exact ih
section
variable {P : Program} {w : World} {H : Hp} {h : Heap} {a : Addr}
theorem rd_of {u : HO} (ok : HOk P w H h) (e : Rd H a u) : ObjOk P w H h a u := e.ok ok
theorem Qke {kvs : List (Key × V)} (ok : HOk P w H h) (e : Rd H a (.dK kvs)) : kvs.length ≤ sizeLine ∧ (a == sysModules) = false ∧ ∃ vs, KV kvs vs ∧ h.DictOf (Yx P w) a vs :=
 show ObjOk P w H h a (.dK kvs) from rd_of ok e
theorem dk_of {kvs : List (Key × V)} (ok : HOk P w H h) (e : H a = some (.dK kvs)) : kvs.length ≤ sizeLine ∧ (a == sysModules) = false ∧ ∃ vs, KV kvs vs ∧ h.DictOf (Yx P w) a vs := Qke ok (.inl e)
theorem Qil {ks : List Key} (ok : HOk P w H h) (e : H a = some (.tup (ks.map kV))) : (tupleKind (Yx P w)).is h ks a := by
 obtain ⟨_, its, r, o, h1, h2, n, h3⟩ := (show ObjOk P w H h a (.tup (ks.map kV)) from ok a _ e)
 exact ⟨o, its.toArray, n, h1, h2, h3, by simpa using Qfc r⟩
theorem Qmt {kvs : List (List Key × V)} (ok : HOk P w H h) (e : Rd H a (.dT kvs)) : kvs.length ≤ sizeLine ∧ (a == sysModules) = false ∧
  ∃ xs, KT H kvs xs ∧ h.DictOfH (tupleKind (Yx P w)) a xs := by
 obtain ⟨z, y, xs, r, o, es, ep, h1, h2, h3, h4, h5⟩ := (show ObjOk P w H h a (.dT kvs) from rd_of ok e)
 refine ⟨z, y, xs, r, o, es, ep, h1, h2, h3, h4, fun x hx => ?_, h5⟩
 have all : ∀ {l : List (List Key × V)} {m : List (List Key × Addr × Value)}, KT H l m → ∀ x ∈ m, (tupleKind (Yx P w)).is h x.1 x.2.1 := by
  intro l m q
  induction q with
  | nil => intro x hx; exact nomatch hx
  | @cons p q ps qs hq t ih =>
   intro x hx
   rcases yJ.mp hx with e | hx
   ·subst e
    exact Qil ok (by rw [← hq.1]; exact hq.2.1)
   ·exact ih x hx
 exact all r x hx
end
def DGet (H : Hp) (a : Addr) (y : V) (r : Option V) : Prop :=
 (∃ kvs k, Rd H a (.dK kvs) ∧ y = kV k ∧ r = valV kvs k) ∨ ∃ kvs k b, Rd H a (.dT kvs) ∧ y = .ref b ∧ H b = some (.tup (k.map kV)) ∧ r = valV kvs k
theorem DGet.k {H : Hp} {a : Addr} {kvs : List (Key × V)} {k : Key} (e : H a = some (.dK kvs)) : DGet H a (kV k) (valV kvs k) := .inl ⟨kvs, k, .inl e, rfl, rfl⟩
section
variable {X : Cx} {pins : List (Addr × Obj)} {σ : St} {H : Hp} {s : Shared} {a : Addr} {y v : V} {u r : Value} {o : Option V} {A : Around} {E : Value → Shared → Prop}
theorem Inv.big (I : Inv X pins σ H s) : sysModules < s.heap.objs.size := by
 have h : mainGlobals < s.heap.objs.size := (I.mod.glob.keeps I.bk).lt
 exact Nat.lt_trans (by decide) h
theorem Qmu {Q : Value → Shared → Prop} (hu : A.units + 1 < cLine) (I : Inv X pins σ H s) (g : DGet H a y (some v)) (ry : RelV y u) (h : ∀ w' s', Inv X pins σ H s' → RelV v w' → Q w' s') :
  wpAny (model X.prog X.w) A (getItem (.ref a) u) Q E s := by
 rcases g with ⟨kvs, k, e, ey, l⟩ | ⟨kvs, k, b, e, ey, eb, l⟩
 ·subst ey
  obtain ⟨z, hd, vs, rel, dd⟩ := Qke I.hok e
  obtain ⟨w', hw, rw'⟩ := RelO.some_of (v := v) (o := valueAt vs k) (by rw [l]; exact rel.val k)
  exact wpAny_getItem_of (Qpo ry) dd.mapOf hw (h w' _ (I.tok _) rw')
 ·subst ey
  cases (show u = Value.ref b from ry)
  obtain ⟨z, hd, xs, rel, dd⟩ := Qmt I.hok e
  obtain ⟨w', hw, rw'⟩ := RelO.some_of (v := v) (o := (atKey xs k).map (·.2)) (by rw [l]; exact rel.val k)
  obtain ⟨p, hp, hp2⟩ := yY.mp hw
  refine wpAny_getItem_heap (tupleKind_room_in1 hu) (Qil I.hok eb) dd hp ?_
  rw [hp2]
  exact h w' _ (I.tok _) rw'
theorem d_in {Q : Value → Shared → Prop} (hu : A.units + 1 < cLine) (I : Inv X pins σ H s) (g : DGet H a y o) (ry : RelV y u) (h : ∀ s', Inv X pins σ H s' → Q (.bool o.isSome) s') :
  wpAny (model X.prog X.w) A (compareOp .In u (.ref a)) Q E s := by
 rcases g with ⟨kvs, k, e, ey, l⟩ | ⟨kvs, k, b, e, ey, eb, l⟩
 ·subst ey
  obtain ⟨z, hd, vs, rel, dd⟩ := Qke I.hok e
  refine wpAny_in_of (Qpo ry) hd dd.mapOf ?_
  rw [← (rel.val k).isSome_eq, ← l]
  exact h _ (I.tok _)
 ·subst ey
  cases (show u = Value.ref b from ry)
  obtain ⟨z, hd, xs, rel, dd⟩ := Qmt I.hok e
  refine wpAny_in_heap (tupleKind_room_in1 hu) (Qil I.hok eb) hd dd ?_
  have q := (rel.val k).isSome_eq
  rw [Option.isSome_map] at q
  rw [← q, ← l]
  exact h _ (I.tok _)
theorem Qss {h' : Heap} {t' : Nat} {ob : HO} (I : Inv X pins σ H s) (mu : Mut (H a)) (hs : Heap.SameBut a s.heap h') (he : ∃ q, h'.get? a = some q) (new : ObjOk X.prog X.w (upd H a ob) h' a ob) :
  Inv X pins σ (upd H a ob) { s with heap := h', toks := t' } :=
 I.write (x := a) (e := a) mu (.inl rfl) (fun b q hb z => (hs.2 b hb).trans z) he new
theorem dk_new {P : Program} {w : World} {H' : Hp} {h' : Heap} {kvs : List (Key × V)} {vs : List (Key × Value)} (z : kvs.length ≤ sizeLine) (hd : (a == sysModules) = false) (rel : KV kvs vs) (dd : h'.DictOf (Yx P w) a vs) :
  ObjOk P w H' h' a (.dK kvs) := ⟨z, hd, vs, rel, dd⟩
end
section
variable {X : Cx} {pins : List (Addr × Obj)} {σ : St} {H : Hp} {s : Shared} {a : Addr} {kvs : List (Key × V)} {k : Key} {u : Value} {A : Around} {E : Value → Shared → Prop}
end
def NoSl (i : Expr) : Prop := ∀ ov iv, subscripted i false ov iv = operate [ov, iv] (getItem ov iv)
theorem Qst {prog : Program} {w : World} {A : Around} {E : Value → Shared → Prop} {s : Shared} {env : Env} {value slice : Expr} {pos : Pos} {T id : String} {Q : Value → Shared → Prop}
  (hl : typeLookup (.type T) "__getitem__" = pure (some (.builtin id))) (hs : NoSl slice)
  (h : wpAny (model prog w) A (eval value env) (fun o s₁ => wpAny (model prog w) A (eval slice env) (fun i s₂ => s₂.TypeIs o T ∧ wpAny (model prog w) A (getItem o i) Q E s₂) E s₁) E s) :
  wpAny (model prog w) A (eval (.Subscript value slice pos) env) Q E s := by
 refine Subscript_ (wpAny_mono h (fun o s₁ h₁ => wpAny_mono h₁ (fun i s₂ h₂ => ?_) fun _ _ x => x) fun _ _ x => x)
 obtain ⟨hT, h₂⟩ := h₂
 unfold subscriptTail
 refine jX ?_
 rw [getitemInPython_of_ne hT.not_modules]
 refine jX (wpAny_specialOf hT hl ?_)
 have fin : wpAny (model prog w) A (subscripted slice false o i) (fun r s₃ => wpAny (model prog w) A (letTemporaryGo value o r >>= fun _ => pure r) Q E s₃) E s₂ := by
  rw [hs o i]
  exact wpAny_operating (wpAny_mono h₂ (fun r s₃ h₃ => jX (wpAny_letTemporaryGo (kQ h₃))) fun _ _ x => x)
 first
  | exact kQ (jX fin)
  | exact jX (kQ (jX fin))
  | exact jX fin
theorem Qgy {X : Cx} {pins : List (Addr × Obj)} {σ : St} {H : Hp} {s : Shared} {a : Addr} {y : V} {o : Option V} (I : Inv X pins σ H s) (g : DGet H a y o) : s.TypeIs (.ref a) "dict" := by
 rcases g with ⟨kvs, k, e, _, _⟩ | ⟨kvs, k, b, e, _, _, _⟩
 ·obtain ⟨_, _, vs, _, dd⟩ := Qke I.hok e
  exact dd.typeIs
 ·obtain ⟨_, _, xs, _, dd⟩ := Qmt I.hok e
  exact dd.typeIs
def tDGet (td ty : TE) : TE := fun σ H Q => td σ H fun x H1 => ty σ H1 fun y H2 => ∃ a v, x = .ref a ∧ DGet H2 a y (some v) ∧ Q v H2
def tDIn (ty td : TE) : TE := fun σ H Q => ty σ H fun y H1 => td σ H1 fun x H2 => ∃ a o, x = .ref a ∧ DGet H2 a y o ∧ Q (.bl o.isSome) H2
section
variable {X : Cx} {o i e value : Expr} {pos pos' tpos : Pos} {td ty tv : TE}
theorem Qsu (hu : X.A.units + 1 < cLine) (ho : PE X o td) (hi : PE X i ty) (hs : NoSl i) : PE X (.Subscript o i pos) (tDGet td ty) := by
 intro pins s σ H Q I h
 refine Qst PySem.F.slot_dict_getitem.lookup hs (thn (ho pins s σ H _ I h) fun u s1 ⟨x, H1, I1, rx, q1⟩ => thn (hi pins s1 σ H1 _ I1 q1) fun iv s2 hqP => ?_)
 obtain ⟨y, H2, I2, ry, a, v, ex, g, q2⟩ := hqP
 subst ex
 obtain rfl : u = Value.ref a := rx
 exact ⟨Qgy I2 g, Qmu hu I2 g ry fun w' s3 I3 rw' => ⟨v, H2, I3, rw', q2⟩⟩
theorem pc_din (hu : X.A.units + 1 < cLine) (hi : PE X i ty) (ho : PE X o td) : PC X .In i o (tDIn ty td) := by
 intro pins s σ H Q I h
 refine thn (hi pins s σ H _ I h) fun iv s1 ⟨y, H1, I1, ry, q1⟩ => thn (ho pins s1 σ H1 _ I1 q1) fun u s2 hqP => ?_
 obtain ⟨x, H2, I2, rx, a, ov, ex, g, q2⟩ := hqP
 subst ex
 obtain rfl : u = Value.ref a := rx
 exact d_in hu I2 g ry fun s3 I3 => ⟨.bl ov.isSome, H2, I3, rfl, q2⟩
end
theorem Qpp {P : Program} {w : World} {H : Hp} (h : Heap) (hb : sysModules < h.objs.size) : ObjOk P w H (h.push { cls := .type "dict", data := .dict #[] }) h.objs.size (.dK []) :=
 ⟨jXb _, beq_eq_false_iff_ne.mpr (Ne.symm (yW hb)), [], .nil, Heap.DictOf.new h⟩
section
variable {X : Cx} {pos : Pos}
end
structure M1 (X : Cx) (o : Expr) (m : Str) (apos : Pos) (e : Expr) (cpos : Pos) : Prop where
 base : attributeBase o m X.env (eval o X.env) = eval o X.env
 few : ((backTo cpos (starEach [e] X.env)).all (fun x => !x.1) && (backToKw cpos (keywordEach [] X.env)).all (fun x => x.1.isSome)
  && decide (([e] : List Expr).length + ([] : List Keyword).length + (if ([] : List Keyword).isEmpty then 0 else 1) < 30)) = true
 line : (apos.endLine == cpos.line) = true
 trees : backTo cpos (starEach [e] X.env) = [(false, eval e X.env)]
def IsD (H : Hp) (a : Addr) : Prop := (∃ kvs, Rd H a (.dK kvs)) ∨ ∃ kvs, Rd H a (.dT kvs)
theorem isD_at {X : Cx} {pins : List (Addr × Obj)} {σ : St} {H : Hp} {s : Shared} {a : Addr} (I : Inv X pins σ H s) (d : IsD H a) :
  s.TypeIs (.ref a) "dict" ∧ (∀ b, Value.ref a = .ref b → ∃ ob, s.heap.get? b = some ob ∧ ob.dict = none) ∧ (a == sysModules) = false := by
 rcases d with ⟨kvs, e⟩ | ⟨kvs, e⟩
 ·obtain ⟨_, hd, vs, _, dd⟩ := Qke I.hok e
  refine ⟨dd.typeIs, fun b q => ?_, hd⟩
  cases q
  obtain ⟨ob, _, _, h1, h2, _⟩ := dd
  exact ⟨ob, h1, h2.2.1⟩
 ·obtain ⟨_, hd, xs, _, dd⟩ := Qmt I.hok e
  refine ⟨dd.typeIs, fun b q => ?_, hd⟩
  cases q
  obtain ⟨ob, _, _, h1, h2, _⟩ := dd
  exact ⟨ob, h1, h2.2.1⟩
section
variable {X : Cx} {pins : List (Addr × Obj)} {σ : St} {H : Hp} {s : Shared} {a : Addr} {y d : V} {u r : Value} {o : Option V} {A : Around} {E : Value → Shared → Prop}
theorem d_get1 {Q : Value → Shared → Prop} (hu : A.units + 1 < cLine) (I : Inv X pins σ H s) (g : DGet H a y o) (ry : RelV y u) (h : ∀ w' s', Inv X pins σ H s' → RelV (o.getD .non) w' → Q w' s') :
  wpAny (model X.prog X.w) A (call (.builtin "dict.get") [.ref a, u]) Q E s := by
 rcases g with ⟨kvs, k, e, ey, l⟩ | ⟨kvs, k, b, e, ey, eb, l⟩
 ·subst ey
  obtain ⟨z, hd, vs, rel, dd⟩ := Qke I.hok e
  refine call_meetsIn PySem.F.slot_dict_get dd.typeIs PySem.F.entry_dict_get (PySem.F.args_dict_get_2 _ _) (meets_dict_get (Yx X.prog X.w) a (Qpo ry) hd) ⟨_, dd.mapOf, h _ _ (I.tok _) ?_⟩
  rw [l]
  exact (rel.val k).getD rfl
 ·subst ey
  cases (show u = Value.ref b from ry)
  obtain ⟨z, hd, xs, rel, dd⟩ := Qmt I.hok e
  refine call_meetsIn PySem.F.slot_dict_get dd.typeIs PySem.F.entry_dict_get (PySem.F.args_dict_get_2 _ _) (meetsH_dict_get (tupleKind (Yx X.prog X.w)) a b hd) ⟨tupleKind_room_in1 hu, k, xs, Qil I.hok eb, dd, h _ _ (I.tok _) ?_⟩
  rw [l]
  exact (rel.val k).getD rfl
end
def tDGet1 (td ty : TE) : TE := fun σ H Q => td σ H fun x H1 => ∃ a, x = .ref a ∧ IsD H1 a ∧ ty σ H1 fun y H2 => ∃ o, DGet H2 a y o ∧ Q (o.getD .non) H2
section
variable {X : Cx} {o e f : Expr} {apos cpos : Pos} {td ty tx : TE}
theorem Qpq (hu : X.A.units + 1 < cLine) (ho : PE X o td) (he : PE X e ty) (m : M1 X o "get" apos e cpos) : PE X (.Call (.Attribute o "get" apos) [e] [] cpos) (tDGet1 td ty) := by
 intro pins s σ H Q I h
 refine wpAny_Call_method m.base m.few m.line PySem.F.plainAttrs_dict PySem.F.slot_dict_get PySem.F.type_dict_get (thn (ho pins s σ H _ I h) fun u s1 hqP => ?_)
 obtain ⟨x, H1, I1, rx, a, ex, d, q1⟩ := hqP
 subst ex
 obtain rfl : u = Value.ref a := rx
 obtain ⟨t1, t2, _⟩ := isD_at I1 d
 refine ⟨t1, t2, ?_⟩
 rw [m.trees]
 refine Calls.callWith_builtin rfl (Calls.evalArgs_plain (Calls.spliced_cons (thn (he pins s1 σ H1 _ I1 q1) fun iv s2 ⟨y, H2, I2, ry, ov, g, q2⟩ => Calls.spliced_nil ?_)))
 exact d_get1 hu I2 g ry fun w' s3 I3 rw' => ⟨_, H2, I3, rw', q2⟩
end
section
variable {X : Cx} {pins : List (Addr × Obj)} {σ : St} {H : Hp} {s : Shared} {a : Addr} {kvs : List (Key × V)} {A : Around} {E : Value → Shared → Prop}
end
section
variable {X : Cx} {pins : List (Addr × Obj)} {σ : St} {H : Hp} {s : Shared} {a : Addr} {y : V} {u : Value} {A : Around} {E : Value → Shared → Prop}
end
end L2
namespace Att
open PySem PySem.W PySem.Calls PyProof.Rows
section
variable {prog : Program} {w : World} {A : Around} {E : Value → Shared → Prop} {s : Shared} {K : Frag}
end
end Att
namespace L2
open PySem PySem.Spec PyProof.Rows
section
variable {P : Program} {w : World} {K : Fg} {mg : Str → Option Value} {base : Heap}
end
section
variable {X : Cx}
end
section
variable {κ : Type} [DecidableEq κ]
end
theorem Qfd : typeLookup (.type "list") "keys" = pure none := by rw [typeLookup_type, builtinLookup_eq_fast]; kernel_rfl
section
variable {prog : Program} {w : World} {A : Around} {E : Value → Shared → Prop}
theorem Qdf {s : Shared} {a : Addr} {xs : Array Value} {k : Nat} {sl : Array (Option Value)} {Q : Option Value → Shared → Prop} (hx : s.heap.get? a = some { cls := .type "list", dict := none, data := .seq xs k, slots := sl }) (hA : A.handled = none)
  (h : ∀ h' tk, (∀ b o, s.heap.get? b = some o → h'.get? b = some o) → Q none { s with heap := h', toks := tk }) : wpAny (model prog w) A (getAttr? (.ref a) "keys") Q E s := by
 obtain ⟨hp, g, d, tk, os⟩ := s
 have hT : ∀ tk', (⟨hp, g, d, tk', os⟩ : Shared).TypeIs (.ref a) "list" := fun _ => ⟨_, hx, rfl⟩
 have f1 := sub_AttributeError
 have f3 := F.slot_list_getattribute.lookup
 have f4 := F.slot_list_getattribute.bind (.ref a)
 have f5 := am_list_getattr_none
 have hname : (["__module__", "__name__", "__qualname__", "__doc__", "__annotations__"] : List Str).contains "keys" = false := by decide +kernel
 unfold getAttr? getAttrBy? getAttrBy
 repeat (any_goals (first | assumption | exact hT _ | ((with_reducible show wpAny _ _ (call (Value.builtin "list.__getattribute__") _ _) _ _ _); refine call_meets F.slot_list_getattribute (hT _) am_entry_list_getattribute (F.args_list_getattribute_2 _ _) (meets_getattribute_miss_list a xs k sl "keys" _ Qfd hname (by decide +kernel)) ⟨hx, hA, fun h' tk' e hx' => ?_⟩) | wp_step))
 have hxo := hx'.of
 obtain ⟨⟨cl, dc, da, sl2⟩, vs, he, hc, _, _⟩ := hxo.there
 simp only at hc
 subst hc
 have hE : ∀ tk2, (⟨h', g, d, tk2, os⟩ : Shared).TypeIs (.ref e) "AttributeError" := fun _ => ⟨_, he, rfl⟩
 show wpAny _ _ (getattributeRaised _ _ _ _ _ _ _) _ _ _
 unfold getattributeRaised
 repeat (any_goals (first | assumption | exact hE _ | wp_step))
 all_goals exact h _ _ hxo.keeps
end
def Qfe : entryFor table "dict.update.loop" = some Builtin.«dict.update.loop» := entryFor_of_tree (by kernel_rfl)
theorem Wa : plainId "dict.update.loop" = true := by decide +kernel
section
variable {X : Cx}
def PairsAre (K : Fg) (H : Hp) : List V → List (Int × V) → Prop := Paired fun v p => ∃ t, v = .ref t ∧ SqT K H t [.int p.1, p.2]
theorem PairsAre.get {K : Fg} {H : Hp} {vs : List V} {ps : List (Int × V)} (h : PairsAre K H vs ps) : ∀ {i : Nat} {v : V}, vs[i]? = some v → ∃ t p, v = .ref t ∧ ps[i]? = some p ∧ SqT K H t [.int p.1, p.2] := by
 induction h with
 | nil => intro i v e; simp at e
 | cons q t ih =>
  intro i v e
  cases i with
  | zero => obtain ⟨a, e1, z⟩ := q; simp at e; subst e; exact ⟨a, _, e1, rfl, z⟩
  | succ i => obtain ⟨a, r, e1, e2, z⟩ := ih (i := i) (v := v) (by simpa using e); exact ⟨a, r, e1, by simpa using e2, z⟩
theorem PairsAre.imp {K : Fg} {H H' : Hp} {vs : List V} {ps : List (Int × V)} (f : ∀ t xs, SqT K H t xs → SqT K H' t xs) (h : PairsAre K H vs ps) : PairsAre K H' vs ps := by
 induction h with
 | nil => exact .nil
 | cons r t ih => obtain ⟨a, e, z⟩ := r; exact .cons ⟨a, e, f _ _ z⟩ ih
theorem PairsAre.length {K : Fg} {H : Hp} {vs : List V} {ps : List (Int × V)} (h : PairsAre K H vs ps) : vs.length = ps.length := Paired.length h
def Yr (ps : List (Int × V)) : List (Key × V) := ps.foldl (fun d p => putK d (Sum.inl p.1) p.2) []
theorem Qff {ps : List (Int × V)} {i : Nat} {p : Int × V} (h : ps[i]? = some p) : Yr (ps.take (i + 1)) = putK (Yr (ps.take i)) (Sum.inl p.1) p.2 := by
 unfold Yr
 rw [List.take_succ, h, jZe]
 rfl
theorem Qgz (ps : List (Int × V)) : (Yr ps).length ≤ ps.length := by
 have : ∀ (l : List (Int × V)) (d : List (Key × V)), (l.foldl (fun d p => putK d (Sum.inl p.1) p.2) d).length ≤ d.length + l.length := by
  intro l
  induction l with
  | nil => intro d; simp
  | cons p r ih => intro d; have := ih (putK d (Sum.inl p.1) p.2); have h2 := Qbl d (Sum.inl p.1 : Key) p.2; simp only [jJd, yV] at *; omega
 exact jQf (this ps []) (by simp)
theorem Qpr {pins : List (Addr × Obj)} {σ : St} {H : Hp} {d it l : Addr} {vs : List V} {ps : List (Int × V)} {A : Around} {R : Result → Shared → Prop} (hh : A.handled = none) (hd : H d = none) (hl : SqL X.K H l vs) (hp : PairsAre X.K H vs ps) (hz : ps.length < sizeLine)
  (hR : ∀ s', Inv X pins σ (upd H d (.dK (Yr ps))) s' → R (.ok (.ret .none)) s') :
  ∀ (k i : Nat) (s : Shared), ps.length - i = k → i ≤ ps.length → Inv X pins σ (upd H d (.dK (Yr (ps.take i)))) s → s.heap.IsListIter it l i → FpOk X pins (upd H d (.dK (Yr (ps.take i)))) it →
   codeAny (model X.prog X.w) A (.builtin "dict.update.loop" ⟨[.ref d, .ref it, rawInt i, .none], []⟩) R s := by
 intro k
 induction k with
 | zero =>
  intro i s hk hi I st f
  have ei : i = ps.length := by omega
  subst ei
  rw [wQ] at I f
  have sm : Same H (upd H d (.dK (Yr ps))) := Qb hd _
  obtain ⟨its, r, p, _⟩ := I.list (sm.seq hl)
  have lv := hp.length
  have lr := r.length
  refine codeAny_builtin Qfe ?_
  rw [Around.under_plainId Wa _]
  show wpAny _ A.in1 (pyNext (.ref it) >>= _) _ _ s
  refine jX (wpAny_pyNext_list_end (A := A.in1) hh st p.isList (by simp; omega) fun h' eb => ?_)
  refine jX (kQ (kQ ?_))
  exact hR _ (I.turned (t' := s.toks) (fun b o hb e => eb b o hb e) f.1 f.2.1 f.2.2.2.1 f.2.2.2.2.1 f.2.2.2.2.2)
 | succ k ih =>
  intro i s hk hi I st f
  have sm : Same H (upd H d (.dK (Yr (ps.take i)))) := Qb hd _
  obtain ⟨its, r, p, _⟩ := I.list (sm.seq hl)
  have lv := hp.length
  have hlt : i < vs.length := by omega
  obtain ⟨t, pr, ev, ep, hT⟩ := hp.get (gE hlt)
  obtain ⟨u, hu, ru⟩ := r.get (gE hlt)
  rw [ev] at ru
  cases ru
  refine codeAny_builtin Qfe ?_
  rw [Around.under_plainId Wa _]
  show wpAny _ A.in1 (pyNext (.ref it) >>= _) _ _ s
  refine jX (wpAny_pyNext_list_item st p.isList (x := .ref t) (by simpa using hu) fun h' st' sb => ?_)
  have I1 : Inv X pins σ (upd H d (.dK (Yr (ps.take i)))) { s with heap := h' } := I.turned (t' := s.toks) (fun b o hb e => (sb.2 b hb).trans e) f.1 f.2.1 f.2.2.2.1 f.2.2.2.2.1 f.2.2.2.2.2
  obtain ⟨its2, r2, ⟨ot, gt, ct, nt, dt⟩, _⟩ := I1.tuple (sm.tup hT)
  obtain ⟨u1, u2, rfl, ⟨tk1, rfl⟩, ru2⟩ := r2.two
  refine jX (wpAny_holding ?_)
  refine jX (wpAny_tryCatch ?_)
  unfold Builtin.Dict.pairItems
  refine jX (wpAny_typeOf (T := "tuple") ⟨ot, gt, ct⟩ ?_)
  rw [if_pos (by simp)]
  refine jX (wpAny_seqItems gt dt (kQ ?_))
  show wpAny _ _ (holding [Value.int pr.1 tk1, u2] (dictSet d (Value.int pr.1 tk1) u2)) _ _ _
  obtain ⟨z, hdS, kv, rel, dd⟩ := dk_of I1.hok (Qc (H := H) (a := d) (o := .dK (Yr (ps.take i))))
  have l1 := Qgz (ps.take i)
  rw [kW] at l1
  have hz2 : kv.length ≤ sizeLine := by rw [← rel.length]; exact z
  refine wpAny_holding (wpAny_dictSet_pairs (hsz := hz2) (knd := Yx X.prog X.w) (k := (Sum.inl pr.1 : Key)) (Qbb _ _ _ _) dd fun h2 dd' hs2 => ?_)
  have he2 : ∃ q, h2.get? d = some q := let ⟨q, _, _, hq, _⟩ := dd'; ⟨q, hq⟩
  have l2 := Qbl (Yr (ps.take i)) (Sum.inl pr.1 : Key) pr.2
  have I2 : Inv X pins σ (upd (upd H d (.dK (Yr (ps.take i)))) d (.dK (putK (Yr (ps.take i)) (Sum.inl pr.1) pr.2))) { s with heap := h2, toks := s.toks + 1 } :=
   Qss (s := { s with heap := h' }) I1 (by rw [Qc]; exact True.intro) hs2 he2 (dk_new (by omega) hdS (rel.put _ ru2) dd')
  rw [Qsf, ← Qff ep] at I2
  have nit : it ≠ d := fun e => by have := f.1; rw [e, Qc] at this; cases this
  refine kQ ⟨plainId_quiet Wa _, ?_⟩
  have ei : rawInt ((i : Int) + 1) = rawInt ((i + 1 : Nat) : Int) := by push_cast; rfl
  rw [ei]
  refine ih (i + 1) _ (by omega) (by omega) I2 (st'.at fun o e => hs2.extBut _ _ nit e) ⟨?_, f.2⟩
  have := f.1
  rw [Qo nit] at this ⊢
  exact this
theorem Qae (hc : X.calm = true) : Jq X (.type "dict") (fun xs H Q => ∃ (l : Addr) (vs : List V) (ps : List (Int × V)), xs = [.ref l] ∧ SqL X.K H l vs ∧ PairsAre X.K H vs ps ∧ ps.length < sizeLine ∧ ∀ d, H d = none → Q (.ref d) (upd H d (.dK (Yr ps)))) := by
 intro pins s σ H xs us Q I rv h
 obtain ⟨l, vs, ps, rfl, hl, hp, hz, q⟩ := h
 obtain ⟨u, rfl, ru⟩ := rv.one
 cases ru
 refine callType_codes (Q₁ := fun obj s1 => obj = .ref s.heap.objs.size ∧ s1 = { s with heap := s.heap.push { cls := .type "dict", data := .dict #[] } }) F.kt_called_dict (F.kt_typeCall_dict_1 _) F.entry_dict_init (kt_code_dict_new _ ⟨rfl, rfl⟩) ?_
 rintro obj s1 ⟨rfl, rfl⟩
 have hd : H s.heap.objs.size = none := I.hok.fresh (jZ _)
 have I1 : Inv X pins σ (upd H s.heap.objs.size (.dK [])) { s with heap := s.heap.push { cls := .type "dict", data := .dict #[] } } := I.laid (t' := s.toks) (fun _ _ q => jJ _ q) (jZ _) (Qpp s.heap I.big)
 have sm : Same H (upd H s.heap.objs.size (.dK [])) := Qb hd _
 obtain ⟨z, hdS, kv, rel, dd⟩ := dk_of I1.hok (Qc (H := H) (a := s.heap.objs.size) (o := .dK []))
 refine ⟨dd.typeIs, F.args_dict_init_2 _ _, ?_⟩
 unfold Builtin.«dict.__init__»
 refine jX ?_
 unfold Builtin.Dict.selfAndRest
 refine jX (wpAny_notOrdered_dict dd.typeIs ?_)
 show wpAny _ _ (pure (s.heap.objs.size, [Value.ref l])) _ _ _
 refine kQ ?_
 show wpAny _ _ (Builtin.Dict.updateFrom "dict.__init__" s.heap.objs.size (.ref l) [] .none) _ _ _
 unfold Builtin.Dict.updateFrom
 obtain ⟨its, r, ⟨o, n, e, c, dn, sl⟩, _⟩ := I1.list (sm.seq hl)
 obtain ⟨cls, dct, dat, sls⟩ := o
 simp only at c dn sl
 subst c dn sl
 refine jX (wpAny_typeOf (T := "list") ⟨_, e, rfl⟩ ?_)
 rw [if_pos (by decide)]
 refine jX (Qdf (s := { s with heap := s.heap.push { cls := .type "dict", data := .dict #[] } }) e (by exact I.ok.hd hc) fun h2 tk2 hk2 => ?_)
 have I2 : Inv X pins σ (upd H s.heap.objs.size (.dK [])) { s with heap := h2, toks := tk2 } := I1.kept hk2
 rw [if_pos (by rfl)]
 refine jX (wpAny_rule (jX ?_))
 obtain ⟨its2, r2, p2, _⟩ := I2.list (sm.seq hl)
 refine wpAny_pyIter_list (s := { s with heap := h2, toks := tk2 }) p2.isList ?_
 refine kQ ⟨plainId_quiet Wa _, ?_⟩
 have I3 : Inv X pins σ (upd H s.heap.objs.size (.dK [])) { s with heap := h2.push { cls := .type "list_iterator", data := .fields #[.ref l, .int 0 0] }, toks := tk2 } := I2.kept (t' := tk2) fun b o e => jJ _ e
 have hfr := I2.hok.fresh (a := h2.objs.size) (jZ _)
 refine Qpr (X := X) (pins := pins) (σ := σ) (H := H) (vs := vs) (ps := ps) (A := X.A.in1) (by exact I.ok.hd hc) hd hl hp hz (fun s' I' => ⟨rfl, .ref s.heap.objs.size, _, I', rfl, q _ hd⟩) ps.length 0 _ (by omega) (jXb _) I3 ⟨_, yZ _ rfl, rfl, rfl⟩ (I2.fpOk (jZ _) hfr)
end
section
variable {P : Program} {w : World} {A : Around} {E : Value → Shared → Prop} {s : Shared} {e it l : Addr} {st : Nat → Heap → Prop} {src : List Value → Heap → Prop} {i : Nat} {xs : List Value} {old : Value}
theorem Qdg {x : Value} {Q : Option Value → Shared → Prop} (dr : Drw P w it l st src) (hE : IsEnum s.heap e it i old) (hI : st i s.heap) (hl : src xs s.heap) (hx : xs[i]? = some x) (hne : e ≠ it)
  (hQ : ∀ h', IsEnumOut h' e it ((i : Int) + 1) x s.heap.objs.size → st (i + 1) h' → h'.get? s.heap.objs.size = some { cls := .type "tuple", data := .seq #[.int i s.toks, x] } →
   (∀ b o, b ≠ e → b ≠ it → s.heap.get? b = some o → h'.get? b = some o) → Q (some (.ref s.heap.objs.size)) { s with heap := h', toks := s.toks + 1 }) : wpAny (model P w) A (pyNext (.ref e)) Q E s := by
 have hTy : s.TypeIs (.ref e) "enumerate" := ⟨_, hE, rfl⟩
 unfold pyNext
 refine jX (wpAny_attempt (wpAny_callSpecial?_slot (name := Str.ofString "__next__") hTy F.slot_enumerate_next (wpAny_call_entry F.slot_enumerate_next hTy F.entry_enumerate_next ?_ (F.args_enumerate_next_1 _))))
 obtain ⟨hp, g, d, tk, os⟩ := s
 show wpAny _ _ (field (.ref e) 2 >>= _) _ _ _
 refine jX (wpAny_field hE rfl (x := .ref it) rfl ?_)
 refine jX (dr.item _ _ ⟨hp, g, d, tk, os⟩ i xs x _ hI hl hx fun g1 hI1 e1 => ?_)
 replace e1 : Heap.SameBut it hp g1 := e1
 have hE1 : IsEnum g1 e it i old := (e1.2 e hne).trans hE
 show wpAny _ _ (field (.ref e) 3 >>= _) _ _ ⟨g1, g, d, tk, os⟩
 refine jX (wpAny_field hE1 rfl (x := rawInt i) rfl ?_)
 show wpAny _ _ (field (.ref e) 4 >>= _) _ _ ⟨g1, g, d, tk, os⟩
 refine jX (wpAny_field hE1 rfl (x := .none) rfl ?_)
 show wpAny _ _ (mkInt i >>= _) _ _ ⟨g1, g, d, tk, os⟩
 refine jX (wpAny_mkInt ?_)
 show wpAny _ _ (setField (.ref e) 3 (rawInt ((i : Int) + 1)) >>= _) _ _ ⟨g1, g, d, tk + 1, os⟩
 refine jX (wpAny_setField_rec hE1 (by simp) fun g2 hE2 e2 => ?_)
 replace e2 : Heap.SameBut e g1 g2 := e2
 replace hE2 : IsEnum g2 e it ((i : Int) + 1) old := hE2
 show wpAny _ _ (setField (.ref e) 4 .none >>= _) _ _ ⟨g2, g, d, tk + 1, os⟩
 refine jX (wpAny_setField_rec hE2 (by simp) fun g3 hE3 e3 => ?_)
 replace e3 : Heap.SameBut e g2 g3 := e3
 replace hE3 : IsEnum g3 e it ((i : Int) + 1) old := hE3
 show wpAny _ _ (newTuple [.int i tk, x] >>= _) _ _ ⟨g3, g, d, tk + 1, os⟩
 refine jX (wpAny_newTuple ?_)
 have hE4 : IsEnum (g3.push { cls := .type "tuple", data := .seq #[.int i tk, x] }) e it ((i : Int) + 1) old := jJ _ hE3
 generalize hg4 : g3.push { cls := .type "tuple", data := .seq #[.int i tk, x] } = g4 at hE4
 have hsz : g3.objs.size = hp.objs.size := by rw [e3.1, e2.1, e1.1]
 have hel : e < hp.objs.size := kJ hE
 have hT4 : g4.get? hp.objs.size = some { cls := .type "tuple", data := .seq #[.int i tk, x] } := by rw [← hg4, ← hsz]; exact yZ _ rfl
 have hk4 : ∀ b o, b ≠ e → b ≠ it → hp.get? b = some o → g4.get? b = some o := fun b o hbe hbi hb => by
  rw [← hg4]; exact jJ _ (e3.extBut b o hbe (e2.extBut b o hbe (e1.extBut b o hbi hb)))
 have hI4 : st (i + 1) g4 := dr.keep _ _ _ hI1 fun q z => by rw [← hg4]; exact jJ _ (e3.extBut _ _ hne.symm (e2.extBut _ _ hne.symm z))
 show wpAny _ _ (Builtin.SmallTypes.ownedTupleIsFree (.ref e) >>= _) _ _ ⟨g4, g, d, tk + 1, os⟩
 rw [hsz]
 clear hg4 hE3 e3 hE2 e2 hE1 e1 hI1 hsz
 refine jX ?_
 unfold Builtin.SmallTypes.ownedTupleIsFree
 refine jX (wpAny_field hE4 rfl (x := .none) rfl (kQ ?_))
 simp only [if_true]
 refine jX (wpAny_rule (jX (wpAny_field hE4 rfl (x := old) rfl (jX (wpAny_setField_rec hE4 (by simp) fun g5 hE5 e5 => ?_)))))
 replace e5 : Heap.SameBut e g4 g5 := e5
 replace hE5 : IsEnum g5 e it ((i : Int) + 1) x := hE5
 show wpAny _ _ (Builtin.SmallTypes.ownedTupleHandOut (.ref e) (.ref hp.objs.size) >>= _) _ _ ⟨g5, g, d, tk + 1, os⟩
 refine jX ?_
 unfold Builtin.SmallTypes.ownedTupleHandOut
 refine jX (wpAny_setField_rec hE5 (by simp) fun g6 hE6 e6 => ?_)
 replace e6 : Heap.SameBut e g5 g6 := e6
 replace hE6 : IsEnumOut g6 e it ((i : Int) + 1) x hp.objs.size := hE6
 refine wpAny_setField_rec hE6 (by simp) fun g7 hE7 e7 => ?_
 replace e7 : Heap.SameBut e g6 g7 := e7
 replace hE7 : IsEnumOut g7 e it ((i : Int) + 1) x hp.objs.size := hE7
 have up : ∀ b o, b ≠ e → g4.get? b = some o → g7.get? b = some o := fun b o hb z => e7.extBut b o hb (e6.extBut b o hb (e5.extBut b o hb z))
 refine jX (wpAny_letGo (kQ ⟨_, rfl, kQ (hQ g7 hE7 ?_ ?_ ?_)⟩))
 ·exact dr.keep _ _ _ hI4 fun q z => up _ _ hne.symm z
 ·exact up _ _ (Nat.ne_of_gt hel) hT4
 ·exact fun b o hbe hbi hb => up b o hbe (hk4 b o hbe hbi hb)
theorem Qfg {Q : Option Value → Shared → Prop} (hh : A.handled = none) (dr : Drw P w it l st src) (hE : IsEnum s.heap e it i old) (hI : st i s.heap) (hl : src xs s.heap) (hx : xs[i]? = none)
  (hQ : ∀ h', Heap.ExtBut it s.heap h' → Q none { s with heap := h' }) : wpAny (model P w) A (pyNext (.ref e)) Q E s := by
 have hTy : s.TypeIs (.ref e) "enumerate" := ⟨_, hE, rfl⟩
 unfold pyNext
 refine jX (wpAny_attempt (wpAny_callSpecial?_slot (name := Str.ofString "__next__") hTy F.slot_enumerate_next (wpAny_call_entry F.slot_enumerate_next hTy F.entry_enumerate_next ?_ (F.args_enumerate_next_1 _))))
 show wpAny _ _ (field (.ref e) 2 >>= _) _ _ _
 refine jX (wpAny_field hE rfl (x := .ref it) rfl ?_)
 refine jX (dr.done _ _ s i xs _ hh hI hl hx fun h' x eb hx' => ?_)
 obtain ⟨o, ho, hc⟩ := hx'
 refine jX (wpAny_isInstance (T := "StopIteration") (b := true) ⟨o, ho, hc⟩ isSubtype_stop (kQ (hQ _ eb)))
end
theorem Qkf {n : String} {l : Addr} {p : Heap → Prop} (I : Itr0 n l p) :
  Meets (Builtin.«enumerate.__new__» ⟨[.type "enumerate", .ref l], []⟩) (fun _ R s => p s.heap ∧ R (.ok (.ret (.ref (s.heap.push (Vb n l)).objs.size))) { s with heap := (s.heap.push (Vb n l)).push { cls := .type "enumerate", data := .fields #[.none, .bool false, .ref s.heap.objs.size, rawInt 0, .none, .none] } }) :=
 .of_wp fun prog w A R s h => by
  obtain ⟨hp, g, d, tk, os⟩ := s
  obtain ⟨q, h⟩ := h
  have hsub := sub_enumerate
  have f1 := fun (A : Around) (E : Value → Shared → Prop) (Q : Value → Shared → Prop) => I.go prog w A E ⟨hp, g, d, tk, os⟩ Q q
  wp_walk
  refine wpAny_stack_any fun stk => kQ ?_
  split
  ·rename_i c _ _ _ _ _
   cases (c == Value.type "enumerate")
   ·wp_walk using f1 _ _ _
    exact ⟨_, rfl, h⟩
   ·wp_walk using f1 _ _ _
    exact ⟨_, rfl, h⟩
  ·wp_walk using f1 _ _ _
   exact ⟨_, rfl, h⟩
def Ite (K : Fg) (m : Bool) (a : Addr) : It :=
  ⟨fun i H => ∃ xs x, Sq K m H a xs ∧ xs[i]? = some x,
   fun i H v H' => ∃ T x, v = .ref T ∧ H T = none ∧ H' = upd H T (.tup [.int (i : Nat), x]) ∧ (∀ xs, Sq K m H a xs → xs[i]? = some x),
   fun i H => ∃ xs, Sq K m H a xs ∧ xs.length ≤ i⟩
def eTn (m : Bool) (e it a : Addr) (i : Nat) (h : Heap) : Prop := (∃ old, IsEnum h e it i old) ∧ itSt m it a i h
theorem Qmv {P : Program} {w : World} {K : Fg} {es : List Expr} {kk : Nat} {tp : Pos} {m : Bool} {e it a : Addr} (hne : e ≠ it) (hea : a ≠ e) (hia : a ≠ it) :
  Turn P w K (.Tuple es kk tp) (Ite K m a) [e, it] e (eTn m e it a) where
 mem := by simp
 obj := fun i h st c hc => by
  obtain ⟨⟨old, h1⟩, h2⟩ := st
  simp only [yJ, xK, or_false] at hc
  rcases hc with rfl | rfl
  ·exact ⟨_, h1, fun v z => by cases z⟩
  ·exact (Yu (P := P) (w := w) m c a).obj i h h2
 keep := fun i h h' st k => by
  obtain ⟨⟨old, h1⟩, h2⟩ := st
  exact ⟨⟨old, k e (by simp) _ h1⟩, (Yu (P := P) (w := w) m it a).keep i h h' h2 (k it (by simp))⟩
 item := by
  intro X hP hw hK hc i pins s σ H E I hf st hg
  subst hP hw hK
  obtain ⟨xs, x, q1, hx⟩ := hg
  obtain ⟨is1, r1, p1, z1⟩ := I.sq q1
  obtain ⟨v1, e1, rv1⟩ := r1.get hx
  obtain ⟨⟨old, hE⟩, s1⟩ := st
  refine Qdg (Yu m it a) hE s1 p1 e1 hne fun h' a1 a2 a3 a4 => ⟨_, rfl, ?_⟩
  have kk : ∀ c q, c ∉ [e, it] → s.heap.get? c = some q → h'.get? c = some q := fun c q hc e => by
   simp only [yJ, xK, or_false, not_or] at hc
   exact a4 c q hc.1 hc.2 e
  have I1 : Inv X pins σ (upd H s.heap.objs.size (.tup [.int (i : Nat), x])) { s with heap := h' } := I.tupNew (ch := [e, it]) (its := [.int i s.toks, v1]) (jZ _) (.cons ⟨_, rfl⟩ (.cons rv1 .nil)) (by show 2 ≤ sizeLine; decide) a3 hf kk (fun c hc => by
   simp only [yJ, xK, or_false] at hc
   rcases hc with rfl | rfl
   ·exact ⟨_, a1⟩
   ·obtain ⟨q, z, _⟩ := (Yu (P := X.prog) (w := X.w) m c a).obj _ _ a2; exact ⟨q, z⟩)
  refine wpAny_letOwnedTupleGo_enum (s := { s with heap := h', toks := s.toks + 1 }) a1 fun h2 g1 g2 => ?_
  obtain ⟨f0, f1, f2, f3, f4, f5⟩ := hf e (by simp)
  have lte : e < s.heap.objs.size := kJ hE
  have I2 : Inv X pins σ (upd H s.heap.objs.size (.tup [.int (i : Nat), x])) { s with heap := h2, toks := s.toks + 1 } := I1.turned (h' := h2) (t' := s.toks + 1) (fun c q hc z => g2.extBut c q hc z) (by rw [Qo (yW lte)]; exact f0) f1 f3 f4 f5
  refine ⟨.ref s.heap.objs.size, _, I2, rfl, ⟨_, x, rfl, I.hok.fresh (jZ _), rfl, fun xs' hq => by rw [I.sq_inj hq q1]; exact hx⟩, ⟨⟨_, by exact_mod_cast g1⟩, (Yu (P := X.prog) (w := X.w) m it a).keep _ _ _ a2 fun q z => g2.extBut _ _ hne.symm z⟩, fun c hc => ?_⟩
  have hlt : c ≠ s.heap.objs.size := by
   simp only [yJ, xK, or_false] at hc
   rcases hc with rfl | rfl
   ·exact yW lte
   ·obtain ⟨q, z, _⟩ := (Yu (P := X.prog) (w := X.w) m c a).obj _ _ s1; exact yW (kJ z)
  rw [Qo hlt]
  exact (hf c hc).1
 done := by
  intro X hP hw hK hc i pins s σ H E I hf st hg
  subst hP hw hK
  obtain ⟨xs, q1, hx⟩ := hg
  obtain ⟨is1, r1, p1, z1⟩ := I.sq q1
  obtain ⟨⟨old, hE⟩, s1⟩ := st
  have l1 := r1.length
  obtain ⟨f0, f1, f2, f3, f4, f5⟩ := hf it (by simp)
  exact Qfg (I.ok.hd hc) (Yu m it a) hE s1 p1 (wK.mpr (by omega)) fun h' eb => ⟨rfl, I.turned (t' := s.toks) (fun b o hb z => eb b o hb z) f0 f1 f3 f4 f5⟩
 self := fun _ _ _ _ _ st h => by
  obtain ⟨⟨old, h1⟩, _⟩ := st
  exact wpAny_pyIter_enum h1 h
section
variable {X : Cx}
def iEnum (K : Fg) (m : Bool) (ta : TA) : TI := fun σ H R => ta σ H fun vs H1 => ∃ a, vs = [.ref a] ∧ (∃ xs, Sq K m H1 a xs) ∧ R (Ite K m a) H1
theorem Qsv {a : Expr} {ta : TA} {p pos tp : Pos} {es : List Expr} {kk : Nat} (m : Bool) (hg : Gl X "enumerate") (hm : X.mg "enumerate" = none) (ha : PA X [a] ta) (hs : autoParam (starEach [a] X.env = [(false, eval a X.env)]) L2.aRfl._auto_1) :
  PI X (.Tuple es kk tp) (.Call (.Name "enumerate" p) [a] [] pos) (iEnum X.K m ta) := by
 intro pins s σ H R I h
 refine Call_ (Qab I hg hm Qez (PyProof.Rows.callWith_type1 (thn (ha pos pins s σ H _ I h) fun us s1 hqP => ?_) hs rfl))
 obtain ⟨vs, H1, I1, r1, q1⟩ := hqP
 obtain ⟨l1, e, ⟨xs, q1⟩, q⟩ := q1
 subst e
 obtain ⟨u1, rfl, e1⟩ := r1.one
 cases e1
 obtain ⟨is1, r1, p1, z1⟩ := I1.sq q1
 refine callType_new F.called_enumerate (by decide) (F.typeCall_enumerate_1 _) (F.newCall_enumerate_1 _) (fun obj => F.args_object_init_2 obj _) F.entry_enumerate_new (Qkf (Qgx m l1 is1)) ⟨p1, ?_⟩
 have z2 : (s1.heap.push (Vb (itN m) l1)).objs.size = s1.heap.objs.size + 1 := jJa ..
 have g2 : ((s1.heap.push (Vb (itN m) l1)).push { cls := .type "enumerate", data := .fields #[.none, .bool false, .ref s1.heap.objs.size, rawInt 0, .none, .none] }).get? (s1.heap.push (Vb (itN m) l1)).objs.size = some { cls := .type "enumerate", data := .fields #[.none, .bool false, .ref s1.heap.objs.size, rawInt 0, .none, .none] } := yZ _ rfl
 have g1 : ((s1.heap.push (Vb (itN m) l1)).push { cls := .type "enumerate", data := .fields #[.none, .bool false, .ref s1.heap.objs.size, rawInt 0, .none, .none] }).get? s1.heap.objs.size = some (Vb (itN m) l1) := jJ _ (yZ _ rfl)
 rw [z2] at g2
 show _ ∧ _
 rw [z2]
 have kp : ∀ b o, s1.heap.get? b = some o → ((s1.heap.push (Vb (itN m) l1)).push { cls := .type "enumerate", data := .fields #[.none, .bool false, .ref s1.heap.objs.size, rawInt 0, .none, .none] }).get? b = some o := fun b o z => jJ _ (jJ _ z)
 generalize (s1.heap.push (Vb (itN m) l1)).push { cls := .type "enumerate", data := .fields #[.none, .bool false, .ref s1.heap.objs.size, rawInt 0, .none, .none] } = h' at g1 g2 kp
 have I2 : Inv X pins σ H1 { s1 with heap := h' } := I1.kept (t' := s1.toks) kp
 have ltl : l1 < s1.heap.objs.size := Qdb p1
 refine ⟨⟨_, g2, rfl⟩, wpAny_pyIter_enum (s := { s1 with heap := h' }) g2 ⟨_, [s1.heap.objs.size + 1, s1.heap.objs.size], _, _, H1, rfl, I2, Qmv (m := m) (a := l1) (Nat.succ_ne_self _) (yW (Nat.lt_succ_of_lt ltl)) (yW ltl), ⟨⟨_, g2⟩, Qda m g1⟩, fun c hc => ?_, q⟩⟩
 have hle : s1.heap.objs.size ≤ c := by
  simp only [yJ, xK, or_false] at hc
  rcases hc with rfl | rfl
  ·exact jYc _ _
  ·exact jZ _
 exact I1.fpOk hle (I1.hok.fresh hle)
end
theorem Qps {K : Fg} {m : Bool} {a : Addr} {xs : List V} {g : TG} {tb : TS} {D : Ends} {σ : St} {H : Hp} (Pv : Nat → St → Hp → Prop) (h0 : Pv 0 σ H) (hl : ∀ i σ H, i ≤ xs.length → Pv i σ H → Sq K m H a xs)
  (hs : ∀ i x σ H T, xs[i]? = some x → Pv i σ H → H T = none → g (.ref T) σ (upd H T (.tup [.int (i : Nat), x])) fun σ2 H2 => tb { D with nx := Pv (i + 1), ct := Pv (i + 1), bk := D.nx } σ2 H2) (hd : ∀ σ H, Pv xs.length σ H → D.nx σ H) :
  ∃ W : Nat → Nat → St → Hp → Prop, (∃ m, W 0 m σ H) ∧ ∀ i n σ H, W i n σ H →
   ((Ite K m a).stop i H ∧ D.nx σ H) ∨ ((Ite K m a).go i H ∧ ∃ N : St → Hp → Prop, (∀ σ' H', N σ' H' → ∃ m', m' < n ∧ W (i + 1) m' σ' H') ∧ ∀ x H', (Ite K m a).yld i H x H' → g x σ H' fun σ2 H2 => tb { D with nx := N, ct := N, bk := D.nx } σ2 H2) := by
 refine ⟨fun i n σ H => n = xs.length - i ∧ i ≤ xs.length ∧ Pv i σ H, ⟨_, rfl, jXb _, h0⟩, ?_⟩
 rintro i n σ H ⟨rfl, hi, p⟩
 have q1 := hl i σ H hi p
 by_cases hlt : i < xs.length
 ·refine .inr ⟨⟨xs, xs[i], q1, by simp [hlt]⟩, Pv (i + 1), fun σ' H' p' => ⟨xs.length - (i + 1), by omega, rfl, hlt, p'⟩, fun x H' y => ?_⟩
  obtain ⟨T, u, rfl, hT, rfl, y1⟩ := y
  exact hs i u σ H T (y1 xs q1) p hT
 ·have e : i = xs.length := by omega
  subst e
  exact .inl ⟨⟨xs, q1, jZ _⟩, hd σ H p⟩
section
variable {prog : Program} {w : World} {A : Around} {E : Value → Shared → Prop} {s : Shared}
end
section
variable {X : Cx}
theorem Qmw (hc : X.calm = true) : Jq X (.builtin "max") (fun xs H Q => ∃ (a : Addr) (ns : List Int), xs = [.ref a] ∧ SqL X.K H a (ns.map V.int) ∧ ns ≠ [] ∧ ∀ m, m ∈ ns → (∀ x ∈ ns, x ≤ m) → Q (.int m) H) := by
 intro pins s σ H xs us Q I rv h
 obtain ⟨a, ns, rfl, hq, hne, q⟩ := h
 obtain ⟨u, rfl, ru⟩ := rv.one
 cases ru
 obtain ⟨its, r, p, hz⟩ := I.list hq
 have hi : IntsAre its.toArray.toList ns := intsAre_of r
 obtain ⟨xs, hx⟩ := hi.allInts.items
 have hl' : s.heap.IsList a (intItems xs) := hx ▸ p.isList
 have e1 : ns = xs.toList.map (·.1) := by rw [← nums_intItems, ← hx]; exact (show numsOf its.toArray.toList = ns from hi.numsOf).symm
 have ls : xs.size = ns.length := by rw [e1]; simp
 have hp : 0 < xs.size := by rw [ls]; exact List.length_pos_iff.mpr hne
 have at' : ∀ i, i < xs.size → ns[i]? = some (numAt xs i) := fun i hi => by rw [e1]; simp [numAt, hi]
 obtain ⟨b1, b2⟩ := argBest_gt (numAt xs) (xs.size - 1)
 refine max_intList (I.ok.hd hc) hl' hp fun v h' tk hv hk => ?_
 obtain ⟨t, rfl⟩ := intItems_at hv
 refine ⟨.int _, H, I.kept hk, ⟨_, rfl⟩, q _ (kK (at' _ (by omega))) fun x hx => ?_⟩
 obtain ⟨i, hi, rfl⟩ := jXf.mp hx
 have h2 := at' i (by omega)
 rw [gE hi] at h2
 have h3 : ns[i] = numAt xs i := Option.some.inj h2
 rw [h3]
 exact b2 i (by omega)
end
section
variable {P : Program} {w : World} {A : Around} {E : Value → Shared → Prop} {s : Shared}
end
section
variable {P : Program} {w : World} {A : Around} {E : Value → Shared → Prop} {s : Shared} {z u o i1 i2 l1 l2 : Addr} {st1 st2 : Nat → Heap → Prop} {src1 src2 : List Value → Heap → Prop} {k1 k2 : Nat} {xs ys : List Value}
end
section
variable {X : Cx} {pins : List (Addr × Obj)} {σ : St} {H : Hp} {s : Shared} {m1 m2 : Bool} {z u o i1 i2 a b : Addr} {i : Nat} {xs ys : List V} {E : Value → Shared → Prop} {A : Around}
end
section
variable {X : Cx}
end
def Itr3 (lo c : Int) (n : Nat) : It := ⟨fun i _ => i < n, fun i H x H' => H' = H ∧ x = .int (lo + (i : Nat) * c), fun i _ => n ≤ i⟩
theorem Qha {P : Program} {w : World} {K : Fg} {tg : Expr} (it : Addr) (lo c : Int) (n : Nat) : Turn P w K tg (Itr3 lo c n) [it] it (fun i h => IsRangeIter h it (lo + (i : Nat) * c) ((n : Int) - (i : Nat)) c) where
 mem := by simp
 obj := fun i h st b hb => by
  have e : b = it := by simpa using hb
  subst e
  exact ⟨_, st, fun v z => by
   have z' : Data.fields _ = Data.cell v := z
   cases z'⟩
 keep := fun i h h' st k => k it (by simp) _ st
 item := by
  intro X hP hw hK hc i pins s σ H E I hf st hg
  subst hP hw hK
  obtain ⟨f0, f1, f2, f3, f4, f5⟩ := hf it (by simp)
  have W := Walks.range (prog := X.prog) (w := X.w) (I.ok.hd hc) it lo c n
  refine W.item i s _ _ hg st fun v h' tk hv st' kk => ?_
  obtain ⟨t, rfl⟩ := hv
  have I1 : Inv X pins σ H { s with heap := h', toks := tk } := I.turned (fun b o hb e => kk b o (by simpa using hb) e) f0 f1 f3 f4 f5
  exact ⟨_, rfl, Qoz (s := { s with heap := h', toks := tk }) (n := "range_iterator") st' rfl rfl (by decide) ⟨.int (lo + (i : Nat) * c), H, I1, ⟨t, rfl⟩, ⟨rfl, rfl⟩, st', fun b hb => (hf b hb).1⟩⟩
 done := by
  intro X hP hw hK hc i pins s σ H E I hf st hg
  subst hP hw hK
  obtain ⟨f0, f1, f2, f3, f4, f5⟩ := hf it (by simp)
  exact wpAny_pyNext_range_end (I.ok.hd hc) st (by have : n ≤ i := hg; omega) fun h' eb => ⟨rfl, I.turned (t' := s.toks) (fun b o hb e => eb b o hb e) f0 f1 f3 f4 f5⟩
 self := fun _ _ _ _ _ st h => wpAny_pyIter_rangeiter st h
theorem Qbm (a b c : Int) (hc : c ≠ 0) : 0 ≤ Builtin.Range.rangeSize a b c := by
 unfold Builtin.Range.rangeSize
 split
 ·split
  ·have := Int.ediv_nonneg (a := b - a - 1) (b := c) (by omega) (by omega); omega
  ·exact jKc 0
 ·split
  ·have := Int.ediv_nonneg (a := a - b - 1) (b := -c) (by omega) (by omega); omega
  ·exact jKc 0
section
variable {X : Cx} {tg : Expr}
def iRng3 (ta : TA) : TI := fun σ H R => ta σ H fun vs H1 => ∃ i j c : Int, vs = [.int i, .int j, .int c] ∧ (c ≠ 0 ∧ c.natAbs < 1073741824 ∧ Builtin.Range.small i j c = true) ∧ R (Itr3 i c (Builtin.Range.rangeSize i j c).toNat) H1
theorem Qmx {a b c : Expr} {ta : TA} {p pos : Pos} (hg : Gl X "range") (hm : X.mg "range" = none) (ha : PA X [a, b, c] ta) (hs : autoParam (starEach [a, b, c] X.env = [(false, eval a X.env), (false, eval b X.env), (false, eval c X.env)]) L2.aRfl._auto_1) (hs2 : autoParam (starEach [b, c] X.env = [(false, eval b X.env), (false, eval c X.env)]) L2.aRfl._auto_1) :
  PI X tg (.Call (.Name "range" p) [a, b, c] [] pos) (iRng3 ta) := by
 intro pins s σ H R I h
 refine Call_ (Qab I hg hm boot_range (PyProof.Rows.callWith_type1 (thn (ha pos pins s σ H _ I h) fun us s1 hqP => ?_) (by rw [hs, hs2]) (by rw [hs2]; rfl)))
 obtain ⟨vs, H1, I1, r1, q1⟩ := hqP
 obtain ⟨i, j, k, e, ⟨h1, h2, h3⟩, q⟩ := q1
 subst e
 cases r1 with
 | cons r rr =>
  cases rr with
  | cons r' rr =>
   cases rr with
   | cons r'' rr =>
    cases rr
    obtain ⟨t, rfl⟩ := r
    obtain ⟨t', rfl⟩ := r'
    obtain ⟨t'', rfl⟩ := r''
    refine call_range_3 h1 ?_ (.inl (PyProof.noPylong_small h2))
    refine wpAny_pyIter_range (IsRange.new ..) h3 ?_
    have I2 : Inv X pins σ H1 { s1 with heap := s1.heap.push { cls := .type "range", data := .fields #[.int i t, .int j t', .int k t''] }, toks := s1.toks } := I1.kept fun b o e => jJ _ e
    refine ⟨(s1.heap.push { cls := .type "range", data := .fields #[.int i t, .int j t', .int k t''] }).objs.size, [(s1.heap.push { cls := .type "range", data := .fields #[.int i t, .int j t', .int k t''] }).objs.size], _, _, H1, rfl,
     I2.kept (t' := s1.toks) fun b o e => jJ _ e, Qha _ i k (Builtin.Range.rangeSize i j k).toNat, ?_, fun b hb => ?_, q⟩
    ·have e1 : i + ((0 : Nat) : Int) * k = i := by simp
     have e2 : (((Builtin.Range.rangeSize i j k).toNat : Nat) : Int) - ((0 : Nat) : Int) = Builtin.Range.rangeSize i j k := by have := Qbm i j k h1; omega
     show IsRangeIter _ _ (i + ((0 : Nat) : Int) * k) ((((Builtin.Range.rangeSize i j k).toNat : Nat) : Int) - ((0 : Nat) : Int)) k
     rw [e1, e2]
     exact yZ _ rfl
    ·have e : b = (s1.heap.push { cls := .type "range", data := .fields #[.int i t, .int j t', .int k t''] }).objs.size := by simpa using hb
     subst e
     exact I2.fpOk (jZ _) (I2.hok.fresh (jZ _))
end
theorem Qkg {lo c : Int} {n : Nat} {g : TG} {tb : TS} {D : Ends} {σ : St} {H : Hp} (Pv : Nat → St → Hp → Prop) (h0 : Pv 0 σ H)
  (hs : ∀ i σ H, i < n → Pv i σ H → g (.int (lo + (i : Nat) * c)) σ H fun σ2 H2 => tb { D with nx := Pv (i + 1), ct := Pv (i + 1), bk := D.nx } σ2 H2) (hd : ∀ σ H, Pv n σ H → D.nx σ H) :
  ∃ W : Nat → Nat → St → Hp → Prop, (∃ m, W 0 m σ H) ∧ ∀ i m σ H, W i m σ H →
   ((Itr3 lo c n).stop i H ∧ D.nx σ H) ∨ ((Itr3 lo c n).go i H ∧ ∃ N : St → Hp → Prop, (∀ σ' H', N σ' H' → ∃ m', m' < m ∧ W (i + 1) m' σ' H') ∧ ∀ x H', (Itr3 lo c n).yld i H x H' → g x σ H' fun σ2 H2 => tb { D with nx := N, ct := N, bk := D.nx } σ2 H2) := by
 refine ⟨fun i m σ H => m = n - i ∧ i ≤ n ∧ Pv i σ H, ⟨n, by simp, jXb _, h0⟩, ?_⟩
 rintro i m σ H ⟨rfl, hi, p⟩
 by_cases hlt : i < n
 ·refine .inr ⟨hlt, Pv (i + 1), fun σ' H' p' => ⟨n - (i + 1), by omega, rfl, hlt, p'⟩, fun x H' y => ?_⟩
  obtain ⟨e, y⟩ := y
  subst e y
  exact hs i σ _ hlt p
 ·have e : i = n := by omega
  subst e
  exact .inl ⟨jZ _, hd σ H p⟩
end L2
namespace L2
open PySem PySem.Spec PyProof.Rows PySem.W
theorem Qim {X : Cx} : PGet X (rIxL X.K) := by
 intro pins s σ H o i ov iv Q I ro ri h
 obtain ⟨p, xs, k, z, rfl, rfl, hq, he, q⟩ := h
 cases ro
 obtain ⟨t, rfl⟩ := ri
 obtain ⟨its, r, pl, hz⟩ := I.list hq
 obtain ⟨j, h1, h2, h3, h4, h5⟩ := Qgt he
 obtain ⟨w, ew, rw'⟩ := r.get h2
 have hl := r.length
 have hn := Qek
 have fin : EP X pins σ Q w s := ⟨z, H, I, rw', q⟩
 by_cases h0 : 0 ≤ k
 ·have hj : k.toNat = j := by
   rw [seqIndex_of h0 h5] at h1
   exact Option.some.inj h1
  exact wpAny_getItem_list pl.isList h0 (by omega) (by rw [hj]; simpa using ew) fin
 ·have hj : (k + (its.toArray.size : Int)).toNat = j := by
   rw [seqIndex_neg (by omega) h4] at h1
   rw [jV, ← hl]
   exact Option.some.inj h1
  exact wpAny_getItem_list_neg pl.isList (by omega) (by rw [jV] <;> omega) (by omega) (by rw [hj]; simpa using ew) fin
inductive IsT : String → Prop
 | int : IsT "int"
 | bool : IsT "bool"
 | tuple : IsT "tuple"
 | list : IsT "list"
 | str : IsT "str"
def isiW (K : Fg) (H : Hp) : V → String → Bool → Prop
 | .non, _, b => b = false
 | .int _, T, b => b = decide (T = "int")
 | .bl _, T, b => b = decide (T = "int" ∨ T = "bool")
 | .str _, T, b => b = decide (T = "str")
 | .ref a, T, b => ((∃ xs, SqT K H a xs) ∧ b = decide (T = "tuple")) ∨ ((∃ xs, SqL K H a xs) ∧ b = decide (T = "list"))
 | _, _, _ => False
theorem Yv {X : Cx} : Jq X (.builtin "isinstance") (fun xs H Q => ∃ x T b, xs = [x, .ty T] ∧ IsT T ∧ isiW X.K H x T b ∧ Q (.bl b) H) := by
 intro pins s σ H xs us Q I rv h
 obtain ⟨x, T, b, rfl, hT, hi, q⟩ := h
 obtain ⟨u, v, rfl, ru, rT⟩ := rv.two
 cases rT
 have fin : ∀ (tk : Nat), EP X pins σ Q (.bool b) { s with toks := tk } := fun tk => ⟨.bl b, H, I.tok tk, rfl, q⟩
 cases x with
 | int n =>
  obtain ⟨t, rfl⟩ := ru
  cases hT <;> (subst hi)
  ·exact IsiPair.int_int (fin s.toks)
  ·exact IsiPair.int_bool (fin _)
  ·exact IsiPair.int_tuple (fin _)
  ·exact IsiPair.int_list (fin _)
  ·exact IsiPair.int_str (fin _)
 | bl n =>
  cases ru
  cases hT <;> (subst hi)
  ·exact IsiPair.bool_int (fin s.toks)
  ·exact IsiPair.bool_bool (fin s.toks)
  ·exact IsiPair.bool_tuple (fin _)
  ·exact IsiPair.bool_list (fin _)
  ·exact IsiPair.bool_str (fin _)
 | str n =>
  obtain ⟨t, rfl⟩ := ru
  cases hT <;> (subst hi)
  ·exact IsiPair.str_int (fin _)
  ·exact IsiPair.str_bool (fin _)
  ·exact IsiPair.str_tuple (fin _)
  ·exact IsiPair.str_list (fin _)
  ·exact IsiPair.str_str (fin s.toks)
 | non =>
  cases ru
  cases hT <;> (subst hi)
  ·exact IsiPair.NoneType_int (fin _)
  ·exact IsiPair.NoneType_bool (fin _)
  ·exact IsiPair.NoneType_tuple (fin _)
  ·exact IsiPair.NoneType_list (fin _)
  ·exact IsiPair.NoneType_str (fin _)
 | ref a =>
  cases ru
  rcases hi with ⟨⟨xs, hq⟩, hi⟩ | ⟨⟨xs, hq⟩, hi⟩
  ·obtain ⟨its, r, ⟨o, e, c, _⟩, _⟩ := I.tuple hq
   cases hT <;> (subst hi)
   ·exact IsiPair.tuple_int e c (fin _)
   ·exact IsiPair.tuple_bool e c (fin _)
   ·exact IsiPair.tuple_tuple e c (fin s.toks)
   ·exact IsiPair.tuple_list e c (fin _)
   ·exact IsiPair.tuple_str e c (fin _)
  ·obtain ⟨its, r, pl, _⟩ := I.list hq
   obtain ⟨o, e, c, _⟩ := pl.isList
   cases hT <;> (subst hi)
   ·exact IsiPair.list_int e c (fin _)
   ·exact IsiPair.list_bool e c (fin _)
   ·exact IsiPair.list_tuple e c (fin _)
   ·exact IsiPair.list_list e c (fin s.toks)
   ·exact IsiPair.list_str e c (fin _)
 | byt _ => exact hi.elim
 | flt _ => exact hi.elim
 | ty _ => exact hi.elim
open Att in
section
variable {prog : Program} {w : World} {A : Around} {R : Result → Shared → Prop} {I : Addr} {fp wr : List Addr} {n : Nat} {P : Nat → Value → Prop} {St : Nat → Heap → Prop}
end
section
variable {prog : Program} {w : World} {A : Around} {E : Value → Shared → Prop} {s : Shared} {l : Addr} {xs : Array (Int × Tok)}
end
section
variable {X : Cx}
end
end L2
namespace L2
open PySem PySem.Spec PySem.Calls PyProof.Rows PySem.W
section
variable {P : Program} {w : World} {K : Fg} {mg : Str → Option Value} {base : Heap} {N : List Str} {qual : Str} {scope : Scope} {f : Addr} {cd : Value} {A : Around} {outer : List Env} {s₀ : Shared} {H₀ : Hp} {E : XK} {C : Addr}
 {pins : List (Addr × Obj)} {σ : St} {H : Hp} {s : Shared}
end
end L2
namespace L2
open PySem PySem.Spec PySem.Calls PyProof.Rows PySem.W
section
variable {X : Cx} {pins : List (Addr × Obj)} {σ : St} {H H' : Hp} {s : Shared} {e : Addr}
end
section
variable {X : Cx} {k : Nat} {f C D : Addr} {fd : FuncData} {ps : List Str} {sp : Sp} {g x n c : Str} {p np pc pn cpos epos hpos apos pos : Pos} {a : Expr} {es : List Expr} {t : TA} {i j : Nat}
end
end L2
namespace L2
open PySem PySem.Spec PySem.Calls PyProof.Rows PySem.W
section
variable {prog : Program} {w : World} {A : Around} {E : Value → Shared → Prop} {h : Heap} {g : Array GenState} {d : Drawn} {t : Nat} {os : OsState} {a C : Addr} {o : Obj} {K : Frag}
open Builtin Builtin.ObjectAttr Builtin.Getset_descriptor in
end
end L2
namespace L2
open PySem PySem.Spec PySem.Calls PyProof.Rows PySem.W
section
variable {X : Cx}
end
def Big (i : Int) : Prop := i.natAbs < 2 ^ 4000
section
variable {X : Cx}
theorem Wb : OpR X (binaryOp .FloorDiv) (rI (fun _ j => j ≠ 0 ∧ Big j) fun i j => .int (i.fdiv j)) := opI fun i j _ _ _ _ _ hc q => floordiv_int hc.1 q (.inl (PyProof.noPylong_of_log2 (zJ ((Nat.log2_lt (by have := hc.1; omega)).mpr hc.2) (by decide))))
end
section
variable {P : Program} {w : World} {K : Fg} {mg : Str → Option Value} {base : Heap} {N : List Str} {qual : Str} {scope : Scope} {f : Addr} {cd : Value} {A : Around} {outer : List Env} {s₀ : Shared} {H₀ : Hp} {E : XK} {C : Addr}
end
end L2
namespace L2
open PySem PySem.Spec PySem.Calls PyProof.Rows PySem.W
section
variable {X : Cx}
end
def rCatG (K : Fg) : R2 := fun x y H Q => ∃ a b xs ys, x = .ref a ∧ y = .ref b ∧ SqT K H a xs ∧ SqT K H b ys ∧ ys ≠ [] ∧ xs.length + ys.length ≤ sizeLine ∧ ∀ (p : Addr) (H' : Hp), Same H H' → SqT K H' p (xs ++ ys) → Q (.ref p) H'
theorem Qsw {X : Cx} : OpR X (binaryOp .Add) (rCatG X.K) := by
 intro pins s σ H x y v u Q I rx ry h
 obtain ⟨a, b, xs, ys, rfl, rfl, ha, hb, hy, hz, q⟩ := h
 by_cases hx : xs = []
 ·subst hx
  cases rx
  cases ry
  obtain ⟨its, r1, p1, _⟩ := I.tuple ha
  obtain ⟨its2, r2, p2, _⟩ := I.tuple hb
  have e0 : its = [] := r1.nil_iff.mpr rfl
  subst e0
  obtain ⟨⟨c1, d1, da1, sl1⟩, ho, hc, n, hd⟩ := id p1
  obtain ⟨⟨c2, d2, da2, sl2⟩, ho2, hc2, n2, hd2⟩ := id p2
  simp only at hc hd hc2 hd2
  subst hc hd hc2 hd2
  exact concat_meets ⟨_, ho, rfl⟩ ⟨_, ho2, rfl⟩ noFill_tuple_add seq_tuple_add PySem.F.slot_tuple_add PySem.F.entry_tuple_add (PySem.F.args_tuple_add_2 _ _) (tuple_addW0 a b ([] : List Value).toArray its2.toArray n n2 d1 d2 sl1 sl2 (by simp)) ⟨ho, ho2, ⟨.ref b, H, I, rfl, q b H (Same.refl H) hb⟩⟩
 ·exact Qlw pins s σ H (.ref a) (.ref b) v u Q I rx ry ⟨a, b, xs, ys, rfl, rfl, ha, hb, hx, hz, fun z => absurd z hy, fun _ p hp => q p _ (Qb hp _) (Xa Qc)⟩
end L2
namespace L2
open PySem PySem.W PyProof.Rows
def kGood {α : Type} (f : Nat → Nat → Bool) (n : Nat) : KasT α → (α → Prop) → Prop
 | .ret a, Q => Q a
 | .ask i j k, Q => i < n ∧ j < n ∧ kGood f n (k (f i j)) Q
theorem kGood.bind {α β : Type} {f : Nat → Nat → Bool} {n : Nat} {g : α → KasT β} {Q : β → Prop} : ∀ (t : KasT α), kGood f n t (fun a => kGood f n (g a) Q) → kGood f n (t.bind g) Q
 | .ret a, h => h
 | .ask i j k, h => ⟨h.1, h.2.1, kGood.bind (k (f i j)) h.2.2⟩
theorem kGood.mono {α : Type} {f : Nat → Nat → Bool} {n : Nat} {Q Q' : α → Prop} (hq : ∀ a, Q a → Q' a) : ∀ (t : KasT α), kGood f n t Q → kGood f n t Q'
 | .ret a, h => hq a h
 | .ask i j k, h => ⟨h.1, h.2.1, kGood.mono hq (k (f i j)) h.2.2⟩
theorem kGood.wp {α : Type} {f : Nat → Nat → Bool} {n : Nat} {cmp : Nat → Nat → (Bool → Shared → Prop) → Shared → Prop} {s : Shared} (hc : ∀ i j C, i < n → j < n → C (f i j) s → cmp i j C s) {Q : α → Prop} {R : α → Shared → Prop} (hR : ∀ a, Q a → R a s) :
  ∀ (t : KasT α), kGood f n t Q → t.kasWp cmp R s
 | .ret a, h => hR a h
 | .ask i j k, h => hc i j _ h.1 h.2.1 (kGood.wp hc hR (k (f i j)) h.2.2)
theorem Qin {g : Nat → Int} {m : Nat} (h : ∀ i, i + 1 < m → g i ≤ g (i + 1)) : ∀ j i, i ≤ j → j < m → g i ≤ g j
 | 0, i, hi, _ => by rw [Nat.le_zero.mp hi]; exact jKc _
 | j + 1, i, hi, hj => by
  by_cases e : i = j + 1
  ·rw [e]; exact jKc _
  ·exact Int.le_trans (Qin h j i (by omega) (by omega)) (h j hj)
section
variable {r : Nat → Int} {n : Nat}
def rk (r : Nat → Int) (p : Array Nat) (i : Nat) : Int := r (p.getD i 0)
def Jv (r : Nat → Int) (i j : Nat) : Bool := decide (r i < r j)
def PermN (n : Nat) (p : Array Nat) : Prop := p.Perm (List.toArray (List.range n))
theorem gD {p q : Array Nat} {i j : Nat} (h : p[i]? = q[j]?) : p.getD i 0 = q.getD j 0 := by rw [jXa, jXa, h]
theorem Qmy {p q : Array Nat} {i j : Nat} (h : p[i]? = q[j]?) : rk r p i = rk r q j := congrArg r (gD h)
theorem PermN.size {p : Array Nat} (h : PermN n p) : p.size = n := by have := h.size_eq; simpa using this
theorem PermN.lt {p : Array Nat} (h : PermN n p) (hn : 0 < n) (i : Nat) : p.getD i 0 < n := by
 rw [jXa]
 cases e : p[i]? with
 | none => exact hn
 | some v =>
  have hm : v ∈ p := Array.mem_of_getElem? e
  have := h.mem_iff.mp hm
  simpa using this
theorem PermN.rev {p : Array Nat} (h : PermN n p) (i j : Nat) : PermN n (kas_rev p i j) := (mirror_perm p i j _).trans h
theorem Qmz {p : Array Nat} {i j : Nat} (hj : j ≤ p.size) (k : Nat) : rk r (kas_rev p i j) k = if i ≤ k ∧ k < j then rk r p (i + j - 1 - k) else rk r p k := by
 have e := getElem?_mirror_all (i := i) hj k
 by_cases c : i ≤ k ∧ k < j
 ·rw [if_pos c] at e ⊢; exact Qmy e
 ·rw [if_neg c] at e ⊢; exact Qmy e
theorem Qdh {p : Array Nat} (hp : PermN n p) (hn : 0 < n) : ∀ (f a : Nat), kGood (Jv r) n (kas_asc p f a) fun m => a ≤ m ∧ m ≤ a + f ∧ (∀ i, a ≤ i → i < m → rk r p (i - 1) ≤ rk r p i) ∧ (m < a + f → rk r p m < rk r p (m - 1))
 | 0, a => ⟨jZ _, jZ _, fun i h1 h2 => by omega, fun h => by omega⟩
 | f + 1, a => by
  refine ⟨hp.lt hn _, hp.lt hn _, ?_⟩
  by_cases c : rk r p a < rk r p (a - 1)
  ·rw [show Jv r (p.getD a 0) (p.getD (a - 1) 0) = true from jW c]; dsimp only; rw [if_pos rfl]
   exact ⟨jZ _, by omega, fun i h1 h2 => by omega, fun _ => c⟩
  ·rw [show Jv r (p.getD a 0) (p.getD (a - 1) 0) = false from yQ c]; dsimp only; rw [if_neg kY]
   refine kGood.mono (fun m h => ?_) _ (Qdh hp hn f (a + 1))
   obtain ⟨h1, h2, h3, h4⟩ := h
   refine ⟨by omega, by omega, fun i i1 i2 => ?_, fun z => h4 (by omega)⟩
   by_cases e : i = a
   ·subst e; omega
   ·exact h3 i (by omega) i2
def Qpt (r : Nat → Int) (p : Array Nat) (m : Nat) : Prop := ∀ i, 1 ≤ i → i < m → rk r p i ≤ rk r p (i - 1)
def Flat (r : Nat → Int) (p : Array Nat) (m q : Nat) : Prop := q + 1 ≤ m ∧ ∀ i, m - (q + 1) ≤ i → i < m → rk r p i = rk r p (m - 1)
theorem Qdi {p : Array Nat} (hp : PermN n p) {m q : Nat} (hm : m ≤ n) (h : Flat r p m q) (k : Nat) : rk r (kas_rev p (m - (q + 1)) m) k = rk r p k := by
 rw [Qmz (by rw [hp.size]; exact hm)]
 have h0 := h.1
 by_cases c : m - (q + 1) ≤ k ∧ k < m
 ·rw [if_pos c, h.2 k c.1 c.2, h.2 _ (by omega) (by omega)]
 ·rw [if_neg c]
theorem Wc (hn : 0 < n) : ∀ (f : Nat) (p : Array Nat) (a q : Nat), PermN n p → a + f ≤ n → 1 ≤ a → Qpt r p a → Flat r p a q → kGood (Jv r) n (kas_desc f p a q) fun x => PermN n x.1 ∧ a ≤ x.2.1 ∧ x.2.1 ≤ a + f ∧ Qpt r x.1 x.2.1 ∧ Flat r x.1 x.2.1 x.2.2
 | 0, p, a, q, hp, _, _, h1, h2 => ⟨hp, jZ _, jZ _, h1, h2⟩
 | f + 1, p, a, q, hp, hf, ha, h1, h2 => by
  refine ⟨hp.lt hn _, hp.lt hn _, ?_⟩
  have flat0 : ∀ p' : Array Nat, Flat r p' (a + 1) 0 := fun p' => ⟨by omega, fun i i1 i2 => by rw [show i = a by omega]; rfl⟩
  by_cases c : rk r p a < rk r p (a - 1)
  ·rw [show Jv r (p.getD a 0) (p.getD (a - 1) 0) = true from jW c]; dsimp only; rw [if_pos rfl]
   by_cases hq : q > 0
   ·rw [if_pos hq]
    have e := Qdi hp (by omega) h2
    refine kGood.mono (fun x h => ⟨h.1, by have := h.2.1; omega, by have := h.2.2.1; omega, h.2.2.2⟩) _ (Wc hn f _ (a + 1) 0 (hp.rev _ _) (by omega) (by omega) (fun i i1 i2 => ?_) (flat0 _))
    rw [e, e]
    by_cases ei : i = a
    ·subst ei; omega
    ·exact h1 i i1 (by omega)
   ·rw [if_neg hq]
    refine kGood.mono (fun x h => ⟨h.1, by have := h.2.1; omega, by have := h.2.2.1; omega, h.2.2.2⟩) _ (Wc hn f _ (a + 1) 0 hp (by omega) (by omega) (fun i i1 i2 => ?_) (flat0 _))
    by_cases ei : i = a
    ·subst ei; omega
    ·exact h1 i i1 (by omega)
  ·rw [show Jv r (p.getD a 0) (p.getD (a - 1) 0) = false from yQ c]; dsimp only; rw [if_neg kY]
   refine ⟨hp.lt hn _, hp.lt hn _, ?_⟩
   by_cases d : rk r p (a - 1) < rk r p a
   ·rw [show Jv r (p.getD (a - 1) 0) (p.getD a 0) = true from jW d]; dsimp only; rw [if_pos rfl]
    exact ⟨hp, jZ _, jYc _ _, h1, h2⟩
   ·rw [show Jv r (p.getD (a - 1) 0) (p.getD a 0) = false from yQ d]; dsimp only; rw [if_neg kY]
    refine kGood.mono (fun x h => ⟨h.1, by have := h.2.1; omega, by have := h.2.2.1; omega, h.2.2.2⟩) _ (Wc hn f _ (a + 1) (q + 1) hp (by omega) (by omega) (fun i i1 i2 => ?_) ⟨by have := h2.1; omega, fun i i1 i2 => ?_⟩)
    ·by_cases ei : i = a
     ·subst ei; omega
     ·exact h1 i i1 (by omega)
    ·have := h2.1
     show rk r p i = rk r p a
     by_cases ei : i = a
     ·rw [ei]
     ·rw [h2.2 i (by omega) (by omega)]; omega
def Qbn (r : Nat → Int) (p : Array Nat) (m : Nat) : Prop := ∀ i j, i ≤ j → j < m → rk r p i ≤ rk r p j
theorem Qio {p : Array Nat} {m : Nat} (h : ∀ i, 1 ≤ i → i < m → rk r p (i - 1) ≤ rk r p i) : Qbn r p m := fun i j => Qin (fun i hi => h (i + 1) (by omega) hi) j i
theorem Qcr (hn : 0 < n) {p : Array Nat} {m : Nat} (hp : PermN n p) (h1 : 1 ≤ m) (hm : m ≤ n) (h : Qpt r p m) : kGood (Jv r) n (kas_tail3 m n p) fun x => PermN n x.2 ∧ 1 ≤ x.1 ∧ x.1 ≤ n ∧ Qbn r x.2 x.1 := by
 refine kGood.bind _ (kGood.mono (fun k hk => ?_) _ (Qdh (hp.rev 0 m) hn (n - m) m))
 obtain ⟨k1, k2, k3, _⟩ := hk
 refine ⟨hp.rev _ _, by show 1 ≤ k; omega, by show k ≤ n; omega, Qio fun i i1 i2 => ?_⟩
 by_cases c : i < m
 ·have hs : m ≤ p.size := by rw [hp.size]; exact hm
  rw [Qmz hs, Qmz hs, if_pos ⟨by omega, by omega⟩, if_pos ⟨by omega, c⟩]
  have := h (0 + m - 1 - (i - 1)) (by omega) (by omega)
  rw [show 0 + m - 1 - (i - 1) - 1 = 0 + m - 1 - i by omega] at this
  exact this
 ·exact k3 i (by omega) i2
theorem Wd (hn : 0 < n) {p : Array Nat} {m : Nat} (hp : PermN n p) (h1 : 1 ≤ m) (hm : m < n) (h : Qpt r p (m + 1)) : kGood (Jv r) n (kas_descPart m n p) fun x => PermN n x.2 ∧ 1 ≤ x.1 ∧ x.1 ≤ n ∧ Qbn r x.2 x.1 := by
 refine kGood.bind _ (kGood.mono (fun x hx => ?_) _ (Wc hn (n - (m + 1)) p (m + 1) 0 hp (by omega) (by omega) h ⟨by omega, fun i i1 i2 => by rw [show i = m by omega]; rfl⟩))
 obtain ⟨x1, x2, x3, x4, x5⟩ := hx
 by_cases c : x.2.2 > 0
 ·rw [if_pos c]
  have e := Qdi x1 (by omega) x5
  exact Qcr hn (x1.rev _ _) (by omega) (by omega) fun i i1 i2 => by rw [e, e]; exact x4 i i1 i2
 ·rw [if_neg c]
  exact Qcr hn x1 (by omega) (by omega) x4
theorem Qkh (hn : 0 < n) {p : Array Nat} (hp : PermN n p) : kGood (Jv r) n (kas_count n p) fun x => PermN n x.2 ∧ 1 ≤ x.1 ∧ x.1 ≤ n ∧ Qbn r x.2 x.1 := by
 refine kGood.bind _ (kGood.mono (fun m hm => ?_) _ (Qdh hp hn (n - 1) 1))
 obtain ⟨m1, m2, m3, m4⟩ := hm
 have up : Qbn r p m := Qio m3
 by_cases c : (m == n) = true
 ·rw [if_pos c]
  exact ⟨hp, m1, by show m ≤ n; omega, up⟩
 ·rw [if_neg c]
  have c' : m ≠ n := fun z => c (by rw [z]; exact beq_self_eq_true n)
  have dn := m4 (by omega)
  by_cases c1 : m > 1
  ·rw [if_pos c1]
   refine ⟨hp.lt hn _, hp.lt hn _, ?_⟩
   by_cases d : rk r p 0 < rk r p (m - 1)
   ·rw [show Jv r (p.getD 0 0) (p.getD (m - 1) 0) = true from jW d]; dsimp only; rw [if_pos rfl]
    exact ⟨hp, m1, by show m ≤ n; omega, up⟩
   ·rw [show Jv r (p.getD 0 0) (p.getD (m - 1) 0) = false from yQ d]; dsimp only; rw [if_neg kY]
    have fl : Flat r p m (m - 1) := ⟨by omega, fun i i1 i2 => by
     have a1 := up 0 i (by omega) i2
     have a2 := up i (m - 1) (by omega) (by omega)
     omega⟩
    have e := Qdi hp (by omega) fl
    rw [show m - (m - 1 + 1) = 0 by omega] at e
    refine Wd hn (hp.rev _ _) m1 (by omega) fun i i1 i2 => ?_
    rw [e, e]
    by_cases ei : i = m
    ·subst ei; omega
    ·rw [fl.2 i (by omega) (by omega), fl.2 (i - 1) (by omega) (by omega)]; exact jKc _
  ·rw [if_neg c1]
   refine Wd hn hp m1 (by omega) fun i i1 i2 => ?_
   have : i = m := by omega
   subst this; omega
theorem Wq (hn : 0 < n) {p : Array Nat} (hp : PermN n p) {k : Nat} (up : Qbn r p k) : ∀ (f a b : Nat), a ≤ b → b ≤ k → b - a ≤ f → (∀ i, i < a → rk r p i ≤ rk r p k) → (∀ i, b ≤ i → i < k → rk r p k ≤ rk r p i) →
  kGood (Jv r) n (kas_place p k f a b) fun l => l ≤ k ∧ (∀ i, i < l → rk r p i ≤ rk r p k) ∧ ∀ i, l ≤ i → i < k → rk r p k ≤ rk r p i
 | 0, a, b, h1, h2, h3, h4, h5 => ⟨by omega, h4, fun i i1 i2 => h5 i (by omega) i2⟩
 | f + 1, a, b, h1, h2, h3, h4, h5 => by
  unfold kas_place
  by_cases c : a ≥ b
  ·rw [if_pos c]
   exact ⟨by omega, h4, fun i i1 i2 => h5 i (by omega) i2⟩
  ·rw [if_neg c]
   refine ⟨hp.lt hn _, hp.lt hn _, ?_⟩
   by_cases d : rk r p k < rk r p ((a + b) / 2)
   ·rw [show Jv r (p.getD k 0) (p.getD ((a + b) / 2) 0) = true from jW d]; dsimp only; rw [if_pos rfl]
    refine Wq hn hp up f a ((a + b) / 2) (by omega) (by omega) (by omega) h4 fun i i1 i2 => ?_
    have := up ((a + b) / 2) i i1 i2
    omega
   ·rw [show Jv r (p.getD k 0) (p.getD ((a + b) / 2) 0) = false from yQ d]; dsimp only; rw [if_neg kY]
    refine Wq hn hp up f ((a + b) / 2 + 1) b (by omega) (by omega) (by omega) (fun i hi => ?_) h5
    have := up i ((a + b) / 2) (by omega) (by omega)
    omega
theorem Qip (hn : 0 < n) : ∀ (f : Nat) (p : Array Nat) (k : Nat), PermN n p → k + f = n → Qbn r p k → kGood (Jv r) n (kas_bin f p k) fun x => PermN n x ∧ Qbn r x n
 | 0, p, k, hp, hk, up => ⟨hp, (show k = n by omega) ▸ up⟩
 | f + 1, p, k, hp, hk, up => by
  unfold kas_bin
  refine kGood.bind _ (kGood.mono (fun l hl => ?_) _ (Wq hn hp up k 0 k (jXb _) (jZ _) (by omega) (fun i hi => by omega) (fun i i1 i2 => by omega)))
  obtain ⟨l1, l2, l3⟩ := hl
  refine Qip hn f _ (k + 1) ((bubble_perm _ _ _).trans hp) (by omega) ?_
  have eb : ∀ i, rk r (bubble p k (k - l)) i = if i = l then rk r p k else if l < i ∧ i ≤ k then rk r p (i - 1) else rk r p i := fun i => by
   have e := getElem?_bubble (xs := p) (src := k) (by rw [hp.size]; omega) (k - l) (by omega) i
   rw [show k - (k - l) = l by omega] at e
   by_cases c1 : i = l
   ·rw [if_pos c1] at e ⊢; exact Qmy e
   ·rw [if_neg c1] at e ⊢
    by_cases c2 : l < i ∧ i ≤ k
    ·rw [if_pos c2] at e ⊢; exact Qmy e
    ·rw [if_neg c2] at e ⊢; exact Qmy e
  intro i j hij hj
  rw [eb, eb]
  by_cases a1 : i = l
  ·rw [if_pos a1]
   by_cases b1 : j = l
   ·rw [if_pos b1]; exact jKc _
   ·rw [if_neg b1, if_pos ⟨by omega, by omega⟩]
    exact l3 (j - 1) (by omega) (by omega)
  ·rw [if_neg a1]
   by_cases a2 : l < i ∧ i ≤ k
   ·rw [if_pos a2, if_neg (by omega), if_pos ⟨by omega, by omega⟩]
    exact up (i - 1) (j - 1) (by omega) (by omega)
   ·rw [if_neg a2]
    by_cases b1 : j = l
    ·rw [if_pos b1]; exact l2 i (by omega)
    ·rw [if_neg b1]
     by_cases b2 : l < j ∧ j ≤ k
     ·rw [if_pos b2]; exact up i (j - 1) (by omega) (by omega)
     ·rw [if_neg b2]; exact up i j hij (by omega)
theorem Qna (hn : 0 < n) : kGood (Jv r) n (kas_sort n) fun x => PermN n x ∧ Qbn r x n := by
 refine kGood.bind _ (kGood.mono (fun x hx => ?_) _ (Qkh hn (p := List.toArray (List.range n)) (Array.Perm.refl _)))
 obtain ⟨x1, x2, x3, x4⟩ := hx
 by_cases c : x.1 < n
 ·rw [if_pos c, show max x.1 1 = x.1 by omega]
  exact Qip hn _ _ _ x1 (by omega) x4
 ·rw [if_neg c]
  have e : x.1 = n := by omega
  rw [e] at x4
  exact ⟨x1, x4⟩
end
end L2
namespace L2
open PySem PySem.Spec PySem.W PyProof.Rows
open PySem.SeqAt
theorem Qsx {a b : Int} {as bs : List Int} : decide (a :: as < b :: bs) = if a = b then decide (as < bs) else decide (a < b) := by
 rw [xY]
 by_cases e : a = b
 ·subst e
  rw [if_pos rfl, decide_eq_true_iff, decide_eq_true_iff, List.cons_lt_cons_iff]
  constructor
  ·rintro (h | ⟨_, h⟩)
   ·omega
   ·exact h
  ·intro h; exact .inr ⟨rfl, h⟩
 ·rw [if_neg e, decide_eq_true_iff, decide_eq_true_iff, List.cons_lt_cons_iff]
  constructor
  ·rintro (h | ⟨h, _⟩)
   ·exact h
   ·exact absurd h e
  ·intro h; exact .inl h
theorem Qki (l b : Addr) (items items2 : Array Value) (n n2 : Nat) (dd dd2 : Option Addr) (sl sl2 : Array (Option Value)) (ns ms : List Int) (i1 : IntsAre items.toList ns) (i2 : IntsAre items2.toList ms) :
  Meets (Builtin.«tuple.__lt__» ⟨[.ref l, .ref b], []⟩)
   (fun A R s => s.heap.get? l = some { cls := .type "tuple", dict := dd, data := .seq items n, slots := sl } ∧ s.heap.get? b = some { cls := .type "tuple", dict := dd2, data := .seq items2 n2, slots := sl2 } ∧
    R (.ok (.ret (.bool (decide (ns < ms))))) s) :=
 .of_wp fun prog w A R s h => by
  obtain ⟨hp, g, d, tk, os⟩ := s; obtain ⟨hl, hb, h⟩ := h
  have f2 := AutoSeq1.sub_tuple_tuple
  wp_walk using wpAny_loadPart' hl, wpAny_loadPart' hb, wpAny_forIn_list _ (fun rest b s' => b.1 = none ∧ s' = ⟨hp, g, d, tk, os⟩ ∧ ∃ ys xs ns' ms' c, rest = List.zip ys xs ∧ IntsAre ys ns' ∧ IntsAre xs ms' ∧ ys.length + c = items.size ∧ xs.length + c = items2.size ∧
   R (.ok (.ret (.bool (decide (ns' < ms'))))) ⟨hp, g, d, tk, os⟩) _
  case turn =>
   rintro ⟨y, x⟩ rest b s' ⟨hb', rfl, ys, xs, ns', ms', c, hz, j1, j2, k1, k2, hR⟩
   cases j1 with
   | nil => cases hz
   | cons a t j1 =>
    cases j2 with
    | nil => cases hz
    | cons a' t' j2 =>
     rw [List.zip_cons_cons] at hz
     injection hz with hz1 hz2
     injection hz1 with hy hx
     subst hy hx
     rw [Qsx] at hR
     rw [yV] at k1 k2
     refine jX (EqAt.int_int a t a' t' prog w _ _ ?_)
     by_cases e : a = a'
     ·subst e
      rw [if_pos rfl] at hR
      rw [beq_self_eq_true]
      wp_walk
      exact ⟨rfl, rfl, _, _, _, _, c + 1, hz2, j1, j2, by omega, by omega, hR⟩
     ·rw [if_neg e] at hR
      rw [show (a == a') = false from by simpa using e]
      wp_walk using (show wpAny (model prog w) _ (richCompare .Lt (.int a t) (.int a' t')) _ _ _ from lt_int ?_)
      exact ⟨_, rfl, hR⟩
  case fin =>
   rintro ⟨b1, b2⟩ s' ⟨hb', rfl, ys, xs, ns', ms', c, hz, j1, j2, k1, k2, hR⟩
   simp only at hb'
   subst hb'
   wp_walk
   refine ⟨_, rfl, ?_⟩
   have e : decide (ns' < ms') = decide (items.size < items2.size) := by
    cases j1 with
    | nil =>
     cases j2 with
     | nil => rw [← k1, ← k2, yQ (jZb _)]; rfl
     | cons a t j2 =>
      rw [yV] at k2
      rw [jQb] at k1
      rw [jW (show items.size < items2.size by omega)]
      exact jW (List.nil_lt_cons _ _)
    | cons a t j1 =>
     cases j2 with
     | nil =>
      rw [yV] at k1
      rw [jQb] at k2
      rw [yQ (show ¬ items.size < items2.size by omega)]
      exact yQ (List.not_lt_nil _)
     | cons a' t' j2 => rw [List.zip_cons_cons] at hz; cases hz
   rw [e] at hR
   exact hR
  case h =>
   exact ⟨rfl, rfl, _, _, _, _, 0, rfl, i1, i2, by simp, by simp, h⟩
section
variable {prog : Program} {w : World} {A : Around} {E : Value → Shared → Prop} {s : Shared}
theorem Qsy {l b : Addr} {items items2 : Array Value} {ns ms : List Int} {Q : Value → Shared → Prop} (hl : s.heap.IsTuple l items) (hb : s.heap.IsTuple b items2) (i1 : IntsAre items.toList ns) (i2 : IntsAre items2.toList ms) (hu : A.units < cLine)
  (h : Q (.bool (decide (ns < ms))) s) : wpAny (model prog w) A (compareOp .Lt (.ref l) (.ref b)) Q E s := by
 obtain ⟨⟨cls, dd, data, sl⟩, ho, hc, n, hd⟩ := id hl
 obtain ⟨⟨cls2, dd2, data2, sl2⟩, ho2, hc2, n2, hd2⟩ := id hb
 simp only at hc hd hc2 hd2
 subst hc hd hc2 hd2
 exact richCompare_meets_room (op := .Lt) ⟨_, ho, rfl⟩ ⟨_, ho2, rfl⟩ F.slot_tuple_lt F.entry_tuple_lt (F.args_tuple_lt_2 _ _) (Qki l b items items2 n n2 dd dd2 sl sl2 ns ms i1 i2)
  ⟨ho, ho2, show Value.bool (decide (ns < ms)) ≠ Value.notImplemented ∧ Q (.bool (decide (ns < ms))) s from ⟨(fun x => nomatch x), h⟩⟩ hu
theorem Qbo {vs : List Value} {ns ms : List Int} (h : IntsAre vs ns) (g : IntsAre vs ms) : ns = ms := by
 induction h generalizing ms with
 | nil => cases g; rfl
 | cons n t h ih =>
  cases g with
  | cons _ _ h' => rw [ih h']
theorem Vm : ∀ {vs : List Value} {ns : List Int}, IntsAre vs ns → ∀ (j : Nat) (h : j < vs.length), ∃ n t, ns[j]? = some n ∧ vs[j] = .int n t
 | _, _, .nil, j, h => by simp at h
 | _, _, .cons n t h', 0, h => ⟨n, t, rfl, rfl⟩
 | _, _, .cons n t h', j + 1, h => by
  obtain ⟨m, u, e1, e2⟩ := Vm h' j (by simpa using h)
  exact ⟨m, u, by simpa using e1, by simpa using e2⟩
theorem Vn : ∀ {vs : List Value} {ns : List Int}, IntsAre vs ns → vs.length = ns.length
 | _, _, .nil => rfl
 | _, _, .cons n t h => by rw [yV, yV, Vn h]
theorem Qnb {l b : Addr} {items items2 : Array Value} {ns ms : List Int} (hl : s.heap.IsTuple l items) (hb : s.heap.IsTuple b items2) (i1 : IntsAre items.toList ns) (i2 : IntsAre items2.toList ms) (hu : A.units < cLine) :
  EqAt A s (.ref l) (.ref b) (decide (ns = ms)) := by
 by_cases e : l = b
 ·subst e
  obtain ⟨o, ho, _, n, hd⟩ := hl
  obtain ⟨o2, ho2, _, n2, hd2⟩ := hb
  rw [ho] at ho2
  cases ho2
  rw [hd] at hd2
  injection hd2 with hd2
  subst hd2
  rw [jW (Qbo i1 i2)]
  exact EqAt.same _
 ·have l1 := Vn i1
  have l2 := Vn i2
  rw [wV] at l1 l2
  have key := RcAt.tuples (A := A) (s := s) (e := fun j => decide (ns[j]? = ms[j]?)) hl hb hu fun j h1 h2 => by
   obtain ⟨x, t, ex, vx⟩ := Vm i1 j (by rw [wV]; exact h1)
   obtain ⟨y, u, ey, vy⟩ := Vm i2 j (by rw [wV]; exact h2)
   rw [Array.getElem_toList] at vx vy
   rw [vx, vy, ex, ey]
   have : decide (some x = some y) = (x == y) := by
    rw [xY, decide_eq_true_iff, beq_iff_eq]
    exact ⟨fun h => Option.some.inj h, fun h => congrArg some h⟩
   rw [this]
   exact EqAt.int_int x t y u
  have eq : ((List.range (min items.size items2.size)).all (fun j => decide (ns[j]? = ms[j]?)) && items.size == items2.size) = decide (ns = ms) := by
   rw [xY, decide_eq_true_iff, zV, xW, beq_iff_eq]
   constructor
   ·rintro ⟨h1, h2⟩
    refine jZd fun j => ?_
    by_cases hj : j < ns.length
    ·exact yX (h1 j (wZ.mpr (by omega)))
    ·rw [jQa (by omega), jQa (by omega)]
   ·rintro rfl
    exact ⟨fun j _ => jW rfl, by omega⟩
  rw [eq] at key
  exact EqAt.of_refs e key
end
abbrev Row := List Int × Int
def Zo (r q : Row) : Bool := if r.1 = q.1 then decide (r.2 < q.2) else decide (r.1 < q.1)
theorem Qbp {r q : Row} : Zo r q = true ↔ r.1 < q.1 ∨ (r.1 = q.1 ∧ r.2 < q.2) := by
 unfold Zo
 by_cases e : r.1 = q.1
 ·rw [if_pos e, decide_eq_true_iff]
  constructor
  ·intro h; exact .inr ⟨e, h⟩
  ·rintro (h | ⟨_, h⟩)
   ·rw [e] at h; exact absurd h (List.lt_irrefl _)
   ·exact h
 ·rw [if_neg e, decide_eq_true_iff]
  constructor
  ·intro h; exact .inl h
  ·rintro (h | ⟨h, _⟩)
   ·exact h
   ·exact absurd h e
theorem Qfh (r : Row) : Zo r r = false := by
 rw [← Bool.not_eq_true, Qbp]
 rintro (h | ⟨_, h⟩)
 ·exact absurd h (List.lt_irrefl _)
 ·omega
theorem Qhb {a b c : Row} (h1 : Zo a b = true) (h2 : Zo b c = true) : Zo a c = true := by
 rw [Qbp] at *
 rcases h1 with h1 | ⟨e1, h1⟩ <;> rcases h2 with h2 | ⟨e2, h2⟩
 ·exact .inl (List.lt_trans h1 h2)
 ·exact .inl (e2 ▸ h1)
 ·exact .inl (e1 ▸ h2)
 ·exact .inr ⟨e1.trans e2, by omega⟩
theorem Qbq {a b : Row} (h1 : Zo a b = false) (h2 : Zo b a = false) : a = b := by
 rw [← Bool.not_eq_true, Qbp] at h1 h2
 have e : a.1 = b.1 := List.le_antisymm (List.not_lt.mp fun z => h2 (.inl z)) (List.not_lt.mp fun z => h1 (.inl z))
 have e2 : a.2 = b.2 := by
  have : ¬ a.2 < b.2 := fun z => h1 (.inr ⟨e, z⟩)
  have : ¬ b.2 < a.2 := fun z => h2 (.inr ⟨e.symm, z⟩)
  omega
 exact Prod.ext e e2
def Ve (S : List Row) (x : Row) : Int := ((S.countP fun y => Zo y x : Nat) : Int)
theorem Qiq {p q : Row → Bool} {x : Row} : ∀ {S : List Row}, (∀ y, p y = true → q y = true) → x ∈ S → p x = false → q x = true → S.countP p < S.countP q
 | y :: S, h, hx, h1, h2 => by
  rw [List.countP_cons, List.countP_cons]
  have le : S.countP p ≤ S.countP q := List.countP_mono_left fun z _ => h z
  rcases yJ.mp hx with e | hx
  ·subst e
   rw [h1, h2]
   simp
   omega
  ·have := Qiq h hx h1 h2
   have : (if p y = true then 1 else 0) ≤ (if q y = true then 1 else 0) := by
    by_cases e : p y = true
    ·rw [if_pos e, if_pos (h y e)]; exact jZ _
    ·rw [if_neg e]; exact jXb _
   omega
theorem Qnc {S : List Row} {x y : Row} (hx : x ∈ S) (hy : y ∈ S) : decide (Ve S x < Ve S y) = Zo x y := by
 have up : ∀ {a b : Row}, a ∈ S → Zo a b = true → Ve S a < Ve S b := fun {a b} ha h => by
  have := Qiq (p := fun y => Zo y a) (q := fun y => Zo y b) (fun z hz => Qhb hz h) ha (Qfh a) h
  unfold Ve
  omega
 cases e : Zo x y with
 | true => exact jW (up hx e)
 | false =>
  refine yQ fun z => ?_
  cases e2 : Zo y x with
  | true => have := up hy e2; omega
  | false => rw [Qbq e e2] at z; omega
def RowIn (h : Heap) (v : Value) (r : Row) : Prop := ∃ (a b : Addr) (its : Array Value) (t : Tok), v = .ref a ∧ h.IsTuple a #[.ref b, .int r.2 t] ∧ h.IsTuple b its ∧ IntsAre its.toList r.1
theorem Qbr {h h' : Heap} (k : ∀ b o, h.get? b = some o → h'.get? b = some o) {a : Addr} {its : Array Value} (z : h.IsTuple a its) : h'.IsTuple a its := by obtain ⟨o, e, r⟩ := z; exact ⟨o, k _ _ e, r⟩
theorem RowIn.ext {h h' : Heap} (k : ∀ b o, h.get? b = some o → h'.get? b = some o) {v : Value} {r : Row} (z : RowIn h v r) : RowIn h' v r := by
 obtain ⟨a, b, its, t, e, z1, z2, z3⟩ := z; exact ⟨a, b, its, t, e, Qbr k z1, Qbr k z2, z3⟩
section
variable {prog : Program} {w : World} {A : Around} {E : Value → Shared → Prop} {s : Shared}
theorem key_lt {x y : Value} {r q : Row} {Q : Bool → Shared → Prop} (hx : RowIn s.heap x r) (hy : RowIn s.heap y q) (hu : A.units + 1 < cLine) (h : Q (Zo r q) s) : wpAny (model prog w) A (keyLt' (tuples' false) x y) Q E s := by
 obtain ⟨a, b, its, t, rfl, x1, x2, x3⟩ := hx
 obtain ⟨a', b', its', t', rfl, y1, y2, y3⟩ := hy
 obtain ⟨o, ho, _, n, hd⟩ := x1
 obtain ⟨o', ho', _, n', hd'⟩ := y1
 refine kat_lt ho hd ho' hd' (kat_cons (Qnb x2 y2 x3 y3 (by omega) _ _ _ _ ?_))
 unfold Zo at h
 by_cases e : r.1 = q.1
 ·rw [if_pos e] at h
  rw [jW e]
  refine kat_yes (kat_cons (EqAt.int_int _ _ _ _ _ _ _ _ ?_))
  by_cases e2 : r.2 = q.2
  ·rw [show (r.2 == q.2) = true by simpa using e2]
   refine kat_yes (kat_nil ?_)
   rw [e2, yQ (Int.lt_irrefl _)] at h
   exact h
  ·rw [show (r.2 == q.2) = false by simpa using e2]
   exact kat_no (kat_one _ _ (lt_int h))
 ·rw [if_neg e] at h
  rw [yQ e]
  exact kat_no (kat_one _ _ (Qsy x2 y2 x3 y3 (by omega) h))
theorem Qfi {h : Heap} : ∀ {vs : List Value} {rs : List Row}, Paired (RowIn h) vs rs → ∃ fs, KatTups h vs fs ∧ fs.length = vs.length ∧ ∀ f ∈ fs, ∃ b its, f = .ref b ∧ h.IsTuple b its
 | _, _, .nil => ⟨[], trivial, rfl, fun f hf => nomatch hf⟩
 | _, _, .cons z r => by
  obtain ⟨a, b, its, t, rfl, ⟨o, ho, hc, n, hd⟩, z2, z3⟩ := z
  obtain ⟨fs, k, l, p⟩ := Qfi r
  refine ⟨.ref b :: fs, .cons ho hc hd rfl k, by rw [yV, yV, l], fun f hf => ?_⟩
  rcases yJ.mp hf with e | hf
  ·exact ⟨b, its, e, z2⟩
  ·exact p f hf
theorem Qpu {vs : List Value} {rs : List Row} {Q : SortKind → Shared → Prop} (hr : Paired (RowIn s.heap) vs rs) (h1 : 0 < vs.length) (h : Q (tuples' false) s) : wpAny (model prog w) A (keyKind' vs.toArray) Q E s := by
 obtain ⟨fs, k, l, p⟩ := Qfi hr
 refine kat_kind (T := .type "tuple") k (by omega) (fun v hv => ?_) (by decide) h
 obtain ⟨b, its, rfl, o, ho, hc, _⟩ := p v hv
 rw [← hc]
 exact (Looks.ld ho).andThen .now
end
end L2
namespace L2
open PySem PySem.Spec PySem.W PyProof.Rows
open PySem.SeqAt
theorem Paired.getR {α β : Type} {R : α → β → Prop} {xs : List α} {ys : List β} (h : Paired R xs ys) : ∀ {i : Nat} {x : α}, xs[i]? = some x → ∃ y, ys[i]? = some y ∧ R x y := by
 induction h with
 | nil => intro i x e; simp at e
 | cons r t ih =>
  intro i x e
  cases i with
  | zero => simp at e; subst e; exact ⟨_, rfl, r⟩
  | succ i => obtain ⟨y, e1, e2⟩ := ih (i := i) (by simpa using e); exact ⟨y, by simpa using e1, e2⟩
theorem Paired.pick {α β : Type} {R : α → β → Prop} {xs : List α} {ys : List β} (h : Paired R xs ys) (a : α) (b : β) : ∀ (is : List Nat), (∀ i ∈ is, i < xs.length) → Paired R (is.map fun i => xs.getD i a) (is.map fun i => ys.getD i b)
 | [], _ => .nil
 | i :: is, hi => by
  have hlt := hi i zY
  obtain ⟨y, e1, e2⟩ := Paired.getR h (gE hlt)
  have f1 : xs.getD i a = xs[i] := by rw [jK, gE hlt]; rfl
  have f2 : ys.getD i b = y := by rw [jK, e1]; rfl
  refine .cons ?_ (Paired.pick h a b is fun j hj => hi j (zW _ hj))
  show R (xs.getD i a) (ys.getD i b)
  rw [f1, f2]; exact e2
theorem Qbs {α : Type} (l : List α) (d : α) : (List.range l.length).map (fun i => l.getD i d) = l := by
 refine jZd fun i => ?_
 rw [jY]
 by_cases hi : i < l.length
 ·rw [List.getElem?_range hi, gE hi]
  show some (l.getD i d) = _
  rw [jK, gE hi]; rfl
 ·rw [jQa (by rw [wY]; omega), jQa (by omega)]; rfl
theorem Qkj {rs : List Row} {p : Array Nat} (hp : PermN rs.length p) (up : Qbn (fun i => Ve rs (rs.getD i ([], 0))) p rs.length) :
  (p.toList.map fun i => rs.getD i ([], 0)).Perm rs ∧ (p.toList.map fun i => rs.getD i ([], 0)).Pairwise fun x y => Zo y x = false := by
 have pl : p.toList.Perm (List.range rs.length) := by simpa using Array.perm_iff_toList_perm.mp hp
 have sz := hp.size
 have gm : ∀ i, i < rs.length → rs.getD i ([], 0) ∈ rs := fun i hi => by
  rw [jK, gE hi]; exact jQc hi
 constructor
 ·have := pl.map (fun i => rs.getD i ([], 0))
  rw [Qbs] at this
  exact this
 ·rw [kQa, List.pairwise_iff_getElem]
  intro i j hi hj hij
  rw [wV] at hi hj
  have u := up i j (jKd hij) (by omega)
  have ei : p.getD i 0 = p.toList[i] := by rw [jXa, Array.getElem?_eq_getElem hi]; rfl
  have ej : p.getD j 0 = p.toList[j] := by rw [jXa, Array.getElem?_eq_getElem hj]; rfl
  unfold rk at u
  rw [ei, ej] at u
  dsimp only at u
  have li : p.toList[i] < rs.length := wZ.mp (pl.mem_iff.mp (jQc _))
  have lj : p.toList[j] < rs.length := wZ.mp (pl.mem_iff.mp (jQc _))
  rw [← Qnc (S := rs) (gm _ lj) (gm _ li)]
  exact yQ (by omega)
section
variable {prog : Program} {w : World} {A : Around} {E : Value → Shared → Prop} {s : Shared}
theorem Qnd {vs : List Value} {rs : List Row} {Q : SortSt → Shared → Prop} (hr : Paired (RowIn s.heap) vs rs) (h2 : 2 ≤ vs.length) (h64 : vs.length < 64) (hu : A.units + 1 < cLine)
  (h : ∀ (st' : SortSt) (p : Array Nat), PermN vs.length p → (arrOf st').map (·.2) = List.toArray (p.toList.map fun i => vs.getD i Value.none) → failedOf st' = none →
   (p.toList.map fun i => rs.getD i ([], 0)).Perm rs → (p.toList.map fun i => rs.getD i ([], 0)).Pairwise (fun x y => Zo y x = false) → Q st' s) :
  wpAny (model prog w) A ((sortRuns').run (SortSt.mk' (tuples' false) (vs.toArray.zip vs.toArray) #[] 7 none)) (fun r s' => Q r.2 s') E s := by
 have ln : vs.length = rs.length := Paired.length hr
 refine kat_run (G := fun p s' => s' = s ∧ PermN vs.length p ∧ Qbn (fun i => Ve rs (rs.getD i ([], 0))) p vs.length) rfl h2 h64 (fun p st' s' h1 h2 h3 h4 => ?_) ?_
 ·obtain ⟨rfl, g1, g2⟩ := h4
  rw [ln] at g2
  have o := Qkj (ln ▸ g1) g2
  exact h st' p g1 (kat_snds rfl h2) h3 o.1 o.2
 ·refine kGood.wp (f := Jv fun i => Ve rs (rs.getD i ([], 0))) (n := vs.length) (fun i j C hi hj hC => ?_) (fun p hp => ⟨rfl, hp⟩) _ (Qna (by omega))
  obtain ⟨r, er, zr⟩ := Paired.getR hr (gE hi)
  obtain ⟨q, eq, zq⟩ := Paired.getR hr (gE hj)
  have f1 : vs.getD i Value.none = vs[i] := by rw [jK, gE hi]; rfl
  have f2 : vs.getD j Value.none = vs[j] := by rw [jK, gE hj]; rfl
  have g1 : rs.getD i ([], 0) = r := by rw [jK, er]; rfl
  have g2 : rs.getD j ([], 0) = q := by rw [jK, eq]; rfl
  unfold kas_ask
  rw [f1, f2]
  refine key_lt zr zq hu ?_
  rw [← Qnc (S := rs) (kK er) (kK eq)]
  have hC' : C (decide (Ve rs (rs.getD i ([], 0)) < Ve rs (rs.getD j ([], 0)))) s := hC
  rw [g1, g2] at hC'
  exact hC'
theorem Qne {a : Addr} {vs : List Value} {rs : List Row} {n : Nat} {P : PySem.Fin → Shared → Prop} (ho : s.heap.get? a = some (seqObj "list" vs.toArray n)) {h₀ : Heap} (ext : ∀ b o, h₀.get? b = some o → b ≠ a ∧ s.heap.get? b = some o) (hr : Paired (RowIn h₀) vs rs)
  (h64 : vs.length < 64) (hu : A.units + 1 < cLine)
  (h : ∀ (p : List Nat), (∀ i ∈ p, i < vs.length) → (p.map fun i => rs.getD i ([], 0)).Perm rs → (p.map fun i => rs.getD i ([], 0)).Pairwise (fun x y => Zo y x = false) →
   P (.done (.ret .none)) { s with heap := sortedHeap s.heap a vs (List.toArray (p.map fun i => vs.getD i Value.none)) }) :
  wpAny (model prog w) A (Builtin.«list.sort» ⟨[.ref a], []⟩) P E s := by
 have ln : vs.length = rs.length := Paired.length hr
 have ha : a < s.heap.objs.size := kJ ho
 obtain ⟨e1, ho1⟩ : ∃ e1, (s.heap.update a (Obj.mapSeq fun _ => #[])).get? a = some (seqObj "list" #[] e1) := ⟨_, get?_update_seq ho (fun _ => #[])⟩
 have keep : ∀ b o, h₀.get? b = some o → (((s.heap.update a (Obj.mapSeq fun _ => #[])).push (seqObj "tuple" vs.toArray 0)).push (seqObj "list" #[] 0)).get? b = some o := fun b o e => by
  obtain ⟨n1, e1⟩ := ext b o e
  refine jJ _ (jJ _ ?_)
  rw [Heap.get?_update_ne _ _ _ _ n1]; exact e1
 have ho6 : (((s.heap.update a (Obj.mapSeq fun _ => #[])).push (seqObj "tuple" vs.toArray 0)).push (seqObj "list" #[] 0)).get? a = some (seqObj "list" #[] e1) := jJ _ (jJ _ ho1)
 have fin : ∀ (st' : SortSt) (out : List Value), (arrOf st').map (·.2) = List.toArray out → failedOf st' = none → out.length = vs.length → P (.done (.ret .none)) { s with heap := sortedHeap s.heap a vs (List.toArray out) } →
   wpAny (model prog w) A (do
    let sorted := (arrOf st').map (·.2)
    let touched := (← seqEpoch a) != e1
    Builtin.List.listUpdate (.ref a) fun _ => sorted
    if let some e := failedOf st' then rule "list.sort.comparison-raised"; throw e
    if touched then rule "list.sort.modified"; raiseError "ValueError" "list modified during sort"
    ret .none) P E { s with heap := ((s.heap.update a (Obj.mapSeq fun _ => #[])).push (seqObj "tuple" vs.toArray 0)).push (seqObj "list" #[] 0) } := fun st' out h1 h2 h3 h4 => by
  dsimp only
  rw [h1]
  refine jX (seqEpoch_at ho6 rfl ?_)
  refine jX (listUpdate_at ho6 rfl ?_ (hsz2 := by rw [jV, sizeLine_eq]; omega))
  rw [h2]
  simp only [bne_self_eq_false, Bool.false_eq_true, if_false]
  exact kQ h4
 rw [list_sort_plain]
 refine jX (listItems_at ho rfl ?_)
 refine jX (listUpdate_at ho rfl ?_)
 refine jX (seqEpoch_at ho1 rfl ?_)
 refine jX (wpAny_newTuple ?_)
 refine jX (wpAny_newList ?_)
 refine wpAny_holding ?_
 show wpAny (model prog w) A _ P E { s with heap := ((s.heap.update a (Obj.mapSeq fun _ => #[])).push (seqObj "tuple" vs.toArray 0)).push (seqObj "list" #[] 0) }
 dsimp only
 have hsz : vs.toArray.size = vs.length := by simp
 by_cases h2 : vs.toArray.size < 2
 ·rw [if_pos h2, if_pos h2]
  refine jX (kQ ?_)
  rw [StateT.run_pure]
  refine jX (kQ ?_)
  have one : (List.range vs.length).map (fun i => rs.getD i ([], 0)) = rs := by rw [ln]; exact Qbs _ _
  have o := h (List.range vs.length) (fun i hi => wZ.mp hi) (by rw [one]) (by
   rw [one, List.pairwise_iff_getElem]
   intro i j hi hj hij
   omega)
  rw [Qbs] at o
  refine fin (SortSt.mk' general' (vs.toArray.zip vs.toArray) #[] 7 none) vs ?_ rfl rfl o
  show (vs.toArray.zip vs.toArray).map (·.2) = _
  apply Array.toList_inj.mp
  simp
  exact List.map_snd_zip (jZ _)
 ·rw [if_neg h2, if_neg h2]
  have hr' : Paired (RowIn (((s.heap.update a (Obj.mapSeq fun _ => #[])).push (seqObj "tuple" vs.toArray 0)).push (seqObj "list" #[] 0))) vs rs := Paired.imp' (fun _ _ z => RowIn.ext keep z) hr
  refine jX (Qpu (s := { s with heap := ((s.heap.update a (Obj.mapSeq fun _ => #[])).push (seqObj "tuple" vs.toArray 0)).push (seqObj "list" #[] 0) }) hr' (by omega) ?_)
  refine jX (wpAny_mono (Qnd (s := { s with heap := ((s.heap.update a (Obj.mapSeq fun _ => #[])).push (seqObj "tuple" vs.toArray 0)).push (seqObj "list" #[] 0) })
   (Q := fun st' s' => s' = { s with heap := ((s.heap.update a (Obj.mapSeq fun _ => #[])).push (seqObj "tuple" vs.toArray 0)).push (seqObj "list" #[] 0) } ∧ ∃ p : Array Nat, PermN vs.length p ∧ (arrOf st').map (·.2) = List.toArray (p.toList.map fun i => vs.getD i Value.none) ∧ failedOf st' = none ∧
    (p.toList.map fun i => rs.getD i ([], 0)).Perm rs ∧ (p.toList.map fun i => rs.getD i ([], 0)).Pairwise (fun x y => Zo y x = false))
   hr' (by omega) h64 hu fun st' p h1 h2 h3 h4 h5 => ⟨rfl, p, h1, h2, h3, h4, h5⟩) ?_ fun _ _ e => e)
  rintro ⟨⟨⟩, st'⟩ s' ⟨rfl, p, g1, g2, g3, g4, g5⟩
  have pl : p.toList.Perm (List.range vs.length) := by simpa using Array.perm_iff_toList_perm.mp g1
  refine fin st' _ g2 g3 (by rw [jQ, wV, g1.size]) (h p.toList (fun i hi => wZ.mp (pl.mem_iff.mp hi)) g4 g5)
theorem Qhc {l : Addr} {vs : List Value} {rs : List Row} {Q : Value → Shared → Prop} (hl : s.heap.IsList l vs.toArray) (hr : Paired (RowIn s.heap) vs rs) (h64 : vs.length < 64) (hu : A.units + 3 < cLine)
  (h : ∀ (p : List Nat), (∀ i ∈ p, i < vs.length) → (p.map fun i => rs.getD i ([], 0)).Perm rs → (p.map fun i => rs.getD i ([], 0)).Pairwise (fun x y => Zo y x = false) →
   Q (.ref (s.heap.objs.size + 1)) { s with heap := sortedAll s.heap vs (List.toArray (p.map fun i => vs.getD i Value.none)) }) :
  wpAny (model prog w) A (call (.builtin "sorted") [.ref l]) Q E s := by
 refine Calls.call_function_entry kind_sorted plain_sorted entry_sorted (args_sorted1 _) ?_
 unfold Builtin.«sorted»
 refine jX (m := checkCount "sorted" 1 1 _) (kQ ?_)
 refine jX (collect_list hl ?_)
 refine jX (wpAny_newList ?_)
 have hsz : ((s.heap.push (seqObj "list" #[] 0)).update s.heap.objs.size (Obj.mapSeq (· ++ vs.toArray))).objs.size = s.heap.objs.size + 1 := by
  rw [Heap.size_update, size_push']
 have hoL : (((s.heap.push (seqObj "list" #[] 0)).update s.heap.objs.size (Obj.mapSeq (· ++ vs.toArray))).push (seqObj "list" vs.toArray 0)).get? (s.heap.objs.size + 1) = some (seqObj "list" vs.toArray 0) := by
  rw [← hsz]; exact yZ _ rfl
 have keep : ∀ b o, s.heap.get? b = some o → b ≠ s.heap.objs.size + 1 ∧ (((s.heap.push (seqObj "list" #[] 0)).update s.heap.objs.size (Obj.mapSeq (· ++ vs.toArray))).push (seqObj "list" vs.toArray 0)).get? b = some o := fun b o e => by
  have hlt : b < s.heap.objs.size := kJ e
  refine ⟨yW (Nat.lt_succ_of_lt hlt), jJ _ ?_⟩
  rw [Heap.get?_update_ne _ _ _ _ (yW hlt)]
  exact jJ _ e
 show wpAny _ _ _ _ _ { s with heap := ((s.heap.push (seqObj "list" #[] 0)).update s.heap.objs.size (Obj.mapSeq (· ++ vs.toArray))).push (seqObj "list" vs.toArray 0) }
 rw [hsz]
 refine jX (wpAny_holding (wpAny_call_entry slot_list_sort ⟨_, hoL, rfl⟩ entry_list_sort (Qne (s := { s with heap := ((s.heap.push (seqObj "list" #[] 0)).update s.heap.objs.size (Obj.mapSeq (· ++ vs.toArray))).push (seqObj "list" vs.toArray 0) }) hoL keep hr h64 (by show A.units + 1 + 1 + 1 < cLine; omega) fun p h1 h2 h3 => ⟨_, rfl, ?_⟩) (args_list_sort _)))
 exact kQ ⟨_, rfl, h p h1 h2 h3⟩
end
section
variable {X : Cx}
theorem Qir {pins : List (Addr × Obj)} {σ : St} {H : Hp} {s : Shared} (I : Inv X pins σ H s) {t : Addr} {r : Row} (h : Nb.RowAt X.K H t r) : RowIn s.heap (.ref t) r := by
 obtain ⟨p, h1, h2⟩ := h
 obtain ⟨its, r1, p1, _⟩ := I.tuple h1
 obtain ⟨its2, r2, p2, _⟩ := I.tuple h2
 obtain ⟨u, u2, rfl, ru, ru2⟩ := Vals.two r1
 cases ru
 obtain ⟨tk, rfl⟩ := ru2
 exact ⟨t, p, its2.toArray, tk, rfl, p1, p2, intsAre_of r2⟩
theorem Qfj {pins : List (Addr × Obj)} {σ : St} {H : Hp} {s : Shared} (I : Inv X pins σ H s) : ∀ {vs : List V} {us : List Value} {rs : List Row}, Vals vs us → Nb.RowsAre X.K H vs rs → Paired (RowIn s.heap) us rs := by
 intro vs us rs hv h
 unfold Nb.RowsAre at h
 induction h generalizing us with
 | nil => have e := hv.nil_iff.mpr rfl; subst e; exact .nil
 | cons z t ih =>
  obtain ⟨a, rfl, z⟩ := z
  cases hv with
  | cons ru rr =>
   cases ru
   exact .cons (Qir I z) (ih rr)
theorem Jh {K : Fg} (hK : X.K = K) (hu : X.A.units + 6 < cLine) : Jq X (.builtin "sorted") (fun xs H Q => ∃ (l : Addr) (vs : List V) (rs : List Row), xs = [.ref l] ∧ SqL K H l vs ∧ Nb.RowsAre K H vs rs ∧ vs.length < 64 ∧
  ∀ (D : Addr) (ws : List V) (qs : List Row), H D = none → Nb.RowsAre K H ws qs → ws.length = vs.length → qs.Perm rs → qs.Pairwise (fun x y => Zo y x = false) → Q (.ref D) (upd H D (.lst ws))) := by
 subst hK
 intro pins s σ H xs us Q I rv h
 obtain ⟨l, vs, rs, rfl, hq, hr, h64, q⟩ := h
 obtain ⟨u, rfl, ru⟩ := rv.one
 cases ru
 obtain ⟨its, r, p, hz⟩ := I.list hq
 have lv : vs.length = its.length := r.length
 refine Qhc p.isList (Qfj I r hr) (by omega) (by omega) fun o h1 h2 h3 => ?_
 obtain ⟨e, he⟩ := sortedAll_at s.heap its (List.toArray (o.map fun i => its.getD i Value.none))
 have lo : o.length = vs.length := by
  have := h2.length_eq
  rw [jQ] at this
  rw [this]; exact (Nb.RowsAre.length hr).symm
 refine ⟨.ref (s.heap.objs.size + 1), _, I.laid (t' := s.toks) (o := .lst (o.map fun i => vs.getD i .non)) (fun b ob z => sortedAll_old z) (Nat.le_succ _) ⟨by rw [jQ]; omega, _, e, ?_, he⟩, rfl, q _ _ _ (I.hok.fresh (Nat.le_succ _)) ?_ (by rw [jQ]; exact lo) h2 h3⟩
 ·exact Paired.pick r .non Value.none o fun i hi => by rw [lv]; exact h1 i hi
 ·exact Paired.pick hr .non ([], 0) o fun i hi => by rw [lv]; exact h1 i hi
end
end L2
namespace L2
open PySem PySem.Spec PyProof.Rows PySem.W
structure Tab (w : World) (K : Frag) (mg : Str → Option Value) (x : Str) (a : Addr) (f : Str → Option Value) : Prop where
 bound : mg x = some (.ref a)
 map : ∀ (P : Program) (h : Heap), K.In h → h.MapOf (strKind P w) a f
 low : (a == sysModules) = false
theorem Qrt {w : World} {K : Frag} {mg : Str → Option Value} {x : Str} {a : Addr} {es : Array DictEntry} {n : Nat} (hb : mg x = some (.ref a)) (hl : K.lookup a = some ⟨.type "dict", none, .dict es n, #[]⟩) (hk : KeysLit w.params es.toList) (lo : (a == sysModules) = false) :
  Tab w K mg x a (fun k => findBy Value.isStrOf es k) := ⟨hb, fun P h X => mapOf_K (prog := P) X hl hk, lo⟩
def rTab (a : Addr) (f : Str → Option Value) : R2 := fun x y H Q => ∃ s v z, x = .ref a ∧ y = .str s ∧ f s = some v ∧ RelV z v ∧ Q z H
section
variable {X : Cx}
theorem Qnf {x : Str} {a : Addr} {f : Str → Option Value} {i : Expr} {ti : TE} {p : Pos} (T : Tab X.w X.K X.mg x a f) (hi : PE X i ti) (hg : autoParam (Gl X x) L2.aRfl._auto_1) (hd : autoParam ((x == ("__debug__" : Str)) = false) L2.aDec._auto_1) :
  PC X .NotIn i (.Name x p) (fun σ H Q => ti σ H fun y H1 => ∃ s, y = .str s ∧ Q (.bl (!(f s).isSome)) H1) := by
 intro pins s σ H Q I h
 refine thn (hi pins s σ H _ I h) fun iv s1 ⟨y, H1, I1, ry, z, ey, q1⟩ => thn (Qgr (v := .ref a) hg T.bound rfl hd pins s1 σ H1 (fun v H2 => v = .ref a ∧ H2 = H1) I1 ⟨rfl, rfl⟩) fun u s2 hqP => ?_
 obtain ⟨x2, H2, I2, rx, e1, e2⟩ := hqP
 subst ey e1 e2
 cases rx
 obtain ⟨t, rfl⟩ := ry
 exact wpAny_notIn_of (knd := strKind X.prog X.w) (strKind_is X.prog X.w z t) T.low (T.map X.prog _ I2.kIn) ⟨.bl _, H2, I2.tok _, rfl, q1⟩
theorem Qru {x : Str} {a : Addr} {f : Str → Option Value} (T : Tab X.w X.K X.mg x a f) : IxR X (rTab a f) := by
 intro value slice pins s σ H x y v u Q I rx ry h hs
 obtain ⟨z, w', r, rfl, rfl, hf, rv, q⟩ := h
 cases rx
 obtain ⟨t, rfl⟩ := ry
 have hm := T.map X.prog _ I.kIn
 exact tail_any hm.typeIs slot_dict_getitem.lookup (wpAny_getItem_of (strKind_is X.prog X.w z t) hm hf ⟨r, H, I.tok _, rv, q⟩) hs
def TabOk (P : Program) (w : World) (K : Frag) (mg : Str → Option Value) (base : Heap) (k : Nat) (f : Str → Option Value) (ps : List Str) (sp : Str → Sp) : Prop :=
 ∀ s v, f s = some v → ∃ fa fd, v = .ref fa ∧ FnOk P w K mg base CX0 k fa fd ps (sp s) ∧ keepIn K (.ref fa) = true ∧ Binds K fd ps []
theorem Qkk {x : Str} {a : Addr} {f : Str → Option Value} {i e : Expr} {es : List Expr} {ti : TE} {t : TA} {k : Nat} {ps : List Str} {sp : Str → Sp} {p p2 pos : Pos} (T : Tab X.w X.K X.mg x a f) (hF : TabOk X.prog X.w X.K X.mg X.base k f ps sp) (hr : Room k X.A) (hi : PE X i ti) (hs : Qlz i) (ha : PA X (e :: es) t)
  (hg : autoParam (Gl X x) L2.aRfl._auto_1) (hd : autoParam ((x == ("__debug__" : Str)) = false) L2.aDec._auto_1) (he : autoParam (starEach (e :: es) X.env = (false, eval e X.env) :: starEach es X.env) L2.aRfl._auto_1) (hpl : autoParam ((backTo pos (starEach es X.env)).any (·.1) = false) L2.aRfl._auto_1)
  (hcl : autoParam (eval (.Call (.Subscript (.Name x p) i p2) (e :: es) [] pos) X.env = (do callWith pos (← eval (.Subscript (.Name x p) i p2) X.env) [] (backTo pos (starEach (e :: es) X.env)) (backToKw pos (keywordEach [] X.env)))) L2.aRfl._auto_1) :
  PE X (.Call (.Subscript (.Name x p) i p2) (e :: es) [] pos) (fun σ H Q => tOp (rTab a f) (tC (.ref a)) ti σ H fun z H1 => ∃ s fa, z = .ref fa ∧ f s = some (.ref fa) ∧ Qsj (sp s) [] E0 t σ H1 Q) := by
 intro pins s σ H Q I h
 refine Call_ (thn ((Qm (pos := p2) (Qru T) (Qgr (pos := p) (v := .ref a) hg T.bound rfl hd) hi hs) pins s σ H _ I h) fun fv s1 hqP => ?_) hcl
 obtain ⟨z, H1, I1, rz, sx, fa, ez, ef, q⟩ := hqP
 subst ez
 cases rz
 obtain ⟨fa', fd, e', F, kp, b⟩ := hF sx _ ef
 cases e'
 exact callWith_K (h₀ := X.base) I.ok.mod.kin kp (thn (ha pos pins s1 σ H1 _ I1 q) fun us s2 ⟨vs, H2, I2, r, q2⟩ => ⟨I2.kIn, Qro F hr b .nil pass0 I2 r q2⟩) he hpl
theorem Qhd (hc : X.calm = true) : Jq X (.type "set") (fun xs H Q => ∃ (l : Addr) (ns : List Int), xs = [.ref l] ∧ SqL X.K H l (ns.map V.int) ∧ ns.length < 4000 ∧ ∀ (d : Addr) (S : Int → Bool), H d = none → Q (.ref d) (upd H d (.set S (ns.foldl step_dedup []).length))) := by
 intro pins s σ H xs us Q I rv h
 obtain ⟨l, ns, rfl, hl, hz, q⟩ := h
 obtain ⟨u, rfl, ru⟩ := rv.one
 cases ru
 obtain ⟨its, r, pl, _⟩ := I.list hl
 have lr := r.length
 rw [jQ] at lr
 have e1 : (List.range its.toArray.size).map (fun i => ns.getD i 0) = ns := by
  rw [jV, ← lr]
  apply jZd
  intro i
  by_cases hi : i < ns.length
  ·rw [jY, List.getElem?_range hi, gE hi]
   show some (ns.getD i 0) = _
   rw [jK, gE hi]; rfl
  ·rw [wK.mpr (by rw [jQ, wY]; omega), wK.mpr (by omega)]
 refine call_set_list (I.ok.hd hc) pl.isList (ns := ns) (by simpa using intsAre_of r) (by rw [jV]; show its.length + 1 < 4096; omega) fun h' tk hS hk => ?_
 have e2 : (firstMet (fun i => ns.getD i 0) its.toArray.size).length = (ns.foldl step_dedup []).length := by unfold firstMet; rw [e1]
 refine ⟨.ref _, _, I.laid (o := .set (fun k' => (firstMet (fun i => ns.getD i 0) its.toArray.size).any (· == k')) (ns.foldl step_dedup []).length) (fun b o e => hk b o (kJ e) e) (jZ _) ?_, rfl, q _ _ (I.hok.fresh (jZ _))⟩
 rw [← e2]
 exact hS
theorem Qdj : Jq X (.builtin "len") (fun xs H Q => ∃ (d : Addr) (S : Int → Bool) (n : Nat), xs = [.ref d] ∧ H d = some (.set S n) ∧ Q (.int (n : Nat)) H) := by
 intro pins s σ H xs us Q I rv h
 obtain ⟨d, S, n, rfl, hd, q⟩ := h
 obtain ⟨u, rfl, ru⟩ := rv.one
 cases ru
 obtain ⟨o, es, ep, t, ho, hex, hdt, _, _, hb, hf, hn⟩ := I.hok d _ hd
 subst hn
 refine call_len_set ho hex hdt hf ?_ ⟨.int _, H, I.tok _, ⟨_, rfl⟩, q⟩
 have : es.size < 4096 := hb
 omega
theorem Qfk : ∀ {ns : List Int} {us : List Value}, IntsAre us ns → Vals (ns.map V.int) us := by
 intro ns us h
 induction h with
 | nil => exact .nil
 | cons => rename_i ih; exact .cons ⟨_, rfl⟩ ih
theorem Qfl {K : Frag} (hK : X.K = K) : Jq X (.builtin "sorted") (fun xs H Q => ∃ (l : Addr) (ns : List Int), xs = [.ref l] ∧ SqL K H l (ns.map V.int) ∧ ns.length < 64 ∧
  ∀ (D : Addr) (qs : List Int), H D = none → qs.Perm ns → qs.Pairwise (· ≤ ·) → Q (.ref D) (upd H D (.lst (qs.map V.int)))) := by
 subst hK
 intro pins s σ H xs us Q I rv h
 obtain ⟨l, ns, rfl, hq, h64, q⟩ := h
 obtain ⟨u, rfl, ru⟩ := rv.one
 cases ru
 obtain ⟨its, r, p, hz⟩ := I.list hq
 have lv := r.length
 rw [jQ] at lv
 refine sorted_ints p.isList (intsAre_of r) (by omega) fun out ns' h1 h2 h3 => ?_
 obtain ⟨e, he⟩ := sortedAll_at s.heap its out
 have hv := Qfk h1
 have lo : ns'.length = ns.length := h2.length_eq
 have hz64 : (64 : Nat) < sizeLine := by decide
 have hlen : (ns'.map V.int).length ≤ sizeLine := by rw [jQ]; omega
 exact ⟨.ref (s.heap.objs.size + 1), _, I.laid (t' := s.toks) (o := .lst (ns'.map V.int)) (fun b ob z => sortedAll_old z) (Nat.le_succ _) ⟨hlen, out.toList, e, hv, by simpa using he⟩, rfl, q _ ns' (I.hok.fresh (Nat.le_succ _)) h2 h3⟩
theorem Qsz : PIp X .Mult (fun x y H Q => ∃ i j, x = .int i ∧ y = .int j ∧ CMul i j ∧ Q (.int (i * j)) H) := by
 intro pins s σ H x y v u Q I r1 r2 h
 obtain ⟨i, j, e1, e2, hm, q⟩ := h
 subst e1; subst e2
 obtain ⟨t, rfl⟩ := r1
 obtain ⟨t', rfl⟩ := r2
 exact imul_int ⟨.int _, H, I.tok _, ⟨_, rfl⟩, q⟩ hm.ok
end
theorem bt_set : bootBuiltins "set" = some (.type "set") := by decide +kernel
theorem bt_str : bootBuiltins "str" = some (.type "str") := by decide +kernel
theorem Qfm (ns : List Int) : (ns.foldl step_dedup []).length = ns.length ↔ ns.Nodup := by
 have key : ∀ (l acc : List Int), (l.foldl step_dedup acc).length ≤ acc.length + l.length ∧ ((l.foldl step_dedup acc).length = acc.length + l.length ↔ l.Nodup ∧ ∀ x ∈ l, x ∉ acc) := by
  intro l
  induction l with
  | nil => intro acc; exact ⟨jZ _, by simp⟩
  | cons a t ih =>
   intro acc
   rw [jJd]
   by_cases h : a ∈ acc
   ·have e : step_dedup acc a = acc := by
     unfold step_dedup
     rw [if_pos (by simpa using h)]
    rw [e]
    obtain ⟨h1, h2⟩ := ih acc
    refine ⟨by rw [yV]; omega, ⟨fun z => by rw [yV] at z; omega, fun z => absurd h (z.2 a zY)⟩⟩
   ·have e : step_dedup acc a = acc ++ [a] := by
     unfold step_dedup
     rw [if_neg (by simpa using h)]
    rw [e]
    obtain ⟨h1, h2⟩ := ih (acc ++ [a])
    rw [kZ, jKa] at h1 h2
    refine ⟨by rw [yV]; omega, ?_⟩
    rw [yV, show acc.length + (t.length + 1) = acc.length + 1 + t.length by omega, h2, jJc]
    constructor
    ·rintro ⟨n1, n2⟩
     refine ⟨⟨fun ha => n2 a ha (by simp), n1⟩, fun x hx => ?_⟩
     rcases yJ.mp hx with rfl | hx
     ·exact h
     ·exact fun z => n2 x hx (kXe _ z)
    ·rintro ⟨⟨n0, n1⟩, n2⟩
     refine ⟨n1, fun x hx z => ?_⟩
     rcases wJ.mp z with z | z
     ·exact n2 x (zW _ hx) z
     ·have : x = a := by simpa using z
      exact n0 (this ▸ hx)
 have := (key ns []).2
 simpa using this
theorem Qbt (n : Nat) : (Builtin.Range.rangeSize ((n : Int) - 1) (-1) (-1)).toNat = n := by
 unfold Builtin.Range.rangeSize
 rw [if_neg (by decide)]
 split
 ·have : (((n : Int) - 1) - (-1) - 1) / (-(-1)) = (n : Int) - 1 := by rw [show (-(-1) : Int) = 1 from rfl, Int.ediv_one]; omega
  omega
 ·simp; omega
theorem Qng {n : Nat} (h : n ≤ 1000000) : Builtin.Range.small ((n : Int) - 1) (-1) (-1) = true := by
 have h0 := Qbt n
 have h1 := Qbm ((n : Int) - 1) (-1) (-1) (by decide)
 unfold Builtin.Range.small
 simp only [Builtin.Range.rangeFitsLong, zV, jYf, decide_eq_true_eq, beq_iff_eq, show ¬ ((-1 : Int) > 0) by decide, if_false]
 omega
end L2
namespace L2
open PySem PySem.Spec PySem.W PyProof.Rows
open PySem.SeqAt
section
variable {A : Around} {s : Shared}
theorem RowIn.inj {h : Heap} {v : Value} {r q : Row} (h1 : RowIn h v r) (h2 : RowIn h v q) : r = q := by
 obtain ⟨a, b, its, t, rfl, ⟨o, ho, _, n, hd⟩, ⟨p, hp, _, m, hm⟩, x3⟩ := h1
 obtain ⟨a', b', its', t', e, ⟨o', ho', _, n', hd'⟩, ⟨p', hp', _, m', hm'⟩, y3⟩ := h2
 cases e
 rw [ho] at ho'; cases ho'
 rw [hd] at hd'
 injection hd' with hd'
 injection hd' with hd'
 injection hd' with e1 e2
 injection e1 with e1
 injection e2 with e2 _
 injection e2 with e2 _
 subst e1
 rw [hp] at hp'; cases hp'
 rw [hm] at hm'
 injection hm' with hm'
 subst hm'
 exact Prod.ext (Qbo x3 y3) e2
theorem Qta {x y : Value} {r q : Row} (hx : RowIn s.heap x r) (hy : RowIn s.heap y q) (hu : A.units + 1 < cLine) : EqAt A s x y (decide (r = q)) := by
 by_cases e : x = y
 ·subst e
  rw [jW (hx.inj hy)]
  exact EqAt.same _
 ·obtain ⟨a, b, its, t, rfl, x1, x2, x3⟩ := hx
  obtain ⟨a', b', its', t', rfl, y1, y2, y3⟩ := hy
  refine EqAt.of_refs (fun z => e (congrArg Value.ref z)) ?_
  have key := RcAt.tuples (A := A) (s := s) (e := fun j => if j = 0 then decide (r.1 = q.1) else (r.2 == q.2)) x1 y1 (by omega) fun j h1 h2 => by
   match j, h1, h2 with
   | 0, _, _ => exact Qnb x2 y2 x3 y3 (by show A.units + 1 < cLine; exact hu)
   | 1, _, _ => exact EqAt.int_int _ _ _ _
  have e2 : ((List.range (min (#[Value.ref b, Value.int r.2 t] : Array Value).size (#[Value.ref b', Value.int q.2 t'] : Array Value).size)).all (fun j => if j = 0 then decide (r.1 = q.1) else (r.2 == q.2)) && (#[Value.ref b, Value.int r.2 t] : Array Value).size == (#[Value.ref b', Value.int q.2 t'] : Array Value).size) = decide (r = q) := by
   show ((decide (r.1 = q.1) && ((r.2 == q.2) && true)) && true) = _
   rw [xY, decide_eq_true_iff, Bool.and_true, Bool.and_true, zV, decide_eq_true_iff, beq_iff_eq]
   exact ⟨fun h => Prod.ext h.1 h.2, fun h => by rw [h]; exact ⟨rfl, rfl⟩⟩
  rw [e2] at key
  exact key
end
section
variable {X : Cx}
open Classical in
open Classical in
end
end L2
namespace L2
open PySem PySem.Spec PySem.W PyProof.Rows
open PySem.SeqAt
theorem Qaj : fillsNumberSlot (.type "tuple") "mul" = pure false :=
 PySem.fillsNumberSlot_seq (id := "tuple.__mul__") (r := some (.builtin "tuple.__rmul__")) F.slot_tuple_mul.lookup (by decide +kernel) F.slot_tuple_rmul.lookup (by decide +kernel)
theorem Qfn : seqRepeat? (.type "tuple") = pure (some (.builtin "tuple.__mul__")) := by
 unfold seqRepeat?
 rw [PySem.seqSlot_of (T := "tuple") (name := "__mul__") (id := "tuple.__mul__") F.slot_tuple_mul.lookup (by decide +kernel), PySem.seqSlot_of (T := "tuple") (name := "__rmul__") (id := "tuple.__rmul__") F.slot_tuple_rmul.lookup (by decide +kernel)]
 rfl
theorem Qcm (a : Int) (t : Tok) (l : Addr) (items : Array Value) (n : Nat) (dd : Option Addr) (sl : Array (Option Value)) :
  Meets (Builtin.«int.__rmul__» ⟨[.int a t, .ref l], []⟩) (fun _ R s => s.heap.get? l = some { cls := .type "tuple", dict := dd, data := .seq items n, slots := sl } ∧ R (.ok (.ret Value.notImplemented)) s) :=
 .of_wp fun prog w A R s h => by obtain ⟨hp, g, d, tk, os⟩ := s; obtain ⟨hl, h⟩ := h; wp_walk; exact ⟨_, rfl, h⟩
theorem Qcn (l : Addr) (items : Array Value) (n : Nat) (dd : Option Addr) (sl : Array (Option Value)) (x : Int) (u : Tok) (h0 : ¬ ((decide (x < -(2 ^ 63)) || decide (x ≥ 2 ^ 63)) = true)) (h1 : (items.isEmpty || x == 1) = true) :
  Meets (Builtin.«tuple.__mul__» ⟨[.ref l, .int x u], []⟩) (fun _ R s => s.heap.get? l = some { cls := .type "tuple", dict := dd, data := .seq items n, slots := sl } ∧ R (.ok (.ret (.ref l))) s) :=
 .of_wp fun prog w A R s h => by
  obtain ⟨hp, g, d, tk, os⟩ := s; obtain ⟨hl, h⟩ := h
  wp_walk; refine wpAny_ite_false (yQ h0) ?_; wp_walk
  exact ⟨_, rfl, h⟩
theorem Qco (l : Addr) (items : Array Value) (n : Nat) (dd : Option Addr) (sl : Array (Option Value)) (x : Int) (u : Tok) (h0 : ¬ ((decide (x < -(2 ^ 63)) || decide (x ≥ 2 ^ 63)) = true)) (h1 : ¬ (items.isEmpty || x == 1) = true) (h2 : (decide (x ≤ 0) || items.isEmpty) = true) :
  Meets (Builtin.«tuple.__mul__» ⟨[.ref l, .int x u], []⟩) (fun _ R s => s.heap.get? l = some { cls := .type "tuple", dict := dd, data := .seq items n, slots := sl } ∧ R (.ok (.ret (.ref s.heap.objs.size))) { s with heap := s.heap.push { cls := .type "tuple", data := .seq #[] }, toks := s.toks }) :=
 .of_wp fun prog w A R s h => by
  obtain ⟨hp, g, d, tk, os⟩ := s; obtain ⟨hl, h⟩ := h
  wp_walk; refine wpAny_ite_false (yQ h0) ?_; wp_walk
  exact ⟨_, rfl, h⟩
theorem Qdk (l : Addr) (items : Array Value) (n : Nat) (dd : Option Addr) (sl : Array (Option Value)) (x : Int) (u : Tok) (h0 : ¬ ((decide (x < -(2 ^ 63)) || decide (x ≥ 2 ^ 63)) = true)) (h1 : ¬ (items.isEmpty || x == 1) = true) (h2 : ¬ (decide (x ≤ 0) || items.isEmpty) = true)
  (h3 : ¬ ((items.size : Int) * x > (2 ^ 63 - 1) / 8)) (h4 : ¬ Builtin.Tuple.tupleTooMany ((items.size : Int) * x) = true) (h5 : (List.foldl (fun x1 x2 => x1 ++ x2) #[] (List.replicate x.toNat items)).size ≤ sizeLine) :
  Meets (Builtin.«tuple.__mul__» ⟨[.ref l, .int x u], []⟩) (fun _ R s => s.heap.get? l = some { cls := .type "tuple", dict := dd, data := .seq items n, slots := sl } ∧ R (.ok (.ret (.ref s.heap.objs.size))) { s with heap := s.heap.push { cls := .type "tuple", data := .seq (List.foldl (fun x1 x2 => x1 ++ x2) #[] (List.replicate x.toNat items)) }, toks := s.toks }) :=
 .of_wp fun prog w A R s h => by
  obtain ⟨hp, g, d, tk, os⟩ := s; obtain ⟨hl, h⟩ := h
  wp_walk; refine wpAny_ite_false (yQ h0) ?_; wp_walk; refine wpAny_ite_false (yQ h3) ?_; wp_walk
  exact ⟨_, rfl, h⟩
section
variable {X : Cx}
def rRepT (K : Fg) : R2 := fun x y H Q => ∃ l k xs, x = .ref l ∧ y = .int k ∧ SqT K H l xs ∧ 0 ≤ k ∧ k < 2 ^ 31 ∧ xs.length * k.toNat ≤ sizeLine ∧
 ∀ p H', Same H H' → SqT K H' p (List.replicate k.toNat xs).flatten → Q (.ref p) H'
theorem Qhe : OpR X (binaryOp .Mult) (rRepT X.K) := by
 intro pins s σ H x y v u Q I rx ry h
 obtain ⟨l, k, xs, rfl, rfl, hl, h1, h2, hz, q⟩ := h
 cases rx
 obtain ⟨t, rfl⟩ := ry
 obtain ⟨its, r, p1, hz1⟩ := I.tuple hl
 have hlen : its.length = xs.length := r.length.symm
 obtain ⟨⟨c1, d1, da1, sl1⟩, ho, hc, n, hd⟩ := id p1
 simp only at hc hd
 subst hc hd
 have h0 : ¬ ((decide (k < -(2 ^ 63)) || decide (k ≥ 2 ^ 63)) = true) := by
  rw [jYf, decide_eq_true_iff, decide_eq_true_iff]
  omega
 refine wpAny_binaryOp_repeat_ref (T := "tuple") (U := "int") (by decide) ⟨_, ho, rfl⟩ (fun s' => typeIs_int s' k t) Qaj F.fills_int_mul F.slot_int_rmul Qfn F.slot_int_index.lookup
  (call_meets F.slot_int_rmul (typeIs_int s k t) F.entry_int_rmul (F.args_int_rmul_2 _ _) (Qcm k t l its.toArray n d1 sl1)
   ⟨ho, rfl, ⟨_, ho, rfl⟩, ?_⟩)
 by_cases c1 : (its.toArray.isEmpty || k == 1) = true
 ·refine call_meets F.slot_tuple_mul ⟨_, ho, rfl⟩ F.entry_tuple_mul (F.args_tuple_mul_2 _ _) (Qcn l its.toArray n d1 sl1 k t h0 c1) ⟨ho, ?_⟩
  refine ⟨.ref l, H, I, rfl, q l H (Same.refl H) ?_⟩
  have : (List.replicate k.toNat xs).flatten = xs := by
   rcases (jYf _ _).mp c1 with c | c
   ·have : its = [] := by simpa using c
    subst this
    have : xs = [] := zZ hlen.symm
    subst this
    simp
   ·have : k = 1 := by simpa using c
    subst this
    simp
  rw [this]
  exact hl
 ·by_cases c2 : (decide (k ≤ 0) || its.toArray.isEmpty) = true
  ·refine call_meets F.slot_tuple_mul ⟨_, ho, rfl⟩ F.entry_tuple_mul (F.args_tuple_mul_2 _ _) (Qco l its.toArray n d1 sl1 k t h0 c1 c2) ⟨ho, ?_⟩
   have hk : k = 0 := by
    rcases (jYf _ _).mp c2 with c | c
    ·have := yX c; omega
    ·exact absurd (by rw [c]; rfl) c1
   subst hk
   exact ⟨.ref _, _, I.laid (t' := s.toks) (o := .tup []) (fun b ob q => jJ _ q) (jZ _) ⟨by decide, _, .nil, IsTup.new _ _⟩, rfl, q _ _ (Qb I.fresh _) (Xa Qc)⟩
  ·have hx : its.length * k.toNat ≤ sizeLine := by rw [hlen]; exact hz
   have hk0 : 0 < k := by
    have : ¬ k ≤ 0 := fun z => c2 (by rw [jW z]; rfl)
    omega
   have hmul : ((its.toArray.size : Nat) : Int) * k = ((its.length * k.toNat : Nat) : Int) := by
    rw [jV, Int.natCast_mul]
    congr 1
    omega
   have hs : (sizeLine : Nat) ≤ (2 ^ 63 - 1) / 8 := by decide
   have f0 : ∀ m : Nat, List.foldl (fun x1 x2 => x1 ++ x2) #[] (List.replicate m its.toArray) = (List.replicate m its).flatten.toArray := fun m => by
    have := foldl_rep its m []
    rw [List.nil_append] at this
    exact this
   have hfl : (List.replicate k.toNat its).flatten.length = k.toNat * its.length := len_rep its k.toNat
   refine call_meets F.slot_tuple_mul ⟨_, ho, rfl⟩ F.entry_tuple_mul (F.args_tuple_mul_2 _ _) (Qdk l its.toArray n d1 sl1 k t h0 c1 c2 ?_ ?_ ?_) ⟨ho, ?_⟩
   ·rw [hmul]; omega
   ·rw [hmul]
    unfold Builtin.Tuple.tupleTooMany
    rw [decide_eq_true_iff]
    omega
   ·rw [f0, jV, hfl, Nat.mul_comm]; exact hx
   ·rw [f0]
    exact ⟨.ref _, _, I.laid (t' := s.toks) (o := .tup (List.replicate k.toNat xs).flatten) (fun b ob q => jJ _ q) (jZ _) ⟨by rw [len_rep, Nat.mul_comm, ← hlen]; exact hx, _, r.rep k.toNat, IsTup.new _ _⟩, rfl, q _ _ (Qb I.fresh _) (Xa Qc)⟩
theorem Qpv {K : Fg} (hK : X.K = K) : OpR X (binaryOp .Mult) (rRepT K) := by subst hK; exact Qhe
open Classical in
theorem Qfo {K : Fg} (hK : X.K = K) (hu : X.A.units + 6 < cLine) : MtM X "list.count" (fun x ws H Q => ∃ (l a : Addr) (r : Row) (vs : List V) (rs : List Row), x = .ref l ∧ ws = [.ref a] ∧ SqL K H l vs ∧ Nb.RowAt K H a r ∧ Nb.RowsAre K H vs rs ∧
  ∀ c : Nat, Q (.int (c : Int)) H) := by
 subst hK
 intro pins s σ H x ws v us Q I rx rv h
 obtain ⟨l, a, r, vs, rs, rfl, rfl, hH, ra, hr, q⟩ := h
 cases rx
 obtain ⟨u, rfl, ru⟩ := rv.one
 cases ru
 obtain ⟨its, rr, pl, hz⟩ := I.list hH
 have pr := Qfj I rr hr
 have rx := Qir I ra
 obtain ⟨⟨c1, d1, da1, sl1⟩, ho, hc, n, hd⟩ := id pl.isList
 simp only at hc hd
 subst hc hd
 refine call_meets F.slot_list_count ⟨_, ho, rfl⟩ F.entry_list_count (F.args_list_count_2 _ _) (list_countAt l its.toArray n d1 sl1 (.ref a) (fun v => decide (RowIn s.heap v r))) ⟨ho, fun y hy => ?_, ⟨.int _, H, I.tok _, ⟨_, rfl⟩, q _⟩⟩
 obtain ⟨i, hi, rfl⟩ := kYb (show y ∈ its by simpa using hy)
 obtain ⟨q', e1, e2⟩ := Paired.getR pr (gE hi)
 have : decide (RowIn s.heap its[i] r) = decide (q' = r) := decide_eq_decide.mpr ⟨fun z => e2.inj z, fun z => z ▸ e2⟩
 rw [this]
 exact Qta e2 rx (by simp only [Around.in1_units]; omega)
end
end L2
namespace HT
open PySem PySem.Spec PyProof.Rows
section
variable {prog : Program} {w : World} {A : Around} {E : Value → Shared → Prop} {s : Shared}
theorem getItem_tuple_whole {t sl : Addr} {items : Array Value} {vl vu : Value} {lo hi : Option Int} {Q : Value → Shared → Prop} (ht : IsTup s.heap t items) (hs : s.heap.IsSliceOf sl vl vu .none) (pl : IsPart vl lo) (pu : IsPart vu hi)
  (hw : sIx items.size 0 lo = 0 ∧ sIx items.size items.size hi = items.size) (h : Q (.ref t) s) : wpAny (model prog w) A (getItem (.ref t) (.ref sl)) Q E s := by
 obtain ⟨os, hos, hcs, hds⟩ := id hs
 have hTs : s.TypeIs (.ref sl) "slice" := ⟨os, hos, hcs⟩
 unfold getItem
 try with_reducible refine wpAny_holding ?_
 first | refine jX (kQ ?_) | skip
 refine jX (wpAny_sequenceKey ht.typeIs (by decide) ?_)
 refine jX (wpAny_callSpecial?_slot (name := Str.ofString "__getitem__") ht.typeIs PyProof.Rows.slot_tuple_getitem
  (wpAny_call_entry PyProof.Rows.slot_tuple_getitem ht.typeIs entry_tuple_getitem ?_ (args_tuple_getitem _ _)))
 show wpAny _ _ (Builtin.Tuple.tupleItemsOf (.ref t) >>= _) _ _ s
 refine jX (tupleItemsOf_ ht ?_)
 refine jX (wpAny_typeOf hTs ?_)
 rw [if_pos (by decide)]
 refine jX (Ke hs pl pu ?_)
 have hyes : ((((sIx items.size 0 lo : Nat) : Int) == 0 && (1 : Int) == 1 && (sIx items.size items.size hi - sIx items.size 0 lo) == items.size) = true) := by
  rw [hw.1, hw.2]
  simp
 show wpAny _ _ (if (((sIx items.size 0 lo : Nat) : Int) == 0 && (1 : Int) == 1 && (sIx items.size items.size hi - sIx items.size 0 lo) == items.size) = true then _ else _) _ _ s
 rw [if_pos hyes]
 unfold Builtin.Tuple.tupleIsExact
 refine jX (jX (wpAny_typeOf ht.typeIs (kQ ?_)))
 rw [if_pos (by decide)]
 refine jX (wpAny_rule ?_)
 first
  | exact kQ ⟨_, rfl, kQ h⟩
  | exact jX (kQ ⟨_, rfl, kQ h⟩)
  | exact jX (kQ (kQ ⟨_, rfl, kQ h⟩))
end
end HT
namespace L2
open PySem PySem.Spec PySem.W PyProof.Rows
open PySem.SeqAt
section
variable {X : Cx}
def rSlG (K : Fg) : V → Option Int → Option Int → Hp → VK → Prop := fun x lo hi H Q => ∃ a xs, x = .ref a ∧ SqT K H a xs ∧ ∀ p H', Same H H' → SqT K H' p (cutV xs lo hi) → Q (.ref p) H'
theorem Qnh : SlR X (rSlG X.K) := by
 intro pins s σ H x v vl vu lo hi sl Q I rx hs pl pu h
 obtain ⟨a, xs, rfl, hx, q⟩ := h
 by_cases hw : HT.sIx xs.length 0 lo = 0 ∧ HT.sIx xs.length xs.length hi = xs.length
 ·have e : cutV xs lo hi = xs := by unfold cutV; rw [hw.1, hw.2]; simp
  rw [e] at q
  cases rx
  obtain ⟨its, r, ht, hz⟩ := I.tuple hx
  have hlen : its.toArray.size = xs.length := by rw [jV]; exact r.length.symm
  refine ⟨"tuple", _, PyProof.Rows.slot_tuple_getitem.lookup, ht.typeIs, ?_⟩
  exact HT.getItem_tuple_whole ht hs pl pu (by rw [hlen]; exact hw) ⟨.ref a, H, I, rfl, q a H (Same.refl H) hx⟩
 ·exact Qlv pins s σ H (.ref a) v vl vu lo hi sl Q I rx hs pl pu ⟨a, xs, rfl, hx, hw, fun p hp => q p _ (Qb hp _) (Xa Qc)⟩
theorem Qpw {K : Fg} (hK : X.K = K) : SlR X (rSlG K) := by subst hK; exact Qnh
end
end L2
namespace L2
open PySem
section
variable {X : Cx}
theorem Qbu {a b c es} {te : TE} {t : TA} (ha : PE X (.Constant a b c) te) (hr : PA X es t) : PA X (.Constant a b c :: es) (Va te t) := Qa ha hr
theorem Qpx {a b c es} {te : TE} {t : TA} (ha : PE X (.Tuple a b c) te) (hr : PA X es t) : PA X (.Tuple a b c :: es) (Va te t) := Qa ha hr
theorem Xv {a b es} {te : TE} {t : TA} (ha : PE X (.Name a b) te) (hr : PA X es t) : PA X (.Name a b :: es) (Va te t) := Qa ha hr
theorem Qkl {a b c es} {te : TE} {t : TA} (ha : PE X (.UnaryOp a b c) te) (hr : PA X es t) : PA X (.UnaryOp a b c :: es) (Va te t) := Qa ha hr
theorem Qpy {a b c d es} {te : TE} {t : TA} (ha : PE X (.BinOp a b c d) te) (hr : PA X es t) : PA X (.BinOp a b c d :: es) (Va te t) := Qa ha hr
theorem Qtb {a b c d es} {te : TE} {t : TA} (ha : PE X (.Call a b c d) te) (hr : PA X es t) : PA X (.Call a b c d :: es) (Va te t) := Qa ha hr
theorem Zn {a b c es} {te : TE} {t : TA} (ha : PE X (.Subscript a b c) te) (hr : PA X es t) : PA X (.Subscript a b c :: es) (Va te t) := Qa ha hr
theorem Qhf {a b c d es} {te : TE} {t : TA} (ha : PE X (.ListComp a b c d) te) (hr : PA X es t) : PA X (.ListComp a b c d :: es) (Va te t) := Qa ha hr
end
section
variable {X : Cx}
@[irreducible] def QE (X : Cx) (e : Expr) (t : TE) : Prop := PE X e t
@[irreducible] def QA (X : Cx) (es : List Expr) (t : TA) : Prop := PA X es t
@[irreducible] def QS (X : Cx) (st : Stmt) (t : TS) : Prop := PS X st t
@[irreducible] def QSs (X : Cx) (st : List Stmt) (t : TS) : Prop := PSs X st t
theorem QE.of {e : Expr} {t : TE} (h : PE X e t) : QE X e t := by unfold QE; exact h
theorem QE.pe {e : Expr} {t : TE} (h : QE X e t) : PE X e t := by unfold QE at h; exact h
theorem QA.of {es : List Expr} {t : TA} (h : PA X es t) : QA X es t := by unfold QA; exact h
theorem QA.pa {es : List Expr} {t : TA} (h : QA X es t) : PA X es t := by unfold QA at h; exact h
theorem QS.of {st : Stmt} {t : TS} (h : PS X st t) : QS X st t := by unfold QS; exact h
theorem QS.ps {st : Stmt} {t : TS} (h : QS X st t) : PS X st t := by unfold QS at h; exact h
theorem QSs.of {st : List Stmt} {t : TS} (h : PSs X st t) : QSs X st t := by unfold QSs; exact h
theorem QSs.pss {st : List Stmt} {t : TS} (h : QSs X st t) : PSs X st t := by unfold QSs at h; exact h
theorem Xs : QA X [] tNil := .of Qe
theorem Xb {a b c es} {te : TE} {t : TA} (ha : QE X (.Constant a b c) te) (hr : QA X es t) : QA X (.Constant a b c :: es) (Va te t) := .of (Qbu ha.pe hr.pa)
theorem Qdl {a b c es} {te : TE} {t : TA} (ha : QE X (.Tuple a b c) te) (hr : QA X es t) : QA X (.Tuple a b c :: es) (Va te t) := .of (Qpx ha.pe hr.pa)
theorem Zd {a b es} {te : TE} {t : TA} (ha : QE X (.Name a b) te) (hr : QA X es t) : QA X (.Name a b :: es) (Va te t) := .of (Xv ha.pe hr.pa)
theorem Qcs {a b c es} {te : TE} {t : TA} (ha : QE X (.UnaryOp a b c) te) (hr : QA X es t) : QA X (.UnaryOp a b c :: es) (Va te t) := .of (Qkl ha.pe hr.pa)
theorem Jw {a b c d es} {te : TE} {t : TA} (ha : QE X (.BinOp a b c d) te) (hr : QA X es t) : QA X (.BinOp a b c d :: es) (Va te t) := .of (Qpy ha.pe hr.pa)
theorem Ja {a b c d es} {te : TE} {t : TA} (ha : QE X (.Call a b c d) te) (hr : QA X es t) : QA X (.Call a b c d :: es) (Va te t) := .of (Qtb ha.pe hr.pa)
theorem Qaf {a b c es} {te : TE} {t : TA} (ha : QE X (.Subscript a b c) te) (hr : QA X es t) : QA X (.Subscript a b c :: es) (Va te t) := .of (Zn ha.pe hr.pa)
theorem Yo {es : List Expr} {t : TA} {x1} {pos : Pos} (h : QA X es t) : QE X (.Tuple es x1 pos) (tTup t) := .of (Yy h.pa)
theorem Vf {es : List Expr} {t : TA} {pos : Pos} (h : QA X es t) : QE X (.List es pos) (tLst t) := .of (Jg h.pa)
theorem Xl : QSs X [] tNext := .of Xg
theorem Qp {st : Stmt} {rest : List Stmt} {t u : TS} (h1 : QS X st t) (h2 : QSs X rest u) : QSs X (st :: rest) (tSeq t u) := .of (Qg h1.ps h2.pss)
theorem Xc {st : Stmt} {t : TS} (h1 : QS X st t) : QSs X [st] t := .of (Qn h1.ps)
theorem Yw {i : Nat} {x : Str} {e : Expr} {te : TE} {pos pos' : Pos} (hN : X.N.Nodup) (hi : X.N[i]? = some x) (hx : Loc X.env.scope x) (he : QE X e te) (hs : autoParam (swapsWith e (some (.Name x pos')) pos.line X.env = pure false) L2.aRfl._auto_1) (hf : autoParam (X.fn x = true ∨ X.env.scope.names.lookup x = some .local) L2.aFst._auto_1) :
  QS X (.Assign [.Name x pos'] e pos) (tAsg te (Qjv i)) := .of (Qx hN hi hx he.pe hs hf)
theorem Qbv {tg e : Expr} {te : TE} {g : TG} {pos : Pos} (he : QE X e te) (hg : PG X tg g) (hs : autoParam (swapsWithSole [tg] e pos.line X.env = pure false) L2.aRfl._auto_1) (hw : autoParam (swappedStores [tg] e X.env = pure none) L2.aRfl._auto_1)
  (h1 : autoParam ((assignEach [tg] X.env).map (·.2) = [assign tg X.env]) L2.aRfl._auto_1) : QS X (.Assign [tg] e pos) (tAsg te g) := .of (Vc he.pe hg hs hw h1)
theorem Xt {e : Expr} {te : TE} {pos : Pos} (he : QE X e te) : QS X (.Return (some e) pos) (tRet te) := .of (Qv he.pe)
theorem Ze {c : Expr} {a b : List Stmt} {t u : TS} {tc : TT} {pos : Pos} (hc : PT X c tc) (ha : QSs X a t) (hb : QSs X b u) : QS X (.If c a b pos) (tIfS tc t u) := .of (Yi hc ha.pss hb.pss)
theorem lenS {α : Type} {l : List α} {n : Nat} (h : l.length = n + 1) : ∃ a t, l = a :: t ∧ t.length = n := by
 cases l with
 | nil => exact absurd h (Nat.succ_ne_zero n).symm
 | cons a t => exact ⟨a, t, rfl, Nat.succ.inj h⟩
theorem len1 {α : Type} {l : List α} (h : l.length = 1) : ∃ a, l = [a] := by
 obtain ⟨a, t, rfl, h'⟩ := lenS h
 exact ⟨a, congrArg _ (List.length_eq_zero_iff.mp h')⟩
theorem len2 {α : Type} {l : List α} (h : l.length = 2) : ∃ a b, l = [a, b] := by
 obtain ⟨a, t, rfl, h'⟩ := lenS h
 obtain ⟨b, rfl⟩ := len1 h'
 exact ⟨a, b, rfl⟩
theorem len3 {α : Type} {l : List α} (h : l.length = 3) : ∃ a b c, l = [a, b, c] := by
 obtain ⟨a, t, rfl, h'⟩ := lenS h
 obtain ⟨b, c, rfl⟩ := len2 h'
 exact ⟨a, b, c, rfl⟩
theorem len4 {α : Type} {l : List α} (h : l.length = 4) : ∃ a b c d, l = [a, b, c, d] := by
 obtain ⟨a, t, rfl, h'⟩ := lenS h
 obtain ⟨b, c, d, rfl⟩ := len3 h'
 exact ⟨a, b, c, d, rfl⟩
theorem len5 {α : Type} {l : List α} (h : l.length = 5) : ∃ a b c d e, l = [a, b, c, d, e] := by
 obtain ⟨a, t, rfl, h'⟩ := lenS h
 obtain ⟨b, c, d, e, rfl⟩ := len4 h'
 exact ⟨a, b, c, d, e, rfl⟩
theorem bind1 {F : List Value → Prop} (h : ∀ a, F [a]) : ∀ us : List Value, us.length = 1 → F us := fun us hl => by
 obtain ⟨a, rfl⟩ := len1 hl
 exact h a
theorem Jb {F : List Value → Prop} (h : ∀ a b, F [a, b]) : ∀ us : List Value, us.length = 2 → F us := fun us hl => by
 obtain ⟨a, b, rfl⟩ := len2 hl
 exact h a b
theorem Qfp {F : List Value → Prop} (h : ∀ a b c, F [a, b, c]) : ∀ us : List Value, us.length = 3 → F us := fun us hl => by
 obtain ⟨a, b, c, rfl⟩ := len3 hl
 exact h a b c
theorem Wr {F : List Value → Prop} (h : ∀ a b c d, F [a, b, c, d]) : ∀ us : List Value, us.length = 4 → F us := fun us hl => by
 obtain ⟨a, b, c, d, rfl⟩ := len4 hl
 exact h a b c d
theorem bind5 {F : List Value → Prop} (h : ∀ a b c d e, F [a, b, c, d, e]) : ∀ us : List Value, us.length = 5 → F us := fun us hl => by
 obtain ⟨a, b, c, d, e, rfl⟩ := len5 hl
 exact h a b c d e
theorem Yj {s1 s2 s3 : TS} {D : Ends} {σ : St} {H : Hp} (h : let r3 : TS := s3; let r2 : TS := tSeq s2 r3; tSeq s1 r2 D σ H) : (tSeq s1 (tSeq s2 (s3))) D σ H := h
theorem Zj {s1 s2 s3 s4 : TS} {D : Ends} {σ : St} {H : Hp} (h : let r4 : TS := s4; let r3 : TS := tSeq s3 r4; let r2 : TS := tSeq s2 r3; tSeq s1 r2 D σ H) : (tSeq s1 (tSeq s2 (tSeq s3 (s4)))) D σ H := h
theorem Qdm {s1 s2 s3 s4 s5 : TS} {D : Ends} {σ : St} {H : Hp} (h : let r5 : TS := s5; let r4 : TS := tSeq s4 r5; let r3 : TS := tSeq s3 r4; let r2 : TS := tSeq s2 r3; tSeq s1 r2 D σ H) : (tSeq s1 (tSeq s2 (tSeq s3 (tSeq s4 (s5))))) D σ H := h
theorem Qis {s1 s2 s3 s4 s5 s6 : TS} {D : Ends} {σ : St} {H : Hp} (h : let r6 : TS := s6; let r5 : TS := tSeq s5 r6; let r4 : TS := tSeq s4 r5; let r3 : TS := tSeq s3 r4; let r2 : TS := tSeq s2 r3; tSeq s1 r2 D σ H) : (tSeq s1 (tSeq s2 (tSeq s3 (tSeq s4 (tSeq s5 (s6)))))) D σ H := h
theorem Qdn {s1 s2 s3 s4 s5 s6 s7 : TS} {D : Ends} {σ : St} {H : Hp} (h : let r7 : TS := s7; let r6 : TS := tSeq s6 r7; let r5 : TS := tSeq s5 r6; let r4 : TS := tSeq s4 r5; let r3 : TS := tSeq s3 r4; let r2 : TS := tSeq s2 r3; tSeq s1 r2 D σ H) : (tSeq s1 (tSeq s2 (tSeq s3 (tSeq s4 (tSeq s5 (tSeq s6 (s7))))))) D σ H := h
theorem Qni {s1 s2 s3 s4 s5 s6 s7 s8 s9 s10 s11 s12 : TS} {D : Ends} {σ : St} {H : Hp} (h : let r12 : TS := s12; let r11 : TS := tSeq s11 r12; let r10 : TS := tSeq s10 r11; let r9 : TS := tSeq s9 r10; let r8 : TS := tSeq s8 r9; let r7 : TS := tSeq s7 r8; let r6 : TS := tSeq s6 r7; let r5 : TS := tSeq s5 r6; let r4 : TS := tSeq s4 r5; let r3 : TS := tSeq s3 r4; let r2 : TS := tSeq s2 r3; tSeq s1 r2 D σ H) : (tSeq s1 (tSeq s2 (tSeq s3 (tSeq s4 (tSeq s5 (tSeq s6 (tSeq s7 (tSeq s8 (tSeq s9 (tSeq s10 (tSeq s11 (s12)))))))))))) D σ H := h
theorem Qfq {s1 s2 s3 s4 s5 s6 s7 s8 s9 s10 s11 s12 s13 : TS} {D : Ends} {σ : St} {H : Hp} (h : let r13 : TS := s13; let r12 : TS := tSeq s12 r13; let r11 : TS := tSeq s11 r12; let r10 : TS := tSeq s10 r11; let r9 : TS := tSeq s9 r10; let r8 : TS := tSeq s8 r9; let r7 : TS := tSeq s7 r8; let r6 : TS := tSeq s6 r7; let r5 : TS := tSeq s5 r6; let r4 : TS := tSeq s4 r5; let r3 : TS := tSeq s3 r4; let r2 : TS := tSeq s2 r3; tSeq s1 r2 D σ H) : (tSeq s1 (tSeq s2 (tSeq s3 (tSeq s4 (tSeq s5 (tSeq s6 (tSeq s7 (tSeq s8 (tSeq s9 (tSeq s10 (tSeq s11 (tSeq s12 (s13))))))))))))) D σ H := h
end
end L2
namespace Nb
open PySem L2
def top (i : Nat) : Stmt := PySem.Challenge.pw_nonebetter_k10_lines_of_each_word.main.body.getD i (.Pass ⟨0, 0, 0, 0⟩)
abbrev Qam : Stmt := top 1
abbrev Qit : Stmt := top 2
abbrev Qdo : Stmt := top 3
abbrev Qan : Stmt := top 18
abbrev Qdp : Stmt := top 19
abbrev Qdq : Stmt := top 20
inductive Dt
 | non
 | bl (b : Bool)
 | int (i : Int)
 | str (s : Str)
 | tup (xs : List Dt)
 | lst (xs : List Dt)
inductive HasT (K : Fg) (H : Hp) : V → Dt → Prop
 | non : HasT K H .non .non
 | bl (b) : HasT K H (.bl b) (.bl b)
 | int (i) : HasT K H (.int i) (.int i)
 | str (s) : HasT K H (.str s) (.str s)
 | tup {a vs xs} : SqT K H a vs → vs.length = xs.length → (∀ (i : Nat) v x, vs[i]? = some v → xs[i]? = some x → HasT K H v x) → HasT K H (.ref a) (.tup xs)
 | lst {a vs xs} : SqL K H a vs → vs.length = xs.length → (∀ (i : Nat) v x, vs[i]? = some v → xs[i]? = some x → HasT K H v x) → HasT K H (.ref a) (.lst xs)
theorem HasT.same {K : Fg} {H H' : Hp} (e : Same H H') {x : V} {d : Dt} (h : HasT K H x d) : HasT K H' x d := by
 induction h with
 | non => exact .non
 | bl b => exact .bl b
 | int i => exact .int i
 | str s => exact .str s
 | tup h1 h2 _ ih => exact .tup (e.tup h1) h2 ih
 | lst h1 h2 _ ih => exact .lst (e.seq h1) h2 ih
theorem HasT.tup_inv {K : Fg} {H : Hp} {v : V} {xs : List Dt} (h : HasT K H v (.tup xs)) : ∃ a vs, v = .ref a ∧ SqT K H a vs ∧ vs.length = xs.length ∧ ∀ (i : Nat) v x, vs[i]? = some v → xs[i]? = some x → HasT K H v x := by
 cases h with | tup h1 h2 h3 => exact ⟨_, _, rfl, h1, h2, h3⟩
theorem HasT.lst_inv {K : Fg} {H : Hp} {v : V} {xs : List Dt} (h : HasT K H v (.lst xs)) : ∃ a vs, v = .ref a ∧ SqL K H a vs ∧ vs.length = xs.length ∧ ∀ (i : Nat) v x, vs[i]? = some v → xs[i]? = some x → HasT K H v x := by
 cases h with | lst h1 h2 h3 => exact ⟨_, _, rfl, h1, h2, h3⟩
theorem HasT.pair_inv {K : Fg} {H : Hp} {v : V} {d e : Dt} (h : HasT K H v (.tup [d, e])) : ∃ a x y, v = .ref a ∧ SqT K H a [x, y] ∧ HasT K H x d ∧ HasT K H y e := by
 obtain ⟨a, vs, rfl, h1, h2, h3⟩ := h.tup_inv
 obtain ⟨x, y, rfl⟩ := len2 (l := vs) h2
 exact ⟨a, x, y, rfl, h1, h3 0 x d rfl rfl, h3 1 y e rfl rfl⟩
theorem HasT.isi {K : Fg} {H : Hp} {v : V} {d : Dt} (h : HasT K H v d) (T : String) : isiW K H v T (match d with | .non => false | .int _ => decide (T = "int") | .bl _ => decide (T = "int" ∨ T = "bool") | .str _ => decide (T = "str") | .tup _ => decide (T = "tuple") | .lst _ => decide (T = "list")) := by
 cases h with
 | non => rfl
 | bl b => rfl
 | int i => rfl
 | str s => rfl
 | tup h1 => exact .inl ⟨⟨_, h1⟩, rfl⟩
 | lst h1 => exact .inr ⟨⟨_, h1⟩, rfl⟩
def wholeT : Dt → Bool
 | .int _ => true
 | _ => false
def numT (n : Nat) : Dt → Option Nat
 | .int i => if 0 ≤ i ∧ i < (n : Int) then some i.toNat else none
 | _ => none
def Qhg : Dt → Bool
 | .tup [_, _] => true
 | _ => false
def Jt (n : Nat) : Dt → Option (Nat × Int)
 | .tup [d, .int m] => if 0 ≤ m then (numT n d).map fun k => (k, m) else none
 | _ => none
def Jy (n : Nat) : Dt → Option (Int × Int)
 | .tup [d, e] => match numT n d, numT 2 e with
  | some k, some w => some (((k : Nat) : Int), ((w : Nat) : Int))
  | _, _ => none
 | _ => none
def allT {α : Type} (f : Dt → Option α) : List Dt → Option (List α)
 | [] => some []
 | d :: r => match f d, allT f r with
  | some x, some t => some (x :: t)
  | _, _ => none
theorem Jz {α : Type} (f : Dt → Option α) (ds : List Dt) : (allT f ds).isSome = ds.all fun d => (f d).isSome := by
 induction ds with
 | nil => rfl
 | cons d r ih =>
  show (match f d, allT f r with | some x, some t => some (x :: t) | _, _ => none).isSome = _
  rw [List.all_cons, ← ih]
  cases f d <;> cases allT f r <;> rfl
theorem Qnj {α : Type} {f : Dt → Option α} {d : Dt} {r : List Dt} {xs : List α} (h : allT f (d :: r) = some xs) : ∃ x t, f d = some x ∧ allT f r = some t ∧ xs = x :: t := by
 have h' : (match f d, allT f r with | some x, some t => some (x :: t) | _, _ => none) = some xs := h
 cases e1 : f d with
 | none => rw [e1] at h'; cases h'
 | some x =>
  cases e2 : allT f r with
  | none => rw [e1, e2] at h'; cases h'
  | some t =>
   rw [e1, e2] at h'
   cases h'
   exact ⟨x, t, rfl, rfl, rfl⟩
theorem Ji {α : Type} {f : Dt → Option α} : ∀ {ds : List Dt} {xs : List α}, allT f ds = some xs → xs.length = ds.length ∧ ∀ (i : Nat) d, ds[i]? = some d → ∃ x, xs[i]? = some x ∧ f d = some x := by
 intro ds
 induction ds with
 | nil => intro xs h; cases h; exact ⟨rfl, fun i d e => by simp at e⟩
 | cons d r ih =>
  intro xs h
  have h' : (match f d, allT f r with | some x, some t => some (x :: t) | _, _ => none) = some xs := h
  cases e1 : f d with
  | none => rw [e1] at h'; cases h'
  | some x =>
   cases e2 : allT f r with
   | none => rw [e1, e2] at h'; cases h'
   | some t =>
    rw [e1, e2] at h'
    cases h'
    obtain ⟨l, g⟩ := ih e2
    refine ⟨by rw [yV, yV, l], fun i d' e => ?_⟩
    cases i with
    | zero => simp at e; subst e; exact ⟨x, rfl, e1⟩
    | succ i => obtain ⟨y, e3, e4⟩ := g i d' (by simpa using e); exact ⟨y, by simpa using e3, e4⟩
def Qbw (n : Nat) (xs : List Dt) : Option (List (Int × Int)) := (allT (Jy n) xs).bind fun hs => if (hs.map (·.1)).Nodup then some hs else none
def Zr (n : Nat) : Dt → Option (List (Int × Int))
 | .lst xs => Qbw n xs
 | _ => none
def Qhh (n : Nat) (xs : List Dt) : Option (List Nat) := (allT (numT n) xs).bind fun t => if t.Nodup ∧ t.length = n then some t else none
def Ws (n : Nat) : Dt → Option (List Nat)
 | .lst xs => Qhh n xs
 | _ => none
def lenT : Dt → Nat
 | .lst xs => xs.length
 | _ => 0
def Kn (K : Fg) : Sp := fun vs H Q _ => ∃ (v : V) (d : Dt), vs = [v] ∧ HasT K H v d ∧ Q (.bl (wholeT d)) H
def Ko (K : Fg) : Sp := fun vs H Q _ => ∃ (v : V) (d : Dt) (n : Nat), vs = [v, .int (n : Int)] ∧ HasT K H v d ∧ Q (.bl (numT n d).isSome) H
def Qdr (K : Fg) : Sp := fun vs H Q _ => ∃ (v : V) (d : Dt), vs = [v] ∧ HasT K H v d ∧ Q (.bl (Qhg d)) H
def Kp (K : Fg) : Sp := fun vs H Q _ => ∃ (v : V) (d : Dt) (l : Addr) (ws : List V), vs = [v, .ref l] ∧ HasT K H v d ∧ SqL K H l ws ∧ (∀ (i : Nat) w, ws[i]? = some w → w ≠ .non) ∧ Q (.bl (numT ws.length d).isSome) H
def Qiu (K : Fg) : Sp := fun vs H Q _ => ∃ (v : V) (d : Dt) (l : Addr) (ws : List V), vs = [v, .ref l] ∧ HasT K H v d ∧ SqL K H l ws ∧ (∀ (i : Nat) w, ws[i]? = some w → w ≠ .non) ∧ Q (.bl (Jt ws.length d).isSome) H
def Qiv (K : Fg) : Sp := fun vs H Q _ => ∃ (v : V) (d : Dt) (n : Nat), vs = [v, .int (n : Int)] ∧ HasT K H v d ∧ Q (.bl (Jy n d).isSome) H
def Qct (K : Fg) : Sp := fun vs H Q _ => ∃ (v : V) (d : Dt) (n : Nat), vs = [v, .int (n : Int)] ∧ HasT K H v d ∧ lenT d < 1000 ∧ ∀ H', Same H H' → Q (.bl (Zr n d).isSome) H'
def Qiw (K : Fg) : Sp := fun vs H Q _ => ∃ (v : V) (d : Dt) (n : Nat), vs = [v, .int (n : Int)] ∧ HasT K H v d ∧ lenT d < 64 ∧ n < 1000 ∧ ∀ H', Same H H' → Q (.bl (Ws n d).isSome) H'
theorem Qkm {n : Nat} {d : Dt} {p : Int × Int} (h : Jy n d = some p) : ∃ e f, d = .tup [e, f] ∧ e = .int p.1 ∧ f = .int p.2 ∧ 0 ≤ p.1 ∧ p.1 < (n : Int) ∧ (p.2 = 0 ∨ p.2 = 1) := by
 unfold Jy at h
 split at h
 ·rename_i d e
  cases e1 : numT n d with
  | none => rw [e1] at h; cases h
  | some k =>
   cases e2 : numT 2 e with
   | none => rw [e1, e2] at h; cases h
   | some w =>
    rw [e1, e2] at h
    cases h
    unfold numT at e1 e2
    split at e1
    ·rename_i i
     split at e1
     ·rename_i hi
      cases e1
      split at e2
      ·rename_i j
       split at e2
       ·rename_i hj
        cases e2
        refine ⟨_, _, rfl, ?_, ?_, ?_, ?_, ?_⟩
        ·show Dt.int i = Dt.int ((i.toNat : Nat) : Int); congr 1; omega
        ·show Dt.int j = Dt.int ((j.toNat : Nat) : Int); congr 1; omega
        ·show 0 ≤ ((i.toNat : Nat) : Int); omega
        ·show ((i.toNat : Nat) : Int) < n; omega
        ·show ((j.toNat : Nat) : Int) = 0 ∨ ((j.toNat : Nat) : Int) = 1; have : j < ((2 : Nat) : Int) := hj.2; omega
       ·cases e2
      ·cases e2
     ·cases e1
    ·cases e1
 ·cases h
theorem Xu {n : Nat} {d : Dt} {k : Nat} (h : numT n d = some k) : d = .int ((k : Nat) : Int) ∧ k < n := by
 unfold numT at h
 split at h
 ·rename_i i
  split at h
  ·rename_i hi
   cases h
   exact ⟨by congr 1; omega, by omega⟩
  ·cases h
 ·cases h
theorem Wt {n : Nat} {d : Dt} {p : Nat × Int} (h : Jt n d = some p) : d = .tup [.int ((p.1 : Nat) : Int), .int p.2] ∧ p.1 < n ∧ 0 ≤ p.2 := by
 unfold Jt at h
 split at h
 ·rename_i d m
  split at h
  ·rename_i hm
   obtain ⟨k, e, rfl⟩ := yY.mp h
   obtain ⟨e1, e2⟩ := Xu e
   exact ⟨by rw [e1], e2, hm⟩
  ·cases h
 ·cases h
section
variable {P : Program} {w : World} {K : Fg} {mg : Str → Option Value} {base : Heap} {aT aL : Addr} {fT fL : Str → Option Value}
theorem Qnk : FnScope ["thing"] ["thing"] (Qf Qam) := ⟨rfl, rfl, rfl, by decide +kernel, rfl, by decide +kernel, by decide +kernel⟩
theorem Qnl (F : Fn K mg "is_whole" Qam) (M : Mg mg) : Cal P w K mg base 1 "is_whole" ["thing"] (Kn K) := by
 refine Xd F Qnk (fun _ _ _ _ _ _ => bind1 (fun _ => rfl)) (fun vs H Q E h => ?_) (fun f cdv A outer s H vs Q E hr h => ?_)
 ·obtain ⟨v, d, rfl, _⟩ := h
  rfl
 obtain ⟨v, d, rfl, hv, q⟩ := h
 refine ⟨_, (Qn (Qv (Jo (Qk Yv rfl M.isinstance Xk (Qa (pv 0) (Qa (Qai M.int_ Qmn) Qe))) (Kj (Qrk (Qk Yv rfl M.isinstance Xk (Qa (pv 0) (Qa (Qai M.bool_ Qmo) Qe)))))))), ?_⟩
 cases d with
 | int i => exact ⟨_, rfl, _, "int", _, rfl, .int, hv.isi _, true, rfl, iteT ⟨_, rfl, _, "bool", _, rfl, .bool, hv.isi _, false, rfl, q⟩⟩
 | bl b => exact ⟨_, rfl, _, "int", _, rfl, .int, hv.isi _, true, rfl, iteT ⟨_, rfl, _, "bool", _, rfl, .bool, hv.isi _, true, rfl, q⟩⟩
 | non => exact ⟨_, rfl, _, "int", _, rfl, .int, hv.isi _, false, rfl, iteF q⟩
 | str s => exact ⟨_, rfl, _, "int", _, rfl, .int, hv.isi _, false, rfl, iteF q⟩
 | tup xs => exact ⟨_, rfl, _, "int", _, rfl, .int, hv.isi _, false, rfl, iteF q⟩
 | lst xs => exact ⟨_, rfl, _, "int", _, rfl, .int, hv.isi _, false, rfl, iteF q⟩
theorem Qtc : FnScope ["thing", "count"] ["thing", "count"] (Qf Qit) := ⟨rfl, rfl, rfl, by decide +kernel, rfl, by decide +kernel, by decide +kernel⟩
theorem Qtd (F : Fn K mg "is_number_of" Qit) (M : Mg mg) (c_is_whole : Cal P w K mg base 1 "is_whole" ["thing"] (Kn K)) : Cal P w K mg base 2 "is_number_of" ["thing", "count"] (Ko K) := by
 refine Xd F Qtc (fun _ _ _ _ _ _ => Jb (fun _ _ => rfl)) (fun vs H Q E h => ?_) (fun f cdv A outer s H vs Q E hr h => ?_)
 ·obtain ⟨v, d, n, rfl, _⟩ := h
  rfl
 obtain ⟨v, d, n, rfl, hv, q⟩ := h
 refine ⟨_, (Qn (Qv (Jo (Xj c_is_whole (hr.mono (by decide)) (Qa (pv 0) Qe)) (Kj (Qpb op_le Qah Qd (pv 0) (pv 1)))))), ?_⟩
 cases d with
 | int i =>
  cases hv
  refine ⟨_, rfl, _, _, rfl, .int i, true, rfl, iteT ⟨_, rfl, _, _, rfl, rfl, _, rfl, ite2 (fun c => ⟨_, rfl, _, _, rfl, rfl, ?_⟩) (fun c => ?_)⟩⟩
  ·have c' : 0 ≤ i := yX c
   by_cases h : i < (n : Int)
   ·have e : numT n (.int i) = some i.toNat := if_pos ⟨c', h⟩
    rw [e] at q
    show Q (.bl (decide (i < (n : Int)))) H
    rw [jW h]
    exact q
   ·have e : numT n (.int i) = none := if_neg fun z => h z.2
    rw [e] at q
    show Q (.bl (decide (i < (n : Int)))) H
    rw [yQ h]
    exact q
  ·have c' : ¬ 0 ≤ i := fun z => c (jW z)
   have e : numT n (.int i) = none := if_neg fun z => c' z.1
   rw [e] at q
   exact q
 | non => exact ⟨_, rfl, _, _, rfl, hv, false, rfl, iteF q⟩
 | bl b => exact ⟨_, rfl, _, _, rfl, hv, false, rfl, iteF q⟩
 | str s => exact ⟨_, rfl, _, _, rfl, hv, false, rfl, iteF q⟩
 | tup xs => exact ⟨_, rfl, _, _, rfl, hv, false, rfl, iteF q⟩
 | lst xs => exact ⟨_, rfl, _, _, rfl, hv, false, rfl, iteF q⟩
theorem Qpz : FnScope ["thing"] ["thing"] (Qf Qdo) := ⟨rfl, rfl, rfl, by decide +kernel, rfl, by decide +kernel, by decide +kernel⟩
theorem Qqa (F : Fn K mg "is_pair" Qdo) (M : Mg mg) : Cal P w K mg base 1 "is_pair" ["thing"] (Qdr K) := by
 refine Xd F Qpz (fun _ _ _ _ _ _ => bind1 (fun _ => rfl)) (fun vs H Q E h => ?_) (fun f cdv A outer s H vs Q E hr h => ?_)
 ·obtain ⟨v, d, rfl, _⟩ := h
  rfl
 obtain ⟨v, d, rfl, hv, q⟩ := h
 refine ⟨_, (Qn (Qv (Jo (Qk Yv rfl M.isinstance Xk (Qa (pv 0) (Qa (Qai M.tuple_ Xo) Qe))) (Kj (Yg Yl (Qk Qi rfl M.len Xf (Qa (pv 0) Qe)) Qd (Qs _)))))), ?_⟩
 cases d with
 | tup xs =>
  obtain ⟨a, vs, rfl, h1, h2, h3⟩ := hv.tup_inv
  refine ⟨_, rfl, _, "tuple", _, rfl, .tuple, hv.isi _, true, rfl, iteT ⟨_, rfl, a, _, rfl, .inr h1, rfl, ?_⟩⟩
  rw [h2]
  match xs, q with
  | [], q => exact q
  | [_], q => exact q
  | [_, _], q => exact q
  | _ :: _ :: _ :: r, q =>
   rw [yQ (fun z => by have := V.int.inj z; simp at this; omega)]
   exact q
 | int i => exact ⟨_, rfl, _, "tuple", _, rfl, .tuple, hv.isi _, false, rfl, iteF q⟩
 | non => exact ⟨_, rfl, _, "tuple", _, rfl, .tuple, hv.isi _, false, rfl, iteF q⟩
 | bl b => exact ⟨_, rfl, _, "tuple", _, rfl, .tuple, hv.isi _, false, rfl, iteF q⟩
 | str s => exact ⟨_, rfl, _, "tuple", _, rfl, .tuple, hv.isi _, false, rfl, iteF q⟩
 | lst xs => exact ⟨_, rfl, _, "tuple", _, rfl, .tuple, hv.isi _, false, rfl, iteF q⟩
theorem Qnm : FnScope ["thing", "told"] ["thing", "told"] (Qf Qan) := ⟨rfl, rfl, rfl, by decide +kernel, rfl, by decide +kernel, by decide +kernel⟩
theorem Qnn (F : Fn K mg "is_ahead" Qan) (M : Mg mg) (c_is_number_of : Cal P w K mg base 2 "is_number_of" ["thing", "count"] (Ko K)) : Cal P w K mg base 3 "is_ahead" ["thing", "told"] (Kp K) := by
 refine Xd F Qnm (fun _ _ _ _ _ _ => Jb (fun _ _ => rfl)) (fun vs H Q E h => ?_) (fun f cdv A outer s H vs Q E hr h => ?_)
 ·obtain ⟨v, d, l, ws, rfl, _⟩ := h
  rfl
 obtain ⟨v, d, l, ws, rfl, hv, hl, hne, q⟩ := h
 refine ⟨_, (Qn (Qv (Jo (Xj c_is_number_of (hr.mono (by decide)) (Qa (pv 0) (Qa (Qk Qi rfl M.len Xf (Qa (pv 1) Qe)) Qe))) (Kj (Yg Qgs (Qm Qw (pv 1) (pv 0) (fun _ _ => rfl)) Xy (Qs _)))))), ?_⟩
 refine ⟨_, rfl, _, rfl, l, _, rfl, .inl hl, v, d, ws.length, rfl, hv, ?_⟩
 cases e : numT ws.length d with
 | none => rw [e] at q; exact ⟨false, rfl, iteF q⟩
 | some k =>
  rw [e] at q
  obtain ⟨rfl, hk⟩ := Xu e
  cases hv
  have hw := hne k _ (gE hk)
  refine ⟨true, rfl, iteT ⟨_, rfl, _, rfl, l, _, _, _, rfl, rfl, hl, Xx (gE hk), rfl, ?_⟩⟩
  rw [yQ hw]
  exact q
theorem Qqb : FnScope ["thing", "told"] ["thing", "told"] (Qf Qdp) := ⟨rfl, rfl, rfl, by decide +kernel, rfl, by decide +kernel, by decide +kernel⟩
theorem Qqc (F : Fn K mg "is_part" Qdp) (M : Mg mg) (c_is_pair : Cal P w K mg base 1 "is_pair" ["thing"] (Qdr K)) (c_is_ahead : Cal P w K mg base 3 "is_ahead" ["thing", "told"] (Kp K)) (c_is_whole : Cal P w K mg base 1 "is_whole" ["thing"] (Kn K)) : Cal P w K mg base 4 "is_part" ["thing", "told"] (Qiu K) := by
 refine Xd F Qqb (fun _ _ _ _ _ _ => Jb (fun _ _ => rfl)) (fun vs H Q E h => ?_) (fun f cdv A outer s H vs Q E hr h => ?_)
 ·obtain ⟨v, d, l, ws, rfl, _⟩ := h
  rfl
 obtain ⟨v, d, l, ws, rfl, hv, hl, hne, q⟩ := h
 refine ⟨_, (Qn (Qv (Jo (Xj c_is_pair (hr.mono (by decide)) (Qa (pv 0) Qe)) (Jo (Xj c_is_ahead (hr.mono (by decide)) (Qa (Qm Ql (pv 0) Qd (fun _ _ => rfl)) (Qa (pv 1) Qe))) (Jo (Xj c_is_whole (hr.mono (by decide)) (Qa (Qm Ql (pv 0) Qd (fun _ _ => rfl)) Qe)) (Kj (Yg Qlr (Qm Ql (pv 0) Qd (fun _ _ => rfl)) Qd (Qs _)))))))), ?_⟩
 refine ⟨_, rfl, v, d, rfl, hv, ?_⟩
 cases hp : Qhg d with
 | false =>
  have e : Jt ws.length d = none := by
   unfold Jt
   split
   ·simp [Qhg] at hp
   ·rfl
  rw [e] at q
  exact ⟨false, rfl, iteF q⟩
 | true =>
  obtain ⟨d1, d2, rfl⟩ : ∃ d1 d2, d = .tup [d1, d2] := by
   unfold Qhg at hp
   split at hp
   ·exact ⟨_, _, rfl⟩
   ·cases hp
  obtain ⟨a, x, y, rfl, h1, h2, h3⟩ := hv.pair_inv
  refine ⟨true, rfl, iteT ⟨_, rfl, a, _, _, _, rfl, rfl, h1, at0, _, rfl, x, d1, l, ws, rfl, h2, hl, hne, ?_⟩⟩
  cases e1 : numT ws.length d1 with
  | none =>
   have e : Jt ws.length (.tup [d1, d2]) = none := by
    unfold Jt
    split
    ·rename_i heq
     cases heq
     rw [e1]
     split <;> rfl
    ·rfl
   rw [e] at q
   exact ⟨false, rfl, iteF q⟩
  | some k =>
   refine ⟨true, rfl, iteT ⟨_, rfl, a, _, _, _, rfl, rfl, h1, at1, y, d2, rfl, h3, ?_⟩⟩
   cases d2 with
   | int m =>
    cases h3
    refine ⟨true, rfl, iteT ⟨_, rfl, a, _, _, _, rfl, rfl, h1, at1, _, _, rfl, rfl, ?_⟩⟩
    have e : Jt ws.length (.tup [d1, .int m]) = if 0 ≤ m then some (k, m) else none := by
     show (if 0 ≤ m then (numT ws.length d1).map fun k => (k, m) else none) = _
     rw [e1]; rfl
    rw [e] at q
    by_cases hm : 0 ≤ m
    ·rw [if_pos hm] at q
     show Q (.bl (decide (0 ≤ m))) H
     rw [jW hm]
     exact q
    ·rw [if_neg hm] at q
     show Q (.bl (decide (0 ≤ m))) H
     rw [yQ hm]
     exact q
   | non => exact ⟨false, rfl, iteF q⟩
   | bl b => exact ⟨false, rfl, iteF q⟩
   | str s => exact ⟨false, rfl, iteF q⟩
   | tup xs => exact ⟨false, rfl, iteF q⟩
   | lst xs => exact ⟨false, rfl, iteF q⟩
theorem Qqd : FnScope ["thing", "count"] ["thing", "count"] (Qf Qdq) := ⟨rfl, rfl, rfl, by decide +kernel, rfl, by decide +kernel, by decide +kernel⟩
theorem Qqe (F : Fn K mg "is_hold" Qdq) (M : Mg mg) (c_is_pair : Cal P w K mg base 1 "is_pair" ["thing"] (Qdr K)) (c_is_number_of : Cal P w K mg base 2 "is_number_of" ["thing", "count"] (Ko K)) : Cal P w K mg base 3 "is_hold" ["thing", "count"] (Qiv K) := by
 refine Xd F Qqd (fun _ _ _ _ _ _ => Jb (fun _ _ => rfl)) (fun vs H Q E h => ?_) (fun f cdv A outer s H vs Q E hr h => ?_)
 ·obtain ⟨v, d, n, rfl, _⟩ := h
  rfl
 obtain ⟨v, d, n, rfl, hv, q⟩ := h
 refine ⟨_, (Qn (Qv (Jo (Xj c_is_pair (hr.mono (by decide)) (Qa (pv 0) Qe)) (Jo (Xj c_is_number_of (hr.mono (by decide)) (Qa (Qm Ql (pv 0) Qd (fun _ _ => rfl)) (Qa (pv 1) Qe))) (Kj (Xj c_is_number_of (hr.mono (by decide)) (Qa (Qm Ql (pv 0) Qd (fun _ _ => rfl)) (Qa Qd Qe)))))))), ?_⟩
 refine ⟨_, rfl, v, d, rfl, hv, ?_⟩
 cases hp : Qhg d with
 | false =>
  have e : Jy n d = none := by
   unfold Jy
   split
   ·simp [Qhg] at hp
   ·rfl
  rw [e] at q
  exact ⟨false, rfl, iteF q⟩
 | true =>
  obtain ⟨d1, d2, rfl⟩ : ∃ d1 d2, d = .tup [d1, d2] := by
   unfold Qhg at hp
   split at hp
   ·exact ⟨_, _, rfl⟩
   ·cases hp
  obtain ⟨a, x, y, rfl, h1, h2, h3⟩ := hv.pair_inv
  have e : Jy n (.tup [d1, d2]) = match numT n d1, numT 2 d2 with
   | some k, some w => some (((k : Nat) : Int), ((w : Nat) : Int))
   | _, _ => none := rfl
  rw [e] at q
  refine ⟨true, rfl, iteT ⟨_, rfl, a, _, _, _, rfl, rfl, h1, at0, _, rfl, x, d1, n, rfl, h2, ?_⟩⟩
  cases e1 : numT n d1 with
  | none =>
   rw [e1] at q
   exact ⟨false, rfl, iteF q⟩
  | some k =>
   rw [e1] at q
   refine ⟨true, rfl, iteT ⟨_, rfl, a, _, _, _, rfl, rfl, h1, at1, y, d2, 2, rfl, h3, ?_⟩⟩
   cases e2 : numT 2 d2 with
   | none => rw [e2] at q; exact q
   | some w => rw [e2] at q; exact q
end
abbrev Qds : Stmt := top 7
abbrev Qno : Stmt := top 14
def Qkn (o : Option V) (n : Int) : Int := match o with
 | none => if 0 < n then n else 0
 | some (.int z) => z * n
 | some _ => 0
def Vg (d : List (Key × V)) (ns : List Int) (i : Nat) : Int := ((List.range i).map fun j => Qkn (valV d (Sum.inl ((j : Nat) : Int))) (ns.getD j 0)).sum
theorem Qbx (d : List (Key × V)) {ns : List Int} {i : Nat} {n : Int} (e : ns[i]? = some n) : Vg d ns (i + 1) = Vg d ns i + Qkn (valV d (Sum.inl ((i : Nat) : Int))) n := by
 unfold Vg
 have eg : ns.getD i 0 = n := by rw [jK, e]; rfl
 rw [jJe, kX, kXc, xX, jJb, jKb, List.sum_nil, eg]
 omega
def Qnp (d : List (Key × V)) : Prop := ∀ k, valV d k = none ∨ valV d k = some (.int 0) ∨ valV d k = some (.int 1)
def dOf (hs : List (Int × Int)) : List (Key × V) := Yr (hs.map fun p => (p.1, V.int p.2))
theorem Qhi (hs : List (Int × Int)) (hw : ∀ p ∈ hs, p.2 = 0 ∨ p.2 = 1) : ∀ d : List (Key × V), Qnp d → Qnp ((hs.map fun p => (p.1, V.int p.2)).foldl (fun d p => putK d (Sum.inl p.1) p.2) d) := by
 induction hs with
 | nil => intro d h; exact h
 | cons p r ih =>
  intro d h
  refine ih (fun q hq => hw q (zW _ hq)) _ fun k => ?_
  rw [Qpn]
  by_cases e : k = Sum.inl p.1
  ·rw [if_pos e]
   rcases hw p (zY ..) with z | z
   ·exact .inr (.inl (congrArg (fun y => some (V.int y)) z))
   ·exact .inr (.inr (congrArg (fun y => some (V.int y)) z))
  ·rw [if_neg e]; exact h k
theorem Qfr {hs : List (Int × Int)} (hw : ∀ p ∈ hs, p.2 = 0 ∨ p.2 = 1) : Qnp (dOf hs) := Qhi hs hw [] fun _ => .inl rfl
def HoldsAt (K : Fg) (H : Hp) (l : Addr) (hs : List (Int × Int)) : Prop := ∃ vs, SqL K H l vs ∧ PairsAre K H vs (hs.map fun p => (p.1, V.int p.2))
theorem PairsAre.same {K : Fg} {H H' : Hp} {vs : List V} {ps : List (Int × V)} (e : Same H H') (h : PairsAre K H vs ps) : PairsAre K H' vs ps := L2.PairsAre.imp (fun _ _ z => e.tup z) h
theorem PairsAre.upd {K : Fg} {H : Hp} {D : Addr} {ys zs : List V} {vs : List V} {ps : List (Int × V)} (hD : H D = some (.lst ys)) (h : PairsAre K H vs ps) : PairsAre K (upd H D (.lst zs)) vs ps := L2.PairsAre.imp (fun _ _ z => Qdd hD z) h
theorem HoldsAt.same {K : Fg} {H H' : Hp} {l : Addr} {hs : List (Int × Int)} (e : Same H H') (h : HoldsAt K H l hs) : HoldsAt K H' l hs := by obtain ⟨vs, h1, h2⟩ := h; exact ⟨vs, e.seq h1, PairsAre.same e h2⟩
theorem Qnq {K : Fg} {H : Hp} {vs ws : List V} {ps qs : List (Int × V)} (h1 : PairsAre K H vs ps) (h2 : PairsAre K H ws qs) : PairsAre K H (vs ++ ws) (ps ++ qs) := by
 unfold PairsAre at *
 induction h1 with
 | nil => exact h2
 | cons a b ih => exact .cons a ih
theorem Qnr {K : Fg} {H : Hp} {t : Addr} {x : Int} {v : V} (h : SqT K H t [.int x, v]) : PairsAre K H [.ref t] [(x, v)] := .cons ⟨t, rfl, h⟩ .nil
def Qrv (K : Fg) : Sp := fun vs H Q _ => ∃ (t l : Addr) (r : List Int × Int) (hs : List (Int × Int)), vs = [.ref t, .ref l] ∧ RowAt K H t r ∧ HoldsAt K H l hs ∧ hs.length ≤ 1000 ∧ (∀ p ∈ hs, p.2 = 0 ∨ p.2 = 1) ∧ ∀ H', Same H H' → Q (.int (Vg (dOf hs) r.1 r.1.length)) H'
abbrev Part := (List Int × Int) × Int
def addPart (a : List Int × Int) (p : Part) : List Int × Int := (List.zipWith (fun x y => x + p.2 * y) a.1 p.1.1, a.2 + p.2 * p.1.2)
def Zf (n : Nat) (ps : List Part) : List Int × Int := ps.foldl addPart (List.replicate n 0, 0)
theorem Qby (n : Nat) {ps : List Part} {i : Nat} {p : Part} (h : ps[i]? = some p) : Zf n (ps.take (i + 1)) = addPart (Zf n (ps.take i)) p := by
 rw [Zz h]; unfold Zf; rw [jZe]; rfl
theorem Qqf (ps : List Part) : ∀ (a : List Int × Int), (∀ p ∈ ps, p.1.1.length = a.1.length) → (ps.foldl addPart a).1.length = a.1.length := by
 induction ps with
 | nil => intro a _; rfl
 | cons p t ih =>
  intro a h
  have h1 := h p zY
  have e : (addPart a p).1.length = a.1.length := by show (List.zipWith _ _ _).length = _; rw [kYc]; omega
  rw [jJd, ih _ (fun q hq => by rw [e]; exact h q (zW _ hq)), e]
theorem Wu (n : Nat) (ps : List Part) (h : ∀ p ∈ ps, p.1.1.length = n) : (Zf n ps).1.length = n := by
 have := Qqf ps (List.replicate n 0, 0) (fun p hp => by rw [h p hp]; exact (xQ ..).symm)
 unfold Zf
 rw [this]
 exact xQ ..
theorem rep0 (n : Nat) : (List.replicate n [V.int 0]).flatten = (List.replicate n (0 : Int)).map V.int := by
 induction n with
 | zero => rfl
 | succ n ih => rw [wX, jXe, ih, wX, xX]; rfl
theorem Qte {f : Int → Int → Int} {ns ms : List Int} {i : Nat} {n m : Int} (h1 : ns[i]? = some n) (h2 : ms[i]? = some m) : (List.zipWith f ns ms)[i]? = some (f n m) := by
 rw [List.getElem?_zipWith, h1, h2]
def Ka (K : Fg) (H : Hp) (vs : List V) (ps : List Part) : Prop := vs.length = ps.length ∧ ∀ (i : Nat) (v : V) (p : Part), vs[i]? = some v → ps[i]? = some p → ∃ T t, v = .ref T ∧ SqT K H T [.ref t, .int p.2] ∧ RowAt K H t p.1
def spSum (K : Fg) : Sp := fun vs H Q _ => ∃ (l : Addr) (us : List V) (ps : List Part) (n : Nat), vs = [.int (n : Int), .ref l] ∧ SqL K H l us ∧ Ka K H us ps ∧ n ≤ 1000 ∧ (∀ p ∈ ps, p.1.1.length = n ∧ -(2 ^ 64) < p.2 ∧ p.2 < 2 ^ 64) ∧
 ∀ t H', Same H H' → RowAt K H' t (Zf n ps) → Q (.ref t) H'
theorem Qko {n : Nat} {xs : List Dt} : (Zr n (.lst xs)).isSome = true ↔ ∃ hs, allT (Jy n) xs = some hs ∧ (hs.map (·.1)).Nodup := by
 show (Qbw n xs).isSome = true ↔ _
 unfold Qbw
 cases e : allT (Jy n) xs with
 | none => exact ⟨(fun z => nomatch z), fun ⟨_, e1, _⟩ => nomatch e1⟩
 | some hs =>
  show (if (hs.map (·.1)).Nodup then some hs else none).isSome = true ↔ _
  by_cases h : (hs.map (·.1)).Nodup
  ·rw [if_pos h]; exact ⟨fun _ => ⟨hs, rfl, h⟩, fun _ => rfl⟩
  ·rw [if_neg h]; exact ⟨(fun z => nomatch z), fun ⟨hs', e1, e2⟩ => by cases e1; exact absurd e2 h⟩
theorem Qhj {n : Nat} {xs : List Dt} (h : allT (Jy n) xs = none) : Zr n (.lst xs) = none := by
 show Qbw n xs = none
 unfold Qbw; rw [h]; rfl
theorem Qkp {n : Nat} {xs : List Dt} (h : allT (numT n) xs = none) : Ws n (.lst xs) = none := by
 show Qhh n xs = none
 unfold Qhh; rw [h]; rfl
theorem Qkq {n : Nat} {xs : List Dt} {t : List Nat} (h : allT (numT n) xs = some t) : (Ws n (.lst xs)).isSome = true ↔ t.Nodup ∧ t.length = n := by
 show (Qhh n xs).isSome = true ↔ _
 unfold Qhh
 rw [h]
 show (if t.Nodup ∧ t.length = n then some t else none).isSome = true ↔ _
 by_cases hh : t.Nodup ∧ t.length = n
 ·rw [if_pos hh]; exact ⟨fun _ => hh, fun _ => rfl⟩
 ·rw [if_neg hh]; exact ⟨(fun z => nomatch z), fun z => absurd z hh⟩
theorem Qbz {α : Type} {o : Option α} {b : Bool} (h : b = true ↔ o.isSome = true) : b = o.isSome := by
 cases b <;> cases o <;> simp_all
theorem Qdt : ∀ {l1 l2 : List Int}, l1.Perm l2 → l1.Pairwise (· ≤ ·) → l2.Pairwise (· ≤ ·) → l1 = l2 := by
 intro l1
 induction l1 with
 | nil => intro l2 h _ _; exact h.nil_eq
 | cons a t ih =>
  intro l2 h s1 s2
  cases l2 with
  | nil => exact absurd h.length_eq (by simp)
  | cons b u =>
   have hab : a = b := by
    have h1 : a ∈ b :: u := h.mem_iff.mp zY
    have h2 : b ∈ a :: t := h.mem_iff.mpr zY
    have s1' := jYd.mp s1
    have s2' := jYd.mp s2
    rcases yJ.mp h1 with e | e
    ·exact e
    ·rcases yJ.mp h2 with e' | e'
     ·exact e'.symm
     ·have := s2'.1 a e; have := s1'.1 b e'; omega
   subst hab
   rw [ih (List.Perm.cons_inv h) (jYd.mp s1).2 (jYd.mp s2).2]
def Qag (n : Nat) : List Int := (List.range n).map fun i => ((i : Nat) : Int)
theorem Qdu (n : Nat) : (Qag n).Pairwise (· ≤ ·) := by
 unfold Qag
 rw [kQa]
 exact List.Pairwise.imp (fun h => by omega) List.pairwise_lt_range
theorem Kg {n : Nat} {t : List Nat} (hl : ∀ k ∈ t, k < n) (hn : t.Nodup) (hlen : t.length = n) : t.Perm (List.range n) := by
 have key : ∀ (n : Nat) (t : List Nat), (∀ k ∈ t, k < n) → t.Nodup → t.length = n → ∀ k, k < n → k ∈ t := by
  intro n
  induction n with
  | zero => intro t _ _ _ k hk; omega
  | succ n ih =>
   intro t hl hn hlen k hk
   by_cases hm : n ∈ t
   ·have h1 := ih (t.erase n) (fun j hj => by
      have h2 := hl j (kXd hj)
      have h3 : j ≠ n := fun e => by rw [e] at hj; exact (List.Nodup.not_mem_erase hn) hj
      omega) (hn.erase n) (by rw [List.length_erase_of_mem hm]; omega)
    by_cases hk2 : k = n
    ·rw [hk2]; exact hm
    ·exact kXd (h1 k (by omega))
   ·exfalso
    have hl' : ∀ j ∈ t, j < n := fun j hj => by
     have := hl j hj
     have : j ≠ n := fun e => hm (e ▸ hj)
     omega
    have : ∀ (m : Nat) (u : List Nat), (∀ j ∈ u, j < m) → u.Nodup → u.length ≤ m := by
     intro m
     induction m with
     | zero =>
      intro u hu _
      cases u with
      | nil => exact jZ _
      | cons x _ => exact absurd (hu x zY) (Nat.not_lt_zero _)
     | succ m ihm =>
      intro u hu hn2
      have := ihm (u.erase m) (fun j hj => by
       have h2 := hu j (kXd hj)
       have h3 : j ≠ m := fun e => by rw [e] at hj; exact (List.Nodup.not_mem_erase hn2) hj
       omega) (hn2.erase m)
      by_cases hmm : m ∈ u
      ·rw [List.length_erase_of_mem hmm] at this
       omega
      ·rw [List.erase_of_not_mem hmm] at this; omega
    have := this n t hl' hn
    omega
 refine (List.perm_ext_iff_of_nodup hn List.nodup_range).mpr fun k => ?_
 rw [wZ]
 exact ⟨fun h => hl k h, key n t hl hn hlen k⟩
theorem Qhk {n : Nat} {t : List Nat} (hl : ∀ k ∈ t, k < n) {qs : List Int} (hp : qs.Perm (t.map fun (k : Nat) => (k : Int))) (hs : qs.Pairwise (· ≤ ·)) : qs = Qag n ↔ t.Nodup ∧ t.length = n := by
 constructor
 ·intro e
  rw [e] at hp
  have h1 : (t.map fun (k : Nat) => (k : Int)).Nodup := hp.nodup_iff.mp (by
   unfold Qag
   exact kQa.mpr (List.Pairwise.imp (fun h => by omega) List.nodup_range))
  refine ⟨List.Pairwise.imp (fun h e => h (by rw [e])) (kQa.mp h1), ?_⟩
  have := hp.length_eq
  unfold Qag at this
  rw [jQ, jQ, wY] at this
  exact this.symm
 ·rintro ⟨h1, h2⟩
  exact Qdt (hp.trans ((Kg hl h1 h2).map _)) hs (Qdu n)
theorem Qfs {K : Fg} {H : Hp} {n : Nat} {vs : List V} {xs : List Dt} {t : List Nat} (hl : vs.length = xs.length) (h : ∀ (i : Nat) v x, vs[i]? = some v → xs[i]? = some x → HasT K H v x) (e : allT (numT n) xs = some t) : vs = (t.map fun (k : Nat) => (k : Int)).map V.int ∧ (∀ k ∈ t, k < n) := by
 obtain ⟨e1, e2⟩ := Ji e
 refine ⟨?_, fun k hk => ?_⟩
 ·apply jZd
  intro i
  by_cases hi : i < vs.length
  ·obtain ⟨x, ex⟩ : ∃ x, xs[i]? = some x := ⟨_, gE (by omega)⟩
   obtain ⟨k, ek, en⟩ := e2 i x ex
   obtain ⟨rfl, _⟩ := Xu en
   have := h i _ _ (gE hi) ex
   rw [gE hi, jY, jY, ek]
   cases hv : vs[i] with
   | int j => rw [hv] at this; cases this; rfl
   | non => rw [hv] at this; cases this
   | bl b => rw [hv] at this; cases this
   | str s => rw [hv] at this; cases this
   | ref a => rw [hv] at this; cases this
   | byt _ => rw [hv] at this; cases this
   | flt _ => rw [hv] at this; cases this
   | ty _ => rw [hv] at this; cases this
  ·rw [wK.mpr (by omega), wK.mpr (by rw [jQ, jQ]; omega)]
 ·obtain ⟨i, hi, rfl⟩ := jXf.mp hk
  obtain ⟨x, ex⟩ : ∃ x, xs[i]? = some x := ⟨_, gE (by omega)⟩
  obtain ⟨k', ek, en⟩ := e2 i x ex
  rw [gE hi] at ek
  cases ek
  exact (Xu en).2
theorem Wv {K : Fg} {H : Hp} {n : Nat} {vs : List V} {xs : List Dt} {hs : List (Int × Int)} (hl : vs.length = xs.length) (h : ∀ (i : Nat) v x, vs[i]? = some v → xs[i]? = some x → HasT K H v x) (e : allT (Jy n) xs = some hs) : PairsAre K H vs (hs.map fun p => (p.1, V.int p.2)) ∧ ∀ p ∈ hs, 0 ≤ p.1 ∧ p.1 < (n : Int) ∧ (p.2 = 0 ∨ p.2 = 1) := by
 induction xs generalizing vs hs with
 | nil =>
  cases e
  have : vs = [] := zZ (by simpa using hl)
  subst this
  exact ⟨.nil, fun p hp => nomatch hp⟩
 | cons d r ih =>
  obtain ⟨x, t, e1, e2, rfl⟩ := Qnj e
  cases vs with
  | nil => simp at hl
  | cons v u =>
   obtain ⟨a1, a2⟩ := ih (vs := u) (by simpa using hl) (fun i w y h1 h2 => h (i + 1) w y (by simpa using h1) (by simpa using h2)) e2
   obtain ⟨e3, f3, rfl, rfl, rfl, b1, b2, b3⟩ := Qkm e1
   have hv := h 0 v _ rfl rfl
   obtain ⟨aa, x1, y1, rfl, g1, g2, g3⟩ := hv.pair_inv
   cases g2
   cases g3
   refine ⟨.cons ⟨aa, rfl, g1⟩ a1, fun p hp => ?_⟩
   rcases yJ.mp hp with rfl | hp
   ·exact ⟨b1, b2, b3⟩
   ·exact a2 p hp
def Jc (n c : Nat) (x l : Int) : List Int × Int := ((List.replicate n 0).set c x, l)
def We (cs : List Int) (b : Int) : List Int × Int := (cs.map fun c => -c, 1 - b)
def Wf (r : List Int × Int) (b : Int) : List Int × Int := (r.1.map fun x => -((-x).fdiv b), -((-r.2).fdiv b))
def Yb (n : Nat) (hs : List (Int × Int)) : List Int := hs.foldl (fun a p => a.set p.1.toNat (1 - 2 * p.2)) (List.replicate n 0)
def Jd (hs : List (Int × Int)) : Int := hs.foldl (fun z p => z - p.2) 1
def Vo (n : Nat) (hs : List (Int × Int)) : List Int × Int := (Yb n hs, Jd hs)
def Xi (ns : List Int) (c : Nat) : List Int := ns.take c ++ [0] ++ ns.drop (c + 1)
def Kq (one other : List Int × Int) (c : Nat) : List Int × Int := (Xi one.1 c, if other.2 < one.2 - one.1.getD c 0 then other.2 else one.2 - one.1.getD c 0)
def Qix (t : List Nat) (a : List Int × Int) (c : Nat) : List Int × Int :=
 let a1 := a.1.set c (a.1.getD c 0 + a.2)
 (a1.set (t.getD c 0) (a1.getD (t.getD c 0) 0 - a.2), a.2 * 2)
def Zs (t : List Nat) (k : Nat) : List Int × Int := ((List.range k).map fun i => t.length - 1 - i).foldl (Qix t) (List.replicate t.length 0, 1)
def Ww (t : List Nat) : List Int × Int := ((Zs t t.length).1, 0)
theorem Vp (t : List Nat) (k : Nat) : Zs t (k + 1) = Qix t (Zs t k) (t.length - 1 - k) := by
 unfold Zs
 rw [jJe, kX, jZe]
 rfl
theorem Kw (t : List Nat) (k : Nat) : (Zs t k).1.length = t.length := by
 induction k with
 | zero => exact xQ ..
 | succ k ih =>
  rw [Vp]
  show ((_ : List Int).set _ _).length = _
  rw [zX, zX, ih]
def Qdv (K : Fg) : Sp := fun vs H Q _ => ∃ (n c : Nat) (x l : Int), vs = [.int (n : Int), .int (c : Int), .int x, .int l] ∧ c < n ∧ n ≤ 1000 ∧ ∀ t H', Same H H' → RowAt K H' t (Jc n c x l) → Q (.ref t) H'
def Qiy (K : Fg) : Sp := fun vs H Q _ => ∃ (t : Addr) (rs : List (List Int × Int)) (cs : List Int) (b : Int), vs = [.ref t, .int b] ∧ ProbAt K H t rs cs ∧ cs.length ≤ 1000 ∧ ∀ t' H', Same H H' → RowAt K H' t' (We cs b) → Q (.ref t') H'
def Qns (K : Fg) : Sp := fun vs H Q _ => ∃ (t : Addr) (r : List Int × Int) (b : Int), vs = [.ref t, .int b] ∧ RowAt K H t r ∧ r.1.length ≤ 1000 ∧ 0 < b ∧ Big b ∧ ∀ t' H', Same H H' → RowAt K H' t' (Wf r b) → Q (.ref t') H'
def Qft (K : Fg) : Sp := fun vs H Q _ => ∃ (l : Addr) (n : Nat) (hs : List (Int × Int)), vs = [.int (n : Int), .ref l] ∧ HoldsAt K H l hs ∧ (∀ p ∈ hs, 0 ≤ p.1 ∧ p.1 < (n : Int) ∧ (p.2 = 0 ∨ p.2 = 1)) ∧ n ≤ 1000 ∧ ∀ t' H', Same H H' → RowAt K H' t' (Vo n hs) → Q (.ref t') H'
def Qca (K : Fg) : Sp := fun vs H Q _ => ∃ (t : Addr) (r : List Int × Int) (c : Nat), vs = [.ref t, .int (c : Int)] ∧ RowAt K H t r ∧ r.1.length ≤ 1000 ∧ c < r.1.length ∧ ∀ p H', Same H H' → SqT K H' p ((Xi r.1 c).map V.int) → Q (.ref p) H'
def Qcb (K : Fg) : Sp := fun vs H Q _ => ∃ (t1 t2 : Addr) (r1 r2 : List Int × Int) (c : Nat), vs = [.ref t1, .ref t2, .int (c : Int)] ∧ RowAt K H t1 r1 ∧ RowAt K H t2 r2 ∧ r1.1.length ≤ 1000 ∧ c < r1.1.length ∧ ∀ t' H', Same H H' → RowAt K H' t' (Kq r1 r2 c) → Q (.ref t') H'
def Qfu (K : Fg) : Sp := fun vs H Q _ => ∃ (l : Addr) (t : List Nat), vs = [.ref l] ∧ SqL K H l ((t.map fun (k : Nat) => (k : Int)).map V.int) ∧ t.length ≤ 1000 ∧ (∀ k ∈ t, k < t.length) ∧ ∀ t' H', Same H H' → RowAt K H' t' (Ww t) → Q (.ref t') H'
theorem Je (ns : List Int) (k : Nat) (x : Int) : (ns.map V.int).set k (V.int x) = (ns.set k x).map V.int := by rw [kQf]
theorem Jm {K : Fg} {H : Hp} {l t : Addr} {ns : List Int} {z : Int} (h : upd H l (.tup (ns.map V.int)) t = none) : RowAt K (upd (upd H l (.tup (ns.map V.int))) t (.tup [.ref l, .int z])) t (ns, z) := ⟨l, Xa Qc, Xa (by rw [Qo (Qh Qc h)]; exact Qc)⟩
section
variable {P : Program} {w : World} {K : Fg} {mg : Str → Option Value} {base : Heap} {aT aL : Addr} {fT fL : Str → Option Value}
theorem scSumRow : FnScope ["count", "parts", "numbers", "least", "row", "many"] ["count", "parts"] (Qf Qds) := ⟨rfl, rfl, rfl, by decide +kernel, rfl, by decide +kernel, by decide +kernel⟩
theorem Qqg (F : Fn K mg "sum_row" Qds) (M : Mg mg) : Cal P w K mg base 1 "sum_row" ["count", "parts"] (spSum K) := by
 refine Xd F scSumRow (fun _ _ _ _ _ _ => Jb (fun _ _ => rfl)) (fun vs H Q E h => ?_) (fun f cdv A outer s H vs Q E hr h => ?_)
 ·obtain ⟨l, us, ps, n, rfl, _⟩ := h
  rfl
 obtain ⟨l, us, ps, n, rfl, hl, hps, hn, hps2, q⟩ := h
 refine ⟨_, (Qg (Qx (i := 2) scSumRow.nd rfl (Or.inl rfl) (Qr Vd (Jg (Qa Qd Qe)) (pv 0)))
  (Qg (Qx (i := 3) scSumRow.nd rfl (Or.inl rfl) Qd)
  (Qg (Yq PassesOwn.never rfl (Yk (pv 1)) (Qrl rfl (Qal (Xe (i := 4) scSumRow.nd rfl (Or.inl rfl) (Or.inl rfl)) (Qal (Xe (i := 5) scSumRow.nd rfl (Or.inr rfl) (Or.inl rfl)) Qli))) (Qg (Qgv (i := 2) ["number", "more", "many"] [none, none, some 5] rfl scSumRow.nd rfl (Or.inl rfl) (Qmi true false rfl M.zip_ (Qa (pv 2) (Qa (Qm Ql (pv 4) Qd (fun _ _ => rfl)) Qe))) (fun _ _ _ => (Zi (K := K) (i := 0) (j := 1) rfl rfl (show (["number", "more", "many"] : List Str).Nodup by decide +kernel) rfl rfl rfl rfl)) (fun _ _ _ => Yt) (fun _ _ _ => (Qr Xr (pv 0) (Qr Kd (pv 2) (pv 1)))))
  (Qn (Qhx (i := 3) scSumRow.nd rfl (Or.inl rfl) (Qr Kd (pv 5) (Qm Ql (pv 4) Qd (fun _ _ => rfl))) Qlk))))
  (Qn (Qv (Yy (Qa (Qz Qy rfl M.tuple_ Xo (Qa (pv 2) Qe)) (Qa (pv 3) Qe)))))))), ?_⟩
 refine Zj ?_
 intro rT4 rT3 rT2
 have hz : (1000 : Nat) < sizeLine := by decide
 obtain ⟨hlen, hget⟩ := id hps
 refine ⟨by show 1 ≤ sizeLine; decide, fun p0 hp0 => ?_⟩
 refine ⟨_, rfl, p0, (n : Int), _, rfl, rfl, Qc, by omega, by omega, by show 1 * ((n : Int)).toNat ≤ sizeLine; omega, fun g0 hg0 => ?_⟩
 have e0 : (List.replicate ((n : Int)).toNat [V.int 0]).flatten = (List.replicate n (0 : Int)).map V.int := rep0 n
 rw [e0]
 have s0 : Same H (upd (upd H p0 (.lst [.int 0])) g0 (.lst ((List.replicate n (0 : Int)).map V.int))) := (Qb hp0 _).trans (Qb hg0 _)
 let Pv1 : Nat → St → Hp → Prop := fun i σ H1 => ∃ (g : Addr) (u v : Option V), σ = [some (.int (n : Int)), some (.ref l), some (.ref g), some (.int (Zf n (ps.take i)).2), u, v] ∧ H1 g = some (.lst ((Zf n (ps.take i)).1.map V.int)) ∧ Same H H1
 refine ⟨_, rfl, l, rfl, ⟨_, s0.seq hl⟩, Ju (K := K) (a := l) (xs := us) Pv1 ⟨g0, none, none, rfl, Qc, s0⟩ (fun i σ H1 _ h => ?_) ?_ ?_⟩
 ·obtain ⟨g, u, v, rfl, hg, s1⟩ := h
  exact s1.seq hl
 ·rintro i x σ H1 e1 ⟨g, u, v, rfl, hg, s1⟩
  have hi : i < us.length := (yK.mp e1).1
  obtain ⟨p, ep⟩ : ∃ p, ps[i]? = some p := ⟨_, gE (by omega)⟩
  obtain ⟨T, t, rfl, hT, q1, r1, r2⟩ := hget i x p e1 ep
  obtain ⟨hb1, hb2, hb3⟩ := hps2 p (kK ep)
  have eS := Qby n ep
  have lA : (Zf n (ps.take i)).1.length = n := Wu n _ fun p' hp' => (hps2 p' (List.mem_of_mem_take hp')).1
  generalize Zf n (ps.take i) = acc at hg eS lA ⊢
  refine ⟨T, _, rfl, s1.tup hT, rfl, _, _, rfl, _, _, rfl, rfl, ?_⟩
  refine ⟨_, rfl, _, rfl, t, _, _, _, rfl, rfl, s1.tup r1, at0, g, q1, rfl, ⟨_, Qj hg⟩, ⟨_, s1.tup r2⟩, fun D hD => ?_⟩
  let Pv2 : Nat → St → List V → Hp → Prop := fun k τ ys H2 => ∃ a b : Option V, τ = [a, b, some (.int p.2)] ∧ ys = ((List.zipWith (fun x y => x + p.2 * y) acc.1 p.1.1).take k).map V.int ∧ H2 D = some (.lst ys) ∧ Same H1 H2
  refine Ym (n := n) Pv2 ?_ (fun k τ ys H2 hk h => ?_) (fun k τ ys H2 hk h => ?_) (fun τ ys H2 h => ?_) ?_ ?_
  ·exact ⟨none, none, rfl, rfl, Qc, Qb hD _⟩
  ·obtain ⟨a, b, rfl, rfl, hD2, s2⟩ := h
   exact ⟨hD2, by rw [jQ, kW]; omega⟩
  ·obtain ⟨a, b, rfl, rfl, hD2, s2⟩ := h
   have k1 : k < acc.1.length := by omega
   have k2 : k < p.1.1.length := by omega
   exact ⟨_, _, .int acc.1[k], .int p.1.1[k], s2.seq (Qj hg), (s1.trans s2).tup r2, by rw [jY, gE k1]; rfl, by rw [jY, gE k2]; rfl⟩
  ·obtain ⟨a, b, rfl, rfl, hD2, s2⟩ := h
   exact ⟨_, _, s2.seq (Qj hg), (s1.trans s2).tup r2, by rw [jQ, jQ]; omega⟩
  ·rintro k τ ys H2 x' H3 hk ⟨a, b, rfl, rfl, hD2, s2⟩ ⟨T2, x1, y1, rfl, hT2, rfl, e3, e4⟩
   obtain ⟨m1, em1, rfl⟩ := Yn (e3 _ (s2.seq (Qj hg)))
   obtain ⟨m2, em2, rfl⟩ := Yn (e4 _ ((s1.trans s2).tup r2))
   refine ⟨T2, _, rfl, Xa Qc, rfl, _, _, rfl, _, _, rfl, rfl, ?_⟩
   refine ⟨_, rfl, _, rfl, _, rfl, _, _, rfl, rfl, .inl ⟨hb2, hb3⟩, _, _, rfl, rfl, ?_, _, _, rfl, ?_, Qc, fun b' o e => ?_⟩
   ·rw [Qo (Qh hD2 hT2)]; exact hD2
   ·rw [Zz (Qte em1 em2), kX]; rfl
   ·rw [Qo (Qh e hD), Qo (Qh (s2 _ _ e) hT2)]; exact s2 _ _ e
  ·rintro τ ys H2 ⟨a, b, rfl, rfl, hD2, s2⟩
   rw [zQ (by rw [kYc]; omega)] at hD2
   refine ⟨_, rfl, _, rfl, _, rfl, t, _, _, _, rfl, rfl, (s1.trans s2).tup r1, at1, _, _, rfl, rfl, .inl ⟨hb2, hb3⟩, _, _, rfl, rfl, D, some (.ref t), some (.int p.2), ?_, ?_, s1.trans s2⟩
   ·rw [eS]; rfl
   ·rw [eS]; exact hD2
 ·rintro σ H1 ⟨g, u, v, rfl, hg, s1⟩
  have eT : ps.take us.length = ps := by rw [hlen, wQ]
  rw [eT] at hg ⊢
  refine ⟨_, rfl, _, _, rfl, .inl ⟨Qj hg, fun l2 hl2 => ?_⟩⟩
  refine ⟨_, rfl, by show 2 ≤ sizeLine; decide, fun t ht => ?_⟩
  have nt : l2 ≠ t := Qh Qc ht
  exact q t _ ((s1.trans (Qb hl2 _)).trans (Qb ht _)) ⟨l2, Xa Qc, Xa (by rw [Qo nt]; exact Qc)⟩
theorem scMost : FnScope ["row", "holds", "held", "most", "choice", "number", "worth"] ["row", "holds"] (Qf Qno) := ⟨rfl, rfl, rfl, by decide +kernel, rfl, by decide +kernel, by decide +kernel⟩
theorem okMost (F : Fn K mg "most_of" Qno) (M : Mg mg) : Cal P w K mg base 1 "most_of" ["row", "holds"] (Qrv K) := by
 refine Xd F scMost (fun _ _ _ _ _ _ => Jb (fun _ _ => rfl)) (fun vs H Q E h => ?_) (fun f cdv A outer s H vs Q E hr h => ?_)
 ·obtain ⟨t, l, r, hs, rfl, _⟩ := h
  rfl
 obtain ⟨t, l, r, hs, rfl, ⟨p, hr1, hr2⟩, ⟨vs, hl, hp⟩, hn, hw, q⟩ := h
 have hu : (A.deeper (PyProof.Rows.envOfC "most_of" (Qf Qno) s.heap.objs.size f cdv)).units + 1 < cLine := xZ (wW (by decide) _) hr.un
 refine ⟨_, (Qg (Qx (i := 2) scMost.nd rfl (Or.inl rfl) (Qz (Qae rfl) rfl M.dict_ Qmp (Qa (pv 1) Qe)))
  (Qg (Qx (i := 3) scMost.nd rfl (Or.inl rfl) Qd)
  (Qg (Yq PassesOwn.never rfl (Qsv false rfl M.enumerate_ (Qa (Qm Ql (pv 0) Qd (fun _ _ => rfl)) Qe)) (Zi (K := K) (i := 4) (j := 5) rfl rfl scMost.nd rfl rfl rfl rfl) (Qg (Qx (i := 6) scMost.nd rfl (Or.inl rfl) (Qpq hu (pv 2) (pv 4) ⟨rfl, rfl, rfl, rfl⟩))
  (Qn (Yi (PW.pt (Ki (Qq Yl (pv 6) Qd (Qs _)) (Jf (PW.pt (Kc (Qq Qhy (pv 6) Xy (Qs _)) (Jl (Qq Qlq (pv 5) Qd (Qs _)))))))) (Qn (Qhx (i := 3) scMost.nd rfl (Or.inl rfl) (pv 5) Qlk)) Xg))))
  (Qn (Qv (pv 3)))))), ?_⟩
 refine Zj ?_
 intro rT4 rT3 rT2
 have hz : (1000 : Nat) < sizeLine := by decide
 refine ⟨_, rfl, l, vs, _, rfl, hl, hp, by rw [jQ]; omega, fun d hd => ?_⟩
 have s1 : Same H (upd H d (.dK (dOf hs))) := Qb hd _
 let Pv1 : Nat → St → Hp → Prop := fun i σ H1 => ∃ u v x : Option V, σ = [some (.ref t), some (.ref l), some (.ref d), some (.int (Vg (dOf hs) r.1 i)), u, v, x] ∧ H1 d = some (.dK (dOf hs)) ∧ Same H H1
 refine ⟨_, rfl, t, _, _, _, rfl, rfl, s1.tup hr1, at0, p, rfl, ⟨_, s1.tup hr2⟩, Qps (K := K) (m := false) (a := p) (xs := r.1.map V.int) Pv1 ⟨none, none, none, rfl, Qc, s1⟩ (fun i σ H1 _ h => ?_) ?_ ?_⟩
 ·obtain ⟨u, v, x, rfl, hd1, s2⟩ := h
  exact s2.tup hr2
 ·rintro i x σ H1 T e1 ⟨u, v, y, rfl, hd1, s2⟩ hT
  obtain ⟨n, en, rfl⟩ := Yn e1
  have hd2 : upd H1 T (.tup [.int ((i : Nat) : Int), .int n]) d = some (.dK (dOf hs)) := by rw [Qo (Qh hd1 hT)]; exact hd1
  have s3 := s2.trans (Qb hT (.tup [.int ((i : Nat) : Int), .int n]))
  have em := Qbx (dOf hs) en
  refine ⟨T, _, rfl, Xa Qc, rfl, _, _, rfl, _, _, rfl, rfl, ?_⟩
  refine ⟨_, rfl, d, rfl, .inl ⟨_, .inl hd2⟩, _, rfl, _, DGet.k (k := Sum.inl ((i : Nat) : Int)) hd2, ?_⟩
  rcases Qfr hw (Sum.inl ((i : Nat) : Int)) with e | e | e
  ·rw [e] at em ⊢
   refine ⟨_, rfl, rfl, _, rfl, iteF ⟨_, rfl, rfl, _, rfl, iteT ⟨_, rfl, _, _, rfl, rfl, _, rfl, ite2 (fun c => ?_) (fun c => ?_)⟩⟩⟩
   ·have c' : 0 < n := yX c
    refine ⟨_, rfl, _, rfl, _, _, rfl, rfl, some (.int ((i : Nat) : Int)), some (.int n), some .non, ?_, hd2, s3⟩
    rw [em, show Qkn none n = n from if_pos c']
    rfl
   ·have c' : ¬ 0 < n := fun z => c (jW z)
    refine ⟨some (.int ((i : Nat) : Int)), some (.int n), some .non, ?_, hd2, s3⟩
    rw [em, show Qkn none n = 0 from if_neg c', Int.add_zero]
    rfl
  ·rw [e] at em ⊢
   refine ⟨_, rfl, rfl, _, rfl, iteF ⟨_, rfl, rfl, _, rfl, iteF (iteF ?_)⟩⟩
   refine ⟨some (.int ((i : Nat) : Int)), some (.int n), some (.int 0), ?_, hd2, s3⟩
   rw [em, show Qkn (some (.int 0)) n = 0 from Int.zero_mul n, Int.add_zero]
   rfl
  ·rw [e] at em ⊢
   refine ⟨_, rfl, rfl, _, rfl, iteT (iteT ?_)⟩
   refine ⟨_, rfl, _, rfl, _, _, rfl, rfl, some (.int ((i : Nat) : Int)), some (.int n), some (.int 1), ?_, hd2, s3⟩
   rw [em, show Qkn (some (.int 1)) n = n from Int.one_mul n]
   rfl
 ·rintro σ H1 ⟨u, v, y, rfl, hd1, s2⟩
  rw [jQ]
  exact ⟨_, rfl, q H1 s2⟩
end
abbrev Qdw : Stmt := top 15
abbrev Qcc : Stmt := top 16
abbrev Row := L2.Row
def ledR (t : List Nat) (n : Nat) (r : Row) : Row := (put r.1 t n, r.2)
def Qiz (cs : List Int) (t : List Nat) (n : Nat) : Prop := ∀ i, i < n → cs.getD i 0 = cs.getD (t.getD i 0) 0
def Qfv (rs : List Row) (cs : List Int) (t : List Nat) (n : Nat) : Prop := Qiz cs t n ∧ (rs.map (ledR t n)).Perm rs
theorem Wx : ∀ {xs ys : List Row}, xs.Perm ys → xs.Pairwise (fun x y => Zo y x = false) → ys.Pairwise (fun x y => Zo y x = false) → xs = ys
 | [], ys, p, _, _ => (List.nil_perm.mp p).symm
 | x :: xs, [], p, _, _ => absurd (List.perm_nil.mp p) (by simp)
 | x :: xs, y :: ys, p, h1, h2 => by
  obtain ⟨a1, a2⟩ := jYd.mp h1
  obtain ⟨b1, b2⟩ := jYd.mp h2
  have exy : x = y := by
   have mx : x ∈ y :: ys := p.mem_iff.mp zY
   have my : y ∈ x :: xs := p.mem_iff.mpr zY
   rcases yJ.mp mx with e | mx
   ·exact e
   ·rcases yJ.mp my with e | my
    ·exact e.symm
    ·exact Qbq (b1 x mx) (a1 y my) |>.symm ▸ rfl
  subst exy
  rw [Wx (p.cons_inv) a2 b2]
theorem Qdx {α β : Type} {f : α → β} (hf : ∀ a b, f a = f b → a = b) : ∀ {xs ys : List α}, xs.map f = ys.map f → xs = ys
 | [], [], _ => rfl
 | [], y :: ys, h => by simp at h
 | x :: xs, [], h => by simp at h
 | x :: xs, y :: ys, h => by
  rw [xX, xX] at h
  injection h with h1 h2
  rw [hf _ _ h1, Qdx hf h2]
theorem Qqh {r q : Row} (h : rowD r = rowD q) : r = q := by
 unfold rowD at h
 injection h with h
 injection h with h1 h2
 injection h1 with h1
 injection h2 with h2 _
 injection h2 with h2
 exact Prod.ext (Qdx (fun a b e => by injection e) h1) h2
theorem Qfw {xs ys : List Row} : (D.lst (xs.map rowD) = D.lst (ys.map rowD)) ↔ xs = ys := by
 constructor
 ·intro h
  injection h with h
  exact Qdx (fun a b e => Qqh e) h
 ·rintro rfl; rfl
theorem Kr {x y : Int} [i : Decidable (V.int x = V.int y)] : decide (V.int x = V.int y) = decide (x = y) := decide_eq_decide.mpr ⟨fun h => V.int.inj h, fun h => congrArg V.int h⟩
theorem Qqi {ns : List Int} {i : Nat} {n : Int} (e : ns[i]? = some n) : ns.getD i 0 = n := by rw [jK, e]; rfl
theorem Qqj {ns : List Nat} {i : Nat} {n : Nat} (e : ns[i]? = some n) : ns.getD i 0 = n := by rw [jK, e]; rfl
theorem atK6 {cs : List Int} {k : Nat} (h : k < cs.length) : atI (cs.map V.int) ((k : Nat) : Int) = some (.int (cs.getD k 0)) :=
 Xx (by rw [jY, jK, gE h]; rfl)
theorem getT {n : Nat} {t : List Nat} (T : IsTurn n t) {i : Nat} (h : i < n) : t[i]? = some (t.getD i 0) ∧ t.getD i 0 < n := by
 have hl : i < t.length := by rw [T.length]; exact h
 have e : t[i]? = some (t.getD i 0) := by rw [jK, gE hl]; rfl
 exact ⟨e, T.lt e⟩
theorem any_no {cs : List Int} {t : List Nat} {n : Nat} : (((List.range n).map fun j => !decide (cs.getD j 0 = cs.getD (t.getD j 0) 0)).any id) = true ↔ ¬ Qiz cs t n := by
 rw [List.any_eq_true]
 constructor
 ·rintro ⟨b, hb, e⟩ h
  obtain ⟨j, hj, rfl⟩ := jQd.mp hb
  have e' : (!decide (cs.getD j 0 = cs.getD (t.getD j 0) 0)) = true := e
  rw [jW (h j (wZ.mp hj))] at e'
  cases e'
 ·intro h
  refine Classical.byContradiction fun z => h fun i hi => Classical.byContradiction fun y => z ⟨_, jQd.mpr ⟨i, wZ.mpr hi, rfl⟩, ?_⟩
  show (!decide (cs.getD i 0 = cs.getD (t.getD i 0) 0)) = true
  rw [yQ y]; rfl
theorem Qfx {K : Fg} {H : Hp} {vs : List V} {rs : List Row} {t : Addr} {r : Row} (h : RowsAre K H vs rs) (z : RowAt K H t r) : RowsAre K H (vs ++ [.ref t]) (rs ++ [r]) := RowsAre.snoc h z
theorem Yz {K : Fg} {H H' : Hp} {vs : List V} {rs : List Row} (e : Same H H') (h : RowsAre K H vs rs) : RowsAre K H' vs rs := h.imp fun _ _ z => z.same e
theorem Qfy {K : Fg} {H : Hp} {D : Addr} {ys zs vs : List V} {rs : List Row} (hD : H D = some (.lst ys)) (h : RowsAre K H vs rs) : RowsAre K (upd H D (.lst zs)) vs rs := h.imp fun _ _ z => z.upd hD
theorem Qhl {t1 t2 : TS} {D : Ends} {σ : St} {H : Hp} (Pv : St → Hp → Prop) (h2 : ∀ σ' H', Pv σ' H' → t2 D σ' H') (h1 : (∀ σ' H', Pv σ' H' → t2 D σ' H') → t1 { D with nx := t2 D } σ H) : tSeq t1 t2 D σ H := h1 h2
theorem Qqk {t1 t2 : TS} {D : Ends} {i : Nat} {x : V} {σ : St} {H : Hp} (Pv : St → Hp → Prop) (h2 : ∀ σ' H', Pv σ' H' → t2 D σ' H') (h1 : (∀ σ' H', Pv σ' H' → t2 D σ' H') → t1 { D with nx := t2 D } (σ.set i (some x)) H) : Qjv i x σ H ({ D with nx := tSeq t1 t2 D } : Ends).nx := h1 h2
def spKT (K : Fg) : Sp := fun vs H Q _ => ∃ (p u : Addr) (rs : List Row) (cs : List Int) (n : Nat) (t : List Nat), vs = [.ref p, .ref u] ∧ ProbAt K H p rs cs ∧ SqL K H u ((tI t).map V.int) ∧ IsTurn n t ∧ n ≤ 100 ∧ (∀ r ∈ rs, r.1.length = n) ∧ cs.length = n ∧ rs.length < 60 ∧
 ∀ (c : Bool) (H' : Hp), Same H H' → (c = true ↔ Qfv rs cs t n) → Q (.bl c) H'
section
variable {P : Program} {w : World} {K : Fg} {mg : Str → Option Value} {base : Heap} {aT aL : Addr} {fT fL : Str → Option Value}
theorem scTurned : FnScope ["row", "turn", "numbers", "number", "place"] ["row", "turn"] (Qf Qdw) := ⟨rfl, rfl, rfl, by decide +kernel, rfl, by decide +kernel, by decide +kernel⟩
theorem Qql (F : Fn K mg "turned" Qdw) (M : Mg mg) : Cal P w K mg base 1 "turned" ["row", "turn"] (Qij K) := by
 refine Xd F scTurned (fun _ _ _ _ _ _ => Jb (fun _ _ => rfl)) (fun vs H Q E h => ?_) (fun f cdv A outer s H vs Q E hr h => ?_)
 ·obtain ⟨r, u, row, n, t, rfl, _⟩ := h
  rfl
 obtain ⟨r, u, row, n, t, rfl, ⟨p, hr1, hr2⟩, hu1, T, hl, hn, q⟩ := h
 refine ⟨_, (Qg (Qx (i := 2) scTurned.nd rfl (Or.inl rfl) (Qr Vd (Jg (Qa Qd Qe)) (Qk Qi rfl M.len Xf (Qa (pv 1) Qe))))
  (Qg (Yq PassesOwn.never rfl (Qmi false true rfl M.zip_ (Qa (Qm Ql (pv 0) Qd (fun _ _ => rfl)) (Qa (pv 1) Qe))) (Zi (K := K) (i := 3) (j := 4) rfl rfl scTurned.nd rfl rfl rfl rfl) (Qn (Vc (pv 3) (Jp (pv 2) (pv 4) set_list))))
  (Qn (Qv (Yy (Qa (Qz Qy rfl M.tuple_ Xo (Qa (pv 2) Qe)) (Qa (Qm Ql (pv 0) Qd (fun _ _ => rfl)) Qe))))))), ?_⟩
 refine Yj ?_
 intro rT3 rT2
 have hz : (1000 : Nat) < sizeLine := by decide
 have lt := T.length
 refine ⟨by show 1 ≤ sizeLine; decide, fun p1 hp1 => ?_⟩
 have s1 : Same H (upd H p1 (.lst [.int 0])) := Qb hp1 _
 refine ⟨_, rfl, u, _, rfl, .inl (s1.seq hu1), p1, _, _, rfl, rfl, Qc, by omega, ?_, ?_, fun p2 hp2 => ?_⟩
 ·rw [jQ, Js]; omega
 ·rw [jQ, Js, jKa]; omega
 have s2 := s1.trans (Qb hp2 (.lst (List.replicate (Int.toNat ((((tI t).map V.int).length : Nat) : Int)) [V.int 0]).flatten))
 have e0 : (List.replicate (Int.toNat ((((tI t).map V.int).length : Nat) : Int)) [V.int 0]).flatten = (put row.1 t 0).map V.int := by
  rw [rep1, jQ, Js]
  show _ = (List.replicate t.length 0).map V.int
  rw [List.map_replicate]
  rfl
 let Pv1 : Nat → St → Hp → Prop := fun i σ H3 => ∃ v w : Option V, σ = [some (.ref r), some (.ref u), some (.ref p2), v, w] ∧ H3 p2 = some (.lst ((put row.1 t i).map V.int)) ∧ Same H H3
 refine ⟨_, rfl, r, _, _, _, rfl, rfl, s2.tup hr1, at0, _, rfl, p, u, rfl, ⟨_, s2.tup hr2⟩, ⟨_, s2.seq hu1⟩, Qsp (K := K) (m1 := false) (m2 := true) (a := p) (b := u) (xs := row.1.map V.int) (ys := (tI t).map V.int) Pv1 ⟨none, none, rfl, ?_, s2⟩ (fun i σ H3 _ h => ?_) ?_ ?_⟩
 ·rw [Qc, e0]
 ·obtain ⟨v, w, rfl, hp3, s3⟩ := h
  exact ⟨s3.tup hr2, s3.seq hu1⟩
 ·rintro i x y σ H3 T' e1 e2 ⟨v, w, rfl, hp3, s3⟩ hT
  obtain ⟨x, ex, rfl⟩ := Yn e1
  obtain ⟨y, ey, rfl⟩ := Yn e2
  obtain ⟨k, ek, rfl⟩ := tI_at ey
  have nT : p2 ≠ T' := Qh hp3 hT
  refine ⟨T', _, rfl, Xa Qc, rfl, _, _, rfl, _, _, rfl, rfl, ?_⟩
  refine ⟨_, rfl, _, rfl, _, rfl, p2, _, _, k, rfl, rfl, by rw [Qo nT]; exact hp3, Vl (by rw [jQ, Kv, lt]; exact T.lt ek), _, _, rfl, ?_, fun b o e => ?_⟩
  ·rw [Qc, Qii ex ek, kQf]
  ·have nb : b ≠ p2 := fun z => by subst z; rw [s1 _ _ e] at hp2; cases hp2
   rw [Qo nb, Qo (Qh (s3 _ _ e) hT)]
   exact s3 _ _ e
 ·rintro σ H3 ⟨v, w, rfl, hp3, s3⟩
  have em : min (row.1.map V.int).length ((tI t).map V.int).length = n := by rw [jQ, jQ, Js]; omega
  rw [em] at hp3
  refine ⟨_, rfl, p2, _, rfl, .inl ⟨Qj hp3, fun w hw => ?_⟩⟩
  have s4 := s3.trans (Qb hw (.tup ((put row.1 t n).map V.int)))
  refine ⟨_, rfl, r, _, _, _, rfl, rfl, s4.tup hr1, at1, by show 2 ≤ sizeLine; decide, fun r' hr' => ?_⟩
  exact q r' _ (s4.trans (Qb hr' _)) ⟨w, Xa Qc, Xa (by rw [Qo (Qh Qc hr')]; exact Qc)⟩
theorem scKeepsT : FnScope ["problem", "turn", "rows", "costs"] ["problem", "turn"] (Qf Qcc) := ⟨rfl, rfl, rfl, by decide +kernel, rfl, by decide +kernel, by decide +kernel⟩
theorem Qqm (F : Fn K mg "turn_keeps" Qcc) (M : Mg mg) (c_turned : Cal P w K mg base 1 "turned" ["row", "turn"] (Qij K)) : Cal P w K mg base 2 "turn_keeps" ["problem", "turn"] (spKT K) := by
 refine Xd F scKeepsT (fun _ _ _ _ _ _ => Jb (fun _ _ => rfl)) (fun vs H Q E h => ?_) (fun f cdv A outer s H vs Q E hr h => ?_)
 ·obtain ⟨p, u, rs, cs, n, t, rfl, _⟩ := h
  rfl
 obtain ⟨p, u, rs, cs, n, t, rfl, pr, hu1, T, hn, hrl, hcl, h60, q⟩ := h
 have hu6 : (A.deeper (PyProof.Rows.envOfC "turn_keeps" (Qf Qcc) s.heap.objs.size f cdv)).units + 6 < cLine := xZ (wW (by decide) _) hr.un
 refine ⟨_, (Qg (Qx (i := 2) scKeepsT.nd rfl (Or.inl rfl) (Qm Ql (pv 0) Qd (fun _ _ => rfl)))
  (Qg (Qx (i := 3) scKeepsT.nd rfl (Or.inr rfl) (Qm Ql (pv 0) Qd (fun _ _ => rfl)))
  (Qg (Yi (Ya (Qk (Qey rfl) rfl M.any Qrs (Qa (Jr ["cost", "place", "costs"] [none, none, some 3] rfl (Qmi false true rfl M.zip_ (Qa (pv 3) (Qa (pv 1) Qe))) (fun _ _ _ => (Zi (K := K) (i := 0) (j := 1) rfl rfl (show (["cost", "place", "costs"] : List Str).Nodup by decide +kernel) rfl rfl rfl rfl)) (fun _ _ _ => Yt) (fun _ _ _ => (Yg Qcy (pv 0) (Qm (Wp (K := K) rfl) (pv 2) (pv 1) (fun _ _ => rfl)) (Qs _)))) Qe))) (Qn (Qv Qgq)) Xg)
  (Qn (Qv (Yg (Qie (n := 6) hu6) (Qk (Jh (K := K) rfl hu6) rfl M.sorted Km (Qa (Jr ["row", "turn"] [none, some 1] rfl (Yk (pv 2)) (fun _ _ _ => (Xe (i := 0) (show (["row", "turn"] : List Str).Nodup by decide +kernel) rfl (Or.inl rfl) (Or.inr rfl))) (fun _ _ _ => Yt) (fun _ _ _ => (Xj c_turned (hr.mono (by decide)) (Qa (pv 0) (Qa (pv 1) Qe))))) Qe)) (Qk (Jh (K := K) rfl hu6) rfl M.sorted Km (Qa (pv 2) Qe)) (Qs _))))))), ?_⟩
 refine Zj ?_
 intro rT4 rT3 rT2
 have hz : (1000 : Nat) < sizeLine := by decide
 obtain ⟨l, c, vs, ht, hl, hrw, hc⟩ := id pr
 have lt := T.length
 have lv := hrw.length
 refine ⟨_, rfl, p, _, _, _, rfl, rfl, ht, at0, ?_⟩
 refine ⟨_, rfl, p, _, _, _, rfl, rfl, ht, at1, ?_⟩
 refine ⟨_, rfl, _, rfl, c, u, rfl, ⟨_, hc⟩, ⟨_, hu1⟩, fun D hD => ?_⟩
 let Pv1 : Nat → St → List V → Hp → Prop := fun i τ ys H1 => ∃ u' v' : Option V, τ = [u', v', some (.ref c)] ∧ ys = ((List.range i).map fun j => !decide (cs.getD j 0 = cs.getD (t.getD j 0) 0)).map V.bl ∧ H1 D = some (.lst ys) ∧ Same H H1
 refine Ym (n := n) Pv1 ?_ (fun i τ ys H1 hi h => ?_) (fun i τ ys H1 hi h => ?_) (fun τ ys H1 h => ?_) ?_ ?_
 ·exact ⟨none, none, rfl, rfl, Qc, Qb hD _⟩
 ·obtain ⟨u', v', rfl, rfl, hD1, s1⟩ := h
  exact ⟨hD1, by rw [jQ, jQ, wY]; omega⟩
 ·obtain ⟨u', v', rfl, rfl, hD1, s1⟩ := h
  have i1 : i < cs.length := by omega
  have i2 : i < (tI t).length := by rw [Js]; omega
  exact ⟨_, _, .int cs[i], .int (tI t)[i], s1.tup hc, s1.seq hu1, by rw [jY, gE i1]; rfl, by rw [jY, gE i2]; rfl⟩
 ·obtain ⟨u', v', rfl, rfl, hD1, s1⟩ := h
  exact ⟨_, _, s1.tup hc, s1.seq hu1, by rw [jQ, jQ, Js]; omega⟩
 ·rintro i τ ys H1 x H2 hi ⟨u', v', rfl, rfl, hD1, s1⟩ ⟨T', x1, y1, rfl, hT, rfl, e1, e2⟩
  obtain ⟨x, ex, rfl⟩ := Yn (e1 _ (s1.tup hc))
  obtain ⟨y, ey, rfl⟩ := Yn (e2 _ (s1.seq hu1))
  obtain ⟨k, ek, rfl⟩ := tI_at ey
  have sT := Qb hT (.tup [.int x, .int ((k : Nat) : Int)])
  have hD2 := sT _ _ hD1
  refine ⟨T', _, rfl, Xa Qc, rfl, _, _, rfl, _, _, rfl, rfl, ?_⟩
  refine ⟨_, rfl, _, rfl, _, rfl, c, _, _, _, rfl, rfl, sT.tup (s1.tup hc), atK6 (by have := T.lt ek; omega), rfl, hD2, _, _, rfl, ?_, Qc, fun b o e => ?_⟩
  ·rw [jJe, kX, kX, xX, xX, jJb, Qqi ex, Qqj ek, Kr]
   rfl
  ·rw [Qo (Qh e hD)]; exact sT _ _ (s1 _ _ e)
 rintro τ ys H1 ⟨u', v', rfl, rfl, hD1, s1⟩
 refine ⟨D, _, rfl, Qj hD1, _, rfl, ite2 (fun y => ?_) (fun y => ?_)⟩
 ·refine q false H1 s1 ⟨fun z => (nomatch z), fun z => absurd z.1 (any_no.mp y)⟩
 ·have ok : Qiz cs t n := Classical.byContradiction fun z => y (any_no.mpr z)
  refine ⟨_, rfl, l, rfl, ⟨_, s1.seq hl⟩, fun D2 hD2 => ?_⟩
  let Pv2 : Nat → St → List V → Hp → Prop := fun i τ ys H2 => ∃ v : Option V, τ = [v, some (.ref u)] ∧ RowsAre K H2 ys ((rs.take i).map (ledR t n)) ∧ H2 D2 = some (.lst ys) ∧ Same H1 H2
  refine Ym (n := rs.length) Pv2 ?_ (fun i τ ys H2 hi h => ?_) (fun i τ ys H2 hi h => ?_) (fun τ ys H2 h => ?_) ?_ ?_
  ·exact ⟨none, rfl, .nil, Qc, Qb hD2 _⟩
  ·obtain ⟨v, rfl, hra, hD3, s2⟩ := h
   have := hra.length
   rw [jQ, kW] at this
   exact ⟨hD3, by omega⟩
  ·obtain ⟨v, rfl, hra, hD3, s2⟩ := h
   exact ⟨vs, vs[i]'(by omega), (s1.trans s2).seq hl, gE (by omega)⟩
  ·obtain ⟨v, rfl, hra, hD3, s2⟩ := h
   exact ⟨vs, (s1.trans s2).seq hl, by omega⟩
  ·rintro i τ ys H2 x H3 hi ⟨v, rfl, hra, hD3, s2⟩ ⟨rfl, e1⟩
   obtain ⟨t', r, rfl, er, hrt⟩ := hrw.get (e1 _ ((s1.trans s2).seq hl))
   refine ⟨_, rfl, _, rfl, t', u, r, n, t, rfl, hrt.same (s1.trans s2), (s1.trans s2).seq hu1, T, hrl r (kK er), by omega, fun r' H4 s4 rr => ?_⟩
   have hD4 := s4 _ _ hD3
   refine ⟨hD4, _, rfl, ?_, Qc, fun b o e => ?_⟩
   ·rw [Zz er, kX]
    exact Qfx (Qfy hD4 (Yz s4 hra)) (rr.upd hD4)
   ·rw [Qo (Qh e hD2)]; exact s4 _ _ (s2 _ _ e)
  rintro τ ys H2 ⟨v, rfl, hra, hD3, s2⟩
  rw [wQ] at hra
  have ly := hra.length
  rw [jQ] at ly
  have s12 := s1.trans s2
  refine ⟨D2, ys, _, rfl, Qj hD3, hra, by omega, fun S ws qs hS hws lws pq sq => ?_⟩
  have s3 := Qb hS (.lst ws)
  refine ⟨_, rfl, l, vs, rs, rfl, (s12.trans s3).seq hl, Yz (s12.trans s3) hrw, by omega, fun S2 ws2 qs2 hS2 hws2 lws2 pq2 sq2 => ?_⟩
  have s4 := Qb hS2 (.lst ws2)
  refine ⟨S, S2, _, _, rfl, rfl, RowsAre.hasD (Qj (s4 _ _ Qc)) (Yz (s3.trans s4) hws), RowsAre.hasD (Qj Qc) (Yz s4 hws2), Vz qs qs2, fun c hc => q c _ ((s12.trans s3).trans s4) ?_⟩
  rw [hc, Qfw]
  constructor
  ·rintro rfl
   exact ⟨ok, pq.symm.trans pq2⟩
  ·intro h
   exact Wx (pq.trans (h.2.trans pq2.symm)) sq sq2
end
abbrev Qdy : Stmt := top 23
abbrev Qqn : Stmt := top 24
abbrev Qja : Stmt := top 25
abbrev Qao : Stmt := top 26
abbrev Rw := List Int × Int
def rowK (rs : List Rw) (k : Nat) : Rw := rs.getD k ([], 0)
def Qrw (rs : List Rw) : List Dt → Option Rw
 | [_, d] => (numT rs.length d).map (rowK rs)
 | _ => none
def tLow (n : Nat) : List Dt → Option Rw
 | [_, d] => (numT n d).map fun c => Jc n c 1 0
 | _ => none
def tHigh (n : Nat) : List Dt → Option Rw
 | [_, d] => (numT n d).map fun c => Jc n c (-1) (-1)
 | _ => none
def Qnt (cs : List Int) (best : Option Int) : List Dt → Option Rw
 | [_] => best.map (We cs)
 | _ => none
def partsOf (told : List Rw) (qs : List (Nat × Int)) : List Part := qs.map fun p => (rowK told p.1, p.2)
def sumD (n : Nat) (told : List Rw) : Dt → Option Rw
 | .lst (d :: r) => (allT (Jt told.length) (d :: r)).map fun qs => Zf n (partsOf told qs)
 | _ => none
def tSum (n : Nat) (told : List Rw) : List Dt → Option Rw
 | [_, d] => sumD n told d
 | _ => none
def divides (r : Rw) (b : Int) : Bool := r.1.all fun x => decide (x % b = 0)
def Qcu (told : List Rw) (d : Dt) : Dt → Option Rw
 | .int b => if 1 ≤ b then (numT told.length d).bind fun k => if divides (rowK told k) b = true then some (Wf (rowK told k) b) else none else none
 | _ => none
def Qrx (told : List Rw) : List Dt → Option Rw
 | [_, d, e] => Qcu told d e
 | _ => none
def Qak (r : Rw) (hs : List (Int × Int)) : Int := Vg (dOf hs) r.1 r.1.length
def tShut (n : Nat) (told : List Rw) : List Dt → Option Rw
 | [_, d, e] => (numT told.length d).bind fun k => (Zr n e).bind fun hs => if Qak (rowK told k) hs < (rowK told k).2 then some (Vo n hs) else none
 | _ => none
def Qnu (n : Nat) (told : List Rw) : List Dt → Option Rw
 | [_, d, e, f] => (numT told.length d).bind fun i => (numT told.length e).bind fun j => (numT n f).bind fun c => if Xi (rowK told i).1 c = Xi (rowK told j).1 c then some (Kq (rowK told i) (rowK told j) c) else none
 | _ => none
open Classical in
def tLike (rs : List Rw) (cs : List Int) : List Dt → Option Rw
 | [_, d] => (Ws cs.length d).bind fun t => if Qfv rs cs t cs.length then some (Ww t) else none
 | _ => none
def Zt (w : Str) (rs : List Rw) (cs : List Int) (best : Option Int) (told : List Rw) (xs : List Dt) : Option Rw :=
 if w = "given" then Qrw rs xs else if w = "low" then tLow cs.length xs else if w = "high" then tHigh cs.length xs else if w = "better" then Qnt cs best xs
 else if w = "sum" then tSum cs.length told xs else if w = "share" then Qrx told xs else if w = "shut" then tShut cs.length told xs else if w = "either" then Qnu cs.length told xs
 else if w = "like" then tLike rs cs xs else none
def lenW (w : Str) : Option Nat :=
 if w = "given" then some 2 else if w = "low" then some 2 else if w = "high" then some 2 else if w = "better" then some 1
 else if w = "sum" then some 2 else if w = "share" then some 3 else if w = "shut" then some 3 else if w = "either" then some 4
 else if w = "like" then some 2 else none
inductive Sm : Dt → Prop
 | non : Sm .non
 | bl (b) : Sm (.bl b)
 | str (s) : Sm (.str s)
 | int (i) : -(2 ^ 62) < i → i < 2 ^ 62 → Sm (.int i)
 | tup (xs) : (∀ x ∈ xs, Sm x) → Sm (.tup xs)
 | lst (xs) : xs.length < 60 → (∀ x ∈ xs, Sm x) → Sm (.lst xs)
def Ks : Option Int → V
 | none => .non
 | some b => .int b
structure Jx (K : Fg) (H : Hp) (t l : Addr) (rs : List Rw) (cs : List Int) (ws : List V) (told : List Rw) : Prop where
 prob : ProbAt K H t rs cs
 lst : SqL K H l ws
 rows : RowsAre K H ws told
 rl : ∀ r ∈ rs, r.1.length = cs.length
 tl : ∀ r ∈ told, r.1.length = cs.length
 n : cs.length ≤ 50
 m : rs.length < 60
 k : told.length ≤ 1000
theorem Jx.same {K : Fg} {H H' : Hp} {t l : Addr} {rs : List Rw} {cs : List Int} {ws : List V} {told : List Rw} (h : Jx K H t l rs cs ws told) (e : Same H H') : Jx K H' t l rs cs ws told :=
 ⟨h.prob.same e, e.seq h.lst, h.rows.imp fun _ _ z => z.same e, h.rl, h.tl, h.n, h.m, h.k⟩
theorem Jx.row {K : Fg} {H : Hp} {t l : Addr} {rs : List Rw} {cs : List Int} {ws : List V} {told : List Rw} (h : Jx K H t l rs cs ws told) {k : Nat} (hk : k < told.length) : ∃ a, ws[k]? = some (.ref a) ∧ RowAt K H a (rowK told k) ∧ (rowK told k).1.length = cs.length := by
 have lw := h.rows.length
 obtain ⟨a, r, e1, e2, hr⟩ := h.rows.get (gE (show k < ws.length by omega))
 have e3 : rowK told k = r := by unfold rowK; rw [jK, e2]; rfl
 rw [e3]
 exact ⟨a, by rw [gE (show k < ws.length by omega), e1], hr, h.tl r (kK e2)⟩
theorem Jx.ne {K : Fg} {H : Hp} {t l : Addr} {rs : List Rw} {cs : List Int} {ws : List V} {told : List Rw} (h : Jx K H t l rs cs ws told) (i : Nat) (w : V) (e : ws[i]? = some w) : w ≠ .non := by
 obtain ⟨a, r, rfl, _, _⟩ := h.rows.get e
 exact fun z => nomatch z
def okW (n : Nat) (w : Str) (xs : List Dt) : Prop := True
def okD (n : Nat) (d : Dt) : Prop := ∀ w xs, d = .tup (.str w :: xs) → lenW w = some (xs.length + 1) → okW n w (.str w :: xs)
def Zg (K : Fg) (wd : Str) : Sp := fun vs H Q _ => ∃ (t l ln : Addr) (rs : List Rw) (cs : List Int) (best : Option Int) (ws : List V) (told : List Rw) (us : List V) (xs : List Dt), vs = [.ref t, Ks best, .ref l, .ref ln] ∧ Jx K H t l rs cs ws told ∧ SqT K H ln us ∧ us.length = xs.length ∧ (∀ (i : Nat) v x, us[i]? = some v → xs[i]? = some x → HasT K H v x) ∧ (∀ x ∈ xs, Sm x) ∧ lenW wd = some xs.length ∧ okW cs.length wd xs ∧
 (Zt wd rs cs best told xs = none → ∀ H', Same H H' → Q .non H') ∧ ∀ r, Zt wd rs cs best told xs = some r → ∀ t' H', Same H H' → RowAt K H' t' r → Q (.ref t') H'
theorem Zk {K : Fg} {H : Hp} {v : V} {i : Int} (h : HasT K H v (.int i)) : v = .int i := by cases h; rfl
theorem Sm.int_inv {i : Int} (h : Sm (.int i)) : -(2 ^ 62) < i ∧ i < 2 ^ 62 := by cases h with | int _ a b => exact ⟨a, b⟩
theorem Sm.lst_inv {xs : List Dt} (h : Sm (.lst xs)) : xs.length < 60 ∧ ∀ x ∈ xs, Sm x := by cases h with | lst _ a b => exact ⟨a, b⟩
theorem Sm.tup_inv {xs : List Dt} (h : Sm (.tup xs)) : ∀ x ∈ xs, Sm x := by cases h with | tup _ a => exact a
theorem big62 {b : Int} (h0 : 1 ≤ b) (h1 : b < 2 ^ 62) : Big b := xZ (show b.natAbs ≤ 2 ^ 62 by omega) (by decide +kernel)
theorem Qcv {d : Dt} (h : Sm d) : lenT d < 60 := by
 cases h with
 | lst xs a b => exact a
 | _ => show 0 < 60; decide
theorem Qfz {n : Nat} {xs : List Dt} {t : List Nat} (h : Ws n (.lst xs) = some t) : allT (numT n) xs = some t ∧ t.Nodup ∧ t.length = n := by
 have h' : Qhh n xs = some t := h
 unfold Qhh at h'
 obtain ⟨t', e1, e2⟩ := xV.mp h'
 by_cases hh : t'.Nodup ∧ t'.length = n
 ·rw [if_pos hh] at e2; cases e2; exact ⟨e1, hh⟩
 ·rw [if_neg hh] at e2; cases e2
theorem holds_of {n : Nat} {xs : List Dt} {hs : List (Int × Int)} (h : Zr n (.lst xs) = some hs) : allT (Jy n) xs = some hs ∧ (hs.map (·.1)).Nodup := by
 have h' : Qbw n xs = some hs := h
 unfold Qbw at h'
 obtain ⟨t', e1, e2⟩ := xV.mp h'
 by_cases hh : (t'.map (·.1)).Nodup
 ·rw [if_pos hh] at e2; cases e2; exact ⟨e1, hh⟩
 ·rw [if_neg hh] at e2; cases e2
theorem Qkr {n : Nat} {d : Dt} {hs : List (Int × Int)} (h : Zr n d = some hs) : ∃ xs, d = .lst xs := by
 unfold Zr at h
 split at h
 ·exact ⟨_, rfl⟩
 ·cases h
theorem Qga {n : Nat} {d : Dt} {t : List Nat} (h : Ws n d = some t) : ∃ xs, d = .lst xs := by
 unfold Ws at h
 split at h
 ·exact ⟨_, rfl⟩
 ·cases h
section
variable {P : Program} {w : World} {K : Fg} {mg : Str → Option Value} {base : Heap} {aT aL : Addr} {fT fL : Str → Option Value}
theorem Qqo : FnScope ["problem", "best", "told", "line"] ["problem", "best", "told", "line"] (Qf Qdy) := ⟨rfl, rfl, rfl, by decide +kernel, rfl, by decide +kernel, by decide +kernel⟩
theorem Qqp (F : Fn K mg "told_given" Qdy) (M : Mg mg) (c_is_number_of : Cal P w K mg base 2 "is_number_of" ["thing", "count"] (Ko K)) : Cal P w K mg base 4 "told_given" ["problem", "best", "told", "line"] (Zg K "given") := by
 refine Xd F Qqo (fun _ _ _ _ _ _ => Wr (fun _ _ _ _ => rfl)) (fun vs H Q E h => ?_) (fun f cdv A outer s H vs Q E hr h => ?_)
 ·obtain ⟨t, l, ln, rs, cs, best, ws, told, us, xs, rfl, _⟩ := h
  rfl
 obtain ⟨t, l, ln, rs, cs, best, ws, told, us, xs, rfl, J, hln, hul, hget, hsm, hlw, hok, qn, qs⟩ := h
 refine ⟨_, (Qg (Yi (Yh (Ya (Xj c_is_number_of (hr.mono (by decide)) (Qa (Qm Ql (pv 3) Qd (fun _ _ => rfl)) (Qa (Qk Qi rfl M.len Xf (Qa (Qm Ql (pv 0) Qd (fun _ _ => rfl)) Qe)) Qe))))) (Qn (Qv Xy)) Xg)
  (Qn (Qv (Qm Qw (Qm Ql (pv 0) Qd (fun _ _ => rfl)) (Qm Ql (pv 3) Qd (fun _ _ => rfl)) (fun _ _ => rfl))))), ?_⟩
 obtain ⟨l0, c0, us0, ht, hl0, hrw0, hc0⟩ := id J.prob
 have lr0 := hrw0.length
 have lw0 := J.rows.length
 have hn50 := J.n
 have hm60 := J.m
 have hk1000 := J.k
 have lc : (cs.map V.int).length = cs.length := jQ ..
 have hx2 : xs.length = 2 := (Option.some.inj (show some 2 = some xs.length from hlw)).symm
 obtain ⟨d0, d1, rfl⟩ : ∃ d0 d1, xs = [d0, d1] := len2 hx2
 obtain ⟨v0, v1, rfl⟩ : ∃ v0 v1, us = [v0, v1] := len2 hul
 have h1 := hget 1 v1 d1 rfl rfl
 have m1 := hsm d1 (List.Mem.tail _ (List.Mem.head _))
 have eq : Zt "given" rs cs best told [d0, d1] = (numT rs.length d1).map (rowK rs) := rfl
 rw [eq] at qn qs
 refine ⟨_, rfl, ln, _, _, _, rfl, rfl, hln, (show atI _ ((1 : Nat) : Int) = some _ from Xx rfl), _, rfl, t, _, _, _, rfl, rfl, ht, at0, l0, _, rfl, .inl hl0, v1, d1, us0.length, rfl, h1, _, rfl, ?_⟩
 rw [lr0]
 cases e : numT rs.length d1 with
 | none => rw [e] at qn; exact iteT (qn rfl H (Same.refl H))
 | some k =>
  rw [e] at qs
  obtain ⟨rfl, hk⟩ := Xu e
  obtain rfl := Zk h1
  obtain ⟨a, r, e1, e2, hr'⟩ := hrw0.get (gE (show k < us0.length by omega))
  refine iteF ⟨_, rfl, t, _, _, _, rfl, rfl, ht, at0, _, rfl, ln, _, _, _, rfl, rfl, hln, (show atI _ ((1 : Nat) : Int) = some _ from Xx rfl), l0, _, _, _, rfl, rfl, hl0, Xx (show us0[k]? = some (.ref a) by rw [gE (show k < us0.length by omega), e1]), qs _ rfl a H (Same.refl H) ?_⟩
  have e3 : rowK rs k = r := by unfold rowK; rw [jK, e2]; rfl
  rw [e3]
  exact hr'
theorem scTLow : FnScope ["problem", "best", "told", "line", "count"] ["problem", "best", "told", "line"] (Qf Qqn) := ⟨rfl, rfl, rfl, by decide +kernel, rfl, by decide +kernel, by decide +kernel⟩
theorem okTLow (F : Fn K mg "told_low" Qqn) (M : Mg mg) (c_is_number_of : Cal P w K mg base 2 "is_number_of" ["thing", "count"] (Ko K)) (c_single_row : Cal P w K mg base 1 "single_row" ["count", "choice", "number", "least"] (Qdv K)) : Cal P w K mg base 4 "told_low" ["problem", "best", "told", "line"] (Zg K "low") := by
 refine Xd F scTLow (fun _ _ _ _ _ _ => Wr (fun _ _ _ _ => rfl)) (fun vs H Q E h => ?_) (fun f cdv A outer s H vs Q E hr h => ?_)
 ·obtain ⟨t, l, ln, rs, cs, best, ws, told, us, xs, rfl, _⟩ := h
  rfl
 obtain ⟨t, l, ln, rs, cs, best, ws, told, us, xs, rfl, J, hln, hul, hget, hsm, hlw, hok, qn, qs⟩ := h
 refine ⟨_, (Qg (Qx (i := 4) scTLow.nd rfl (Or.inl rfl) (Qk Qi rfl M.len Xf (Qa (Qm Ql (pv 0) Qd (fun _ _ => rfl)) Qe)))
  (Qg (Yi (Yh (Ya (Xj c_is_number_of (hr.mono (by decide)) (Qa (Qm Ql (pv 3) Qd (fun _ _ => rfl)) (Qa (pv 4) Qe))))) (Qn (Qv Xy)) Xg)
  (Qn (Qv (Xj c_single_row (hr.mono (by decide)) (Qa (pv 4) (Qa (Qm Ql (pv 3) Qd (fun _ _ => rfl)) (Qa Qd (Qa Qd Qe))))))))), ?_⟩
 refine Yj ?_
 intro rT3 rT2
 obtain ⟨l0, c0, us0, ht, hl0, hrw0, hc0⟩ := id J.prob
 have lr0 := hrw0.length
 have lw0 := J.rows.length
 have hn50 := J.n
 have hm60 := J.m
 have hk1000 := J.k
 have lc : (cs.map V.int).length = cs.length := jQ ..
 have hx2 : xs.length = 2 := (Option.some.inj (show some 2 = some xs.length from hlw)).symm
 obtain ⟨d0, d1, rfl⟩ : ∃ d0 d1, xs = [d0, d1] := len2 hx2
 obtain ⟨v0, v1, rfl⟩ : ∃ v0 v1, us = [v0, v1] := len2 hul
 have h1 := hget 1 v1 d1 rfl rfl
 have m1 := hsm d1 (List.Mem.tail _ (List.Mem.head _))
 have eq : Zt "low" rs cs best told [d0, d1] = (numT cs.length d1).map fun c => Jc cs.length c 1 0 := rfl
 rw [eq] at qn qs
 refine ⟨_, rfl, t, _, _, _, rfl, rfl, ht, at1, c0, _, rfl, .inr hc0, ?_⟩
 rw [lc]
 refine ⟨_, rfl, ln, _, _, _, rfl, rfl, hln, (show atI _ ((1 : Nat) : Int) = some _ from Xx rfl), _, rfl, v1, d1, cs.length, rfl, h1, _, rfl, ?_⟩
 cases e : numT cs.length d1 with
 | none => rw [e] at qn; exact iteT (qn rfl H (Same.refl H))
 | some k =>
  rw [e] at qs
  obtain ⟨rfl, hk⟩ := Xu e
  obtain rfl := Zk h1
  exact iteF ⟨_, rfl, _, rfl, ln, _, _, _, rfl, rfl, hln, (show atI _ ((1 : Nat) : Int) = some _ from Xx rfl), cs.length, k, _, _, rfl, hk, by omega, fun t' H' s' hr' => qs _ rfl t' H' s' hr'⟩
theorem scTHigh : FnScope ["problem", "best", "told", "line", "count"] ["problem", "best", "told", "line"] (Qf Qja) := ⟨rfl, rfl, rfl, by decide +kernel, rfl, by decide +kernel, by decide +kernel⟩
theorem Qtf (F : Fn K mg "told_high" Qja) (M : Mg mg) (c_is_number_of : Cal P w K mg base 2 "is_number_of" ["thing", "count"] (Ko K)) (c_single_row : Cal P w K mg base 1 "single_row" ["count", "choice", "number", "least"] (Qdv K)) : Cal P w K mg base 4 "told_high" ["problem", "best", "told", "line"] (Zg K "high") := by
 refine Xd F scTHigh (fun _ _ _ _ _ _ => Wr (fun _ _ _ _ => rfl)) (fun vs H Q E h => ?_) (fun f cdv A outer s H vs Q E hr h => ?_)
 ·obtain ⟨t, l, ln, rs, cs, best, ws, told, us, xs, rfl, _⟩ := h
  rfl
 obtain ⟨t, l, ln, rs, cs, best, ws, told, us, xs, rfl, J, hln, hul, hget, hsm, hlw, hok, qn, qs⟩ := h
 refine ⟨_, (Qg (Qx (i := 4) scTHigh.nd rfl (Or.inl rfl) (Qk Qi rfl M.len Xf (Qa (Qm Ql (pv 0) Qd (fun _ _ => rfl)) Qe)))
  (Qg (Yi (Yh (Ya (Xj c_is_number_of (hr.mono (by decide)) (Qa (Qm Ql (pv 3) Qd (fun _ _ => rfl)) (Qa (pv 4) Qe))))) (Qn (Qv Xy)) Xg)
  (Qn (Qv (Xj c_single_row (hr.mono (by decide)) (Qa (pv 4) (Qa (Qm Ql (pv 3) Qd (fun _ _ => rfl)) (Qa (Vi Zw Qd) (Qa (Vi Zw Qd) Qe))))))))), ?_⟩
 refine Yj ?_
 intro rT3 rT2
 obtain ⟨l0, c0, us0, ht, hl0, hrw0, hc0⟩ := id J.prob
 have lr0 := hrw0.length
 have lw0 := J.rows.length
 have hn50 := J.n
 have hm60 := J.m
 have hk1000 := J.k
 have lc : (cs.map V.int).length = cs.length := jQ ..
 have hx2 : xs.length = 2 := (Option.some.inj (show some 2 = some xs.length from hlw)).symm
 obtain ⟨d0, d1, rfl⟩ : ∃ d0 d1, xs = [d0, d1] := len2 hx2
 obtain ⟨v0, v1, rfl⟩ : ∃ v0 v1, us = [v0, v1] := len2 hul
 have h1 := hget 1 v1 d1 rfl rfl
 have m1 := hsm d1 (List.Mem.tail _ (List.Mem.head _))
 have eq : Zt "high" rs cs best told [d0, d1] = (numT cs.length d1).map fun c => Jc cs.length c (-1) (-1) := rfl
 rw [eq] at qn qs
 refine ⟨_, rfl, t, _, _, _, rfl, rfl, ht, at1, c0, _, rfl, .inr hc0, ?_⟩
 rw [lc]
 refine ⟨_, rfl, ln, _, _, _, rfl, rfl, hln, (show atI _ ((1 : Nat) : Int) = some _ from Xx rfl), _, rfl, v1, d1, cs.length, rfl, h1, _, rfl, ?_⟩
 cases e : numT cs.length d1 with
 | none => rw [e] at qn; exact iteT (qn rfl H (Same.refl H))
 | some k =>
  rw [e] at qs
  obtain ⟨rfl, hk⟩ := Xu e
  obtain rfl := Zk h1
  exact iteF ⟨_, rfl, _, rfl, ln, _, _, _, rfl, rfl, hln, (show atI _ ((1 : Nat) : Int) = some _ from Xx rfl), _, rfl, _, rfl, cs.length, k, _, _, rfl, hk, by omega, fun t' H' s' hr' => qs _ rfl t' H' s' hr'⟩
theorem Qnv : FnScope ["problem", "best", "told", "line"] ["problem", "best", "told", "line"] (Qf Qao) := ⟨rfl, rfl, rfl, by decide +kernel, rfl, by decide +kernel, by decide +kernel⟩
theorem Qnw (F : Fn K mg "told_better" Qao) (M : Mg mg) (c_is_whole : Cal P w K mg base 1 "is_whole" ["thing"] (Kn K)) (c_better_row : Cal P w K mg base 1 "better_row" ["problem", "best"] (Qiy K)) : Cal P w K mg base 2 "told_better" ["problem", "best", "told", "line"] (Zg K "better") := by
 refine Xd F Qnv (fun _ _ _ _ _ _ => Wr (fun _ _ _ _ => rfl)) (fun vs H Q E h => ?_) (fun f cdv A outer s H vs Q E hr h => ?_)
 ·obtain ⟨t, l, ln, rs, cs, best, ws, told, us, xs, rfl, _⟩ := h
  rfl
 obtain ⟨t, l, ln, rs, cs, best, ws, told, us, xs, rfl, J, hln, hul, hget, hsm, hlw, hok, qn, qs⟩ := h
 refine ⟨_, (Qg (Yi (Yh (Ya (Xj c_is_whole (hr.mono (by decide)) (Qa (pv 1) Qe)))) (Qn (Qv Xy)) Xg)
  (Qn (Qv (Xj c_better_row (hr.mono (by decide)) (Qa (pv 0) (Qa (pv 1) Qe)))))), ?_⟩
 obtain ⟨l0, c0, us0, ht, hl0, hrw0, hc0⟩ := id J.prob
 have lr0 := hrw0.length
 have lw0 := J.rows.length
 have hn50 := J.n
 have hm60 := J.m
 have hk1000 := J.k
 have lc : (cs.map V.int).length = cs.length := jQ ..
 have hx2 : xs.length = 1 := (Option.some.inj (show some 1 = some xs.length from hlw)).symm
 obtain ⟨d0, rfl⟩ : ∃ d0, xs = [d0] := len1 hx2
 obtain ⟨v0, rfl⟩ : ∃ v0, us = [v0] := len1 hul
 have eq : Zt "better" rs cs best told [d0] = best.map (We cs) := rfl
 rw [eq] at qn qs
 cases best with
 | none => exact ⟨_, rfl, _, .non, rfl, .non, _, rfl, iteT (qn rfl H (Same.refl H))⟩
 | some b => exact ⟨_, rfl, _, .int b, rfl, .int b, _, rfl, iteF ⟨_, rfl, _, rfl, t, rs, cs, b, rfl, J.prob, by omega, fun t' H' s' hr' => qs _ rfl t' H' s' hr'⟩⟩
end
abbrev Qjb : Stmt := top 40
abbrev Qap : Stmt := top 41
abbrev Qjc : Stmt := top 42
abbrev Kx : Stmt := top 43
abbrev Wg : Stmt := top 45
structure Dr (K : Fg) (H : Hp) (l : Addr) (ds : List Int) : Prop where
 lst : SqL K H l (ds.map V.int)
 pos : ∀ d ∈ ds, 0 ≤ d ∧ d < 2147483648
theorem Dr.same {K : Fg} {H H' : Hp} {l : Addr} {ds : List Int} (h : Dr K H l ds) (e : Same H H') : Dr K H' l ds := ⟨e.seq h.lst, h.pos⟩
theorem Dr.get {K : Fg} {H : Hp} {l : Addr} {ds : List Int} (h : Dr K H l ds) (k : Int) (h0 : 0 ≤ k) (h1 : k < (ds.length : Int)) : ∃ z : Int, atI (ds.map V.int) k = some (.int z) ∧ 0 ≤ z ∧ z < 2147483648 := by
 have hk : k.toNat < ds.length := by omega
 have ek : k = ((k.toNat : Nat) : Int) := by omega
 have q : atI (ds.map V.int) ((k.toNat : Nat) : Int) = some (.int ds[k.toNat]) := Xx (by rw [jY, gE hk]; rfl)
 rw [← ek] at q
 exact ⟨_, q, h.pos _ (jQc hk)⟩
def Qnx (K : Fg) : Sp := fun vs H Q _ => ∃ (a : Addr) (ns : List Int) (k : Int), vs = [.ref a, .int k] ∧ SqL K H a (ns.map V.int) ∧ 0 ≤ k ∧ k ≤ 1000 ∧ ∀ z : Int, 0 ≤ z → z < 2147483648 → Q (.int z) H
def Qgb (K : Fg) : Sp := fun vs H Q _ => ∃ (a : Addr) (ns : List Int) (m : Nat), vs = [.ref a, .int (m : Int)] ∧ SqL K H a (ns.map V.int) ∧ m ≤ 1000 ∧ ∀ (l : Addr) (ds : List Int) (H' : Hp), ds.length = m → Same H H' → Dr K H' l ds → Q (.ref l) H'
def Qny (K : Fg) : Sp := fun vs H Q _ => ∃ (l : Addr) (ds : List Int) (at_ : Int) (n : Nat), vs = [.ref l, .int at_, .int (n : Int)] ∧ Dr K H l ds ∧ 0 ≤ at_ ∧ at_ + n < (ds.length : Int) ∧ n ≤ 50 ∧
 ∀ (t : Addr) (r : List Int × Int) (H' : Hp), Same H H' → RowAt K H' t r → r.1.length = n → Q (.ref t) H'
def Qcd (K : Fg) : Sp := fun vs H Q _ => ∃ (l : Addr) (ds : List Int) (at_ : Int) (n m : Nat), vs = [.ref l, .int at_, .int (n : Int), .int (m : Int)] ∧ Dr K H l ds ∧ 0 ≤ at_ ∧ at_ + 10 * m + n < (ds.length : Int) ∧ at_ + 70 + n < (ds.length : Int) ∧ n ≤ 50 ∧ m ≤ 50 ∧
 ∀ (t : Addr) (rs : List Rw) (cs : List Int) (H' : Hp), Same H H' → ProbAt K H' t rs cs → (∀ r ∈ rs, r.1.length = n) → cs.length = n → rs.length = m → Q (.ref t) H'
def Wy (K : Fg) : Sp := fun vs H Q _ => ∃ (r u : Addr) (row : Rw) (n : Nat) (t : List Nat), vs = [.ref r, .ref u] ∧ RowAt K H r row ∧ SqL K H u ((tI t).map V.int) ∧ t.length = n ∧ (∀ k ∈ t, k < n) ∧ row.1.length = n ∧ n ≤ 50 ∧
 ∀ (r' : Addr) (H' : Hp), Same H H' → RowAt K H' r' (put row.1 t n, row.2) → Q (.ref r') H'
def Qgc (K : Fg) : Sp := fun vs H Q _ => ∃ (t l : Addr) (ds : List Int) (at_ : Int) (rs : List Rw) (cs : List Int), vs = [.ref t, .ref l, .int at_] ∧ ProbAt K H t rs cs ∧ Dr K H l ds ∧ 0 ≤ at_ ∧ at_ + 1 < (ds.length : Int) ∧ (∀ r ∈ rs, r.1.length = cs.length) ∧ cs.length ≤ 5 ∧ rs.length ≤ 5 ∧
 ∀ (t' : Addr) (rs' : List Rw) (cs' : List Int) (H' : Hp), Same H H' → ProbAt K H' t' rs' cs' → (∀ r ∈ rs', r.1.length = cs.length) → cs'.length = cs.length → rs'.length ≤ 10 → (rs' = [] ↔ rs = []) → Q (.ref t') H'
def Qjd (K : Fg) : Sp := fun vs H Q _ => ∃ (t : Addr) (rs : List Rw) (cs : List Int), vs = [.ref t] ∧ ProbAt K H t rs cs ∧ (∀ r ∈ rs, r.1.length = cs.length) ∧ cs.length ≤ 5 ∧ rs.length ≤ 10 ∧
 ∀ (t' : Addr) (rs' : List Rw) (cs' : List Int) (H' : Hp), Same H H' → ProbAt K H' t' rs' cs' → (∀ r ∈ rs', r.1.length = cs.length) → cs'.length = cs.length → rs'.length = rs.length → Q (.ref t') H'
def Qgd (K : Fg) (lo : Nat) : Sp := fun vs H Q _ => ∃ (l : Addr) (ds : List Int), vs = [.ref l] ∧ Dr K H l ds ∧ 100 ≤ ds.length ∧
 ∀ (t p : Addr) (rs : List Rw) (cs : List Int) (best : Option Int) (H' : Hp), Same H H' → SqT K H' t [.ref p, Ks best] → ProbAt K H' p rs cs → (∀ r ∈ rs, r.1.length = cs.length) → lo ≤ cs.length → cs.length ≤ 5 → rs.length ≤ 10 → Q (.ref t) H'
theorem Qge {us : List V} {i : Nat} {v : V} (h : us[i]? = some v) : atI us (0 + (i : Int)) = some v := by
 rw [show (0 : Int) + (i : Int) = ((i : Nat) : Int) by omega]; exact Xx h
theorem Qtg (k : Nat) (x : V) : (List.replicate k [x]).flatten = List.replicate k x := by
 induction k with
 | zero => rfl
 | succ k ih => rw [wX, jXe, ih]; rfl
theorem Qry {n j k : Nat} {t : List Nat} (h : ∀ x ∈ t, x < n) (hk : k < n) : ∀ x ∈ t.set j k, x < n := fun x hx => by
 rcases List.mem_or_eq_of_mem_set hx with z | z
 ·exact h x z
 ·rw [z]; exact hk
theorem Qrz (t : List Nat) (j k : Nat) : ((tI t).map V.int).set j (.int (k : Int)) = (tI (t.set j k)).map V.int := by
 unfold tI
 rw [kQf, kQf]
theorem Qnz (n : Nat) (xs : List Int) (h : xs.length = n) : (List.replicate n (xs.take 1)).flatten.length = n := by
 rw [len_rep, kW]
 rcases n with _ | n
 ·omega
 ·rw [jYe (by omega)]; omega
theorem Qje (n : Nat) (xs : List Int) : (List.replicate n (xs.map V.int)).flatten = ((List.replicate n xs).flatten).map V.int := by
 rw [List.map_flatten, List.map_replicate]
section
variable {P : Program} {w : World} {K : Fg} {mg : Str → Option Value} {base : Heap} {aT aL : Addr} {fT fL : Str → Option Value}
theorem scMix10 : FnScope ["_law_script", "_law_k", "_law_cell", "_law_number"] ["_law_script", "_law_k"] (Qf Qjb) := ⟨rfl, rfl, rfl, by decide +kernel, rfl, by decide +kernel, by decide +kernel⟩
theorem Qth (F : Fn K mg "_law_mix" Qjb) (M : Mg mg) : Cal P w K mg base 1 "_law_mix" ["_law_script", "_law_k"] (Qnx K) := by
 refine Xd F scMix10 (fun _ _ _ _ _ _ => Jb (fun _ _ => rfl)) (fun vs H Q E h => ?_) (fun f cdv A outer s H vs Q E hr h => ?_)
 ·obtain ⟨a, ns, k, rfl, _⟩ := h
  rfl
 obtain ⟨a, ns, k, rfl, hS, h0, h1, q⟩ := h
 refine ⟨_, (Qg (Qx (i := 2) scMix10.nd rfl (Or.inl rfl) Qd)
  (Qg (Yi (Qq Qlq (Qk Qi rfl M.len Xf (Qa (pv 0) Qe)) Qd (Qs _)) (Qn (Qx (i := 2) scMix10.nd rfl (Or.inl rfl) (Qm Qw (pv 0) (Qr Xn (pv 1) (Qk (Vs rfl) rfl M.min Qig (Qa Qd (Qa (Qk Qi rfl M.len Xf (Qa (pv 0) Qe)) Qe)))) (fun _ _ => rfl)))) Xg)
  (Qg (Qx (i := 3) scMix10.nd rfl (Or.inl rfl) (Qr Xn (Qr Xr (pv 2) (Qr Kd Qd (Qr Xr (pv 1) Qd))) Qd))
  (Qg (Qx (i := 3) scMix10.nd rfl (Or.inl rfl) (Qr Xn (Qr Xr (Qr Kd (pv 3) (pv 3)) (pv 1)) Qd))
  (Qn (Qv (Qr Xn (Qr Kd (pv 3) (pv 3)) Qd))))))), ?_⟩
 refine Qdm ?_
 intro rT5 rT4 rT3 rT2
 have fin : ∀ x : Int, Q (.int (x % 2147483587)) H := fun x => q _ (jXd _ (by decide)) (Int.lt_trans (jQe _ (by decide)) (by decide))
 have b1 : ∀ x : Int, -(2 ^ 64) < x % 2147483629 ∧ x % 2147483629 < 2 ^ 64 := fun x => ⟨by omega, by omega⟩
 refine ⟨_, rfl, a, _, rfl, .inl hS, _, _, rfl, rfl, _, rfl, ite2 (fun c => ?_) (fun c => ?_)⟩
 ·have c' : (0 : Int) < (((ns.map V.int).length : Nat) : Int) := yX c
  have pm : (0 : Int) < (if (((ns.map V.int).length : Nat) : Int) < 63 then (((ns.map V.int).length : Nat) : Int) else 63) := by split <;> omega
  have pl : (if (((ns.map V.int).length : Nat) : Int) < 63 then (((ns.map V.int).length : Nat) : Int) else 63) ≤ (((ns.map V.int).length : Nat) : Int) := by split <;> omega
  obtain ⟨v3, hv3⟩ := atNs (ns := ns) (k := k % (if (((ns.map V.int).length : Nat) : Int) < 63 then (((ns.map V.int).length : Nat) : Int) else 63)) (jXd _ (Int.ne_of_gt pm)) (Int.lt_of_lt_of_le (jQe _ pm) pl)
  refine ⟨_, rfl, _, rfl, _, rfl, _, _, rfl, .inl hS, _, _, rfl, _, _, rfl, rfl, pm, _, _, _, _, rfl, rfl, hS, hv3, ?_⟩
  exact ⟨_, rfl, _, rfl, _, _, rfl, rfl, _, _, rfl, rfl, .inl ⟨by decide, by decide⟩, _, _, rfl, rfl, _, _, rfl, rfl, (by show (0 : Int) < _; decide +kernel), _, rfl, _, rfl, _, _, rfl, rfl, .inl (b1 _), _, rfl, _, _, rfl, rfl, _, _, rfl, rfl, (by show (0 : Int) < _; decide +kernel), _, rfl, _, rfl, _, _, rfl, rfl, .inl (b1 _), _, _, rfl, rfl, (by show (0 : Int) < _; decide +kernel), fin _⟩
 ·exact ⟨_, rfl, _, rfl, _, _, rfl, rfl, _, _, rfl, rfl, .inl ⟨by decide, by decide⟩, _, _, rfl, rfl, _, _, rfl, rfl, (by show (0 : Int) < _; decide +kernel), _, rfl, _, rfl, _, _, rfl, rfl, .inl (b1 _), _, rfl, _, _, rfl, rfl, _, _, rfl, rfl, (by show (0 : Int) < _; decide +kernel), _, rfl, _, rfl, _, _, rfl, rfl, .inl (b1 _), _, _, rfl, rfl, (by show (0 : Int) < _; decide +kernel), fin _⟩
theorem Qti {ds : List Int} {z : Int} (h : ∀ d ∈ ds, 0 ≤ d ∧ d < 2147483648) (hz : 0 ≤ z ∧ z < 2147483648) : ∀ d ∈ ds ++ [z], 0 ≤ d ∧ d < 2147483648 := fun d hd => by
 rcases wJ.mp hd with y | y
 ·exact h d y
 ·rw [zK.mp y]; exact hz
theorem scDraws10 : FnScope ["_law_script", "_law_many", "_law_found", "_law_k", "_law_cell"] ["_law_script", "_law_many"] (Qf Qap) := ⟨rfl, rfl, rfl, by decide +kernel, rfl, by decide +kernel, by decide +kernel⟩
theorem Qoa (F : Fn K mg "_law_draws" Qap) (M : Mg mg) (cl_mix : Cal P w K mg base 1 "_law_mix" ["_law_script", "_law_k"] (Qnx K)) : Cal P w K mg base 2 "_law_draws" ["_law_script", "_law_many"] (Qgb K) := by
 refine Xd F scDraws10 (fun _ _ _ _ _ _ => Jb (fun _ _ => rfl)) (fun vs H Q E h => ?_) (fun f cdv A outer s H vs Q E hr h => ?_)
 ·obtain ⟨a, ns, m, rfl, _⟩ := h
  rfl
 obtain ⟨a, ns, m, rfl, hS, h1, q⟩ := h
 refine ⟨_, (Qg (Qx (i := 2) scDraws10.nd rfl (Or.inl rfl) (Jg Qe))
  (Qg (Yi (PW.pt (Ki (Qq Yl (Qk Qi rfl M.len Xf (Qa (pv 0) Qe)) Qd (Qs _)) (Jf (Qq Yl (Qr Xn (Qm Qw (pv 0) Qd (fun _ _ => rfl)) Qd) Qd (Qs _))))) (Qg (Yq PassesOwn.never rfl (Xz rfl M.range_ (Qa (pv 1) Qe)) (Xe (i := 3) scDraws10.nd rfl (Or.inl rfl) (Or.inl rfl)) (Qn (Kk (Qck PySem.F.plainAttrs_list PySem.F.slot_list_append PySem.F.type_list_append Zm (pv 2) (Qa (Xj cl_mix (hr.mono (by decide)) (Qa (pv 0) (Qa (pv 3) Qe))) Qe)))))
  (Qn (Qv (pv 2)))) Xg)
  (Qg (Qx (i := 4) scDraws10.nd rfl (Or.inl rfl) Qd)
  (Qg (Yq PassesOwn.never rfl (Xz rfl M.range_ (Qa (pv 1) Qe)) (Xe (i := 3) scDraws10.nd rfl (Or.inl rfl) (Or.inl rfl)) (Qg (Yi (Qq Yl (Qr Xn (pv 3) Qd) Qd (Qs _)) (Qg (Qx (i := 4) scDraws10.nd rfl (Or.inl rfl) Qd)
  (Qn (Yi (Qq Qah (Qr Kl (pv 3) Qd) (Qk (Vs rfl) rfl M.min Qig (Qa Qd (Qa (Qk Qi rfl M.len Xf (Qa (pv 0) Qe)) Qe))) (Qs _)) (Qn (Qx (i := 4) scDraws10.nd rfl (Or.inl rfl) (Qr Kl (Qm Qw (pv 0) (Qr Kl (pv 3) Qd) (fun _ _ => rfl)) Qd))) Xg))) Xg)
  (Qg (Kk (Qck PySem.F.plainAttrs_list PySem.F.slot_list_append PySem.F.type_list_append Zm (pv 2) (Qa (Qr Xn (pv 4) Qd) Qe)))
  (Qn (Qx (i := 4) scDraws10.nd rfl (Or.inl rfl) (Qr Kl (pv 4) Qd))))))
  (Qn (Qv (pv 2))))))), ?_⟩
 refine Qdm ?_
 intro rT5 rT4 rT3 rT2
 have hz : (2000 : Nat) < sizeLine := by decide
 refine ⟨by show 0 ≤ sizeLine; decide, fun g hg0 => ?_⟩
 have s0 := Qb hg0 (.lst [])
 refine ⟨_, rfl, a, _, rfl, .inl (s0.seq hS), rfl, _, rfl, ite2 (fun c => iteT ?_) (fun c => ?_)⟩
 ·let Pv1 : Nat → St → Hp → Prop := fun i σ H1 => ∃ (ds : List Int) (u : Option V), σ = [some (.ref a), some (.int (m : Int)), some (.ref g), u, none] ∧ ds.length = i ∧ H1 g = some (.lst (ds.map V.int)) ∧ (∀ d ∈ ds, 0 ≤ d ∧ d < 2147483648) ∧ Same H H1
  refine ⟨_, rfl, (m : Int), rfl, by omega, by omega, Yd (lo := 0) (n := ((m : Nat) : Int).toNat) Pv1 ⟨[], none, rfl, rfl, Qc, (fun _ z => nomatch z), s0⟩ ?_ ?_⟩
  ·rintro i σ H1 hi ⟨ds, u, rfl, rfl, hg, hp, s1⟩
   refine ⟨_, rfl, .inl ⟨rfl, _, Qj hg⟩, _, rfl, _, rfl, a, ns, _, rfl, s1.seq hS, by omega, by omega, fun z z0 z1 => ⟨g, _, _, rfl, rfl, hg, by rw [jQ]; omega, ?_⟩⟩
   exact ⟨ds ++ [z], _, rfl, by rw [kZ]; rfl, by rw [Qc, kX]; rfl, Qti hp ⟨z0, z1⟩, fun b o e => by rw [Qo (Qh e hg0)]; exact s1 _ _ e⟩
  ·rintro σ H1 ⟨ds, u, rfl, hl, hg, hp, s1⟩
   exact ⟨_, rfl, q g ds H1 (by omega) s1 ⟨Qj hg, hp⟩⟩
 have hpos : 0 < ns.length := by
  rcases Nat.eq_zero_or_pos ns.length with z | z
  ·exact absurd (jW (congrArg V.int (show (((ns.map V.int).length : Nat) : Int) = 0 by rw [jQ, z]; rfl))) c
  ·exact z
 obtain ⟨v0, hv0⟩ := atNs (ns := ns) (k := 0) (jKc 0) (by rw [jQ]; omega)
 refine ⟨_, rfl, a, _, _, _, rfl, rfl, s0.seq hS, hv0, _, _, rfl, rfl, (by show (0 : Int) < _; decide +kernel), rfl, _, rfl, ite2 (fun c2 => ?_) (fun c2 => ?_)⟩
 ·let Pv2 : Nat → St → Hp → Prop := fun i σ H1 => ∃ (ds : List Int) (u : Option V), σ = [some (.ref a), some (.int (m : Int)), some (.ref g), u, none] ∧ ds.length = i ∧ H1 g = some (.lst (ds.map V.int)) ∧ (∀ d ∈ ds, 0 ≤ d ∧ d < 2147483648) ∧ Same H H1
  refine ⟨_, rfl, (m : Int), rfl, by omega, by omega, Yd (lo := 0) (n := ((m : Nat) : Int).toNat) Pv2 ⟨[], none, rfl, rfl, Qc, (fun _ z => nomatch z), s0⟩ ?_ ?_⟩
  ·rintro i σ H1 hi ⟨ds, u, rfl, rfl, hg, hp, s1⟩
   refine ⟨_, rfl, .inl ⟨rfl, _, Qj hg⟩, _, rfl, _, rfl, a, ns, _, rfl, s1.seq hS, by omega, by omega, fun z z0 z1 => ⟨g, _, _, rfl, rfl, hg, by rw [jQ]; omega, ?_⟩⟩
   exact ⟨ds ++ [z], _, rfl, by rw [kZ]; rfl, by rw [Qc, kX]; rfl, Qti hp ⟨z0, z1⟩, fun b o e => by rw [Qo (Qh e hg0)]; exact s1 _ _ e⟩
  ·rintro σ H1 ⟨ds, u, rfl, hl, hg, hp, s1⟩
   exact ⟨_, rfl, q g ds H1 (by omega) s1 ⟨Qj hg, hp⟩⟩
 have mx : (if (((ns.map V.int).length : Nat) : Int) < 63 then (((ns.map V.int).length : Nat) : Int) else 63) ≤ (((ns.map V.int).length : Nat) : Int) := by split <;> omega
 let Pv3 : Nat → St → Hp → Prop := fun i σ H1 => ∃ (ds : List Int) (u : Option V) (c : Int), σ = [some (.ref a), some (.int (m : Int)), some (.ref g), u, some (.int c)] ∧ ds.length = i ∧ H1 g = some (.lst (ds.map V.int)) ∧ (∀ d ∈ ds, 0 ≤ d ∧ d < 2147483648) ∧ Same H H1
 refine ⟨_, rfl, (m : Int), rfl, by omega, by omega, Yd (lo := 0) (n := ((m : Nat) : Int).toNat) Pv3 ⟨[], none, 0, rfl, rfl, Qc, (fun _ z => nomatch z), s0⟩ ?_ ?_⟩
 ·rintro i σ H1 hi ⟨ds, u, c, rfl, rfl, hg, hp, s1⟩
  show tSeq _ _ _ _ _
  refine Qhl (fun σ' H' => ∃ c : Int, σ' = [some (.ref a), some (.int (m : Int)), some (.ref g), some (.int (0 + (ds.length : Int))), some (.int c)] ∧ H' = H1) ?_ fun REST => ?_
  ·rintro σ' H' ⟨c, rfl, rfl⟩
   refine ⟨_, rfl, .inl ⟨rfl, _, Qj hg⟩, _, rfl, _, _, rfl, rfl, (by show (0 : Int) < _; decide +kernel), g, _, _, rfl, rfl, hg, by rw [jQ]; omega, ?_⟩
   exact ⟨_, rfl, _, _, rfl, rfl, ⟨by decide, by decide⟩, ds ++ [c % 5040], _, _, rfl, by rw [kZ]; rfl, by rw [Qc, kX]; rfl, Qti hp ⟨jXd _ (by decide), by have := jQe c (show (0 : Int) < 5040 by decide); omega⟩, fun b o e => by rw [Qo (Qh e hg0)]; exact s1 _ _ e⟩
  ·refine ⟨_, rfl, _, _, rfl, rfl, (by show (0 : Int) < _; decide +kernel), rfl, _, rfl, ite2 (fun c1 => ?_) (fun c1 => REST _ _ ⟨_, rfl, rfl⟩)⟩
   refine ⟨_, rfl, _, _, rfl, rfl, ⟨by decide, by decide⟩, _, rfl, a, _, rfl, .inl (s1.seq hS), _, _, rfl, _, _, rfl, rfl, _, rfl, ite2 (fun c2 => ?_) (fun c2 => REST _ _ ⟨_, rfl, rfl⟩)⟩
   have c3 := yX c2
   obtain ⟨v, hv⟩ := atNs (ns := ns) (k := (0 + (ds.length : Int)) / 30) (by omega) (Int.lt_of_lt_of_le c3 mx)
   exact ⟨_, rfl, _, rfl, _, _, rfl, rfl, ⟨by decide, by decide⟩, a, _, _, _, rfl, rfl, s1.seq hS, hv, _, _, rfl, rfl, ⟨by decide, by decide⟩, REST _ _ ⟨_, rfl, rfl⟩⟩
 ·rintro σ H1 ⟨ds, u, c, rfl, hl, hg, hp, s1⟩
  exact ⟨_, rfl, q g ds H1 (by omega) s1 ⟨Qj hg, hp⟩⟩
theorem scRow10 : FnScope ["_law_draws_here", "_law_at", "_law_many", "_law_numbers"] ["_law_draws_here", "_law_at", "_law_many"] (Qf Qjc) := ⟨rfl, rfl, rfl, by decide +kernel, rfl, by decide +kernel, by decide +kernel⟩
theorem Qtj (F : Fn K mg "_law_row" Qjc) (M : Mg mg) : Cal P w K mg base 1 "_law_row" ["_law_draws_here", "_law_at", "_law_many"] (Qny K) := by
 refine Xd F scRow10 (fun _ _ _ _ _ _ => Qfp (fun _ _ _ => rfl)) (fun vs H Q E h => ?_) (fun f cdv A outer s H vs Q E hr h => ?_)
 ·obtain ⟨l, ds, at_, n, rfl, _⟩ := h
  rfl
 obtain ⟨l, ds, at_, n, rfl, hD0, h0, h1, h2, q⟩ := h
 refine ⟨_, (Qg (Qx (i := 3) scRow10.nd rfl (Or.inl rfl) (Qz Qy rfl M.tuple_ Xo (Qa (Jr ["_law_k", "_law_draws_here", "_law_at"] [none, some 0, some 1] rfl (Xz rfl M.range_ (Qa (pv 2) Qe)) (fun _ _ _ => (Xe (i := 0) (show (["_law_k", "_law_draws_here", "_law_at"] : List Str).Nodup by decide +kernel) rfl (Or.inl rfl) (Or.inr rfl))) (fun _ _ _ => Yt) (fun _ _ _ => (Qr Zv (Qr Xn (Qm (Qdc (K := K) rfl) (pv 1) (Qr Xr (pv 2) (pv 0)) (fun _ _ => rfl)) Qd) Qd))) Qe)))
  (Qn (Qv (Yy (Qa (pv 3) (Qa (Qr Zv (Qr Xn (Qm Qw (pv 0) (Qr Xr (pv 1) (pv 2)) (fun _ _ => rfl)) Qd) Qd) Qe)))))), ?_⟩
 have hz : (2000 : Nat) < sizeLine := by decide
 refine ⟨_, rfl, (n : Int), rfl, by omega, by omega, fun D hD => ?_⟩
 let Pv1 : Nat → St → List V → Hp → Prop := fun i τ ys H1 => ∃ (ms : List Int) (v : Option V), τ = [v, some (.ref l), some (.int at_)] ∧ ys = ms.map V.int ∧ ms.length = i ∧ H1 D = some (.lst ys) ∧ Same H H1
 refine Ym (n := ((n : Nat) : Int).toNat) Pv1
  ?_ (fun i τ ys H1 hi h => ?_) (fun i τ ys H1 hi h => hi) (fun τ ys H1 h => jZ _) ?_ ?_
 ·exact ⟨[], none, rfl, rfl, rfl, Qc, Qb hD _⟩
 ·obtain ⟨ms, v, rfl, rfl, rfl, hD1, s1⟩ := h
  exact ⟨hD1, by rw [jQ]; omega⟩
 ·rintro i τ ys H1 x H2 hi ⟨ms, v, rfl, rfl, rfl, hD1, s1⟩ ⟨rfl, rfl⟩
  obtain ⟨z, hz1, _, _⟩ := (hD0.same s1).get (at_ + (0 + (ms.length : Int))) (by omega) (by omega)
  refine ⟨_, rfl, _, rfl, _, rfl, _, _, rfl, rfl, l, _, _, _, rfl, rfl, (hD0.same s1).lst, hz1, _, _, rfl, rfl, (by show (0 : Int) < _; decide +kernel), _, _, rfl, rfl, hD1, ms ++ [z % 9 - 4], _, rfl, by rw [kX]; rfl, by rw [kZ]; rfl, Qc, fun b o e => ?_⟩
  rw [Qo (Qh e hD)]
  exact s1 b o e
 ·rintro τ ys H1 ⟨ms, v, rfl, rfl, hl, hD1, s1⟩
  refine ⟨D, _, rfl, .inl ⟨Qj hD1, fun l2 hl2 => ?_⟩⟩
  have s2 : Same H (upd H1 l2 (.tup (ms.map V.int))) := s1.trans (Qb hl2 _)
  obtain ⟨z, hz1, _, _⟩ := (hD0.same s2).get (at_ + (n : Int)) (by omega) (by omega)
  refine ⟨_, rfl, _, rfl, _, rfl, _, rfl, _, _, rfl, rfl, l, _, _, _, rfl, rfl, (hD0.same s2).lst, hz1, _, _, rfl, rfl, (by show (0 : Int) < _; decide +kernel), _, _, rfl, rfl, by show 2 ≤ sizeLine; decide, fun t ht => ?_⟩
  have nt : l2 ≠ t := Qh Qc ht
  exact q t (ms, z % 11 - 5) _ (s2.trans (Qb ht _)) ⟨l2, Xa Qc, Xa (by rw [Qo nt]; exact Qc)⟩ (by show ms.length = n; omega)
theorem scProblem10 : FnScope ["_law_draws_here", "_law_at", "_law_many", "_law_rows", "_law_found", "_law_costs"] ["_law_draws_here", "_law_at", "_law_many", "_law_rows"] (Qf Kx) := ⟨rfl, rfl, rfl, by decide +kernel, rfl, by decide +kernel, by decide +kernel⟩
theorem Qhm (F : Fn K mg "_law_problem" Kx) (M : Mg mg) (cl_row : Cal P w K mg base 1 "_law_row" ["_law_draws_here", "_law_at", "_law_many"] (Qny K)) : Cal P w K mg base 2 "_law_problem" ["_law_draws_here", "_law_at", "_law_many", "_law_rows"] (Qcd K) := by
 refine Xd F scProblem10 (fun _ _ _ _ _ _ => Wr (fun _ _ _ _ => rfl)) (fun vs H Q E h => ?_) (fun f cdv A outer s H vs Q E hr h => ?_)
 ·obtain ⟨l, ds, at_, n, m, rfl, _⟩ := h
  rfl
 obtain ⟨l, ds, at_, n, m, rfl, hD0, h0, h1, h2, h3, h4, q⟩ := h
 refine ⟨_, (Qg (Qgv (i := 4) ["_law_k", "_law_draws_here", "_law_at", "_law_many"] [none, some 0, some 1, some 2] rfl scProblem10.nd rfl (Or.inl rfl) (Xz rfl M.range_ (Qa (pv 3) Qe)) (fun _ _ _ => (Xe (i := 0) (show (["_law_k", "_law_draws_here", "_law_at", "_law_many"] : List Str).Nodup by decide +kernel) rfl (Or.inl rfl) (Or.inr rfl))) (fun _ _ _ => Yt) (fun _ _ _ => (Xj cl_row (hr.mono (by decide)) (Qa (pv 1) (Qa (Qr Xr (pv 2) (Qr Kd Qd (pv 0))) (Qa (pv 3) Qe))))))
  (Qg (Qx (i := 5) scProblem10.nd rfl (Or.inl rfl) (Qz Qy rfl M.tuple_ Xo (Qa (Jr ["_law_k", "_law_draws_here", "_law_at"] [none, some 0, some 1] rfl (Xz rfl M.range_ (Qa (pv 2) Qe)) (fun _ _ _ => (Xe (i := 0) (show (["_law_k", "_law_draws_here", "_law_at"] : List Str).Nodup by decide +kernel) rfl (Or.inl rfl) (Or.inr rfl))) (fun _ _ _ => Yt) (fun _ _ _ => (Qr Zv (Qr Xn (Qm (Qdc (K := K) rfl) (pv 1) (Qr Xr (Qr Xr (pv 2) Qd) (pv 0)) (fun _ _ => rfl)) Qd) Qd))) Qe)))
  (Qn (Qv (Yy (Qa (pv 4) (Qa (pv 5) Qe))))))), ?_⟩
 refine Yj ?_
 intro rT3 rT2
 have hz : (2000 : Nat) < sizeLine := by decide
 refine ⟨_, rfl, (m : Int), rfl, by omega, by omega, fun D hD => ?_⟩
 let Pv1 : Nat → St → List V → Hp → Prop := fun i τ ys H1 => ∃ (rs : List Rw) (v : Option V), τ = [v, some (.ref l), some (.int at_), some (.int (n : Int))] ∧ RowsAre K H1 ys rs ∧ (∀ r ∈ rs, r.1.length = n) ∧ rs.length = i ∧ H1 D = some (.lst ys) ∧ Same H H1
 refine Ym (n := ((m : Nat) : Int).toNat) Pv1
  ?_ (fun i τ ys H1 hi h => ?_) (fun i τ ys H1 hi h => hi) (fun τ ys H1 h => jZ _) ?_ ?_
 ·exact ⟨[], none, rfl, .nil, (fun r hr => nomatch hr), rfl, Qc, Qb hD _⟩
 ·obtain ⟨rs, v, rfl, hr', hm, rfl, hD1, s1⟩ := h
  exact ⟨hD1, by rw [hr'.length]; omega⟩
 ·rintro i τ ys H1 x H2 hi ⟨rs, v, rfl, hr', hm, rfl, hD1, s1⟩ ⟨rfl, rfl⟩
  refine ⟨_, rfl, _, rfl, _, rfl, _, _, rfl, rfl, .inl ⟨by decide, by decide⟩, _, _, rfl, rfl, _, rfl, l, ds, _, n, rfl, hD0.same s1, by omega, by omega, by omega, fun t r H3 s3 rt hl => ⟨s3 _ _ hD1, rs ++ [r], _, rfl, ?_, ?_, by rw [kZ]; rfl, Qc, fun b o e => ?_⟩⟩
  ·exact RowsAre.snoc (hr'.imp fun _ _ z => (z.same s3).upd (s3 _ _ hD1)) (rt.upd (s3 _ _ hD1))
  ·intro r' hr2
   rcases wJ.mp hr2 with z | z
   ·exact hm r' z
   ·rw [zK.mp z]; exact hl
  ·rw [Qo (Qh e hD)]
   exact s3 _ _ (s1 b o e)
 ·rintro τ ys H1 ⟨rs, v, rfl, hr', hm, hl, hD1, s1⟩
  refine ⟨_, rfl, (n : Int), rfl, by omega, by omega, fun D2 hD2 => ?_⟩
  let Pv2 : Nat → St → List V → Hp → Prop := fun i τ ys2 H2 => ∃ (ms : List Int) (v : Option V), τ = [v, some (.ref l), some (.int at_)] ∧ ys2 = ms.map V.int ∧ ms.length = i ∧ H2 D2 = some (.lst ys2) ∧ Same H1 H2
  refine Ym (n := ((n : Nat) : Int).toNat) Pv2
   ?_ (fun i τ ys2 H2 hi h => ?_) (fun i τ ys2 H2 hi h => hi) (fun τ ys2 H2 h => jZ _) ?_ ?_
  ·exact ⟨[], none, rfl, rfl, rfl, Qc, Qb hD2 _⟩
  ·obtain ⟨ms, v, rfl, rfl, rfl, hE, s2⟩ := h
   exact ⟨hE, by rw [jQ]; omega⟩
  ·rintro i τ ys2 H2 x H3 hi ⟨ms, v, rfl, rfl, rfl, hE, s2⟩ ⟨rfl, rfl⟩
   obtain ⟨z, hz1, _, _⟩ := (hD0.same (s1.trans s2)).get (at_ + 70 + (0 + (ms.length : Int))) (by omega) (by omega)
   refine ⟨_, rfl, _, rfl, _, _, rfl, rfl, _, rfl, _, _, rfl, rfl, l, _, _, _, rfl, rfl, (hD0.same (s1.trans s2)).lst, hz1, _, _, rfl, rfl, (by show (0 : Int) < _; decide +kernel), _, _, rfl, rfl, hE, ms ++ [z % 7 - 1], _, rfl, by rw [kX]; rfl, by rw [kZ]; rfl, Qc, fun b o e => ?_⟩
   rw [Qo (Qh e hD2)]
   exact s2 b o e
  ·rintro τ ys2 H2 ⟨ms, v, rfl, rfl, hl2, hE, s2⟩
   refine ⟨D2, _, rfl, .inl ⟨Qj hE, fun l2 hl2' => ?_⟩⟩
   have s3 := s2.trans (Qb hl2' (.tup (ms.map V.int)))
   refine ⟨_, rfl, _, rfl, by show 2 ≤ sizeLine; decide, fun t ht => ?_⟩
   have s4 := s3.trans (Qb ht (.tup [.ref D, .ref l2]))
   have nt : l2 ≠ t := Qh Qc ht
   exact q t rs ms _ (s1.trans s4) ⟨D, l2, ys, Xa Qc, s4.seq (Qj hD1), hr'.imp fun _ _ z => z.same s4, Xa (by rw [Qo nt]; exact Qc)⟩ hm (by omega) (by omega)
theorem scTurned10 : FnScope ["_law_row_here", "_law_turn_here", "_law_numbers", "_law_choice"] ["_law_row_here", "_law_turn_here"] (Qf Wg) := ⟨rfl, rfl, rfl, by decide +kernel, rfl, by decide +kernel, by decide +kernel⟩
theorem Qks (F : Fn K mg "_law_turned" Wg) (M : Mg mg) : Cal P w K mg base 1 "_law_turned" ["_law_row_here", "_law_turn_here"] (Wy K) := by
 refine Xd F scTurned10 (fun _ _ _ _ _ _ => Jb (fun _ _ => rfl)) (fun vs H Q E h => ?_) (fun f cdv A outer s H vs Q E hr h => ?_)
 ·obtain ⟨r, u, row, n, t, rfl, _⟩ := h
  rfl
 obtain ⟨r, u, row, n, t, rfl, ⟨p, hr1, hr2⟩, hu1, ltn, hlt, hl, hn, q⟩ := h
 refine ⟨_, (Qg (Qx (i := 2) scTurned10.nd rfl (Or.inl rfl) (Qr Vd (Jg (Qa Qd Qe)) (Qk Qi rfl M.len Xf (Qa (pv 1) Qe))))
  (Qg (Yq PassesOwn.never rfl (Xz rfl M.range_ (Qa (Qk Qi rfl M.len Xf (Qa (pv 1) Qe)) Qe)) (Xe (i := 3) scTurned10.nd rfl (Or.inl rfl) (Or.inl rfl)) (Qn (Vc (Qm Ql (Qm Ql (pv 0) Qd (fun _ _ => rfl)) (pv 3) (fun _ _ => rfl)) (Jp (pv 2) (Qm Qw (pv 1) (pv 3) (fun _ _ => rfl)) set_list))))
  (Qn (Qv (Yy (Qa (Qz Qy rfl M.tuple_ Xo (Qa (pv 2) Qe)) (Qa (Qm Ql (pv 0) Qd (fun _ _ => rfl)) Qe))))))), ?_⟩
 refine Yj ?_
 intro rT3 rT2
 have hz : (2000 : Nat) < sizeLine := by decide
 have lu : ((tI t).map V.int).length = n := by rw [jQ, Js, ltn]
 refine ⟨by show 1 ≤ sizeLine; decide, fun p1 hp1 => ?_⟩
 have s1 : Same H (upd H p1 (.lst [.int 0])) := Qb hp1 _
 refine ⟨_, rfl, u, _, rfl, .inl (s1.seq hu1), p1, _, _, rfl, rfl, Qc, by omega, ?_, ?_, fun p2 hp2 => ?_⟩
 ·rw [lu]; omega
 ·rw [lu, jKa]; omega
 rw [lu]
 have s2 := s1.trans (Qb hp2 (.lst (List.replicate (Int.toNat ((n : Nat) : Int)) [V.int 0]).flatten))
 have e0 : (List.replicate (Int.toNat ((n : Nat) : Int)) [V.int 0]).flatten = (put row.1 t 0).map V.int := by
  rw [Qtg]
  show _ = (List.replicate t.length 0).map V.int
  rw [List.map_replicate, ltn]
  rfl
 refine ⟨_, rfl, u, _, rfl, .inl (s2.seq hu1), _, rfl, by omega, by rw [lu]; omega, Yd (lo := 0) (n := Int.toNat ((((tI t).map V.int).length : Nat) : Int)) (fun i σ H3 => ∃ v : Option V, σ = [some (.ref r), some (.ref u), some (.ref p2), v] ∧ H3 p2 = some (.lst ((put row.1 t i).map V.int)) ∧ Same H H3) ⟨none, rfl, ?_, s2⟩ ?_ ?_⟩
 ·rw [Qc, e0]
 ·rintro i σ H3 hi ⟨v, rfl, hp3, s3⟩
  have hi' : i < n := by omega
  have ex : row.1[i]? = some row.1[i] := gE (by omega)
  have ek : t[i]? = some t[i] := gE (by omega)
  have hk := hlt t[i] (jQc _)
  generalize t[i] = k at ek hk
  generalize row.1[i] = x at ex
  refine ⟨_, rfl, r, _, _, _, rfl, rfl, s3.tup hr1, at0, _, rfl, p, _, _, _, rfl, rfl, s3.tup hr2, Qge (show (row.1.map V.int)[i]? = some (.int x) by rw [jY, ex]; rfl), _, rfl, _, rfl, _, rfl, u, _, _, _, rfl, rfl, s3.seq hu1, Qge (show ((tI t).map V.int)[i]? = some (.int ((k : Nat) : Int)) by unfold tI; rw [jY, jY, ek]; rfl), p2, _, _, k, rfl, rfl, hp3, Vl (by rw [jQ, Kv]; omega), _, rfl, ?_, fun b o e => ?_⟩
  ·rw [Qc, Qii ex ek, kQf]
  ·have nb : b ≠ p2 := fun z => by subst z; rw [s1 _ _ e] at hp2; cases hp2
   rw [Qo nb]
   exact s3 _ _ e
 ·rintro σ H3 ⟨v, rfl, hp3, s3⟩
  rw [show Int.toNat ((((tI t).map V.int).length : Nat) : Int) = n by rw [lu]; omega] at hp3
  refine ⟨_, rfl, p2, _, rfl, .inl ⟨Qj hp3, fun l2 hl2 => ?_⟩⟩
  have s4 := s3.trans (Qb hl2 (.tup ((put row.1 t n).map V.int)))
  refine ⟨_, rfl, r, _, _, _, rfl, rfl, s4.tup hr1, at1, by show 2 ≤ sizeLine; decide, fun t2 ht2 => ?_⟩
  have nt : l2 ≠ t2 := Qh Qc ht2
  exact q t2 _ (s4.trans (Qb ht2 _)) ⟨l2, Xa Qc, Xa (by rw [Qo nt]; exact Qc)⟩
end
abbrev Qaq : Stmt := top 34
def rowT (rs : List Rw) (cs : List Int) (best : Option Int) (told : List Rw) : Dt → Option Rw
 | .tup (.str w :: xs) => if lenW w = some (xs.length + 1) then Zt w rs cs best told (.str w :: xs) else none
 | _ => none
def Qgf (K : Fg) : Sp := fun vs H Q _ => ∃ (t l : Addr) (v : V) (rs : List Rw) (cs : List Int) (best : Option Int) (ws : List V) (told : List Rw) (d : Dt), vs = [.ref t, Ks best, .ref l, v] ∧ Jx K H t l rs cs ws told ∧ HasT K H v d ∧ Sm d ∧ okD cs.length d ∧
 (rowT rs cs best told d = none → ∀ H', Same H H' → Q .non H') ∧ ∀ r, rowT rs cs best told d = some r → ∀ t' H', Same H H' → RowAt K H' t' r → Q (.ref t') H'
structure JTabs (P : Program) (w : World) (K : Fg) (mg : Str → Option Value) (base : Heap) (aT aL : Addr) (fT fL : Str → Option Value) : Prop where
 tt : Tab w K mg "TELLERS" aT fT
 lt : Tab w K mg "LENGTHS" aL fL
 kt : ∀ s, (fT s).isSome = (lenW s).isSome
 kl : ∀ s n, lenW s = some n → ∃ tk, fL s = some (.int ((n : Nat) : Int) tk)
 ok : TabOk P w K mg base 5 fT ["problem", "best", "told", "line"] (Zg K)
section
variable {P : Program} {w : World} {K : Fg} {mg : Str → Option Value} {base : Heap} {aT aL : Addr} {fT fL : Str → Option Value}
theorem scRowTold : FnScope ["problem", "best", "told", "line", "word"] ["problem", "best", "told", "line"] (Qf Qaq) := ⟨rfl, rfl, rfl, by decide +kernel, rfl, by decide +kernel, by decide +kernel⟩
theorem Qob (F : Fn K mg "row_told" Qaq) (M : Mg mg) (JT : JTabs P w K mg base aT aL fT fL) : Cal P w K mg base 6 "row_told" ["problem", "best", "told", "line"] (Qgf K) := by
 refine Xd F scRowTold (fun _ _ _ _ _ _ => Wr (fun _ _ _ _ => rfl)) (fun vs H Q E h => ?_) (fun f cdv A outer s H vs Q E hr h => ?_)
 ·obtain ⟨t, l, v, rs, cs, best, ws, told, d, rfl, _⟩ := h
  rfl
 obtain ⟨t, l, v, rs, cs, best, ws, told, d, rfl, J, hv, hsm, hokd, qn, qs⟩ := h
 refine ⟨_, (Qg (Yi (PW.pt (Ki (Yh (Ya (Qk Yv rfl M.isinstance Xk (Qa (pv 3) (Qa (Qai M.tuple_ Xo) Qe))))) (Ki (Qq Yl (Qk Qi rfl M.len Xf (Qa (pv 3) Qe)) Qd (Qs _)) (Jf (Yh (Ya (Qk Yv rfl M.isinstance Xk (Qa (Qm Ql (pv 3) Qd (fun _ _ => rfl)) (Qa (Qai M.str_ bt_str) Qe))))))))) (Qn (Qv Xy)) Xg)
  (Qg (Qx (i := 4) scRowTold.nd rfl (Or.inl rfl) (Qm Ql (pv 3) Qd (fun _ _ => rfl)))
  (Qg (Yi (PW.pt (Ki (Qrj (Qnf JT.tt (pv 4)) rfl) (Jf (Qq Qcy (Qk Qi rfl M.len Xf (Qa (pv 3) Qe)) (Qm (Qru JT.lt) (Qgr (v := .ref aL) rfl JT.lt.bound rfl) (pv 4) (fun _ _ => rfl)) (Qs _))))) (Qn (Qv Xy)) Xg)
  (Qn (Qv (Qkk JT.tt JT.ok (hr.mono (by decide)) (pv 4) (fun _ _ => rfl) (Qa (pv 0) (Qa (pv 1) (Qa (pv 2) (Qa (pv 3) Qe)))))))))), ?_⟩
 refine Zj ?_
 intro rT4 rT3 rT2
 cases d with
 | tup xs =>
  obtain ⟨ln, us, rfl, hln, hul, hget⟩ := hv.tup_inv
  refine ⟨_, rfl, _, "tuple", _, rfl, .tuple, hv.isi _, _, rfl, iteF ⟨_, rfl, ln, us, rfl, .inr hln, rfl, _, rfl, ?_⟩⟩
  cases xs with
  | nil =>
   have : us = [] := zZ hul
   subst this
   exact iteT (iteT (qn rfl H (Same.refl H)))
  | cons x r =>
   cases us with
   | nil => simp at hul
   | cons v0 ur =>
    have hlen : (v0 :: ur).length = r.length + 1 := hul
    have h0 := hget 0 v0 x rfl rfl
    refine ite2 (fun c => absurd (V.int.inj (yX c)) (by omega)) (fun _ => ?_)
    refine ⟨_, rfl, ln, _, _, _, rfl, rfl, hln, (show atI _ ((0 : Nat) : Int) = some _ from Xx rfl), _, "str", _, rfl, .str, h0.isi _, _, rfl, ?_⟩
    cases x with
    | str wd =>
     cases h0
     have eR : rowT rs cs best told (.tup (.str wd :: r)) = if lenW wd = some (r.length + 1) then Zt wd rs cs best told (.str wd :: r) else none := rfl
     rw [eR] at qn qs
     refine iteF ⟨_, rfl, ln, _, _, _, rfl, rfl, hln, (show atI _ ((0 : Nat) : Int) = some _ from Xx rfl), ?_⟩
     refine ⟨_, rfl, wd, rfl, _, rfl, ?_⟩
     rw [JT.kt wd]
     cases hw : lenW wd with
     | none =>
      rw [hw] at qn
      exact iteT (iteT (qn (if_neg fun z => nomatch z) H (Same.refl H)))
     | some n =>
      obtain ⟨tk, etk⟩ := JT.kl wd n hw
      refine iteF ⟨_, rfl, ln, _, rfl, .inr hln, _, rfl, wd, _, .int ((n : Nat) : Int), rfl, rfl, etk, ⟨tk, rfl⟩, rfl, _, rfl, ?_⟩
      by_cases hn : n = r.length + 1
      ·subst hn
       rw [hw] at qn qs
       rw [if_pos rfl] at qn qs
       have e9 : (!decide (V.int (((V.str wd :: ur).length : Nat) : Int) = V.int ((r.length + 1 : Nat) : Int))) = false := by rw [hlen, jW rfl]; rfl
       rw [e9]
       have hsome : (fT wd).isSome = true := by rw [JT.kt wd, hw]; rfl
       obtain ⟨fv, efv⟩ := jYa.mp hsome
       obtain ⟨fa, fd, e8, _⟩ := JT.ok wd fv efv
       subst e8
       exact iteF ⟨_, rfl, wd, _, .ref fa, rfl, rfl, efv, rfl, wd, fa, rfl, efv, _, rfl, _, rfl, _, rfl, _, rfl, t, l, ln, rs, cs, best, ws, told, _, _, rfl, J, hln, hul, hget, hsm.tup_inv, hw, hokd wd r rfl hw, qn, qs⟩
      ·have e9 : (!decide (V.int (((V.str wd :: ur).length : Nat) : Int) = V.int ((n : Nat) : Int))) = true := by rw [hlen, yQ (fun z => hn (by have := V.int.inj z; omega))]; rfl
       rw [e9]
       exact iteT (qn (if_neg fun z => hn (Option.some.inj (hw.symm.trans z))) H (Same.refl H))
    | int i => exact iteT (qn rfl H (Same.refl H))
    | non => exact iteT (qn rfl H (Same.refl H))
    | bl b => exact iteT (qn rfl H (Same.refl H))
    | tup xs => exact iteT (qn rfl H (Same.refl H))
    | lst xs => exact iteT (qn rfl H (Same.refl H))
 | int i => exact ⟨_, rfl, _, "tuple", _, rfl, .tuple, hv.isi _, _, rfl, iteT (iteT (qn rfl H (Same.refl H)))⟩
 | non => exact ⟨_, rfl, _, "tuple", _, rfl, .tuple, hv.isi _, _, rfl, iteT (iteT (qn rfl H (Same.refl H)))⟩
 | bl b => exact ⟨_, rfl, _, "tuple", _, rfl, .tuple, hv.isi _, _, rfl, iteT (iteT (qn rfl H (Same.refl H)))⟩
 | str s => exact ⟨_, rfl, _, "tuple", _, rfl, .tuple, hv.isi _, _, rfl, iteT (iteT (qn rfl H (Same.refl H)))⟩
 | lst xs => exact ⟨_, rfl, _, "tuple", _, rfl, .tuple, hv.isi _, _, rfl, iteT (iteT (qn rfl H (Same.refl H)))⟩
end
abbrev Wh : Stmt := top 35
abbrev Wi : Stmt := top 36
abbrev Qdz : Stmt := top 37
theorem Qgg {ns : List Int} {c : Nat} (h : c < ns.length) : (Xi ns c).length = ns.length := by
 unfold Xi
 rw [kZ, kZ, kW, jYb]
 show min c ns.length + 1 + (ns.length - (c + 1)) = ns.length
 omega
theorem Qgh (n : Nat) (hs : List (Int × Int)) : (Yb n hs).length = n := by
 unfold Yb
 suffices h : ∀ a : List Int, (hs.foldl (fun a p => a.set p.1.toNat (1 - 2 * p.2)) a).length = a.length by rw [h, xQ]
 induction hs with
 | nil => intro a; rfl
 | cons p t ih => intro a; rw [jJd, ih, zX]
theorem Wj {n k : Nat} {rs : List Rw} (h : ∀ r ∈ rs, r.1.length = n) (hk : k < rs.length) : (rowK rs k).1.length = n := by
 unfold rowK
 rw [jK, gE hk]
 exact h _ (jQc hk)
theorem Qqq {α : Type} {f : Dt → Option α} {ds : List Dt} {xs : List α} (h : allT f ds = some xs) : ∀ x ∈ xs, ∃ d ∈ ds, f d = some x := by
 intro x hx
 obtain ⟨el, eg⟩ := Ji h
 obtain ⟨i, hi, rfl⟩ := jXf.mp hx
 have hi' : i < ds.length := by omega
 obtain ⟨p, ep, en⟩ := eg i ds[i] (gE hi')
 rw [gE hi] at ep
 cases ep
 exact ⟨_, jQc hi', en⟩
theorem Qkt {w : Str} {rs : List Rw} {cs : List Int} {best : Option Int} {told : List Rw} {xs : List Dt} {r : Rw} (h1 : ∀ r ∈ rs, r.1.length = cs.length) (h2 : ∀ r ∈ told, r.1.length = cs.length) (h : Zt w rs cs best told xs = some r) : r.1.length = cs.length := by
 unfold Zt at h
 split at h
 ·unfold Qrw at h
  split at h
  ·obtain ⟨k, e, rfl⟩ := yY.mp h
   exact Wj h1 (Xu e).2
  ·cases h
 split at h
 ·unfold tLow at h
  split at h
  ·obtain ⟨k, e, rfl⟩ := yY.mp h
   show ((List.replicate _ _).set _ _).length = _
   rw [zX, xQ]
  ·cases h
 split at h
 ·unfold tHigh at h
  split at h
  ·obtain ⟨k, e, rfl⟩ := yY.mp h
   show ((List.replicate _ _).set _ _).length = _
   rw [zX, xQ]
  ·cases h
 split at h
 ·unfold Qnt at h
  split at h
  ·obtain ⟨k, e, rfl⟩ := yY.mp h
   exact jQ ..
  ·cases h
 split at h
 ·unfold tSum sumD at h
  split at h
  ·split at h
   ·obtain ⟨qs, e, rfl⟩ := yY.mp h
    refine Wu _ _ fun p hp => ?_
    unfold partsOf at hp
    obtain ⟨q, hq, rfl⟩ := jQd.mp hp
    obtain ⟨x, _, en⟩ := Qqq e q hq
    exact Wj h2 (Wt en).2.1
   ·cases h
  ·cases h
 split at h
 ·unfold Qrx Qcu at h
  split at h
  ·split at h
   ·split at h
    ·obtain ⟨k, e, e2⟩ := xV.mp h
     split at e2
     ·cases e2
      show (List.map _ _).length = _
      rw [jQ]
      exact Wj h2 (Xu e).2
     ·cases e2
    ·cases h
   ·cases h
  ·cases h
 split at h
 ·unfold tShut at h
  split at h
  ·obtain ⟨k, e, e2⟩ := xV.mp h
   obtain ⟨hs, e3, e4⟩ := xV.mp e2
   split at e4
   ·cases e4; exact Qgh _ _
   ·cases e4
  ·cases h
 split at h
 ·unfold Qnu at h
  split at h
  ·obtain ⟨i, e, e2⟩ := xV.mp h
   obtain ⟨j, e3, e4⟩ := xV.mp e2
   obtain ⟨c, e5, e6⟩ := xV.mp e4
   split at e6
   ·cases e6
    have := Wj h2 (Xu e).2
    have h5 := (Xu e5).2
    exact (Qgg (by omega)).trans this
   ·cases e6
  ·cases h
 split at h
 ·unfold tLike at h
  split at h
  ·obtain ⟨t, e, e2⟩ := xV.mp h
   obtain ⟨xs, rfl⟩ := Qga e
   split at e2
   ·cases e2
    exact (Kw t _).trans (Qfz e).2.2
   ·cases e2
  ·cases h
 ·cases h
theorem Qjf {rs : List Rw} {cs : List Int} {best : Option Int} {told : List Rw} {d : Dt} {r : Rw} (h1 : ∀ r ∈ rs, r.1.length = cs.length) (h2 : ∀ r ∈ told, r.1.length = cs.length) (h : rowT rs cs best told d = some r) : r.1.length = cs.length := by
 unfold rowT at h
 split at h
 ·split at h
  ·exact Qkt h1 h2 h
  ·cases h
 ·cases h
def Xm (rs : List Rw) (cs : List Int) (best : Option Int) : List Dt → List Rw → List Rw
 | [], acc => acc
 | d :: r, acc => match rowT rs cs best acc d with
  | none => acc
  | some row => Xm rs cs best r (acc ++ [row])
theorem Jj {rs : List Rw} {cs : List Int} {best : Option Int} {d : Dt} {r : List Dt} {acc : List Rw} (h : rowT rs cs best acc d = none) : Xm rs cs best (d :: r) acc = acc := by
 show (match rowT rs cs best acc d with | none => acc | some row => Xm rs cs best r (acc ++ [row])) = acc
 rw [h]
theorem Za {rs : List Rw} {cs : List Int} {best : Option Int} {d : Dt} {r : List Dt} {acc : List Rw} {row : Rw} (h : rowT rs cs best acc d = some row) : Xm rs cs best (d :: r) acc = Xm rs cs best r (acc ++ [row]) := by
 show (match rowT rs cs best acc d with | none => acc | some row => Xm rs cs best r (acc ++ [row])) = _
 rw [h]
theorem Wz {rs : List Rw} {cs : List Int} {best : Option Int} (h1 : ∀ r ∈ rs, r.1.length = cs.length) : ∀ (ds : List Dt) (acc : List Rw), (∀ r ∈ acc, r.1.length = cs.length) → (∀ r ∈ Xm rs cs best ds acc, r.1.length = cs.length) ∧ acc.length ≤ (Xm rs cs best ds acc).length ∧ (Xm rs cs best ds acc).length ≤ acc.length + ds.length := by
 intro ds
 induction ds with
 | nil => intro acc h; exact ⟨h, jZ _, jZ _⟩
 | cons d r ih =>
  intro acc h
  cases e : rowT rs cs best acc d with
  | none => rw [Jj e]; exact ⟨h, jZ _, jYc _ _⟩
  | some row =>
   rw [Za e]
   have hl := Qjf h1 h e
   obtain ⟨a, b, c⟩ := ih (acc ++ [row]) (fun x hx => by
    rcases wJ.mp hx with hx | hx
    ·exact h x hx
    ·cases zK.mp hx; exact hl)
   rw [kZ] at b c
   simp only [yV, jQb] at b c ⊢
   exact ⟨a, by omega, by omega⟩
structure Px (K : Fg) (H : Hp) (t p : Addr) (rs : List Rw) (cs : List Int) (us : List V) (ds : List Dt) : Prop where
 prob : ProbAt K H t rs cs
 lst : SqL K H p us
 len : us.length = ds.length
 has : ∀ (i : Nat) v x, us[i]? = some v → ds[i]? = some x → HasT K H v x
 sm : ∀ x ∈ ds, Sm x
 rl : ∀ r ∈ rs, r.1.length = cs.length
 n : cs.length ≤ 50
 m : rs.length < 60
 k : ds.length ≤ 1000
 ok : ∀ x ∈ ds, okD cs.length x
theorem Px.same {K : Fg} {H H' : Hp} {t p : Addr} {rs : List Rw} {cs : List Int} {us : List V} {ds : List Dt} (h : Px K H t p rs cs us ds) (e : Same H H') : Px K H' t p rs cs us ds :=
 ⟨h.prob.same e, e.seq h.lst, h.len, fun i v x a b => (h.has i v x a b).same e, h.sm, h.rl, h.n, h.m, h.k, h.ok⟩
def Qaa (K : Fg) : Sp := fun vs H Q _ => ∃ (t p : Addr) (rs : List Rw) (cs : List Int) (best : Option Int) (us : List V) (ds : List Dt), vs = [.ref t, Ks best, .ref p] ∧ Px K H t p rs cs us ds ∧
 ∀ l ws H', H l = none → Same H H' → H' l = some (.lst ws) → RowsAre K H' ws (Xm rs cs best ds []) → Q (.ref l) H'
def Kb (r : Rw) : Bool := r.1.all (fun x => decide (x = 0)) && decide (1 ≤ r.2)
def Qcw (K : Fg) : Sp := fun vs H Q _ => ∃ (t : Addr) (r : Rw), vs = [.ref t] ∧ RowAt K H t r ∧ r.1.length < 1000 ∧ ∀ H', Same H H' → Q (.bl (Kb r)) H'
def Qea (rs : List Rw) (cs : List Int) (best : Option Int) (ds : List Dt) : Option Nat :=
 let told := Xm rs cs best ds []
 if told.length = ds.length ∧ 0 < told.length ∧ Kb (told.getLastD ([], 0)) = true then none else some told.length
def natV : Option Nat → V
 | none => .non
 | some n => .int ((n : Nat) : Int)
def Qjg (K : Fg) : Sp := fun vs H Q _ => ∃ (t p : Addr) (rs : List Rw) (cs : List Int) (best : Option Int) (us : List V) (ds : List Dt), vs = [.ref t, Ks best, .ref p] ∧ Px K H t p rs cs us ds ∧
 ∀ H', Same H H' → Q (natV (Qea rs cs best ds)) H'
section
variable {P : Program} {w : World} {K : Fg} {mg : Str → Option Value} {base : Heap} {aT aL : Addr} {fT fL : Str → Option Value}
theorem scRowsTold : FnScope ["problem", "best", "paper", "told", "line", "row"] ["problem", "best", "paper"] (Qf Wh) := ⟨rfl, rfl, rfl, by decide +kernel, rfl, by decide +kernel, by decide +kernel⟩
theorem Qku (F : Fn K mg "rows_told" Wh) (M : Mg mg) (c_row_told : Cal P w K mg base 6 "row_told" ["problem", "best", "told", "line"] (Qgf K)) : Cal P w K mg base 7 "rows_told" ["problem", "best", "paper"] (Qaa K) := by
 refine Xd F scRowsTold (fun _ _ _ _ _ _ => Qfp (fun _ _ _ => rfl)) (fun vs H Q E h => ?_) (fun f cdv A outer s H vs Q E hr h => ?_)
 ·obtain ⟨t, p, rs, cs, best, us, ds, rfl, _⟩ := h
  rfl
 obtain ⟨t, p, rs, cs, best, us, ds, rfl, X, q⟩ := h
 refine ⟨_, (Qg (Qx (i := 3) scRowsTold.nd rfl (Or.inl rfl) (Jg Qe))
  (Qg (Yq PassesOwn.never rfl (Yk (pv 2)) (Xe (i := 4) scRowsTold.nd rfl (Or.inl rfl) (Or.inl rfl)) (Qg (Qx (i := 5) scRowsTold.nd rfl (Or.inl rfl) (Xj c_row_told (hr.mono (by decide)) (Qa (pv 0) (Qa (pv 1) (Qa (pv 3) (Qa (pv 4) Qe))))))
  (Qg (Yi (Qq Qhy (pv 5) Xy (Qs _)) (Qn Qoy) Xg)
  (Qn (Kk (Qck PySem.F.plainAttrs_list PySem.F.slot_list_append PySem.F.type_list_append Zm (pv 3) (Qa (pv 5) Qe)))))))
  (Qn (Qv (pv 3))))), ?_⟩
 refine Yj ?_
 intro rT3 rT2
 have hz : (2000 : Nat) < sizeLine := by decide
 have hk1000 := X.k
 have hul := X.len
 refine ⟨by show 0 ≤ sizeLine; decide, fun g hg0 => ?_⟩
 have s0 := Qb hg0 (.lst [])
 let Pv1 : Nat → St → Hp → Prop := fun i σ H1 => ∃ (told : List Rw) (ws : List V) (u v : Option V), σ = [some (.ref t), some (Ks best), some (.ref p), some (.ref g), u, v] ∧ H1 g = some (.lst ws) ∧ RowsAre K H1 ws told ∧ Xm rs cs best ds [] = Xm rs cs best (ds.drop i) told ∧ told.length ≤ i ∧ (∀ r ∈ told, r.1.length = cs.length) ∧ Same H H1
 refine ⟨_, rfl, p, rfl, ⟨_, s0.seq X.lst⟩, Ju (K := K) (a := p) (xs := us) Pv1 ⟨[], [], none, none, rfl, Qc, .nil, rfl, jZ _, (fun _ z => nomatch z), s0⟩ (fun i σ H1 _ h => ?_) ?_ ?_⟩
 ·obtain ⟨told, ws, u, v, rfl, hg, hrw, et, hl, htl, s1⟩ := h
  exact s1.seq X.lst
 ·rintro i x σ H1 e1 ⟨told, ws, u, v, rfl, hg, hrw, et, hl, htl, s1⟩
  have hi : i < us.length := (yK.mp e1).1
  obtain ⟨d, ed⟩ : ∃ d, ds[i]? = some d := ⟨_, gE (by omega)⟩
  have hx := (X.has i _ _ e1 ed).same s1
  have edr : ds.drop i = d :: ds.drop (i + 1) := by
   rw [List.drop_eq_getElem_cons (by omega)]
   congr 1
   rw [gE (by omega)] at ed
   exact Option.some.inj ed
  rw [edr] at et
  have J : Jx K H1 t g rs cs ws told := ⟨X.prob.same s1, Qj hg, hrw, X.rl, htl, X.n, X.m, by omega⟩
  refine ⟨_, rfl, _, rfl, _, rfl, _, rfl, t, g, x, rs, cs, best, ws, told, d, rfl, J, hx, X.sm d (kK ed), X.ok d (kK ed), fun er H2 s2 => ?_, fun row er t' H2 s2 hr2 => ?_⟩
  ·refine ⟨_, rfl, rfl, _, rfl, iteT ?_⟩
   rw [Jj er] at et
   refine ⟨_, rfl, q g ws H2 hg0 (s1.trans s2) (s2 _ _ hg) ?_⟩
   rw [et]
   exact hrw.imp fun _ _ z => z.same s2
  ·refine ⟨_, rfl, rfl, _, rfl, iteF ?_⟩
   rw [Za er] at et
   have hg2 := s2 _ _ hg
   have lw := hrw.length
   refine ⟨_, rfl, .inl ⟨rfl, _, Qj hg2⟩, _, rfl, g, _, _, rfl, rfl, hg2, by omega, ?_⟩
   refine ⟨told ++ [row], _, _, _, rfl, Qc, ?_, et, by rw [kZ]; simp only [yV, jQb]; omega, fun r hr' => ?_, fun b o e => ?_⟩
   ·exact RowsAre.snoc (hrw.imp fun _ _ z => (z.same s2).upd hg2) (hr2.upd hg2)
   ·rcases wJ.mp hr' with hr' | hr'
    ·exact htl r hr'
    ·cases zK.mp hr'
     exact Qjf X.rl htl er
   ·rw [Qo (Qh e hg0)]; exact s2 _ _ (s1 _ _ e)
 ·rintro σ H1 ⟨told, ws, u, v, rfl, hg, hrw, et, hl, htl, s1⟩
  rw [List.drop_of_length_le (by omega)] at et
  refine ⟨_, rfl, q g ws H1 hg0 s1 hg ?_⟩
  rw [et]
  exact hrw
theorem Qkv : FnScope ["row"] ["row"] (Qf Wi) := ⟨rfl, rfl, rfl, by decide +kernel, rfl, by decide +kernel, by decide +kernel⟩
theorem Qkw (F : Fn K mg "is_broken" Wi) (M : Mg mg) : Cal P w K mg base 1 "is_broken" ["row"] (Qcw K) := by
 refine Xd F Qkv (fun _ _ _ _ _ _ => bind1 (fun _ => rfl)) (fun vs H Q E h => ?_) (fun f cdv A outer s H vs Q E hr h => ?_)
 ·obtain ⟨t, r, rfl, _⟩ := h
  rfl
 obtain ⟨t, r, rfl, hrow, hlen, q⟩ := h
 refine ⟨_, (Qn (Qv (Jo (Qk (Vw rfl) rfl M.all Qif (Qa (Jr ["number"] [none] rfl (Qac (Qm Ql (pv 0) Qd (fun _ _ => rfl))) (fun _ _ _ => (Xe (i := 0) (show (["number"] : List Str).Nodup by decide +kernel) rfl (Or.inl rfl) (Or.inr rfl))) (fun _ _ _ => Yt) (fun _ _ _ => (Yg Yl (pv 0) Qd (Qs _)))) Qe)) (Kj (Yg Qlr (Qm Ql (pv 0) Qd (fun _ _ => rfl)) Qd (Qs _)))))), ?_⟩
 have hz : (2000 : Nat) < sizeLine := by decide
 obtain ⟨p, r1, r2⟩ := id hrow
 refine ⟨_, rfl, t, _, _, _, rfl, rfl, r1, at0, p, rfl, ⟨_, r2⟩, fun D hD => ?_⟩
 let Pv1 : Nat → St → List V → Hp → Prop := fun i τ ys H1 => ∃ v : Option V, τ = [v] ∧ ys = ((r.1.map fun x => decide (x = 0)).take i).map V.bl ∧ H1 D = some (.lst ys) ∧ Same H H1
 refine Ym (n := r.1.length) Pv1 ?_ (fun i τ ys H1 hi h => ?_) (fun i τ ys H1 hi h => ?_) (fun τ ys H1 h => ?_) ?_ ?_
 ·exact ⟨none, rfl, rfl, Qc, Qb hD _⟩
 ·obtain ⟨v, rfl, rfl, hE, s1⟩ := h
  exact ⟨hE, by rw [jQ, kW]; omega⟩
 ·obtain ⟨v, rfl, rfl, hE, s1⟩ := h
  exact ⟨_, .int r.1[i], s1.tup r2, by rw [jY, gE hi]; rfl⟩
 ·obtain ⟨v, rfl, rfl, hE, s1⟩ := h
  exact ⟨_, s1.tup r2, by rw [jQ]; exact jZ _⟩
 ·rintro i τ ys H1 x H2 hi ⟨v, rfl, rfl, hE, s1⟩ ⟨rfl, e1⟩
  obtain ⟨z, ez, rfl⟩ := Yn (e1 _ (s1.tup r2))
  refine ⟨_, rfl, rfl, hE, _, rfl, ?_, Qc, fun b' o e => ?_⟩
  ·rw [Zz (show (r.1.map fun x => decide (x = 0))[i]? = some (decide (z = 0)) by rw [jY, ez]; rfl), kX]
   have : decide (V.int z = V.int 0) = decide (z = 0) := decide_eq_decide.mpr ⟨V.int.inj, congrArg V.int⟩
   show _ ++ [V.bl (decide (V.int z = V.int 0))] = _
   rw [this]
   rfl
  ·rw [Qo (Qh e hD)]; exact s1 _ _ e
 ·rintro τ ys H1 ⟨v, rfl, rfl, hE, s1⟩
  rw [zQ (by rw [jQ]; exact jZ _)] at hE
  refine ⟨D, _, rfl, Qj hE, ?_⟩
  have hq := q H1 s1
  unfold Kb at hq
  have ed : (r.1.map fun x => decide (x = 0)).all id = r.1.all fun x => decide (x = 0) := by rw [List.all_map]; rfl
  rw [ed]
  cases hA : r.1.all fun x => decide (x = 0) with
  | false => rw [hA] at hq; exact ⟨_, rfl, iteF hq⟩
  | true => rw [hA] at hq; exact ⟨_, rfl, iteT ⟨_, rfl, t, _, _, _, rfl, rfl, s1.tup r1, at1, _, _, rfl, rfl, hq⟩⟩
theorem scJudged : FnScope ["problem", "best", "paper", "told"] ["problem", "best", "paper"] (Qf Qdz) := ⟨rfl, rfl, rfl, by decide +kernel, rfl, by decide +kernel, by decide +kernel⟩
theorem Qqr (F : Fn K mg "judged" Qdz) (M : Mg mg) (c_rows_told : Cal P w K mg base 7 "rows_told" ["problem", "best", "paper"] (Qaa K)) (c_is_broken : Cal P w K mg base 1 "is_broken" ["row"] (Qcw K)) : Cal P w K mg base 8 "judged" ["problem", "best", "paper"] (Qjg K) := by
 refine Xd F scJudged (fun _ _ _ _ _ _ => Qfp (fun _ _ _ => rfl)) (fun vs H Q E h => ?_) (fun f cdv A outer s H vs Q E hr h => ?_)
 ·obtain ⟨t, p, rs, cs, best, us, ds, rfl, _⟩ := h
  rfl
 obtain ⟨t, p, rs, cs, best, us, ds, rfl, X, q⟩ := h
 refine ⟨_, (Qg (Qx (i := 3) scJudged.nd rfl (Or.inl rfl) (Xj c_rows_told (hr.mono (by decide)) (Qa (pv 0) (Qa (pv 1) (Qa (pv 2) Qe)))))
  (Qg (Yi (PW.pt (Kc (Qq Yl (Qk Qi rfl M.len Xf (Qa (pv 3) Qe)) (Qk Qi rfl M.len Xf (Qa (pv 2) Qe)) (Qs _)) (Kc (Qq Qlq (Qk Qi rfl M.len Xf (Qa (pv 3) Qe)) Qd (Qs _)) (Jl (Ya (Xj c_is_broken (hr.mono (by decide)) (Qa (Qm Qw (pv 3) (Vi Zw Qd) (fun _ _ => rfl)) Qe))))))) (Qn (Qv Xy)) Xg)
  (Qn (Qv (Qk Qi rfl M.len Xf (Qa (pv 3) Qe)))))), ?_⟩
 refine Yj ?_
 intro rT3 rT2
 refine ⟨_, rfl, _, rfl, _, rfl, t, p, rs, cs, best, us, ds, rfl, X, fun l ws H1 _ s1 hl hrw => ?_⟩
 have lw := hrw.length
 obtain ⟨htl, hge, hle⟩ := Wz (best := best) X.rl ds [] (fun _ z => nomatch z)
 have hq := q
 unfold Qea at hq
 have hul := X.len
 have hn := X.n
 generalize Xm rs cs best ds [] = told at *
 have fin : ∀ H2, Same H H2 → ¬ (told.length = ds.length ∧ 0 < told.length ∧ Kb (told.getLastD ([], 0)) = true) → Q (.int ((ws.length : Nat) : Int)) H2 := by
  intro H2 s2 hc
  have := hq H2 s2
  rw [if_neg hc] at this
  rw [lw]
  exact this
 refine ⟨_, rfl, l, _, rfl, .inl (Qj hl), _, rfl, p, _, rfl, .inl (s1.seq X.lst), rfl, _, rfl, ?_⟩
 by_cases h1 : told.length = ds.length
 ·rw [jW (show V.int ((ws.length : Nat) : Int) = V.int ((us.length : Nat) : Int) by rw [lw, hul, h1])]
  refine iteT ⟨_, rfl, l, _, rfl, .inl (Qj hl), _, _, rfl, rfl, _, rfl, ?_⟩
  by_cases h2 : 0 < told.length
  ·rw [jW (show (0 : Int) < ((ws.length : Nat) : Int) by omega)]
   obtain ⟨a, r, e1, e2, hr'⟩ := hrw.get (gE (show told.length - 1 < ws.length by omega))
   have hlast : told.getLastD ([], 0) = r := by
    rw [List.getLastD_eq_getLast?, List.getLast?_eq_getElem?, e2]
    rfl
   have ea : atI ws (-1) = some (.ref a) := by
    have : ws[ws.length - 1]? = some (.ref a) := by rw [lw, gE (show told.length - 1 < ws.length by omega), e1]
    unfold atI ixN
    rw [if_neg (by omega), if_pos (by omega)]
    show ws[((-1 : Int) + (ws.length : Int)).toNat]? = _
    rw [show ((-1 : Int) + (ws.length : Int)).toNat = ws.length - 1 by omega]
    exact this
   have hrl := htl r (kK e2)
   refine iteT ⟨_, rfl, _, rfl, l, _, _, _, rfl, rfl, Qj hl, ea, a, r, rfl, hr', by omega, fun H2 s2 => ⟨_, rfl, ?_⟩⟩
   cases hb : Kb r with
   | true =>
    have := hq H2 (s1.trans s2)
    rw [if_pos ⟨h1, h2, by rw [hlast]; exact hb⟩] at this
    exact iteT this
   | false => exact iteF ⟨_, rfl, l, _, rfl, .inl (Qj (s2 _ _ hl)), fin H2 (s1.trans s2) fun z => by rw [hlast, hb] at z; exact nomatch z.2.2⟩
  ·rw [yQ (show ¬ (0 : Int) < ((ws.length : Nat) : Int) by omega)]
   exact iteF (iteF ⟨_, rfl, l, _, rfl, .inl (Qj hl), fin H1 s1 fun z => h2 z.2.1⟩)
 ·rw [yQ (fun z => h1 (by have := V.int.inj z; omega))]
  exact iteF (iteF ⟨_, rfl, l, _, rfl, .inl (Qj hl), fin H1 s1 fun z => h1 z.1⟩)
end
end Nb
namespace L2
open PySem PySem.Spec PyProof.Rows
section
variable {X : Cx} {tg : Expr}
end
end L2
namespace L2
open PySem PySem.Spec PyProof.Rows PySem.SeqAt
section
variable {X : Cx}
end
end L2
namespace L2
open PySem PySem.Spec PyProof.Rows PySem.SeqAt
section
variable {X : Cx} {pins : List (Addr × Obj)} {σ : St} {H : Hp} {s : Shared}
theorem nil_at {A : Around} {a b : Addr} {xs : List V} (hu : A.units < cLine) (I : Inv X pins σ H s) (h1 : SqL X.K H a xs) (h2 : SqL X.K H b []) : RcAt A s (.ref a) (.ref b) xs.isEmpty ∧ RcNeAt A s (.ref a) (.ref b) (!xs.isEmpty) := by
 obtain ⟨its, r, pt, _⟩ := I.list h1
 obtain ⟨its', r', pt', _⟩ := I.list h2
 have l1 := r.length
 have l2 := r'.length
 cases xs with
 | nil =>
  have e1 : its = [] := zZ l1.symm
  have e2 : its' = [] := zZ l2.symm
  subst e1 e2
  have key : ∀ j (h1 : j < ([] : List Value).toArray.size) (h2 : j < ([] : List Value).toArray.size), EqAt A.in1 s ([] : List Value).toArray[j] ([] : List Value).toArray[j] ((fun _ => true) j) := fun j h1 _ => absurd h1 (by simp)
  exact ⟨RcAt.lists pt.isList pt'.isList rfl hu key, RcNeAt.lists pt.isList pt'.isList rfl hu key⟩
 | cons x xs =>
  have hne : (its.toArray.size != its'.toArray.size) = true := by
   rw [jV, jV, ← l1, ← l2]
   simp
  exact ⟨RcAt.lists_lengths pt.isList pt'.isList hne hu, RcNeAt.lists_lengths pt.isList pt'.isList hne hu⟩
theorem Qjh {K : Fg} {n : Nat} (hK : X.K = K) (hu : X.A.units + n < cLine) : OpR X (compareOp .NotEq) (fun x y H Q => ∃ (a b : Addr) (xs : List V), x = .ref a ∧ y = .ref b ∧ SqL K H a xs ∧ SqL K H b [] ∧ Q (.bl (!xs.isEmpty)) H) := by
 subst hK
 intro pins s σ H x y v u Q I rx ry h
 obtain ⟨a, b, xs, rfl, rfl, h1, h2, q⟩ := h
 cases rx
 cases ry
 exact (nil_at (A := X.A) (by omega) I h1 h2).2 _ _ _ _ ⟨.bl _, H, I, rfl, q⟩
open PySem.MeetsSeq PySem.MeetsSeq2 PySem.MeetsSeq3 in
open AutoSeq1 (wpAny_loadPart') in
open PySem.MeetsSeq PySem.MeetsSeq2 PySem.MeetsSeq3 in
open AutoSeq1 (wpAny_loadPart') in
end
section
variable {X : Cx}
end
end L2
namespace L2
open PySem PySem.Spec PySem.W PyProof.Rows
open PySem.SeqAt
section
variable {prog : Program} {w : World} {A : Around} {E : Value → Shared → Prop} {s : Shared}
end
section
variable {prog : Program} {w : World} {A : Around} {R : Result → Shared → Prop} {I : Addr} {fp wr : List Addr} {P : Nat → Value → Prop} {St : Nat → Heap → Prop}
end
section
variable {prog : Program} {w : World} {A : Around} {E : Value → Shared → Prop} {s : Shared}
end
section
variable {X : Cx}
end
end L2
namespace L2
open PySem PySem.Spec PySem.W PyProof.Rows
open PySem.SeqAt
section
variable {A : Around} {s : Shared}
end
section
variable {prog : Program} {w : World} {A : Around} {R : Result → Shared → Prop} {I : Addr} {fp wr : List Addr} {n : Nat} {P : Nat → Value → Prop} {St : Nat → Heap → Prop}
end
section
variable {prog : Program} {w : World} {A : Around} {E : Value → Shared → Prop} {s : Shared} {l : Addr}
end
section
variable {X : Cx}
open Classical in
end
section
variable {X : Cx}
theorem Qoc {K : Fg} {n : Nat} (hK : X.K = K) (hu : X.A.units + n < cLine) : OpR X (compareOp .NotEq) (fun x y H Q => ∃ (a b : Addr) (xs : List V), x = .ref a ∧ y = .ref b ∧ SqL K H a xs ∧ SqL K H b xs ∧ (∀ x ∈ xs, ∃ c, x = .ref c) ∧ Q (.bl false) H) := by
 subst hK
 intro pins s σ H x y v u Q I rx ry h
 obtain ⟨a, b, xs, rfl, rfl, h1, h2, hr, q⟩ := h
 cases rx
 cases ry
 obtain ⟨its, r, pt, _⟩ := I.list h1
 obtain ⟨its', r', pt', _⟩ := I.list h2
 have l1 := r.length
 have l2 := r'.length
 have e : its = its' := Qbk (by omega) fun i x y ex ey => by
  obtain ⟨z, ez⟩ : ∃ z, xs[i]? = some z := ⟨_, gE (by have := (yK.mp ex).1; omega)⟩
  obtain ⟨c, rfl⟩ := hr z (kK ez)
  obtain ⟨u1, e1, r1⟩ := r.get ez
  obtain ⟨u2, e2, r2⟩ := r'.get ez
  rw [ex] at e1
  rw [ey] at e2
  cases e1
  cases e2
  cases r1
  cases r2
  rfl
 subst e
 have key : ∀ j (h1 : j < its.toArray.size) (h2 : j < its.toArray.size), EqAt X.A.in1 s its.toArray[j] its.toArray[j] ((fun _ => true) j) := fun j _ _ => EqAt.same _
 have hh := RcNeAt.lists (A := X.A) (s := s) pt.isList pt'.isList rfl (by omega) key
 have ea : ((List.range its.toArray.size).all fun _ => true) = true := xW.mpr fun _ _ => rfl
 rw [ea] at hh
 exact hh _ _ _ _ ⟨.bl false, H, I, rfl, q⟩
end
end L2
namespace Nb
open PySem L2
abbrev Qar : Stmt := top 51
abbrev Qeb : Stmt := top 52
abbrev Qas : Stmt := top 56
section
variable {X : Cx}
def HasTs (K : Fg) (H : Hp) (vs : List V) (ds : List Dt) : Prop := vs.length = ds.length ∧ ∀ (i : Nat) v x, vs[i]? = some v → ds[i]? = some x → HasT K H v x
theorem HasTs.same {K : Fg} {H H' : Hp} {vs : List V} {ds : List Dt} (h : HasTs K H vs ds) (e : Same H H') : HasTs K H' vs ds := ⟨h.1, fun i v x a b => (h.2 i v x a b).same e⟩
theorem HasTs.nil {K : Fg} {H : Hp} : HasTs K H [] [] := ⟨rfl, fun i v x e => by simp at e⟩
theorem HasTs.cons {K : Fg} {H : Hp} {v : V} {d : Dt} {vs : List V} {ds : List Dt} (h : HasT K H v d) (t : HasTs K H vs ds) : HasTs K H (v :: vs) (d :: ds) := by
 refine ⟨by rw [yV, yV, t.1], fun i v' x e1 e2 => ?_⟩
 cases i with
 | zero => simp at e1 e2; subst e1 e2; exact h
 | succ i => exact t.2 i v' x (by simpa using e1) (by simpa using e2)
theorem HasTs.append {K : Fg} {H : Hp} {vs ws : List V} {ds es : List Dt} (h : HasTs K H vs ds) (t : HasTs K H ws es) : HasTs K H (vs ++ ws) (ds ++ es) := by
 induction vs generalizing ds with
 | nil =>
  have : ds = [] := zZ h.1.symm
  subst this
  exact t
 | cons v vs ih =>
  cases ds with
  | nil => have := h.1; simp at this
  | cons d ds =>
   refine HasTs.cons (h.2 0 v d rfl rfl) (ih ⟨by have := h.1; simpa using this, fun i v x e1 e2 => h.2 (i + 1) v x (by simpa using e1) (by simpa using e2)⟩)
theorem HasTs.ints {K : Fg} {H : Hp} (ns : List Int) : HasTs K H (ns.map V.int) (ns.map Dt.int) := by
 induction ns with
 | nil => exact .nil
 | cons n ns ih => exact .cons (.int n) ih
end
structure HoldsOk (n : Nat) (hs : List (Int × Int)) : Prop where
 nd : (hs.map (·.1)).Nodup
 lt : ∀ p ∈ hs, 0 ≤ p.1 ∧ p.1 < (n : Int)
 w : ∀ p ∈ hs, p.2 = 0 ∨ p.2 = 1
theorem tupT {K : Fg} {H : Hp} {a : Addr} {vs : List V} {ds : List Dt} (h : SqT K H a vs) (t : HasTs K H vs ds) : HasT K H (.ref a) (.tup ds) := .tup h t.1 t.2
theorem lstT {K : Fg} {H : Hp} {a : Addr} {vs : List V} {ds : List Dt} (h : SqL K H a vs) (t : HasTs K H vs ds) : HasT K H (.ref a) (.lst ds) := .lst h t.1 t.2
def OffS (H : Hp) (S : List Addr) : Hp := fun a => if a ∈ S then none else H a
theorem Zp {H : Hp} {S : List Addr} {a : Addr} (h : a ∉ S) : OffS H S a = H a := if_neg h
theorem Qhn {H : Hp} {S : List Addr} : Same (OffS H S) H := fun b o e => by
 by_cases h : b ∈ S
 ·unfold OffS at e; rw [if_pos h] at e; cases e
 ·rw [Zp h] at e; exact e
theorem Ye {H H' : Hp} {S : List Addr} (s : Same H H') : Same (OffS H S) (OffS H' S) := fun b o e => by
 by_cases h : b ∈ S
 ·unfold OffS at e; rw [if_pos h] at e; cases e
 ·rw [Zp h] at e ⊢; exact s _ _ e
theorem Qec {H : Hp} {S : List Addr} {a : Addr} {x : HO} (h : a ∈ S) : OffS (upd H a x) S = OffS H S := by
 funext b
 by_cases e : b ∈ S
 ·unfold OffS; rw [if_pos e, if_pos e]
 ·rw [Zp e, Zp e, Qo fun z => e (by rw [z]; exact h)]
theorem Qho {H : Hp} {S : List Addr} {a : Addr} {x : HO} (h : a ∉ S) : OffS (upd H a x) S = upd (OffS H S) a x := by
 funext b
 by_cases e : b ∈ S
 ·rw [Qo fun z => h (by rw [← z]; exact e)]; unfold OffS; rw [if_pos e, if_pos e]
 ·rw [Zp e]
  by_cases z : b = a
  ·subst z; rw [Qc, Qc]
  ·rw [Qo z, Qo z, Zp e]
def Live (H : Hp) (S : List Addr) : Prop := ∀ P ∈ S, ∃ o, H P = some o
theorem Live.same {H H' : Hp} {S : List Addr} (h : Live H S) (s : Same H H') : Live H' S := fun P hP => let ⟨o, e⟩ := h P hP; ⟨o, s _ _ e⟩
theorem Live.fresh {H : Hp} {S : List Addr} {a : Addr} (h : Live H S) (f : H a = none) : a ∉ S := fun z => by
 obtain ⟨o, e⟩ := h a z
 rw [f] at e; cases e
theorem tupO {K : Fg} {H : Hp} {a : Addr} {S : List Addr} {vs : List V} {ds : List Dt} (na : a ∉ S) (h : HasTs K (OffS (upd H a (.tup vs)) S) vs ds) : HasT K (OffS (upd H a (.tup vs)) S) (.ref a) (.tup ds) := tupT (Xa (by rw [Zp na]; exact Qc)) h
def Vh (p : Int × Int) : Dt := .tup [.int p.1, .int p.2]
theorem holdsD {K : Fg} {H : Hp} {a : Addr} {vs : List V} {hs : List (Int × Int)} (ha : SqL K H a vs) (h : PairsAre K H vs (hs.map fun p => (p.1, V.int p.2))) : HasT K H (.ref a) (.lst (hs.map Vh)) := by
 have lh := h.length
 rw [jQ] at lh
 refine .lst ha (by rw [jQ, lh]) fun i v x e1 e2 => ?_
 obtain ⟨T, pr, rfl, ep, hT⟩ := h.get e1
 rw [jY] at ep e2
 obtain ⟨p, ec, rfl⟩ := yY.mp ep
 rw [ec] at e2
 cases e2
 exact .tup hT rfl fun j v x e1 e2 => by
  match j, e1, e2 with
  | 0, e1, e2 => cases e1; cases e2; exact .int _
  | 1, e1, e2 => cases e1; cases e2; exact .int _
inductive Ln
 | low (c : Nat)
 | high (c : Nat)
 | better
 | sum (ps : List (Nat × Nat))
 | share (k b : Nat)
 | shut (k : Nat) (hs : List (Int × Int))
 | either (i j c : Nat)
 | like (t : List Nat)
 | given (k : Nat)
def Jk (p : Nat × Nat) : Dt := .tup [.int (p.1 : Int), .int (p.2 : Int)]
def lnD : Ln → Dt
 | .low c => .tup [.str "low", .int (c : Int)]
 | .high c => .tup [.str "high", .int (c : Int)]
 | .better => .tup [.str "better"]
 | .sum ps => .tup [.str "sum", .lst (ps.map Jk)]
 | .share k b => .tup [.str "share", .int (k : Int), .int (b : Int)]
 | .shut k hs => .tup [.str "shut", .int (k : Int), .lst (hs.map Vh)]
 | .either i j c => .tup [.str "either", .int (i : Int), .int (j : Int), .int (c : Int)]
 | .like t => .tup [.str "like", .lst ((tI t).map .int)]
 | .given k => .tup [.str "given", .int (k : Int)]
def LnOk (n : Nat) : Ln → Prop
 | .low c => c < 2147483648
 | .high c => c < 2147483648
 | .better => True
 | .sum ps => ps ≠ [] ∧ ps.length ≤ 3 ∧ ∀ p ∈ ps, p.1 < 2147483648 ∧ p.2 < 2147483648
 | .share k b => k < 2147483648 ∧ 1 ≤ b ∧ b ≤ 4
 | .shut k hs => k < 2147483648 ∧ HoldsOk n hs ∧ hs.length ≤ 5
 | .either i j c => i < 2147483648 ∧ j < 2147483648 ∧ c < 2147483648
 | .like t => IsTurn n t
 | .given k => k < 2147483648
theorem Kh {k : Nat} (h : k < 2147483648) : Sm (.int (k : Int)) := .int _ (by omega) (by omega)
theorem Xq {d : Dt} {ds : List Dt} (h : Sm d) (t : ∀ x ∈ ds, Sm x) : ∀ x ∈ d :: ds, Sm x := fun x hx => by
 rcases yJ.mp hx with z | z
 ·rw [z]; exact h
 ·exact t x z
theorem Kt : ∀ x ∈ ([] : List Dt), Sm x := fun _ h => nomatch h
theorem sm_ln {n : Nat} {ln : Ln} (hn : n ≤ 5) (h : LnOk n ln) : Sm (lnD ln) := by
 cases ln with
 | low c => exact .tup _ (Xq (.str _) (Xq (Kh h) Kt))
 | high c => exact .tup _ (Xq (.str _) (Xq (Kh h) Kt))
 | better => exact .tup _ (Xq (.str _) Kt)
 | sum ps =>
  refine .tup _ (Xq (.str _) (Xq (.lst _ (by rw [jQ]; have := h.2.1; omega) fun x hx => ?_) Kt))
  obtain ⟨p, hp, rfl⟩ := jQd.mp hx
  exact .tup _ (Xq (Kh (h.2.2 p hp).1) (Xq (Kh (h.2.2 p hp).2) Kt))
 | share k b => exact .tup _ (Xq (.str _) (Xq (Kh h.1) (Xq (Kh (by have := h.2.2; omega)) Kt)))
 | shut k hs =>
  refine .tup _ (Xq (.str _) (Xq (Kh h.1) (Xq (.lst _ (by rw [jQ]; have := h.2.2; omega) fun x hx => ?_) Kt)))
  obtain ⟨p, hp, rfl⟩ := jQd.mp hx
  have h1 := h.2.1.lt p hp
  have h2 := h.2.1.w p hp
  exact .tup _ (Xq (.int _ (by omega) (by omega)) (Xq (.int _ (by omega) (by omega)) Kt))
 | either i j c => exact .tup _ (Xq (.str _) (Xq (Kh h.1) (Xq (Kh h.2.1) (Xq (Kh h.2.2) Kt))))
 | like t =>
  have hl : t.length = n := IsTurn.length h
  refine .tup _ (Xq (.str _) (Xq (.lst _ (by rw [jQ, Js]; omega) fun x hx => ?_) Kt))
  obtain ⟨y, hy, rfl⟩ := jQd.mp hx
  obtain ⟨k, hk, rfl⟩ := jQd.mp (show y ∈ t.map fun (k : Nat) => (k : Int) from hy)
  have := (IsTurn.mem h).mp hk
  exact Kh (by omega)
 | given k => exact .tup _ (Xq (.str _) (Xq (Kh h) Kt))
theorem Zq (n k : Nat) : numT n (.int (k : Int)) = if k < n then some k else none := by
 show (if 0 ≤ (k : Int) ∧ (k : Int) < (n : Int) then some (k : Int).toNat else none) = _
 by_cases h : k < n
 ·rw [if_pos h, if_pos ⟨by omega, by omega⟩, jZc]
 ·rw [if_neg h, if_neg (by omega)]
theorem Qat {α β : Type} {f : Dt → Option α} {g : β → Dt} {h : β → α} : ∀ (l : List β), (∀ x ∈ l, f (g x) = some (h x)) → allT f (l.map g) = some (l.map h)
 | [], _ => rfl
 | x :: l, hh => by
  show (match f (g x), allT f (l.map g) with | some x, some t => some (x :: t) | _, _ => none) = _
  rw [hh x zY, Qat l fun y hy => hh y (zW _ hy)]
  rfl
theorem Qtk {α β : Type} {f : Dt → Option α} {g : β → Dt} {l : List β} {x : β} (hx : x ∈ l) (h : f (g x) = none) : allT f (l.map g) = none := by
 have e := Jz f (l.map g)
 have : ((l.map g).all fun d => (f d).isSome) = false := List.all_eq_false.mpr ⟨g x, jQd.mpr ⟨x, hx, rfl⟩, by rw [h]; exact kY⟩
 rw [this] at e
 cases e2 : allT f (l.map g) with
 | none => rfl
 | some _ => rw [e2] at e; cases e
theorem Jn {rs : List Rw} {cs : List Int} {best : Option Int} {told : List Rw} {w : Str} {xs : List Dt} (h : lenW w = some (xs.length + 1)) : rowT rs cs best told (.tup (.str w :: xs)) = Zt w rs cs best told (.str w :: xs) := if_pos h
section
variable {rs : List Rw} {cs : List Int} {best : Option Int} {told : List Rw}
theorem Qtl (k : Nat) : rowT rs cs best told (lnD (.given k)) = if k < rs.length then some (rowK rs k) else none := by
 refine (Jn rfl).trans ?_
 show (numT rs.length (.int (k : Int))).map (rowK rs) = _
 rw [Zq]
 split <;> rfl
theorem t_low (c : Nat) : rowT rs cs best told (lnD (.low c)) = if c < cs.length then some (Jc cs.length c 1 0) else none := by
 refine (Jn rfl).trans ?_
 show (numT cs.length (.int (c : Int))).map _ = _
 rw [Zq]
 split <;> rfl
theorem t_high (c : Nat) : rowT rs cs best told (lnD (.high c)) = if c < cs.length then some (Jc cs.length c (-1) (-1)) else none := by
 refine (Jn rfl).trans ?_
 show (numT cs.length (.int (c : Int))).map _ = _
 rw [Zq]
 split <;> rfl
theorem Qqs : rowT rs cs best told (lnD .better) = best.map (We cs) := (Jn rfl).trans rfl
def psI (ps : List (Nat × Nat)) : List (Nat × Int) := ps.map fun p => (p.1, (p.2 : Int))
theorem Qod {ps : List (Nat × Nat)} (h0 : ps ≠ []) (h : ∀ p ∈ ps, p.1 < told.length) : rowT rs cs best told (lnD (.sum ps)) = some (Zf cs.length (partsOf told (psI ps))) := by
 refine (Jn rfl).trans ?_
 show sumD cs.length told (.lst (ps.map Jk)) = _
 have e : allT (Jt told.length) (ps.map Jk) = some (psI ps) := Qat ps fun p hp => by
  show (if 0 ≤ (p.2 : Int) then (numT told.length (.int (p.1 : Int))).map fun k => (k, (p.2 : Int)) else none) = _
  rw [if_pos (by omega), Zq, if_pos (h p hp)]
  rfl
 cases ps with
 | nil => exact absurd rfl h0
 | cons p r =>
  show (allT (Jt told.length) ((p :: r).map Jk)).map _ = _
  rw [e]
  rfl
theorem Qqt {ps : List (Nat × Nat)} {p : Nat × Nat} (hp : p ∈ ps) (h : ¬ p.1 < told.length) : rowT rs cs best told (lnD (.sum ps)) = none := by
 refine (Jn rfl).trans ?_
 show sumD cs.length told (.lst (ps.map Jk)) = _
 have e : allT (Jt told.length) (ps.map Jk) = none := Qtk hp (by
  show (if 0 ≤ (p.2 : Int) then (numT told.length (.int (p.1 : Int))).map fun k => (k, (p.2 : Int)) else none) = _
  rw [if_pos (by omega), Zq, if_neg h]
  rfl)
 cases ps with
 | nil => exact nomatch hp
 | cons q r =>
  show (allT (Jt told.length) ((q :: r).map Jk)).map _ = _
  rw [e]
  rfl
theorem Qoe {k b : Nat} (hb : 1 ≤ b) : rowT rs cs best told (lnD (.share k b)) = if k < told.length ∧ divides (rowK told k) (b : Int) = true then some (Wf (rowK told k) (b : Int)) else none := by
 refine (Jn rfl).trans ?_
 show (if 1 ≤ (b : Int) then (numT told.length (.int (k : Int))).bind _ else none) = _
 rw [if_pos (by omega), Zq]
 by_cases h : k < told.length
 ·rw [if_pos h]
  show (if divides (rowK told k) (b : Int) = true then _ else none) = _
  by_cases d : divides (rowK told k) (b : Int) = true
  ·rw [if_pos d, if_pos ⟨h, d⟩]
  ·rw [if_neg d, if_neg fun z => d z.2]
 ·rw [if_neg h, if_neg fun z => h z.1]
  rfl
theorem Qof {n : Nat} {hs : List (Int × Int)} (h : HoldsOk n hs) : Zr n (.lst (hs.map Vh)) = some hs := by
 have e : allT (Jy n) (hs.map Vh) = some (hs.map id) := Qat hs fun p hp => by
  obtain ⟨a, b⟩ := h.lt p hp
  obtain ⟨c, d⟩ := p
  have a' : 0 ≤ c := a
  have b' : c < (n : Int) := b
  have w' : d = 0 ∨ d = 1 := h.w _ hp
  show (match numT n (.int c), numT 2 (.int d) with | some a, some b => some (((a : Nat) : Int), ((b : Nat) : Int)) | _, _ => none) = some (c, d)
  obtain ⟨k, rfl⟩ : ∃ k : Nat, c = (k : Int) := ⟨c.toNat, by omega⟩
  rw [Zq, if_pos (by omega)]
  rcases w' with z | z <;> subst z <;> rfl
 rw [List.map_id] at e
 show (allT (Jy n) (hs.map Vh)).bind _ = _
 rw [e]
 exact if_pos h.nd
theorem Qsa {k : Nat} {hs : List (Int × Int)} (h : HoldsOk cs.length hs) : rowT rs cs best told (lnD (.shut k hs)) = if k < told.length ∧ Qak (rowK told k) hs < (rowK told k).2 then some (Vo cs.length hs) else none := by
 refine (Jn rfl).trans ?_
 show (numT told.length (.int (k : Int))).bind (fun k => (Zr cs.length (.lst (hs.map Vh))).bind _) = _
 rw [Zq, Qof h]
 by_cases c : k < told.length
 ·rw [if_pos c]
  show (if Qak (rowK told k) hs < (rowK told k).2 then _ else none) = _
  by_cases d : Qak (rowK told k) hs < (rowK told k).2
  ·rw [if_pos d, if_pos ⟨c, d⟩]
  ·rw [if_neg d, if_neg fun z => d z.2]
 ·rw [if_neg c, if_neg fun z => c z.1]
  rfl
theorem Qji (i j c : Nat) : rowT rs cs best told (lnD (.either i j c)) = if i < told.length ∧ j < told.length ∧ c < cs.length ∧ Xi (rowK told i).1 c = Xi (rowK told j).1 c then some (Kq (rowK told i) (rowK told j) c) else none := by
 refine (Jn rfl).trans ?_
 show (numT told.length (.int (i : Int))).bind (fun i => (numT told.length (.int (j : Int))).bind fun j => (numT cs.length (.int (c : Int))).bind _) = _
 rw [Zq, Zq, Zq]
 by_cases h1 : i < told.length
 ·by_cases h2 : j < told.length
  ·by_cases h3 : c < cs.length
   ·rw [if_pos h1, if_pos h2, if_pos h3]
    show (if Xi (rowK told i).1 c = Xi (rowK told j).1 c then _ else none) = _
    by_cases d : Xi (rowK told i).1 c = Xi (rowK told j).1 c
    ·rw [if_pos d, if_pos ⟨h1, h2, h3, d⟩]
    ·rw [if_neg d, if_neg fun z => d z.2.2.2]
   ·refine Eq.trans ?_ (if_neg fun z => h3 z.2.2.1).symm
    rw [if_pos h1, if_pos h2, if_neg h3]; rfl
  ·refine Eq.trans ?_ (if_neg fun z => h2 z.2.1).symm
   rw [if_pos h1, if_neg h2]; rfl
 ·refine Eq.trans ?_ (if_neg fun z => h1 z.1).symm
  rw [if_neg h1]; rfl
open Classical in
theorem t_like {t : List Nat} (h : IsTurn cs.length t) : rowT rs cs best told (lnD (.like t)) = if Qfv rs cs t cs.length then some (Ww t) else none := by
 refine (Jn rfl).trans ?_
 have e : Ws cs.length (.lst ((tI t).map .int)) = some t := by
  have e1 : allT (numT cs.length) ((tI t).map .int) = some (t.map id) := by
   unfold tI
   rw [List.map_map]
   exact Qat t fun k hk => by
    show numT cs.length (.int (k : Int)) = _
    rw [Zq, if_pos ((IsTurn.mem h).mp hk)]
    rfl
  rw [List.map_id] at e1
  show (allT (numT cs.length) _).bind _ = _
  rw [e1]
  exact if_pos ⟨h.nodup, h.length⟩
 show (Ws cs.length (.lst ((tI t).map .int))).bind _ = _
 rw [e]
 rfl
end
def Qgi (K : Fg) : Sp := fun vs H Q _ => ∃ (z : Int) (n : Nat) (S : List Addr), vs = [.int z, .int (n : Int)] ∧ n ≤ 5 ∧ Live H S ∧ ∀ (p : Addr) (hs : List (Int × Int)) (H' : Hp), Same H H' → HasT K (OffS H' S) (.ref p) (.lst (hs.map Vh)) → HoldsOk n hs → hs.length ≤ 5 → Q (.ref p) H'
def Qjj (K : Fg) : Sp := fun vs H Q _ => ∃ (z : Int) (n : Nat) (S : List Addr), vs = [.int z, .int (n : Int)] ∧ n ≤ 5 ∧ Live H S ∧ ∀ (p : Addr) (t : List Nat) (H' : Hp), Same H H' → HasT K (OffS H' S) (.ref p) (.lst ((tI t).map .int)) → IsTurn n t → Q (.ref p) H'
def Qjk (K : Fg) : Sp := fun vs H Q _ => ∃ (l : Addr) (ds : List Int) (at_ cnt : Int) (n m : Nat) (S : List Addr), vs = [.ref l, .int at_, .int cnt, .int (n : Int), .int (m : Int)] ∧ Live H S ∧ Dr K H l ds ∧ 0 ≤ at_ ∧ at_ + 5 < (ds.length : Int) ∧ 0 ≤ cnt ∧ cnt ≤ 1000 ∧ n ≤ 5 ∧ m ≤ 10 ∧
 ∀ (a : Addr) (ln : Ln) (H' : Hp), Same H H' → HasT K (OffS H' S) (.ref a) (lnD ln) → LnOk n ln → Q (.ref a) H'
def Qgj (K : Fg) : Sp := fun vs H Q _ => ∃ (n c : Nat) (x : Int), vs = [.int (n : Int), .int (c : Int), .int x] ∧ c < n ∧ n ≤ 50 ∧ ∀ (p : Addr) (H' : Hp), Same H H' → SqT K H' p (((List.replicate n (0 : Int)).set c x).map V.int) → Q (.ref p) H'
theorem dmN {z M : Int} (h0 : 0 ≤ z) (h1 : z < 2147483648) (hM : 0 < M) : ∃ k : Nat, z % M = (k : Int) ∧ k < 2147483648 := by
 have a := jXd z (show M ≠ 0 by omega)
 have b : z % M < 2147483648 := by
  by_cases c : z < M
  ·rw [Int.emod_eq_of_lt h0 c]; exact h1
  ·have := jQe z hM
   omega
 exact ⟨(z % M).toNat, by omega, by omega⟩
section
variable {P : Program} {w : World} {K : Fg} {mg : Str → Option Value} {base : Heap} {aT aL : Addr} {fT fL : Str → Option Value}
theorem scHolds10 : FnScope ["_law_number", "_law_many", "_law_found", "_law_k"] ["_law_number", "_law_many"] (Qf Qar) := ⟨rfl, rfl, rfl, by decide +kernel, rfl, by decide +kernel, by decide +kernel⟩
theorem Qog (F : Fn K mg "_law_holds" Qar) (M : Mg mg) : Cal P w K mg base 1 "_law_holds" ["_law_number", "_law_many"] (Qgi K) := by
 refine Xd F scHolds10 (fun _ _ _ _ _ _ => Jb (fun _ _ => rfl)) (fun vs H Q E h => ?_) (fun f cdv A outer s H vs Q E hr h => ?_)
 ·obtain ⟨z, n, S, rfl, _⟩ := h
  rfl
 obtain ⟨z, n, S, rfl, hn, hL, q⟩ := h
 refine ⟨_, (Qg (Qx (i := 2) scHolds10.nd rfl (Or.inl rfl) (Jg Qe))
  (Qg (Yq PassesOwn.never rfl (Xz rfl M.range_ (Qa (pv 1) Qe)) (Xe (i := 3) scHolds10.nd rfl (Or.inl rfl) (Or.inl rfl)) (Qg (Yi (Qq Qah (Qr Xn (pv 0) Qd) Qd (Qs _)) (Qn (Kk (Qck PySem.F.plainAttrs_list PySem.F.slot_list_append PySem.F.type_list_append Zm (pv 2) (Qa (Yy (Qa (pv 3) (Qa (Qr Xn (pv 0) Qd) Qe))) Qe)))) Xg)
  (Qn (Qx (i := 0) scHolds10.nd rfl (Or.inl rfl) (Qr Kl (pv 0) Qd)))))
  (Qn (Qv (pv 2))))), ?_⟩
 refine Yj ?_
 intro rT3 rT2
 have hz : (1000 : Nat) < sizeLine := by decide
 refine ⟨by show 0 ≤ sizeLine; decide, fun p hp => ?_⟩
 have np : p ∉ S := hL.fresh hp
 let Pv1 : Nat → St → Hp → Prop := fun i σ H1 => ∃ (z : Int) (us : List V) (hs : List (Int × Int)) (v : Option V), σ = [some (.int z), some (.int (n : Int)), some (.ref p), v] ∧ PairsAre K (OffS H1 S) us (hs.map fun p => (p.1, V.int p.2)) ∧ HoldsOk i hs ∧ hs.length ≤ i ∧ H1 p = some (.lst us) ∧ Same H H1
 refine ⟨_, rfl, (n : Int), rfl, by omega, by omega, Yd (lo := 0) (n := ((n : Nat) : Int).toNat) Pv1 ⟨z, [], [], none, rfl, .nil, ⟨List.nodup_nil, (fun h hh => nomatch hh), fun h hh => nomatch hh⟩, jZ _, Qc, Qb hp _⟩ ?_ ?_⟩
 ·rintro i σ H1 hi ⟨z, us, hs, v, rfl, hT, hm, hl, hp1, s1⟩
  show tSeq _ _ _ _ _
  refine Qhl (fun σ' H' => ∃ (us : List V) (hs : List (Int × Int)), σ' = [some (.int z), some (.int (n : Int)), some (.ref p), some (.int (0 + (i : Int)))] ∧ PairsAre K (OffS H' S) us (hs.map fun p => (p.1, V.int p.2)) ∧ HoldsOk (i + 1) hs ∧ hs.length ≤ i + 1 ∧ H' p = some (.lst us) ∧ Same H H') ?_ fun REST => ?_
  ·rintro σ' H' ⟨us, hs, rfl, hT, hm, hl, hp1, s1⟩
   exact ⟨_, rfl, _, _, rfl, rfl, ⟨by decide, by decide⟩, _, us, hs, _, rfl, hT, hm, hl, hp1, s1⟩
  ·refine ⟨_, rfl, _, _, rfl, rfl, (by show (0 : Int) < _; decide +kernel), _, _, rfl, rfl, _, rfl, ite2 (fun c => ?_) (fun c => REST _ _ ⟨us, hs, rfl, hT, ⟨hm.nd, fun h hh => ⟨(hm.lt h hh).1, by have := (hm.lt h hh).2; omega⟩, hm.w⟩, by omega, hp1, s1⟩)⟩
   have c2 : z % 3 < 2 := yX c
   refine ⟨_, rfl, .inl ⟨rfl, _, Qj hp1⟩, _, rfl, _, rfl, _, _, rfl, rfl, (by show (0 : Int) < _; decide +kernel), by show 2 ≤ sizeLine; decide, fun T hT' => ?_⟩
   have nT : T ∉ S := (hL.same s1).fresh hT'
   have s2 := Qb hT' (.tup [.int (0 + (i : Int)), .int (z % 3)])
   have lu := hT.length
   rw [jQ] at lu
   have hp2 := s2 _ _ hp1
   refine ⟨p, _, _, rfl, rfl, hp2, by omega, REST _ _ ⟨us ++ [.ref T], hs ++ [(0 + (i : Int), z % 3)], rfl, ?_, ⟨?_, fun h hh => ?_, fun h hh => ?_⟩, by rw [kZ]; simp only [yV, jQb]; omega, Qc, fun b o e => ?_⟩⟩
   ·rw [Qho np, kX]
    refine PairsAre.upd (ys := us) (by rw [Zp np]; exact hp2) (Qnq (PairsAre.same (Ye s2) hT) (Qnr (Xa (by rw [Zp nT]; exact Qc))))
   ·rw [kX]
    refine List.nodup_append.mpr ⟨hm.nd, jJc.mpr ⟨List.not_mem_nil, List.nodup_nil⟩, fun a ha b hb e => ?_⟩
    obtain ⟨h, hh, rfl⟩ := jQd.mp ha
    have e2 : b = 0 + (i : Int) := zK.mp hb
    have := (hm.lt h hh).2
    omega
   ·rcases wJ.mp hh with y | y
    ·have := hm.lt h y
     exact ⟨this.1, by omega⟩
    ·rw [zK.mp y]
     exact ⟨by show 0 ≤ 0 + (i : Int); omega, by show 0 + (i : Int) < ((i + 1 : Nat) : Int); omega⟩
   ·rcases wJ.mp hh with y | y
    ·exact hm.w h y
    ·rw [zK.mp y]
     show z % 3 = 0 ∨ z % 3 = 1
     omega
   ·rw [Qo (Qh e hp)]; exact s2 _ _ (s1 _ _ e)
 ·rintro σ H1 ⟨z, us, hs, v, rfl, hT, hm, hl, hp1, s1⟩
  rw [show ((n : Nat) : Int).toNat = n by omega] at hm hl
  exact ⟨_, rfl, q p hs H1 s1 (holdsD (Qj (by rw [Zp np]; exact hp1)) hT) hm (by omega)⟩
theorem scTurn10 : FnScope ["_law_number", "_law_many", "_law_found", "_law_k"] ["_law_number", "_law_many"] (Qf Qeb) := ⟨rfl, rfl, rfl, by decide +kernel, rfl, by decide +kernel, by decide +kernel⟩
theorem Qqu (F : Fn K mg "_law_turn" Qeb) (M : Mg mg) : Cal P w K mg base 1 "_law_turn" ["_law_number", "_law_many"] (Qjj K) := by
 refine Xd F scTurn10 (fun _ _ _ _ _ _ => Jb (fun _ _ => rfl)) (fun vs H Q E h => ?_) (fun f cdv A outer s H vs Q E hr h => ?_)
 ·obtain ⟨z, n, S, rfl, _⟩ := h
  rfl
 obtain ⟨z, n, S, rfl, hn, hL, q⟩ := h
 refine ⟨_, (Qg (Qx (i := 2) scTurn10.nd rfl (Or.inl rfl) (Jg Qe))
  (Qg (Yq PassesOwn.never rfl (Xz rfl M.range_ (Qa (pv 1) Qe)) (Xe (i := 3) scTurn10.nd rfl (Or.inl rfl) (Or.inl rfl)) (Qg (Kk (Qck PySem.F.plainAttrs_list PySem.F.slot_list_insert PySem.F.type_list_insert Qmq (pv 2) (Qa (Qr Xn (pv 0) (Qr Xr (pv 3) Qd)) (Qa (pv 3) Qe))))
  (Qn (Qx (i := 0) scTurn10.nd rfl (Or.inl rfl) (Qr Wb (pv 0) (Qr Xr (pv 3) Qd))))))
  (Qn (Qv (pv 2))))), ?_⟩
 refine Yj ?_
 intro rT3 rT2
 have hz : (1000 : Nat) < sizeLine := by decide
 refine ⟨by show 0 ≤ sizeLine; decide, fun p hp => ?_⟩
 let Pv1 : Nat → St → Hp → Prop := fun i σ H1 => ∃ (z : Int) (t : List Nat) (v : Option V), σ = [some (.int z), some (.int (n : Int)), some (.ref p), v] ∧ IsTurn i t ∧ H1 p = some (.lst ((tI t).map V.int)) ∧ Same H H1
 refine ⟨_, rfl, (n : Int), rfl, by omega, by omega, Yd (lo := 0) (n := ((n : Nat) : Int).toNat) Pv1 ⟨z, [], none, rfl, ⟨.refl _⟩, Qc, Qb hp _⟩ ?_ ?_⟩
 ·rintro i σ H1 hi ⟨z, t, v, rfl, T, hp1, s1⟩
  have lt := T.length
  have pz : (0 : Int) < 0 + (i : Int) + 1 := by omega
  have n0 := jXd z (Int.ne_of_gt pz)
  have n1 := jQe z pz
  have big : Big (0 + (i : Int) + 1) := xZ (show (0 + (i : Int) + 1).natAbs ≤ 100 by omega) (by decide +kernel)
  refine ⟨_, rfl, .inl ⟨rfl, _, Qj hp1⟩, _, rfl, _, rfl, _, _, rfl, rfl, _, _, rfl, rfl, pz, _, rfl, p, _, _, _, rfl, rfl, hp1, n0, by rw [jQ, Js]; omega, by rw [jQ, Js]; omega, ?_⟩
  refine ⟨_, rfl, _, rfl, _, _, rfl, rfl, _, _, rfl, rfl, ⟨by omega, big⟩, _, t.take (z % (0 + (i : Int) + 1)).toNat ++ i :: t.drop (z % (0 + (i : Int) + 1)).toNat, _, rfl, Qpl T _, ?_, fun b o e => ?_⟩
  ·rw [Qc]
   unfold insV tI
   rw [kX, xX, kX, xX, List.map_take, List.map_take, List.map_drop, List.map_drop]
   simp
  ·rw [Qo (Qh e hp)]; exact s1 _ _ e
 ·rintro σ H1 ⟨z, t, v, rfl, T, hp1, s1⟩
  rw [show ((n : Nat) : Int).toNat = n by omega] at T
  exact ⟨_, rfl, q p t H1 s1 (lstT (Qj (by rw [Zp (hL.fresh hp)]; exact hp1)) (HasTs.ints (tI t))) T⟩
theorem scAlone10 : FnScope ["_law_many", "_law_choice", "_law_number", "_law_numbers"] ["_law_many", "_law_choice", "_law_number"] (Qf Qas) := ⟨rfl, rfl, rfl, by decide +kernel, rfl, by decide +kernel, by decide +kernel⟩
theorem Qoh (F : Fn K mg "_law_alone" Qas) (M : Mg mg) : Cal P w K mg base 1 "_law_alone" ["_law_many", "_law_choice", "_law_number"] (Qgj K) := by
 refine Xd F scAlone10 (fun _ _ _ _ _ _ => Qfp (fun _ _ _ => rfl)) (fun vs H Q E h => ?_) (fun f cdv A outer s H vs Q E hr h => ?_)
 ·obtain ⟨n, c, x, rfl, _⟩ := h
  rfl
 obtain ⟨n, c, x, rfl, hc, hn, q⟩ := h
 refine ⟨_, (Qg (Qx (i := 3) scAlone10.nd rfl (Or.inl rfl) (Qr Vd (Jg (Qa Qd Qe)) (pv 0)))
  (Qg (Vc (pv 2) (Jp (pv 3) (pv 1) set_list))
  (Qn (Qv (Qz Qy rfl M.tuple_ Xo (Qa (pv 3) Qe)))))), ?_⟩
 refine Yj ?_
 intro rT3 rT2
 have hz : (1000 : Nat) < sizeLine := by decide
 refine ⟨by show 1 ≤ sizeLine; decide, fun p0 hp0 => ?_⟩
 refine ⟨_, rfl, p0, (n : Int), _, rfl, rfl, Qc, by omega, by omega, by show 1 * ((n : Int)).toNat ≤ sizeLine; omega, fun g0 hg0 => ?_⟩
 have e0 : (List.replicate ((n : Int)).toNat [V.int 0]).flatten = (List.replicate n (0 : Int)).map V.int := rep0 n
 rw [e0]
 have s0 : Same H (upd (upd H p0 (.lst [.int 0])) g0 (.lst ((List.replicate n (0 : Int)).map V.int))) := (Qb hp0 _).trans (Qb hg0 _)
 have gH : H g0 = none := by
  cases e5 : H g0 with
  | none => rfl
  | some o => rw [Qb hp0 (.lst [.int 0]) _ _ e5] at hg0; cases hg0
 have hg : upd (upd H p0 (.lst [.int 0])) g0 (.lst ((List.replicate n (0 : Int)).map V.int)) g0 = some (.lst ((List.replicate n (0 : Int)).map V.int)) := Qc
 generalize upd (upd H p0 (.lst [.int 0])) g0 (.lst ((List.replicate n (0 : Int)).map V.int)) = H0 at s0 hg ⊢
 refine ⟨_, rfl, _, rfl, _, rfl, g0, _, _, c, rfl, rfl, hg, Vl (by rw [jQ, xQ]; exact hc), ?_⟩
 rw [Je]
 have s1 : Same H (upd H0 g0 (.lst (((List.replicate n (0 : Int)).set c x).map V.int))) := fun b o e => by rw [Qo (Qh e gH)]; exact s0 _ _ e
 refine ⟨_, rfl, g0, _, rfl, .inl ⟨Qj Qc, fun l2 hl2 => ?_⟩⟩
 exact q l2 _ (s1.trans (Qb hl2 _)) (Xa Qc)
end
abbrev Qce : Stmt := top 54
abbrev Qoi : Stmt := top 55
theorem Qhp {n : Nat} {hs : List (Int × Int)} (h : HoldsOk n hs) : allT (Jy n) (hs.map Vh) = some hs := (holds_of (Qof h)).1
def Qjl (K : Fg) : Sp := fun vs H Q _ => ∃ (t l : Addr) (r : List Int × Int) (hs : List (Int × Int)), vs = [.ref t, .ref l] ∧ RowAt K H t r ∧ HoldsAt K H l hs ∧ hs.length ≤ 1000 ∧ (∀ p ∈ hs, p.2 = 0 ∨ p.2 = 1) ∧ r.1.length ≤ 1000 ∧ ∀ H', Same H H' → Q (.int (Vg (dOf hs) r.1 r.1.length)) H'
def Qsb (K : Fg) : Sp := fun vs H Q _ => ∃ (p u : Addr) (rs : List Rw) (cs : List Int) (n : Nat) (t : List Nat), vs = [.ref p, .ref u] ∧ ProbAt K H p rs cs ∧ SqL K H u ((tI t).map V.int) ∧ IsTurn n t ∧ n ≤ 50 ∧ (∀ r ∈ rs, r.1.length = n) ∧ cs.length = n ∧ rs.length < 60 ∧ ∀ (b : Bool) (H' : Hp), Same H H' → (b = true ↔ Qfv rs cs t n) → Q (.bl b) H'
def Qgk (K : Fg) : Sp := fun vs H Q _ => ∃ (l pl : Addr) (ws us : List V) (told : List Rw) (ps : List (Nat × Nat)) (n : Nat), vs = [.ref l, .ref pl] ∧ SqL K H l ws ∧ RowsAre K H ws told ∧ (∀ r ∈ told, r.1.length = n) ∧ n ≤ 50 ∧ SqL K H pl us ∧ PairsAre K H us (ps.map fun p => ((p.1 : Int), V.int (p.2 : Int))) ∧ ps ≠ [] ∧ (∀ p ∈ ps, p.1 < told.length ∧ p.2 < 2147483648) ∧
 ∀ (t : Addr) (H' : Hp), Same H H' → RowAt K H' t (Zf n (partsOf told (psI ps))) → Q (.ref t) H'
def nmB (m : Nat) : Ln → Bool
 | .sum ps => ps.all fun p => decide (p.1 < m)
 | .either i j _ => decide (i < m) && decide (j < m)
 | .share k _ => decide (k < m)
 | .shut k _ => decide (k < m)
 | _ => true
def Qgl (K : Fg) : Sp := fun vs H Q _ => ∃ (l a : Addr) (ws : List V) (n : Nat) (ln : Ln), vs = [.ref l, .ref a] ∧ SqL K H l ws ∧ HasT K H (.ref a) (lnD ln) ∧ LnOk n ln ∧ n ≤ 5 ∧ ∀ H', Same H H' → Q (.bl (nmB ws.length ln)) H'
theorem Qjm {K : Fg} {H : Hp} {us : List V} {ps : List (Nat × Nat)} (hl : us.length = (ps.map Jk).length) (h : ∀ (i : Nat) v x, us[i]? = some v → (ps.map Jk)[i]? = some x → HasT K H v x) : PairsAre K H us (ps.map fun p => ((p.1 : Int), V.int (p.2 : Int))) := by
 induction ps generalizing us with
 | nil =>
  have : us = [] := zZ hl
  subst this
  exact .nil
 | cons p r ih =>
  cases us with
  | nil => simp at hl
  | cons u us =>
   obtain ⟨T, x, y, rfl, h1, h2, h3⟩ := (h 0 u _ rfl rfl).pair_inv
   cases h2
   cases h3
   exact .cons ⟨T, rfl, h1⟩ (ih (by simpa using hl) fun i v x e1 e2 => h (i + 1) v x (by simpa using e1) (by simpa using e2))
section
variable {P : Program} {w : World} {K : Fg} {mg : Str → Option Value} {base : Heap} {aT aL : Addr} {fT fL : Str → Option Value}
theorem scMost10 : FnScope ["_law_row_here", "_law_holds_here", "_law_total", "_law_held", "_law_choice"] ["_law_row_here", "_law_holds_here"] (Qf Qce) := ⟨rfl, rfl, rfl, by decide +kernel, rfl, by decide +kernel, by decide +kernel⟩
theorem Qqv (F : Fn K mg "_law_most" Qce) (M : Mg mg) : Cal P w K mg base 1 "_law_most" ["_law_row_here", "_law_holds_here"] (Qjl K) := by
 refine Xd F scMost10 (fun _ _ _ _ _ _ => Jb (fun _ _ => rfl)) (fun vs H Q E h => ?_) (fun f cdv A outer s H vs Q E hr h => ?_)
 ·obtain ⟨t, l, r, hs, rfl, _⟩ := h
  rfl
 obtain ⟨t, l, r, hs, rfl, ⟨p, hr1, hr2⟩, ⟨vs, hl, hp⟩, hn, hw, hrn, q⟩ := h
 have hu : (A.deeper (PyProof.Rows.envOfC "_law_most" (Qf Qce) s.heap.objs.size f cdv)).units + 1 < cLine := xZ (wW (by decide) _) hr.un
 refine ⟨_, (Qg (Qx (i := 2) scMost10.nd rfl (Or.inl rfl) Qd)
  (Qg (Qx (i := 3) scMost10.nd rfl (Or.inl rfl) (Qz (Qae rfl) rfl M.dict_ Qmp (Qa (pv 1) Qe)))
  (Qg (Yq PassesOwn.never rfl (Xz rfl M.range_ (Qa (Qk Qi rfl M.len Xf (Qa (Qm Ql (pv 0) Qd (fun _ _ => rfl)) Qe)) Qe)) (Xe (i := 4) scMost10.nd rfl (Or.inl rfl) (Or.inl rfl)) (Qn (Yi (Qrj (pc_din hu (pv 4) (pv 3))) (Qn (Qx (i := 2) scMost10.nd rfl (Or.inl rfl) (Qr Xr (pv 2) (Qr Kd (Qm Ql (Qm Ql (pv 0) Qd (fun _ _ => rfl)) (pv 4) (fun _ _ => rfl)) (Qsu hu (pv 3) (pv 4) (fun _ _ => rfl)))))) (Qn (Qx (i := 2) scMost10.nd rfl (Or.inl rfl) (Qr Xr (pv 2) (Qk (Zx rfl) rfl M.max Qad (Qa Qd (Qa (Qm Ql (Qm Ql (pv 0) Qd (fun _ _ => rfl)) (pv 4) (fun _ _ => rfl)) Qe)))))))))
  (Qn (Qv (pv 2)))))), ?_⟩
 refine Zj ?_
 intro rT4 rT3 rT2
 have hz : (1000 : Nat) < sizeLine := by decide
 refine ⟨_, rfl, l, vs, _, rfl, hl, hp, by rw [jQ]; omega, fun d hd => ?_⟩
 have s1 : Same H (upd H d (.dK (dOf hs))) := Qb hd _
 refine ⟨_, rfl, t, _, _, _, rfl, rfl, s1.tup hr1, at0, p, _, rfl, .inr (s1.tup hr2), ?_⟩
 rw [show (r.1.map V.int).length = r.1.length from jQ ..]
 let Pv1 : Nat → St → Hp → Prop := fun i σ H1 => ∃ v : Option V, σ = [some (.ref t), some (.ref l), some (.int (Vg (dOf hs) r.1 i)), some (.ref d), v] ∧ H1 d = some (.dK (dOf hs)) ∧ Same H H1
 refine ⟨_, rfl, by omega, by omega, Yd (lo := 0) (n := ((r.1.length : Nat) : Int).toNat) Pv1 ⟨none, rfl, Qc, s1⟩ ?_ ?_⟩
 ·rintro i σ H1 hi ⟨v, rfl, hd1, s2⟩
  have hi' : i < r.1.length := by omega
  obtain ⟨x, ex⟩ : ∃ x, r.1[i]? = some x := ⟨_, gE hi'⟩
  have em := Qbx (dOf hs) ex
  have e0 : (0 : Int) + (i : Int) = ((i : Nat) : Int) := by omega
  have ax : atI (r.1.map V.int) (0 + (i : Int)) = some (.int x) := Qge (by rw [jY, ex]; rfl)
  have dg := DGet.k (k := Sum.inl (0 + (i : Int))) hd1
  rw [← e0] at em
  refine ⟨_, rfl, _, rfl, d, _, rfl, dg, ?_⟩
  have seqs : SqT K H1 t [.ref p, .int r.2] ∧ SqT K H1 p (r.1.map V.int) := ⟨s2.tup hr1, s2.tup hr2⟩
  have rest : ∀ w : Int, valV (dOf hs) (Sum.inl (0 + (i : Int))) = some (.int w) → Vg (dOf hs) r.1 (i + 1) = Vg (dOf hs) r.1 i + x * w := fun w e => by rw [em, e]; show _ + w * x = _; rw [Int.mul_comm]
  rcases Qfr hw (Sum.inl (0 + (i : Int))) with e | e | e
  ·rw [e] at em dg ⊢
   refine ⟨_, rfl, iteF ⟨_, rfl, _, rfl, t, _, _, _, rfl, rfl, seqs.1, at0, _, rfl, p, _, _, _, rfl, rfl, seqs.2, ax, _, _, rfl, _, _, rfl, rfl, some (.int (0 + (i : Int))), ?_, hd1, s2⟩⟩
   rw [em]
   rfl
  ·have em' := rest 0 e
   rw [e] at dg ⊢
   refine ⟨_, rfl, iteT ⟨_, rfl, _, rfl, t, _, _, _, rfl, rfl, seqs.1, at0, _, rfl, p, _, _, _, rfl, rfl, seqs.2, ax, _, rfl, _, rfl, d, _, rfl, dg, _, _, rfl, rfl, .inr ⟨by decide, by decide⟩, _, _, rfl, rfl, some (.int (0 + (i : Int))), ?_, hd1, s2⟩⟩
   rw [em']
   rfl
  ·have em' := rest 1 e
   rw [e] at dg ⊢
   refine ⟨_, rfl, iteT ⟨_, rfl, _, rfl, t, _, _, _, rfl, rfl, seqs.1, at0, _, rfl, p, _, _, _, rfl, rfl, seqs.2, ax, _, rfl, _, rfl, d, _, rfl, dg, _, _, rfl, rfl, .inr ⟨by decide, by decide⟩, _, _, rfl, rfl, some (.int (0 + (i : Int))), ?_, hd1, s2⟩⟩
   rw [em']
   rfl
 ·rintro σ H1 ⟨v, rfl, hd1, s2⟩
  rw [show ((r.1.length : Nat) : Int).toNat = r.1.length by omega]
  exact ⟨_, rfl, q H1 s2⟩
theorem scKT10 : FnScope ["_law_problem_here", "_law_turn_here", "_law_choice"] ["_law_problem_here", "_law_turn_here"] (Qf Qoi) := ⟨rfl, rfl, rfl, by decide +kernel, rfl, by decide +kernel, by decide +kernel⟩
theorem okKT10 (F : Fn K mg "_law_keeps_turn" Qoi) (M : Mg mg) (cl_turned : Cal P w K mg base 1 "_law_turned" ["_law_row_here", "_law_turn_here"] (Wy K)) : Cal P w K mg base 2 "_law_keeps_turn" ["_law_problem_here", "_law_turn_here"] (Qsb K) := by
 refine Xd F scKT10 (fun _ _ _ _ _ _ => Jb (fun _ _ => rfl)) (fun vs H Q E h => ?_) (fun f cdv A outer s H vs Q E hr h => ?_)
 ·obtain ⟨p, u, rs, cs, n, t, rfl, _⟩ := h
  rfl
 obtain ⟨p, u, rs, cs, n, t, rfl, pr, hu1, T, hn, hrl, hcl, h60, q⟩ := h
 have hu6 : (A.deeper (PyProof.Rows.envOfC "_law_keeps_turn" (Qf Qoi) s.heap.objs.size f cdv)).units + 6 < cLine := xZ (wW (by decide) _) hr.un
 refine ⟨_, (Qg (Yq PassesOwn.never rfl (Xz rfl M.range_ (Qa (Qk Qi rfl M.len Xf (Qa (pv 1) Qe)) Qe)) (Xe (i := 2) scKT10.nd rfl (Or.inl rfl) (Or.inl rfl)) (Qn (Yi (Qq Qcy (Qm Ql (Qm Ql (pv 0) Qd (fun _ _ => rfl)) (pv 2) (fun _ _ => rfl)) (Qm Ql (Qm Ql (pv 0) Qd (fun _ _ => rfl)) (Qm Qw (pv 1) (pv 2) (fun _ _ => rfl)) (fun _ _ => rfl)) (Qs _)) (Qn (Qv Qgq)) Xg)))
  (Qn (Qv (Yg (Qie (n := 6) hu6) (Qk (Jh (K := K) rfl hu6) rfl M.sorted Km (Qa (Jr ["_law_row_here", "_law_turn_here"] [none, some 1] rfl (Yk (Qm Ql (pv 0) Qd (fun _ _ => rfl))) (fun _ _ _ => (Xe (i := 0) (show (["_law_row_here", "_law_turn_here"] : List Str).Nodup by decide +kernel) rfl (Or.inl rfl) (Or.inr rfl))) (fun _ _ _ => Yt) (fun _ _ _ => (Xj cl_turned (hr.mono (by decide)) (Qa (pv 0) (Qa (pv 1) Qe))))) Qe)) (Qk (Jh (K := K) rfl hu6) rfl M.sorted Km (Qa (Qm Ql (pv 0) Qd (fun _ _ => rfl)) Qe)) (Qs _))))), ?_⟩
 have hz : (1000 : Nat) < sizeLine := by decide
 obtain ⟨l, c, vs, ht, hl, hrw, hc⟩ := id pr
 have lt := T.length
 have lv := hrw.length
 refine ⟨_, rfl, u, _, rfl, .inl hu1, ?_⟩
 rw [show ((tI t).map V.int).length = n by rw [jQ, Js, lt]]
 let Pv1 : Nat → St → Hp → Prop := fun i σ H1 => (∃ v : Option V, σ = [some (.ref p), some (.ref u), v]) ∧ (∀ j, j < i → cs.getD j 0 = cs.getD (t.getD j 0) 0) ∧ Same H H1
 refine ⟨_, rfl, by omega, by omega, Yd (lo := 0) (n := ((n : Nat) : Int).toNat) Pv1 ⟨⟨none, rfl⟩, (fun j hj => absurd hj (Nat.not_lt_zero _)), Same.refl _⟩ ?_ ?_⟩
 ·rintro i σ H1 hi ⟨⟨v, rfl⟩, hco, s1⟩
  have hi' : i < n := by omega
  obtain ⟨g1, g2⟩ := getT T hi'
  have a1 : atI (cs.map V.int) (0 + (i : Int)) = some (.int (cs.getD i 0)) := by
   rw [show (0 : Int) + (i : Int) = ((i : Nat) : Int) by omega]
   exact atK6 (by omega)
  have a2 : atI ((tI t).map V.int) (0 + (i : Int)) = some (.int ((t.getD i 0 : Nat) : Int)) := Qge (by
   unfold tI
   rw [jY, jY, g1]
   rfl)
  refine ⟨_, rfl, p, _, _, _, rfl, rfl, s1.tup ht, at1, _, rfl, c, _, _, _, rfl, rfl, s1.tup hc, a1, _, rfl, p, _, _, _, rfl, rfl, s1.tup ht, at1, _, rfl, _, rfl, u, _, _, _, rfl, rfl, s1.seq hu1, a2, c, _, _, _, rfl, rfl, s1.tup hc, atK6 (by omega), rfl, _, rfl, ?_⟩
  rw [Kr]
  by_cases e : cs.getD i 0 = cs.getD (t.getD i 0) 0
  ·rw [jW e]
   refine iteF ⟨⟨_, rfl⟩, fun j hj => ?_, s1⟩
   by_cases z : j < i
   ·exact hco j z
   ·rw [show j = i by omega]; exact e
  ·rw [yQ e]
   exact iteT (q false H1 s1 ⟨fun z => (nomatch z), fun z => absurd (z.1 i hi') e⟩)
 ·rintro σ H1 ⟨⟨v, rfl⟩, hco, s1⟩
  rw [show ((n : Nat) : Int).toNat = n by omega] at hco
  have ok : Qiz cs t n := hco
  refine ⟨_, rfl, p, _, _, _, rfl, rfl, s1.tup ht, at0, l, rfl, ⟨_, s1.seq hl⟩, fun D2 hD2 => ?_⟩
  let Pv2 : Nat → St → List V → Hp → Prop := fun i τ ys H2 => ∃ v : Option V, τ = [v, some (.ref u)] ∧ RowsAre K H2 ys ((rs.take i).map (ledR t n)) ∧ H2 D2 = some (.lst ys) ∧ Same H1 H2
  refine Ym (n := rs.length) Pv2 ?_ (fun i τ ys H2 hi h => ?_) (fun i τ ys H2 hi h => ?_) (fun τ ys H2 h => ?_) ?_ ?_
  ·exact ⟨none, rfl, .nil, Qc, Qb hD2 _⟩
  ·obtain ⟨v, rfl, hra, hD3, s2⟩ := h
   have := hra.length
   rw [jQ, kW] at this
   exact ⟨hD3, by omega⟩
  ·obtain ⟨v, rfl, hra, hD3, s2⟩ := h
   exact ⟨vs, vs[i]'(by omega), (s1.trans s2).seq hl, gE (by omega)⟩
  ·obtain ⟨v, rfl, hra, hD3, s2⟩ := h
   exact ⟨vs, (s1.trans s2).seq hl, by omega⟩
  ·rintro i τ ys H2 x H3 hi ⟨v, rfl, hra, hD3, s2⟩ ⟨rfl, e1⟩
   obtain ⟨t', r, rfl, er, hrt⟩ := hrw.get (e1 _ ((s1.trans s2).seq hl))
   refine ⟨_, rfl, _, rfl, t', u, r, n, t, rfl, hrt.same (s1.trans s2), (s1.trans s2).seq hu1, lt, (fun k hk => T.mem.mp hk), hrl r (kK er), by omega, fun r' H4 s4 rr => ?_⟩
   have hD4 := s4 _ _ hD3
   refine ⟨hD4, _, rfl, ?_, Qc, fun b o e => ?_⟩
   ·rw [Zz er, kX]
    exact Qfx (Qfy hD4 (Yz s4 hra)) (rr.upd hD4)
   ·rw [Qo (Qh e hD2)]; exact s4 _ _ (s2 _ _ e)
  rintro τ ys H2 ⟨v, rfl, hra, hD3, s2⟩
  rw [wQ] at hra
  have ly := hra.length
  rw [jQ] at ly
  have s12 := s1.trans s2
  refine ⟨D2, ys, _, rfl, Qj hD3, hra, by omega, fun S ws qs hS hws lws pq sq => ?_⟩
  have s3 := Qb hS (.lst ws)
  refine ⟨_, rfl, p, _, _, _, rfl, rfl, (s12.trans s3).tup ht, at0, l, vs, rs, rfl, (s12.trans s3).seq hl, Yz (s12.trans s3) hrw, by omega, fun S2 ws2 qs2 hS2 hws2 lws2 pq2 sq2 => ?_⟩
  have s4 := Qb hS2 (.lst ws2)
  refine ⟨S, S2, _, _, rfl, rfl, RowsAre.hasD (Qj (s4 _ _ Qc)) (Yz (s3.trans s4) hws), RowsAre.hasD (Qj Qc) (Yz s4 hws2), Vz qs qs2, fun c hc => q c _ ((s12.trans s3).trans s4) ?_⟩
  rw [hc, Qfw]
  constructor
  ·rintro rfl
   exact ⟨ok, pq.symm.trans pq2⟩
  ·intro h
   exact Wx (pq.trans (h.2.trans pq2.symm)) sq sq2
end
abbrev Qau : Stmt := top 57
abbrev Qav : Stmt := top 58
theorem Qtm {pv nx : List Int} {n j : Nat} (h1 : pv.length = n) (h2 : nx.length = n) (hj : j < n) : (nx.take j ++ pv.drop j)[j]? = pv[j]? := by
 rw [jZf (by rw [kW]; omega), kW, show j - min j nx.length = 0 by omega, List.getElem?_drop, Nat.add_zero]
theorem Qtn {pv nx : List Int} {n j : Nat} {x : Int} (h1 : pv.length = n) (h2 : nx.length = n) (hj : j < n) (hx : nx[j]? = some x) : (nx.take j ++ pv.drop j).set j x = nx.take (j + 1) ++ pv.drop (j + 1) := by
 rw [List.set_append_right _ _ (by rw [kW]; omega), kW, show j - min j nx.length = 0 by omega, List.drop_eq_getElem_cons (show j < pv.length by omega), List.set_cons_zero, Zz hx, List.append_assoc]
 rfl
def wd : Ln → Str
 | .low _ => "low"
 | .high _ => "high"
 | .better => "better"
 | .sum _ => "sum"
 | .share _ _ => "share"
 | .shut _ _ => "shut"
 | .either _ _ _ => "either"
 | .like _ => "like"
 | .given _ => "given"
def lnA : Ln → List Dt
 | .low c => [.int (c : Int)]
 | .high c => [.int (c : Int)]
 | .better => []
 | .sum ps => [.lst (ps.map Jk)]
 | .share k b => [.int (k : Int), .int (b : Int)]
 | .shut k hs => [.int (k : Int), .lst (hs.map Vh)]
 | .either i j c => [.int (i : Int), .int (j : Int), .int (c : Int)]
 | .like t => [.lst ((tI t).map .int)]
 | .given k => [.int (k : Int)]
theorem Qsc (ln : Ln) : lnD ln = .tup (.str (wd ln) :: lnA ln) := by cases ln <;> rfl
theorem Qsd {ln : Ln} (h : wd ln = "sum") : ∃ ps, ln = .sum ps := by cases ln <;> first | exact ⟨_, rfl⟩ | (dsimp only [wd] at h; exact absurd h (by decide +kernel))
theorem Qjn {ln : Ln} (h : wd ln = "share") : ∃ k b, ln = .share k b := by cases ln <;> first | exact ⟨_, _, rfl⟩ | (dsimp only [wd] at h; exact absurd h (by decide +kernel))
theorem Qoj {ln : Ln} (h : wd ln = "shut") : ∃ k hs, ln = .shut k hs := by cases ln <;> first | exact ⟨_, _, rfl⟩ | (dsimp only [wd] at h; exact absurd h (by decide +kernel))
theorem Qgm {ln : Ln} (h : wd ln = "either") : ∃ i j c, ln = .either i j c := by cases ln <;> first | exact ⟨_, _, _, rfl⟩ | (dsimp only [wd] at h; exact absurd h (by decide +kernel))
theorem Qhq {K : Fg} {H : Hp} {a : Addr} {ln : Ln} (h : HasT K H (.ref a) (lnD ln)) : ∃ vr, SqT K H a (.str (wd ln) :: vr) ∧ HasTs K H vr (lnA ln) := by
 rw [Qsc] at h
 obtain ⟨a', vs, e, h1, h2, h3⟩ := h.tup_inv
 cases e
 cases vs with
 | nil => simp at h2
 | cons v vr =>
  have h0 := h3 0 v _ rfl rfl
  cases h0
  exact ⟨vr, h1, by simpa using h2, fun i v x e1 e2 => h3 (i + 1) v x (by simpa using e1) (by simpa using e2)⟩
theorem HasTs.one_inv {K : Fg} {H : Hp} {vr : List V} {d : Dt} (h : HasTs K H vr [d]) : ∃ v, vr = [v] ∧ HasT K H v d := by
 obtain ⟨v, rfl⟩ := len1 (show vr.length = 1 from h.1)
 exact ⟨v, rfl, h.2 0 v d rfl rfl⟩
theorem HasTs.two_inv {K : Fg} {H : Hp} {vr : List V} {d e : Dt} (h : HasTs K H vr [d, e]) : ∃ v w, vr = [v, w] ∧ HasT K H v d ∧ HasT K H w e := by
 obtain ⟨v, w, rfl⟩ := len2 (show vr.length = 2 from h.1)
 exact ⟨v, w, rfl, h.2 0 v d rfl rfl, h.2 1 w e rfl rfl⟩
theorem HasTs.three_inv {K : Fg} {H : Hp} {vr : List V} {d e f : Dt} (h : HasTs K H vr [d, e, f]) : ∃ v w x, vr = [v, w, x] ∧ HasT K H v d ∧ HasT K H w e ∧ HasT K H x f := by
 obtain ⟨v, w, x, rfl⟩ := len3 (show vr.length = 3 from h.1)
 exact ⟨v, w, x, rfl, h.2 0 v d rfl rfl, h.2 1 w e rfl rfl, h.2 2 x f rfl rfl⟩
theorem atZ {v : V} {vs : List V} : atI (v :: vs) 0 = some v := Xx (k := 0) rfl
theorem at1' {v w : V} {vs : List V} : atI (v :: w :: vs) 1 = some w := Xx (k := 1) rfl
theorem at2' {v w x : V} {vs : List V} : atI (v :: w :: x :: vs) 2 = some x := Xx (k := 2) rfl
theorem at3' {v w x y : V} {vs : List V} : atI (v :: w :: x :: y :: vs) 3 = some y := Xx (k := 3) rfl
theorem eqStr {x y : Str} (h : decide (V.str x = V.str y) = true) : x = y := V.str.inj (yX h)
theorem Qcf {x y : Str} (h : ¬ decide (V.str x = V.str y) = true) : x ≠ y := fun z => h (jW (congrArg V.str z))
section
variable {P : Program} {w : World} {K : Fg} {mg : Str → Option Value} {base : Heap} {aT aL : Addr} {fT fL : Str → Option Value}
theorem scAdded10 : FnScope ["_law_tells", "_law_parts", "_law_numbers", "_law_least", "_law_one", "_law_often", "_law_k"] ["_law_tells", "_law_parts"] (Qf Qau) := ⟨rfl, rfl, rfl, by decide +kernel, rfl, by decide +kernel, by decide +kernel⟩
theorem Qok (F : Fn K mg "_law_added" Qau) (M : Mg mg) : Cal P w K mg base 1 "_law_added" ["_law_tells", "_law_parts"] (Qgk K) := by
 refine Xd F scAdded10 (fun _ _ _ _ _ _ => Jb (fun _ _ => rfl)) (fun vs H Q E h => ?_) (fun f cdv A outer s H vs Q E hr h => ?_)
 ·obtain ⟨l, pl, ws, us, told, ps, n, rfl, _⟩ := h
  rfl
 obtain ⟨l, pl, ws, us, told, ps, n, rfl, hl, hra, hln, hn, hpl, hpa, hne, hok, q⟩ := h
 refine ⟨_, (Qg (Qx (i := 2) scAdded10.nd rfl (Or.inl rfl) (Qr Vd (Jg (Qa Qd Qe)) (Qk Qi rfl M.len Xf (Qa (Qm Ql (Qm Qw (pv 0) Qd (fun _ _ => rfl)) Qd (fun _ _ => rfl)) Qe))))
  (Qg (Qx (i := 3) scAdded10.nd rfl (Or.inl rfl) Qd)
  (Qg (Yq PassesOwn.never rfl (Yk (pv 1)) (Zi (K := K) (i := 4) (j := 5) rfl rfl scAdded10.nd rfl rfl rfl rfl) (Qg (Yq PassesOwn.never rfl (Xz rfl M.range_ (Qa (Qk Qi rfl M.len Xf (Qa (pv 2) Qe)) Qe)) (Xe (i := 6) scAdded10.nd rfl (Or.inl rfl) (Or.inl rfl)) (Qn (Vc (Qr Xr (Qm Qw (pv 2) (pv 6) (fun _ _ => rfl)) (Qr Kd (pv 5) (Qm Ql (Qm Ql (Qm Qw (pv 0) (pv 4) (fun _ _ => rfl)) Qd (fun _ _ => rfl)) (pv 6) (fun _ _ => rfl)))) (Jp (pv 2) (pv 6) set_list))))
  (Qn (Qx (i := 3) scAdded10.nd rfl (Or.inl rfl) (Qr Xr (pv 3) (Qr Kd (pv 5) (Qm Ql (Qm Qw (pv 0) (pv 4) (fun _ _ => rfl)) Qd (fun _ _ => rfl))))))))
  (Qn (Qv (Yy (Qa (Qz Qy rfl M.tuple_ Xo (Qa (pv 2) Qe)) (Qa (pv 3) Qe)))))))), ?_⟩
 refine Zj ?_
 intro rT4 rT3 rT2
 have hz : (1000 : Nat) < sizeLine := by decide
 have lw := hra.length
 obtain ⟨p1, hp1⟩ : ∃ p1, p1 ∈ ps := List.exists_mem_of_ne_nil ps hne
 have hpos := (hok p1 hp1).1
 obtain ⟨v0, ev0⟩ : ∃ v0, ws[0]? = some v0 := ⟨_, gE (by omega)⟩
 obtain ⟨t0, r0, rfl, er0, p0', rt1, rt2⟩ := hra.get ev0
 have hr0 := hln r0 (kK er0)
 refine ⟨by show 1 ≤ sizeLine; decide, fun p0 hp0 => ?_⟩
 have sA := Qb hp0 (.lst [.int 0])
 refine ⟨_, rfl, l, _, _, _, rfl, rfl, sA.seq hl, Xx (k := 0) ev0, t0, _, _, _, rfl, rfl, sA.tup rt1, at0, p0', _, rfl, .inr (sA.tup rt2), ?_⟩
 rw [show (r0.1.map V.int).length = n by rw [jQ]; exact hr0]
 refine ⟨p0, (n : Int), _, rfl, rfl, Qc, by omega, by omega, by show 1 * ((n : Int)).toNat ≤ sizeLine; omega, fun g0 hg0 => ?_⟩
 have e0 : (List.replicate ((n : Int)).toNat [V.int 0]).flatten = (List.replicate n (0 : Int)).map V.int := rep0 n
 rw [e0]
 have s0 : Same H (upd (upd H p0 (.lst [.int 0])) g0 (.lst ((List.replicate n (0 : Int)).map V.int))) := (Qb hp0 _).trans (Qb hg0 _)
 have gH : H g0 = none := by
  cases e5 : H g0 with
  | none => rfl
  | some o => rw [Qb hp0 (.lst [.int 0]) _ _ e5] at hg0; cases hg0
 have hg : upd (upd H p0 (.lst [.int 0])) g0 (.lst ((List.replicate n (0 : Int)).map V.int)) g0 = some (.lst ((List.replicate n (0 : Int)).map V.int)) := Qc
 generalize upd (upd H p0 (.lst [.int 0])) g0 (.lst ((List.replicate n (0 : Int)).map V.int)) = H0 at s0 hg ⊢
 have lps : (partsOf told (psI ps)).length = ps.length := by unfold partsOf psI; rw [jQ, jQ]
 have gps : ∀ (i : Nat) p, ps[i]? = some p → (partsOf told (psI ps))[i]? = some (rowK told p.1, (p.2 : Int)) := fun i p e => by unfold partsOf psI; rw [jY, jY, e]; rfl
 have plen : ∀ q' ∈ partsOf told (psI ps), q'.1.1.length = n := fun q' hq' => by
  obtain ⟨i, hi, rfl⟩ := jXf.mp hq'
  obtain ⟨p, ep⟩ : ∃ p, ps[i]? = some p := ⟨_, gE (by omega)⟩
  have e9 := gps i p ep
  rw [gE hi] at e9
  rw [Option.some.inj e9]
  exact Wj hln (hok p (kK ep)).1
 have lpa := hpa.length
 rw [jQ] at lpa
 let Pv1 : Nat → St → Hp → Prop := fun i σ H1 => ∃ u v w : Option V, σ = [some (.ref l), some (.ref pl), some (.ref g0), some (.int (Zf n ((partsOf told (psI ps)).take i)).2), u, v, w] ∧ H1 g0 = some (.lst ((Zf n ((partsOf told (psI ps)).take i)).1.map V.int)) ∧ Same H H1
 refine ⟨_, rfl, pl, rfl, ⟨_, s0.seq hpl⟩, Ju (K := K) (a := pl) (xs := us) Pv1 ⟨none, none, none, rfl, hg, s0⟩ (fun i σ H1 _ h => ?_) ?_ ?_⟩
 ·obtain ⟨_, _, _, rfl, _, s1⟩ := h
  exact s1.seq hpl
 ·rintro i x σ H1 e1 ⟨u, v, w, rfl, hg1, s1⟩
  obtain ⟨T, pr, rfl, ep, hT⟩ := hpa.get e1
  rw [jY] at ep
  obtain ⟨p, ec, rfl⟩ := yY.mp ep
  obtain ⟨k1, k2⟩ := hok p (kK ec)
  have snx := Qby n (gps i p ec)
  have lpv : (Zf n ((partsOf told (psI ps)).take i)).1.length = n := Wu n _ fun q' hq' => plen q' (List.mem_of_mem_take hq')
  obtain ⟨tr, rr, etr, err, prr, rr1, rr2⟩ := hra.get (gE (show p.1 < ws.length by omega))
  have erk : rowK told p.1 = rr := by unfold rowK; rw [jK, err]; rfl
  have hrr : rr.1.length = n := hln rr (kK err)
  have a2 : atI ws ((p.1 : Nat) : Int) = some (.ref tr) := Xx (by rw [gE (show p.1 < ws.length by omega), etr])
  rw [erk] at snx
  generalize hpv : Zf n ((partsOf told (psI ps)).take i) = pv at hg1 lpv snx ⊢
  have enx : Zf n ((partsOf told (psI ps)).take (i + 1)) = (List.zipWith (fun x y => x + (p.2 : Int) * y) pv.1 rr.1, pv.2 + (p.2 : Int) * rr.2) := snx
  have lnx : (List.zipWith (fun x y => x + (p.2 : Int) * y) pv.1 rr.1).length = n := by rw [kYc, lpv, hrr, Nat.min_self]
  generalize hnx : List.zipWith (fun x y => x + (p.2 : Int) * y) pv.1 rr.1 = nx at lnx
  refine ⟨T, _, rfl, s1.tup hT, rfl, _, _, rfl, _, _, rfl, rfl, ?_⟩
  refine ⟨_, rfl, g0, _, rfl, .inl (Qj hg1), ?_⟩
  rw [show (pv.1.map V.int).length = n by rw [jQ]; exact lpv]
  let Pv2 : Nat → St → Hp → Prop := fun j σ H2 => ∃ w : Option V, σ = [some (.ref l), some (.ref pl), some (.ref g0), some (.int pv.2), some (.int (p.1 : Int)), some (.int (p.2 : Int)), w] ∧ H2 g0 = some (.lst ((nx.take j ++ pv.1.drop j).map V.int)) ∧ Same H H2
  refine ⟨_, rfl, by omega, by omega, Yd (lo := 0) (n := ((n : Nat) : Int).toNat) Pv2 ⟨w, rfl, hg1, s1⟩ ?_ ?_⟩
  ·rintro j σ H2 hj ⟨w, rfl, hg2, s2⟩
   have hj' : j < n := by omega
   have e0 : (0 : Int) + (j : Int) = ((j : Nat) : Int) := by omega
   obtain ⟨y, ey⟩ : ∃ y, pv.1[j]? = some y := ⟨_, gE (by omega)⟩
   obtain ⟨z, ez⟩ : ∃ z, rr.1[j]? = some z := ⟨_, gE (by omega)⟩
   have a1 : atI ((nx.take j ++ pv.1.drop j).map V.int) (0 + (j : Int)) = some (.int y) := Qge (by rw [jY, Qtm lpv lnx hj', ey]; rfl)
   have a3 : atI (rr.1.map V.int) (0 + (j : Int)) = some (.int z) := Qge (by rw [jY, ez]; rfl)
   have en : nx[j]? = some (y + (p.2 : Int) * z) := by rw [← hnx, List.getElem?_zipWith, ey, ez]
   have lm : (nx.take j ++ pv.1.drop j).length = n := by rw [kZ, kW, jYb]; omega
   refine ⟨_, rfl, _, rfl, g0, _, _, _, rfl, rfl, Qj hg2, a1, _, rfl, _, rfl, _, rfl, l, _, _, _, rfl, rfl, s2.seq hl, a2, tr, _, _, _, rfl, rfl, s2.tup rr1, at0, _, rfl, prr, _, _, _, rfl, rfl, s2.tup rr2, a3, _, _, rfl, rfl, .inl ⟨by omega, by omega⟩, _, _, rfl, rfl, _, rfl, _, rfl, g0, _, _, j, rfl, rfl, hg2, (by rw [e0]; exact Vl (by rw [jQ, lm]; exact hj')), ?_⟩
   refine ⟨_, rfl, ?_, fun b o e => ?_⟩
   ·rw [Qc, ← Qtn lpv lnx hj' en, ← Je]
   ·rw [Qo (Qh e gH)]; exact s2 _ _ e
  ·rintro σ H2 ⟨w, rfl, hg2, s2⟩
   rw [show ((n : Nat) : Int).toNat = n by omega, zQ (by omega), List.drop_of_length_le (by omega), kXa] at hg2
   refine ⟨_, rfl, _, rfl, _, rfl, _, rfl, l, _, _, _, rfl, rfl, s2.seq hl, a2, tr, _, _, _, rfl, rfl, s2.tup rr1, at1, _, _, rfl, rfl, .inl ⟨by omega, by omega⟩, _, _, rfl, rfl, some (.int (p.1 : Int)), some (.int (p.2 : Int)), w, ?_, ?_, s2⟩
   ·rw [enx]; rfl
   ·rw [enx, hnx]; exact hg2
 ·rintro σ H1 ⟨u, v, w, rfl, hg1, s1⟩
  rw [show us.length = (partsOf told (psI ps)).length by omega, wQ] at hg1
  have eT : (partsOf told (psI ps)).take us.length = partsOf told (psI ps) := zQ (by omega)
  rw [eT]
  refine ⟨_, rfl, g0, _, rfl, .inl ⟨Qj hg1, fun l2 hl2 => ⟨_, rfl, by show 2 ≤ sizeLine; decide, fun t ht => ?_⟩⟩⟩
  exact q t _ ((s1.trans (Qb hl2 _)).trans (Qb ht _)) (Jm ht)
theorem Qol : FnScope ["_law_tells", "_law_line_here"] ["_law_tells", "_law_line_here"] (Qf Qav) := ⟨rfl, rfl, rfl, by decide +kernel, rfl, by decide +kernel, by decide +kernel⟩
theorem Qom (F : Fn K mg "_law_named" Qav) (M : Mg mg) : Cal P w K mg base 1 "_law_named" ["_law_tells", "_law_line_here"] (Qgl K) := by
 refine Xd F Qol (fun _ _ _ _ _ _ => Jb (fun _ _ => rfl)) (fun vs H Q E h => ?_) (fun f cdv A outer s H vs Q E hr h => ?_)
 ·obtain ⟨l, a, ws, n, ln, rfl, _⟩ := h
  rfl
 obtain ⟨l, a, ws, n, ln, rfl, hl, hT, hok, hn, q⟩ := h
 refine ⟨_, (Qg (Yi (Qq Yl (Qm Ql (pv 1) Qd (fun _ _ => rfl)) Yp (Qs _)) (Qn (Qv (Yg Qah (Qk (Qmw rfl) rfl M.max Qad (Qa (Jr ["_law_one", "_law_often"] [none, none] rfl (Yk (Qm Ql (pv 1) Qd (fun _ _ => rfl))) (fun _ _ _ => (Zi (K := K) (i := 0) (j := 1) rfl rfl (show (["_law_one", "_law_often"] : List Str).Nodup by decide +kernel) rfl rfl rfl rfl)) (fun _ _ _ => Yt) (fun _ _ _ => (pv 0))) Qe)) (Qk Qi rfl M.len Xf (Qa (pv 0) Qe)) (Qs _)))) Xg)
  (Qg (Yi (Qq Yl (Qm Ql (pv 1) Qd (fun _ _ => rfl)) Yp (Qs _)) (Qn (Qv (Yg Qah (Qk (Zx rfl) rfl M.max Qad (Qa (Qm Ql (pv 1) Qd (fun _ _ => rfl)) (Qa (Qm Ql (pv 1) Qd (fun _ _ => rfl)) Qe))) (Qk Qi rfl M.len Xf (Qa (pv 0) Qe)) (Qs _)))) Xg)
  (Qn (Qv (pe_or (Yg Qes (Qm Ql (pv 1) Qd (fun _ _ => rfl)) (Jg (Qa Yp (Qa Yp Qe))) rfl) (Kj (Yg Qah (Qm Ql (pv 1) Qd (fun _ _ => rfl)) (Qk Qi rfl M.len Xf (Qa (pv 0) Qe)) (Qs _)))))))), ?_⟩
 refine Yj ?_
 intro rT3 rT2
 have hz : (1000 : Nat) < sizeLine := by decide
 obtain ⟨vr, hla, hvr⟩ := Qhq hT
 refine ⟨_, rfl, a, _, _, _, rfl, rfl, hla, atZ, rfl, _, rfl, ite2 (fun c => ?_) (fun c => ?_)⟩
 ·obtain ⟨ps, rfl⟩ := Qsd (eqStr c)
  obtain ⟨v, rfl, hv⟩ := hvr.one_inv
  obtain ⟨pl, us, rfl, hpl, hlen, hgl⟩ := hv.lst_inv
  have hpa := Qjm hlen hgl
  rw [jQ] at hlen
  obtain ⟨h0, h3, hb⟩ := hok
  refine ⟨_, rfl, a, _, _, _, rfl, rfl, hla, at1', pl, rfl, ⟨_, hpl⟩, fun D hD => ?_⟩
  let Pv1 : Nat → St → List V → Hp → Prop := fun i τ ys H1 => ∃ u v : Option V, τ = [u, v] ∧ ys = ((ps.map fun p => (p.1 : Int)).take i).map V.int ∧ H1 D = some (.lst ys) ∧ Same H H1
  refine Ym (n := us.length) Pv1 ?_ (fun i τ ys H1 hi h => ?_) (fun i τ ys H1 hi h => ?_) (fun τ ys H1 h => ?_) ?_ ?_
  ·exact ⟨none, none, rfl, rfl, Qc, Qb hD _⟩
  ·obtain ⟨u, v, rfl, rfl, hD1, s1⟩ := h
   exact ⟨hD1, by rw [jQ, kW]; omega⟩
  ·obtain ⟨u, v, rfl, rfl, hD1, s1⟩ := h
   exact ⟨us, us[i], s1.seq hpl, gE hi⟩
  ·obtain ⟨u, v, rfl, rfl, hD1, s1⟩ := h
   exact ⟨us, s1.seq hpl, jZ _⟩
  ·rintro i τ ys H1 x H2 hi ⟨u, v, rfl, rfl, hD1, s1⟩ ⟨rfl, e1⟩
   obtain ⟨T, pr, rfl, ep, hT'⟩ := hpa.get (e1 _ (s1.seq hpl))
   rw [jY] at ep
   obtain ⟨p, ec, rfl⟩ := yY.mp ep
   refine ⟨T, _, rfl, s1.tup hT', rfl, _, _, rfl, _, _, rfl, rfl, ?_⟩
   refine ⟨_, rfl, hD1, _, _, rfl, ?_, Qc, fun b o e => ?_⟩
   ·rw [Zz (show (ps.map fun p => (p.1 : Int))[i]? = some (p.1 : Int) by rw [jY, ec]; rfl), kX]; rfl
   ·rw [Qo (Qh e hD)]; exact s1 _ _ e
  rintro τ ys H1 ⟨u, v, rfl, rfl, hD1, s1⟩
  rw [zQ (by rw [jQ]; omega)] at hD1
  refine ⟨D, _, rfl, Qj hD1, fun z => h0 (List.map_eq_nil_iff.mp z), fun m hm hmx => ?_⟩
  refine ⟨_, rfl, l, _, rfl, .inl (s1.seq hl), _, _, rfl, rfl, ?_⟩
  have : nmB ws.length (.sum ps) = decide (m < ((ws.length : Nat) : Int)) := by
   show (ps.all fun p => decide (p.1 < ws.length)) = _
   rw [xY, xW, decide_eq_true_iff]
   constructor
   ·intro hh
    obtain ⟨p, hp, rfl⟩ := jQd.mp hm
    have := yX (hh p hp)
    omega
   ·intro hh p hp
    have := hmx _ (jQd.mpr ⟨p, hp, rfl⟩)
    exact jW (by omega)
  have q' := q H1 s1
  rw [this] at q'
  exact q'
 have n1 := Qcf c
 refine ⟨_, rfl, a, _, _, _, rfl, rfl, hla, atZ, rfl, _, rfl, ite2 (fun c => ?_) (fun c => ?_)⟩
 ·obtain ⟨i, j, k, rfl⟩ := Qgm (eqStr c)
  obtain ⟨v, w', x, rfl, hv, hw, hx⟩ := hvr.three_inv
  cases hv
  cases hw
  refine ⟨_, rfl, a, _, _, _, rfl, rfl, hla, at1', _, rfl, a, _, _, _, rfl, rfl, hla, at2', _, _, rfl, _, rfl, l, _, rfl, .inl hl, _, _, rfl, rfl, ?_⟩
  have : nmB ws.length (.either i j k) = decide ((if (j : Int) > (i : Int) then (j : Int) else (i : Int)) < ((ws.length : Nat) : Int)) := by
   show (decide (i < ws.length) && decide (j < ws.length)) = _
   rw [xY, zV, decide_eq_true_iff, decide_eq_true_iff, decide_eq_true_iff]
   split <;> omega
  have q' := q H (Same.refl H)
  rw [this] at q'
  exact q'
 have n2 := Qcf c
 refine ⟨_, rfl, a, _, _, _, rfl, rfl, hla, atZ, by show 2 ≤ sizeLine; decide, fun b hb => ?_⟩
 have s1 := Qb hb (.lst [.str "share", .str "shut"])
 refine ⟨b, _, rfl, .inl (Qj Qc), rfl, rfl, _, rfl, ?_⟩
 generalize upd H b (.lst [.str "share", .str "shut"]) = H1 at s1 ⊢
 have q1 := q H1 s1
 by_cases c1 : wd ln = "share"
 ·obtain ⟨k, b', rfl⟩ := Qjn c1
  obtain ⟨v, w', rfl, hv, hw⟩ := hvr.two_inv
  cases hv
  refine iteF ⟨_, rfl, a, _, _, _, rfl, rfl, s1.tup hla, at1', _, rfl, l, _, rfl, .inl (s1.seq hl), _, _, rfl, rfl, ?_⟩
  have : nmB ws.length (.share k b') = decide ((k : Int) < ((ws.length : Nat) : Int)) := decide_eq_decide.mpr ⟨fun z => by omega, fun z => by omega⟩
  rw [this] at q1
  exact q1
 by_cases c2 : wd ln = "shut"
 ·obtain ⟨k, b', rfl⟩ := Qoj c2
  obtain ⟨v, w', rfl, hv, hw⟩ := hvr.two_inv
  cases hv
  refine iteF ⟨_, rfl, a, _, _, _, rfl, rfl, s1.tup hla, at1', _, rfl, l, _, rfl, .inl (s1.seq hl), _, _, rfl, rfl, ?_⟩
  have : nmB ws.length (.shut k b') = decide ((k : Int) < ((ws.length : Nat) : Int)) := decide_eq_decide.mpr ⟨fun z => by omega, fun z => by omega⟩
  rw [this] at q1
  exact q1
 have e1 : inV (V.str (wd ln)) [.str "share", .str "shut"] = false := by
  cases ln <;> first | rfl | exact absurd rfl c1 | exact absurd rfl c2
 rw [e1]
 have e2 : nmB ws.length ln = true := by
  cases ln <;> first | rfl | exact absurd rfl c1 | exact absurd rfl c2 | exact absurd rfl n1 | exact absurd rfl n2
 rw [e2] at q1
 exact iteT q1
end
abbrev Wk : Stmt := top 59
def ctr (t : List Nat) (n c j : Nat) : Int := (if j = c then 2 ^ (n - 1 - c) else 0) - (if j = t.getD c 0 then 2 ^ (n - 1 - c) else 0)
def Qon (t : List Nat) (n i j : Nat) : Int := ((List.range i).map fun c => ctr t n c j).sum
theorem Qkx (t : List Nat) (n i j : Nat) : Qon t n (i + 1) j = Qon t n i j + ctr t n i j := by
 unfold Qon
 rw [jJe, kX, kXc, xX, jJb, jKb, List.sum_nil]
 omega
theorem Vq {xs : List Int} {k j : Nat} {z : Int} (hk : k < xs.length) : (xs.set k z).getD j 0 = if j = k then z else xs.getD j 0 := by
 rw [jK, jK]
 by_cases e : j = k
 ·subst e; rw [if_pos rfl, kQe hk]; rfl
 ·rw [if_neg e, kXf (Ne.symm e)]
def lstp (t : List Nat) (c : Nat) (w : Int) (xs : List Int) : List Int := (xs.set c (xs.getD c 0 + w)).set (t.getD c 0) ((xs.set c (xs.getD c 0 + w)).getD (t.getD c 0) 0 - w)
theorem Qjo {t : List Nat} {n c j : Nat} {w : Int} {xs : List Int} (hx : xs.length = n) (hc : c < n) (ht : t.getD c 0 < n) : (lstp t c w xs).getD j 0 = xs.getD j 0 + ((if j = c then w else 0) - (if j = t.getD c 0 then w else 0)) := by
 unfold lstp
 rw [Vq (by rw [zX]; omega), Vq (by omega), Vq (by omega)]
 by_cases e1 : j = t.getD c 0
 ·rw [if_pos e1, if_pos e1, ← e1]
  by_cases e2 : j = c
  ·rw [if_pos e2, if_pos e2, e2]; omega
  ·rw [if_neg e2, if_neg e2]; omega
 ·rw [if_neg e1, if_neg e1]
  by_cases e2 : j = c
  ·rw [if_pos e2, if_pos e2, e2]; omega
  ·rw [if_neg e2, if_neg e2]; omega
theorem Qqw (t : List Nat) (c : Nat) (w : Int) (xs : List Int) : (lstp t c w xs).length = xs.length := by unfold lstp; rw [zX, zX]
theorem Qjp {n : Nat} {t : List Nat} (T : IsTurn n t) (j : Nat) : ∀ k, k ≤ n → (Zs t k).2 = 2 ^ k ∧ (Zs t k).1.getD j 0 = ((List.range k).map fun i => ctr t n (n - 1 - i) j).sum
 | 0, _ => by
  refine ⟨rfl, ?_⟩
  show (List.replicate t.length (0 : Int)).getD j 0 = 0
  rw [jK, kQc]
  split <;> rfl
 | k + 1, hk => by
  obtain ⟨i1, i2⟩ := Qjp T j k (by omega)
  have tl := T.length
  have hc : n - 1 - k < n := by omega
  obtain ⟨_, g2⟩ := getT T hc
  have ll := Kw t k
  rw [Vp, tl]
  refine ⟨by show (Zs t k).2 * 2 = _; rw [i1, Int.pow_succ], ?_⟩
  show (lstp t (n - 1 - k) (Zs t k).2 (Zs t k).1).getD j 0 = _
  rw [Qjo (n := n) (by omega) hc g2, i1, i2, jJe, kX, kXc, xX, jJb, jKb, List.sum_nil]
  unfold ctr
  rw [show n - 1 - (n - 1 - k) = k by omega]
  omega
theorem Qto (f : Nat → Int) (n : Nat) : ((List.range n).map fun i => f (n - 1 - i)).sum = ((List.range n).map f).sum := by
 have e : (List.range n).map (fun i => f (n - 1 - i)) = ((List.range n).map f).reverse := by
  refine List.ext_getElem (by rw [jQ, List.length_reverse, jQ]) fun i h1 h2 => ?_
  rw [kQd, List.getElem_reverse, kQd, List.getElem_range, List.getElem_range, jQ, wY]
 rw [e]
 generalize (List.range n).map f = l
 induction l with
 | nil => rfl
 | cons x l ih => rw [List.reverse_cons, kXc, ih, jKb, jKb, List.sum_nil]; omega
theorem like_eq {n : Nat} {t : List Nat} (T : IsTurn n t) {xs : List Int} (hx : xs.length = n) (h : ∀ j, xs.getD j 0 = Qon t n n j) : xs = (Ww t).1 := by
 have tl := T.length
 show xs = (Zs t t.length).1
 rw [tl]
 have ll := Kw t n
 refine List.ext_getElem (by omega) fun j h1 h2 => ?_
 have a := h j
 have b := (Qjp T j n (jZ _)).2
 rw [Qto (fun c => ctr t n c j)] at b
 have e : xs.getD j 0 = (Zs t n).1.getD j 0 := a.trans b.symm
 rw [jK, jK, gE h1, gE h2] at e
 exact e
def Qcx (K : Fg) : Sp := fun vs H Q _ => ∃ (t a : Addr) (rs : List Rw) (cs : List Int) (best : Option Int) (told : List Rw) (ln : Ln), vs = [.ref t, Ks best, .ref a] ∧ ProbAt K H t rs cs ∧ (∀ r ∈ rs, r.1.length = cs.length) ∧ cs.length ≤ 5 ∧ rs.length ≤ 10 ∧ HasT K H (.ref a) (lnD ln) ∧ LnOk cs.length ln ∧ wd ln ≠ "sum" ∧ wd ln ≠ "share" ∧ wd ln ≠ "shut" ∧ wd ln ≠ "either" ∧
 (rowT rs cs best told (lnD ln) = none → ∀ H', Same H H' → Q .non H') ∧ ∀ r, rowT rs cs best told (lnD ln) = some r → ∀ t' H', Same H H' → RowAt K H' t' r → Q (.ref t') H'
section
variable {P : Program} {w : World} {K : Fg} {mg : Str → Option Value} {base : Heap} {aT aL : Addr} {fT fL : Str → Option Value}
theorem scSimple10 : FnScope ["_law_problem_here", "_law_best", "_law_line_here", "_law_many", "_law_numbers", "_law_choice", "_law_weight", "_law_k"] ["_law_problem_here", "_law_best", "_law_line_here"] (Qf Wk) := ⟨rfl, rfl, rfl, by decide +kernel, rfl, by decide +kernel, by decide +kernel⟩
theorem Qky (F : Fn K mg "_law_simple" Wk) (M : Mg mg) (cl_alone : Cal P w K mg base 1 "_law_alone" ["_law_many", "_law_choice", "_law_number"] (Qgj K)) (cl_keeps_turn : Cal P w K mg base 2 "_law_keeps_turn" ["_law_problem_here", "_law_turn_here"] (Qsb K)) : Cal P w K mg base 3 "_law_simple" ["_law_problem_here", "_law_best", "_law_line_here"] (Qcx K) := by
 refine Xd F scSimple10 (fun _ _ _ _ _ _ => Qfp (fun _ _ _ => rfl)) (fun vs H Q E h => ?_) (fun f cdv A outer s H vs Q E hr h => ?_)
 ·obtain ⟨t, a, rs, cs, best, told, ln, rfl, _⟩ := h
  rfl
 obtain ⟨t, a, rs, cs, best, told, ln, rfl, pr, hrl, hn, hm, hT, hok, n1, n2, n3, n4, qn, qs⟩ := h
 refine ⟨_, (QSs.pss (Qp (Yw (i := 3) scSimple10.nd rfl (Or.inl rfl) (QE.of (Qk Qi rfl M.len Xf (Qa (Qm Ql (pv 0) Qd (fun _ _ => rfl)) Qe))))
  (Qp (Ze (PW.pt (Kc (Qq Yl (Qm Ql (pv 2) Qd (fun _ _ => rfl)) Yp (Qs _)) (Jl (Qq Qah (Qm Ql (pv 2) Qd (fun _ _ => rfl)) (Qk Qi rfl M.len Xf (Qa (Qm Ql (pv 0) Qd (fun _ _ => rfl)) Qe)) (Qs _))))) (Xc (Xt (QE.of (Qm Qw (Qm Ql (pv 0) Qd (fun _ _ => rfl)) (Qm Ql (pv 2) Qd (fun _ _ => rfl)) (fun _ _ => rfl))))) Xl)
  (Qp (Ze (PW.pt (Kc (Qq Yl (Qm Ql (pv 2) Qd (fun _ _ => rfl)) Yp (Qs _)) (Jl (Qq Qah (Qm Ql (pv 2) Qd (fun _ _ => rfl)) (pv 3) (Qs _))))) (Xc (Xt (Yo (Ja (QE.of (Xj cl_alone (hr.mono (by decide)) (Qa (pv 3) (Qa (Qm Ql (pv 2) Qd (fun _ _ => rfl)) (Qa Qd Qe))))) (Xb (QE.of Qd) Xs))))) Xl)
  (Qp (Ze (PW.pt (Kc (Qq Yl (Qm Ql (pv 2) Qd (fun _ _ => rfl)) Yp (Qs _)) (Jl (Qq Qah (Qm Ql (pv 2) Qd (fun _ _ => rfl)) (pv 3) (Qs _))))) (Xc (Xt (Yo (Ja (QE.of (Xj cl_alone (hr.mono (by decide)) (Qa (pv 3) (Qa (Qm Ql (pv 2) Qd (fun _ _ => rfl)) (Qa (Vi Zw Qd) Qe))))) (Qcs (QE.of (Vi Zw Qd)) Xs))))) Xl)
  (Qp (Ze (PW.pt (Kc (Qq Yl (Qm Ql (pv 2) Qd (fun _ _ => rfl)) Yp (Qs _)) (Jl (Qq Qgs (pv 1) Xy (Qs _))))) (Xc (Xt (Yo (Ja (QE.of (Qz Qy rfl M.tuple_ Xo (Qa (Jr ["_law_cost"] [none] rfl (Qac (Qm Ql (pv 0) Qd (fun _ _ => rfl))) (fun _ _ _ => (Xe (i := 0) (show (["_law_cost"] : List Str).Nodup by decide +kernel) rfl (Or.inl rfl) (Or.inr rfl))) (fun _ _ _ => Yt) (fun _ _ _ => (Qr Zv Qd (pv 0)))) Qe))) (Jw (QE.of (Qr Zv Qd (pv 1))) Xs))))) Xl)
  (Qp (Ze (PW.pt (Kc (Qq Yl (Qm Ql (pv 2) Qd (fun _ _ => rfl)) Yp (Qs _)) (Jl (Ya (Xj cl_keeps_turn (hr.mono (by decide)) (Qa (pv 0) (Qa (Qm Ql (pv 2) Qd (fun _ _ => rfl)) Qe))))))) (Qp (Yw (i := 4) scSimple10.nd rfl (Or.inl rfl) (QE.of (Qr Vd (QE.pe (Vf (Xb (QE.of Qd) Xs))) (pv 3))))
  (Qp (QS.of (Yq PassesOwn.never rfl (Xz rfl M.range_ (Qa (pv 3) Qe)) (Xe (i := 5) scSimple10.nd rfl (Or.inl rfl) (Or.inl rfl)) (QSs.pss (Qp (Yw (i := 6) scSimple10.nd rfl (Or.inl rfl) (QE.of Qd))
  (Qp (QS.of (Yq PassesOwn.never rfl (Xz rfl M.range_ (Qa (Qr Zv (Qr Zv (pv 3) Qd) (pv 5)) Qe)) (Xe (i := 7) scSimple10.nd rfl (Or.inl rfl) (Or.inl rfl)) (QSs.pss (Xc (Yw (i := 6) scSimple10.nd rfl (Or.inl rfl) (QE.of (Qr Kd Qd (pv 6))))))))
  (Qp (Qbv (QE.of (Qr Xr (Qm Qw (pv 4) (pv 5) (fun _ _ => rfl)) (pv 6))) (Jp (pv 4) (pv 5) set_list))
  (Xc (Qbv (QE.of (Qr Zv (Qm Qw (pv 4) (Qm Qw (Qm Ql (pv 2) Qd (fun _ _ => rfl)) (pv 5) (fun _ _ => rfl)) (fun _ _ => rfl)) (pv 6))) (Jp (pv 4) (Qm Qw (Qm Ql (pv 2) Qd (fun _ _ => rfl)) (pv 5) (fun _ _ => rfl)) set_list)))))))))
  (Xc (Xt (Yo (Ja (QE.of (Qz Qy rfl M.tuple_ Xo (Qa (pv 4) Qe))) (Xb (QE.of Qd) Xs))))))) Xl)
  (Xc (Xt (QE.of Xy)))))))))), ?_⟩
 refine Qdn ?_
 intro rT7 rT6 rT5 rT4 rT3 rT2
 have hz : (1000 : Nat) < sizeLine := by decide
 obtain ⟨l, c0, us0, ht, hl, hrw, hc⟩ := id pr
 have lv := hrw.length
 obtain ⟨vr, hla, hvr⟩ := Qhq hT
 refine ⟨_, rfl, t, _, _, _, rfl, rfl, ht, at1, c0, _, rfl, .inr hc, ?_⟩
 rw [show (cs.map V.int).length = cs.length from jQ ..]
 cases ln with
 | sum ps => exact absurd rfl n1
 | share k b => exact absurd rfl n2
 | shut k hs => exact absurd rfl n3
 | either i j k => exact absurd rfl n4
 | given k =>
  obtain ⟨v, rfl, hv⟩ := hvr.one_inv
  cases hv
  rw [Qtl] at qn qs
  refine ⟨_, rfl, a, _, _, _, rfl, rfl, hla, atZ, rfl, _, rfl, ite2 (fun _ => ?_) (fun z => absurd rfl (Qcf z))⟩
  refine ⟨_, rfl, a, _, _, _, rfl, rfl, hla, at1', _, rfl, t, _, _, _, rfl, rfl, ht, at0, l, _, rfl, .inl hl, _, _, rfl, rfl, _, rfl, ite2 (fun z => ?_) (fun z => ?_)⟩
  ·have hk : k < rs.length := by have z' : (k : Int) < ((us0.length : Nat) : Int) := yX z; omega
   obtain ⟨ar, r, e1, e2, hr'⟩ := hrw.get (gE (show k < us0.length by omega))
   have e3 : rowK rs k = r := by unfold rowK; rw [jK, e2]; rfl
   refine ⟨_, rfl, t, _, _, _, rfl, rfl, ht, at0, _, rfl, a, _, _, _, rfl, rfl, hla, at1', l, _, _, _, rfl, rfl, hl, Xx (show us0[k]? = some (.ref ar) by rw [gE (show k < us0.length by omega), e1]), qs _ (if_pos hk) ar H (Same.refl H) ?_⟩
   rw [e3]
   exact hr'
  ·have hk : ¬ k < rs.length := fun y => z (jW (by show (k : Int) < ((us0.length : Nat) : Int); omega))
   refine ⟨_, rfl, a, _, _, _, rfl, rfl, hla, atZ, rfl, _, rfl, ite2 (fun z => absurd (eqStr z) (by dsimp only [wd]; decide +kernel)) (fun _ => iteF ?_)⟩
   refine ⟨_, rfl, a, _, _, _, rfl, rfl, hla, atZ, rfl, _, rfl, ite2 (fun z => absurd (eqStr z) (by dsimp only [wd]; decide +kernel)) (fun _ => iteF ?_)⟩
   refine ⟨_, rfl, a, _, _, _, rfl, rfl, hla, atZ, rfl, _, rfl, ite2 (fun z => absurd (eqStr z) (by dsimp only [wd]; decide +kernel)) (fun _ => iteF ?_)⟩
   refine ⟨_, rfl, a, _, _, _, rfl, rfl, hla, atZ, rfl, _, rfl, ite2 (fun z => absurd (eqStr z) (by dsimp only [wd]; decide +kernel)) (fun _ => iteF ?_)⟩
   exact qn (if_neg hk) H (Same.refl H)
 | low c =>
  obtain ⟨v, rfl, hv⟩ := hvr.one_inv
  cases hv
  rw [t_low] at qn qs
  refine ⟨_, rfl, a, _, _, _, rfl, rfl, hla, atZ, rfl, _, rfl, ite2 (fun z => absurd (eqStr z) (by dsimp only [wd]; decide +kernel)) (fun _ => iteF ?_)⟩
  refine ⟨_, rfl, a, _, _, _, rfl, rfl, hla, atZ, rfl, _, rfl, ite2 (fun _ => ?_) (fun z => absurd rfl (Qcf z))⟩
  refine ⟨_, rfl, a, _, _, _, rfl, rfl, hla, at1', _, rfl, _, _, rfl, rfl, _, rfl, ite2 (fun z => ?_) (fun z => ?_)⟩
  ·have hc' : c < cs.length := by have z' : (c : Int) < ((cs.length : Nat) : Int) := yX z; omega
   exact ⟨_, rfl, _, rfl, a, _, _, _, rfl, rfl, hla, at1', cs.length, c, 1, rfl, hc', by omega, fun p H' s' hp => ⟨by show 2 ≤ sizeLine; decide, fun t' ht' => qs _ (if_pos hc') t' _ (s'.trans (Qb ht' _)) ⟨p, Xa Qc, (Qb ht' _).tup hp⟩⟩⟩
  ·have hc' : ¬ c < cs.length := fun y => z (jW (by show (c : Int) < ((cs.length : Nat) : Int); omega))
   refine ⟨_, rfl, a, _, _, _, rfl, rfl, hla, atZ, rfl, _, rfl, ite2 (fun z => absurd (eqStr z) (by dsimp only [wd]; decide +kernel)) (fun _ => iteF ?_)⟩
   refine ⟨_, rfl, a, _, _, _, rfl, rfl, hla, atZ, rfl, _, rfl, ite2 (fun z => absurd (eqStr z) (by dsimp only [wd]; decide +kernel)) (fun _ => iteF ?_)⟩
   refine ⟨_, rfl, a, _, _, _, rfl, rfl, hla, atZ, rfl, _, rfl, ite2 (fun z => absurd (eqStr z) (by dsimp only [wd]; decide +kernel)) (fun _ => iteF ?_)⟩
   exact qn (if_neg hc') H (Same.refl H)
 | high c =>
  obtain ⟨v, rfl, hv⟩ := hvr.one_inv
  cases hv
  rw [t_high] at qn qs
  refine ⟨_, rfl, a, _, _, _, rfl, rfl, hla, atZ, rfl, _, rfl, ite2 (fun z => absurd (eqStr z) (by dsimp only [wd]; decide +kernel)) (fun _ => iteF ?_)⟩
  refine ⟨_, rfl, a, _, _, _, rfl, rfl, hla, atZ, rfl, _, rfl, ite2 (fun z => absurd (eqStr z) (by dsimp only [wd]; decide +kernel)) (fun _ => iteF ?_)⟩
  refine ⟨_, rfl, a, _, _, _, rfl, rfl, hla, atZ, rfl, _, rfl, ite2 (fun _ => ?_) (fun z => absurd rfl (Qcf z))⟩
  refine ⟨_, rfl, a, _, _, _, rfl, rfl, hla, at1', _, rfl, _, _, rfl, rfl, _, rfl, ite2 (fun z => ?_) (fun z => ?_)⟩
  ·have hc' : c < cs.length := by have z' : (c : Int) < ((cs.length : Nat) : Int) := yX z; omega
   exact ⟨_, rfl, _, rfl, a, _, _, _, rfl, rfl, hla, at1', _, rfl, cs.length, c, (-1), rfl, hc', by omega, fun p H' s' hp => ⟨_, rfl, by show 2 ≤ sizeLine; decide, fun t' ht' => qs _ (if_pos hc') t' _ (s'.trans (Qb ht' _)) ⟨p, Xa Qc, (Qb ht' _).tup hp⟩⟩⟩
  ·have hc' : ¬ c < cs.length := fun y => z (jW (by show (c : Int) < ((cs.length : Nat) : Int); omega))
   refine ⟨_, rfl, a, _, _, _, rfl, rfl, hla, atZ, rfl, _, rfl, ite2 (fun z => absurd (eqStr z) (by dsimp only [wd]; decide +kernel)) (fun _ => iteF ?_)⟩
   refine ⟨_, rfl, a, _, _, _, rfl, rfl, hla, atZ, rfl, _, rfl, ite2 (fun z => absurd (eqStr z) (by dsimp only [wd]; decide +kernel)) (fun _ => iteF ?_)⟩
   exact qn (if_neg hc') H (Same.refl H)
 | better =>
  rw [Qqs] at qn qs
  refine ⟨_, rfl, a, _, _, _, rfl, rfl, hla, atZ, rfl, _, rfl, ite2 (fun z => absurd (eqStr z) (by dsimp only [wd]; decide +kernel)) (fun _ => iteF ?_)⟩
  refine ⟨_, rfl, a, _, _, _, rfl, rfl, hla, atZ, rfl, _, rfl, ite2 (fun z => absurd (eqStr z) (by dsimp only [wd]; decide +kernel)) (fun _ => iteF ?_)⟩
  refine ⟨_, rfl, a, _, _, _, rfl, rfl, hla, atZ, rfl, _, rfl, ite2 (fun z => absurd (eqStr z) (by dsimp only [wd]; decide +kernel)) (fun _ => iteF ?_)⟩
  refine ⟨_, rfl, a, _, _, _, rfl, rfl, hla, atZ, rfl, _, rfl, ite2 (fun _ => ?_) (fun z => absurd rfl (Qcf z))⟩
  cases best with
  | none =>
   refine ⟨_, rfl, rfl, _, rfl, iteF ?_⟩
   refine ⟨_, rfl, a, _, _, _, rfl, rfl, hla, atZ, rfl, _, rfl, ite2 (fun z => absurd (eqStr z) (by dsimp only [wd]; decide +kernel)) (fun _ => iteF ?_)⟩
   exact qn rfl H (Same.refl H)
  | some b =>
   refine ⟨_, rfl, rfl, _, rfl, iteT ⟨_, rfl, t, _, _, _, rfl, rfl, ht, at1, c0, rfl, ⟨_, hc⟩, fun D hD => ?_⟩⟩
   let Pv1 : Nat → St → List V → Hp → Prop := fun i τ ys H1 => ∃ v : Option V, τ = [v] ∧ ys = ((cs.map fun c => -c).take i).map V.int ∧ H1 D = some (.lst ys) ∧ Same H H1
   refine Ym (n := cs.length) Pv1 ?_ (fun i τ ys H1 hi h => ?_) (fun i τ ys H1 hi h => ?_) (fun τ ys H1 h => ?_) ?_ ?_
   ·exact ⟨none, rfl, rfl, Qc, Qb hD _⟩
   ·obtain ⟨v, rfl, rfl, hD1, s1⟩ := h
    exact ⟨hD1, by rw [jQ, kW]; omega⟩
   ·obtain ⟨v, rfl, rfl, hD1, s1⟩ := h
    exact ⟨_, .int cs[i], s1.tup hc, by rw [jY, gE hi]; rfl⟩
   ·obtain ⟨v, rfl, rfl, hD1, s1⟩ := h
    exact ⟨_, s1.tup hc, by rw [jQ]; exact jZ _⟩
   ·rintro i τ ys H1 x H2 hi ⟨v, rfl, rfl, hD1, s1⟩ ⟨rfl, e1⟩
    obtain ⟨z, ez, rfl⟩ := Yn (e1 _ (s1.tup hc))
    refine ⟨_, rfl, _, _, rfl, rfl, hD1, _, rfl, ?_, Qc, fun b' o e => ?_⟩
    ·rw [Zz (show (cs.map fun c => -c)[i]? = some (-z) by rw [jY, ez]; rfl), kX]
     show _ ++ [V.int (0 - z)] = _ ++ [V.int (-z)]
     rw [Int.zero_sub]
    ·rw [Qo (Qh e hD)]; exact s1 _ _ e
   ·rintro τ ys H1 ⟨v, rfl, rfl, hD1, s1⟩
    rw [zQ (by rw [jQ]; exact jZ _)] at hD1
    refine ⟨D, _, rfl, .inl ⟨Qj hD1, fun l2 hl2 => ⟨_, rfl, _, _, rfl, rfl, by show 2 ≤ sizeLine; decide, fun t' ht' => ?_⟩⟩⟩
    exact qs _ rfl t' _ ((s1.trans (Qb hl2 _)).trans (Qb ht' _)) (Jm ht')
 | like tt =>
  obtain ⟨v, rfl, hv⟩ := hvr.one_inv
  obtain ⟨u, vs2, rfl, hu0, hul, hgl⟩ := hv.lst_inv
  have T : IsTurn cs.length tt := hok
  have lt := T.length
  have eu : vs2 = (tI tt).map V.int := by
   refine jZd fun i => ?_
   by_cases hi : i < vs2.length
   ·have hi2 : i < ((tI tt).map Dt.int).length := by omega
    have h9 := hgl i _ _ (gE hi) (gE hi2)
    rw [kQd] at h9
    rw [gE hi, jY, gE (by rw [jQ] at hi2; exact hi2)]
    exact congrArg some (Zk h9)
   ·rw [jQa (by omega), jQa (by rw [jQ] at hul ⊢; omega)]
  subst eu
  rw [t_like T] at qn qs
  refine ⟨_, rfl, a, _, _, _, rfl, rfl, hla, atZ, rfl, _, rfl, ite2 (fun z => absurd (eqStr z) (by dsimp only [wd]; decide +kernel)) (fun _ => iteF ?_)⟩
  refine ⟨_, rfl, a, _, _, _, rfl, rfl, hla, atZ, rfl, _, rfl, ite2 (fun z => absurd (eqStr z) (by dsimp only [wd]; decide +kernel)) (fun _ => iteF ?_)⟩
  refine ⟨_, rfl, a, _, _, _, rfl, rfl, hla, atZ, rfl, _, rfl, ite2 (fun z => absurd (eqStr z) (by dsimp only [wd]; decide +kernel)) (fun _ => iteF ?_)⟩
  refine ⟨_, rfl, a, _, _, _, rfl, rfl, hla, atZ, rfl, _, rfl, ite2 (fun z => absurd (eqStr z) (by dsimp only [wd]; decide +kernel)) (fun _ => iteF ?_)⟩
  refine ⟨_, rfl, a, _, _, _, rfl, rfl, hla, atZ, rfl, _, rfl, ite2 (fun _ => ?_) (fun z => absurd rfl (Qcf z))⟩
  refine ⟨_, rfl, _, rfl, a, _, _, _, rfl, rfl, hla, at1', t, u, rs, cs, cs.length, tt, rfl, pr, hu0, T, by omega, hrl, rfl, by omega, fun b H1 s1 hb => ⟨_, rfl, ?_⟩⟩
  cases b with
  | false => exact iteF (qn (if_neg fun z => nomatch hb.mpr z) H1 s1)
  | true =>
   have qs' := qs _ (if_pos (hb.mp rfl))
   generalize hnn : cs.length = n at qs' T lt hn ⊢
   refine iteT ?_
   refine ⟨by show 1 ≤ sizeLine; decide, fun p0 hp0 => ?_⟩
   refine ⟨_, rfl, p0, (n : Int), _, rfl, rfl, Qc, by omega, by omega, by show 1 * ((n : Int)).toNat ≤ sizeLine; omega, fun g0 hg0 => ?_⟩
   have e0 : (List.replicate ((n : Int)).toNat [V.int 0]).flatten = (List.replicate n (0 : Int)).map V.int := rep0 n
   rw [e0]
   have s0 : Same H1 (upd (upd H1 p0 (.lst [.int 0])) g0 (.lst ((List.replicate n (0 : Int)).map V.int))) := (Qb hp0 _).trans (Qb hg0 _)
   have gH : H g0 = none := by
    cases e5 : H g0 with
    | none => rfl
    | some o => rw [Qb hp0 (.lst [.int 0]) _ _ (s1 _ _ e5)] at hg0; cases hg0
   have hg : upd (upd H1 p0 (.lst [.int 0])) g0 (.lst ((List.replicate n (0 : Int)).map V.int)) g0 = some (.lst ((List.replicate n (0 : Int)).map V.int)) := Qc
   generalize upd (upd H1 p0 (.lst [.int 0])) g0 (.lst ((List.replicate n (0 : Int)).map V.int)) = H0 at s0 hg ⊢
   let Pv2 : Nat → St → Hp → Prop := fun i σ H2 => ∃ (x y z : Option V) (xs : List Int), σ = [some (.ref t), some (Ks best), some (.ref a), some (.int (n : Int)), some (.ref g0), x, y, z] ∧ H2 g0 = some (.lst (xs.map V.int)) ∧ xs.length = n ∧ (∀ j, xs.getD j 0 = Qon tt n i j) ∧ Same H H2
   refine ⟨_, rfl, (n : Int), rfl, by omega, by omega, Yd (lo := 0) (n := ((n : Nat) : Int).toNat) Pv2 ⟨none, none, none, List.replicate n 0, rfl, hg, xQ .., (fun j => by rw [jK, kQc]; split <;> rfl), s1.trans s0⟩ ?_ ?_⟩
   ·rintro i σ H2 hi ⟨x, y, z, xs, rfl, hg2, hxl, hxs, s2⟩
    have hi' : i < n := by omega
    obtain ⟨gt1, gt2⟩ := getT T hi'
    have ei : (0 : Int) + (i : Int) = ((i : Nat) : Int) := by omega
    refine ⟨_, rfl, _, _, rfl, rfl, _, rfl, _, _, rfl, rfl, (n : Int) - 1 - (0 + (i : Int)), rfl, by omega, by omega, Yd (lo := 0) (n := ((n : Int) - 1 - (0 + (i : Int))).toNat) (fun k σ H3 => ∃ z : Option V, σ = [some (.ref t), some (Ks best), some (.ref a), some (.int (n : Int)), some (.ref g0), some (.int (0 + (i : Int))), some (.int (2 ^ k)), z] ∧ H3 = H2) ⟨z, rfl, rfl⟩ ?_ ?_⟩
    ·rintro k σ H3 hk ⟨z, rfl, rfl⟩
     refine ⟨_, rfl, _, _, rfl, rfl, .inl ⟨by decide, by decide⟩, some (.int (0 + (k : Int))), ?_, rfl⟩
     rw [show (2 : Int) ^ (k + 1) = 2 * 2 ^ k by rw [Int.pow_succ, Int.mul_comm]]
     rfl
    ·rintro σ H3 ⟨z, rfl, rfl⟩
     rw [show ((n : Int) - 1 - (0 + (i : Int))).toNat = n - 1 - i by omega]
     have a1 : atI (xs.map V.int) (0 + (i : Int)) = some (.int (xs.getD i 0)) := Qge (by rw [jY, jK, gE (show i < xs.length by omega)]; rfl)
     refine ⟨_, rfl, _, rfl, g0, _, _, _, rfl, rfl, Qj hg2, a1, _, rfl, _, _, rfl, rfl, _, rfl, _, rfl, g0, _, _, i, rfl, rfl, hg2, (by rw [ei]; exact Vl (by rw [jQ]; omega)), ?_⟩
     have hs1 : ((xs.map V.int).set i ((fun i j => V.int (i + j)) (xs.getD i 0) (2 ^ (n - 1 - i)))) = (xs.set i (xs.getD i 0 + 2 ^ (n - 1 - i))).map V.int := Je _ _ _
     rw [hs1]
     have s3 : Same H (upd H3 g0 (.lst ((xs.set i (xs.getD i 0 + 2 ^ (n - 1 - i))).map V.int))) := fun b o e => by rw [Qo (Qh e gH)]; exact s2 _ _ e
     have hg3 : upd H3 g0 (.lst ((xs.set i (xs.getD i 0 + 2 ^ (n - 1 - i))).map V.int)) g0 = some (.lst ((xs.set i (xs.getD i 0 + 2 ^ (n - 1 - i))).map V.int)) := Qc
     generalize upd H3 g0 (.lst ((xs.set i (xs.getD i 0 + 2 ^ (n - 1 - i))).map V.int)) = H4 at s3 hg3 ⊢
     have a2 : atI ((tI tt).map V.int) (0 + (i : Int)) = some (.int ((tt.getD i 0 : Nat) : Int)) := Qge (by
      unfold tI
      rw [jY, jY, gt1]
      rfl)
     have a3 : atI ((xs.set i (xs.getD i 0 + 2 ^ (n - 1 - i))).map V.int) ((tt.getD i 0 : Nat) : Int) = some (.int ((xs.set i (xs.getD i 0 + 2 ^ (n - 1 - i))).getD (tt.getD i 0) 0)) := atK6 (by rw [zX]; omega)
     refine ⟨_, rfl, _, rfl, a, _, _, _, rfl, rfl, s3.tup hla, at1', _, rfl, u, _, _, _, rfl, rfl, s3.seq hu0, a2, g0, _, _, _, rfl, rfl, Qj hg3, a3, _, rfl, _, _, rfl, rfl, _, rfl, _, rfl, a, _, _, _, rfl, rfl, s3.tup hla, at1', _, rfl, u, _, _, _, rfl, rfl, s3.seq hu0, a2, g0, _, _, tt.getD i 0, rfl, rfl, hg3, Vl (by rw [jQ, zX]; omega), ?_⟩
     refine ⟨_, _, _, lstp tt i (2 ^ (n - 1 - i)) xs, rfl, ?_, by rw [Qqw]; exact hxl, fun j => ?_, fun b o e => ?_⟩
     ·rw [Qc]
      unfold lstp
      exact congrArg (fun z => some (HO.lst z)) (Je _ _ _)
     ·rw [Qjo hxl hi' gt2, hxs j, Qkx]
      rfl
     ·rw [Qo (Qh e gH)]; exact s3 _ _ e
   ·rintro σ H2 ⟨x, y, z, xs, rfl, hg2, hxl, hxs, s2⟩
    rw [show ((n : Nat) : Int).toNat = n by omega] at hxs
    have ex := like_eq T hxl hxs
    refine ⟨_, rfl, g0, _, rfl, .inl ⟨Qj hg2, fun l2 hl2 => ⟨by show 2 ≤ sizeLine; decide, fun t' ht' => ?_⟩⟩⟩
    refine qs' t' _ ((s2.trans (Qb hl2 _)).trans (Qb ht' _)) ?_
    have := Jm (K := K) (H := H2) (l := l2) (t := t') (ns := xs) (z := 0) ht'
    rw [show Ww tt = (xs, 0) from Prod.ext ex.symm rfl]
    exact this
end
abbrev Qcg : Stmt := top 60
def Qjq (K : Fg) : Sp := fun vs H Q _ => ∃ (t l a : Addr) (rs : List Rw) (cs : List Int) (best : Option Int) (ws : List V) (told : List Rw) (ln : Ln), vs = [.ref t, Ks best, .ref l, .ref a] ∧ Jx K H t l rs cs ws told ∧ cs.length ≤ 5 ∧ rs.length ≤ 10 ∧ HasT K H (.ref a) (lnD ln) ∧ LnOk cs.length ln ∧
 (rowT rs cs best told (lnD ln) = none → ∀ H', Same H H' → Q .non H') ∧ ∀ r, rowT rs cs best told (lnD ln) = some r → ∀ t' H', Same H H' → RowAt K H' t' r → Q (.ref t') H'
theorem Qqx {rs : List Rw} {cs : List Int} {best : Option Int} {told : List Rw} {ln : Ln} (hok : LnOk cs.length ln) (h : nmB told.length ln = false) : rowT rs cs best told (lnD ln) = none := by
 cases ln with
 | sum ps =>
  have h' : (ps.all fun p => decide (p.1 < told.length)) = false := h
  obtain ⟨p, hp, hn⟩ := List.all_eq_false.mp h'
  exact Qqt hp fun z => hn (jW z)
 | share k b =>
  rw [Qoe hok.2.1]
  exact if_neg fun z => of_decide_eq_false h z.1
 | shut k hs =>
  rw [Qsa hok.2.1]
  exact if_neg fun z => of_decide_eq_false h z.1
 | either i j c =>
  rw [Qji]
  refine if_neg fun z => ?_
  have h' : (decide (i < told.length) && decide (j < told.length)) = false := h
  rw [jW z.1, jW z.2.1] at h'
  cases h'
 | low c => cases h
 | high c => cases h
 | better => cases h
 | like t => cases h
 | given k => cases h
theorem Qse {l b : Int} (hb : 0 < b) : l.fdiv b + (if (!decide (l % b = 0)) = true then 1 else 0) = -((-l).fdiv b) := by
 rw [jKe _ (by omega), jKe _ (by omega)]
 have e := Int.mul_ediv_add_emod l b
 have m0 := jXd l (show b ≠ 0 by omega)
 have m1 := jQe l hb
 by_cases c : l % b = 0
 ·rw [jW c, Int.neg_ediv_of_dvd (Int.dvd_of_emod_eq_zero c)]
  simp
 ·rw [yQ c]
  have : (-l) / b = -(l / b) - 1 := ((Int.ediv_emod_unique (a := -l) (r := b - l % b) (q := -(l / b) - 1) hb).mpr ⟨by rw [Int.mul_sub, Int.mul_neg, Int.mul_one]; omega, by omega, by omega⟩).1
  rw [this]
  simp
  omega
theorem ex_div {x b : Int} (hb : 0 < b) (h : x % b = 0) : x.fdiv b = -((-x).fdiv b) := by
 have := Qse (l := x) hb
 rw [jW h] at this
 simpa using this
theorem Qhr {f : Int → Bool} {l : List Int} {i : Nat} {x : Int} (h : l[i]? = some x) : (l.take (i + 1)).filter f = (l.take i).filter f ++ if f x = true then [x] else [] := by
 rw [Zz h, List.filter_append]
 congr 1
 by_cases e : f x = true
 ·rw [if_pos e, List.filter_cons_of_pos e, List.filter_nil]
 ·rw [if_neg e, List.filter_cons_of_neg e, List.filter_nil]
theorem Qed (n : Nat) (hs : List (Int × Int)) : (Vo n hs).2 = 1 - (hs.map (·.2)).sum := by
 show Jd hs = _
 unfold Jd
 suffices h : ∀ z : Int, hs.foldl (fun z p => z - p.2) z = z - (hs.map (·.2)).sum from h 1
 induction hs with
 | nil => intro z; show z = z - 0; omega
 | cons p r ih => intro z; rw [jJd, ih, xX, jKb]; omega
theorem Qch {xs ys : List Int} {n c : Nat} (h1 : xs.length = n) (h2 : ys.length = n) (hc : c < n) : Xi xs c = Xi ys c ↔ ∀ j, j < n → j ≠ c → xs.getD j 0 = ys.getD j 0 := by
 have e : ∀ zs : List Int, zs.length = n → Xi zs c = zs.set c 0 := fun zs hz => by
  unfold Xi
  rw [List.set_eq_take_append_cons_drop, if_pos (by omega)]
  simp
 rw [e xs h1, e ys h2]
 constructor
 ·intro h j hj hjc
  have := congrArg (fun l => l.getD j 0) h
  rw [Vq (by omega), Vq (by omega), if_neg hjc, if_neg hjc] at this
  exact this
 ·intro h
  refine List.ext_getElem (by rw [zX, zX]; omega) fun j a b => ?_
  rw [zX] at a b
  have key : (xs.set c 0).getD j 0 = (ys.set c 0).getD j 0 := by
   rw [Vq (by omega), Vq (by omega)]
   by_cases hjc : j = c
   ·rw [if_pos hjc, if_pos hjc]
   ·rw [if_neg hjc, if_neg hjc]; exact h j (by omega) hjc
  rw [jK, jK, gE (by rw [zX]; exact a), gE (by rw [zX]; exact b)] at key
  exact key
section
variable {P : Program} {w : World} {K : Fg} {mg : Str → Option Value} {base : Heap} {aT aL : Addr} {fT fL : Str → Option Value}
theorem scTold10 : FnScope ["_law_problem_here", "_law_best", "_law_tells", "_law_line_here", "_law_numbers", "_law_least", "_law_up", "_law_choice", "_law_held", "_law_one", "_law_other"] ["_law_problem_here", "_law_best", "_law_tells", "_law_line_here"] (Qf Qcg) := ⟨rfl, rfl, rfl, by decide +kernel, rfl, by decide +kernel, by decide +kernel⟩
theorem Qqy (F : Fn K mg "_law_told" Qcg) (M : Mg mg) (cl_named : Cal P w K mg base 1 "_law_named" ["_law_tells", "_law_line_here"] (Qgl K)) (cl_added : Cal P w K mg base 1 "_law_added" ["_law_tells", "_law_parts"] (Qgk K)) (cl_most : Cal P w K mg base 1 "_law_most" ["_law_row_here", "_law_holds_here"] (Qjl K)) (cl_simple : Cal P w K mg base 3 "_law_simple" ["_law_problem_here", "_law_best", "_law_line_here"] (Qcx K)) : Cal P w K mg base 4 "_law_told" ["_law_problem_here", "_law_best", "_law_tells", "_law_line_here"] (Qjq K) := by
 refine Xd F scTold10 (fun _ _ _ _ _ _ => Wr (fun _ _ _ _ => rfl)) (fun vs H Q E h => ?_) (fun f cdv A outer s H vs Q E hr h => ?_)
 ·obtain ⟨t, l, a, rs, cs, best, ws, told, ln, rfl, _⟩ := h
  rfl
 obtain ⟨t, l, a, rs, cs, best, ws, told, ln, rfl, J, hn, hm, hT, hok, qn, qs⟩ := h
 have hu6 : (A.deeper (PyProof.Rows.envOfC "_law_told" (Qf Qcg) s.heap.objs.size f cdv)).units + 6 < cLine := xZ (wW (by decide) _) hr.un
 refine ⟨_, (QSs.pss (Qp (Ze (Yh (Ya (Xj cl_named (hr.mono (by decide)) (Qa (pv 2) (Qa (pv 3) Qe))))) (Xc (Xt (QE.of Xy))) Xl)
  (Qp (Ze (Qq Yl (Qm Ql (pv 3) Qd (fun _ _ => rfl)) Yp (Qs _)) (Xc (Xt (QE.of (Xj cl_added (hr.mono (by decide)) (Qa (pv 2) (Qa (Qm Ql (pv 3) Qd (fun _ _ => rfl)) Qe)))))) Xl)
  (Qp (Ze (Qq Yl (Qm Ql (pv 3) Qd (fun _ _ => rfl)) Yp (Qs _)) (Qp (Qbv (QE.of (Qm Qw (pv 2) (Qm Ql (pv 3) Qd (fun _ _ => rfl)) (fun _ _ => rfl))) (Zi (K := K) (i := 4) (j := 5) rfl rfl scTold10.nd rfl rfl rfl rfl))
  (Qp (Ze (Qq (Qjh (K := K) (n := 6) rfl hu6) (Jr ["_law_number", "_law_line_here"] [none, some 3] rfl (Qac (pv 4)) (fun _ _ _ => (Xe (i := 0) (show (["_law_number", "_law_line_here"] : List Str).Nodup by decide +kernel) rfl (Or.inl rfl) (Or.inr rfl))) (fun _ _ _ => (Qrq (Qq Qcy (Qr Xn (pv 0) (Qm (Wp (K := K) rfl) (pv 1) Qd (fun _ _ => rfl))) Qd (Qs _)))) (fun _ _ _ => (pv 0))) (QE.pe (Vf Xs)) (Qs _)) (Xc (Xt (QE.of Xy))) Xl)
  (Qp (Yw (i := 6) scTold10.nd rfl (Or.inl rfl) (QE.of (Qr Xr (Qr Wb (pv 5) (Qm Ql (pv 3) Qd (fun _ _ => rfl))) (Qz Qls rfl M.int_ Qmn (Qa (Yg Qcy (Qr Xn (pv 5) (Qm Ql (pv 3) Qd (fun _ _ => rfl))) Qd (Qs _)) Qe)))))
  (Xc (Xt (Yo (Ja (QE.of (Qz Qy rfl M.tuple_ Xo (Qa (Jr ["_law_number", "_law_line_here"] [none, some 3] rfl (Qac (pv 4)) (fun _ _ _ => (Xe (i := 0) (show (["_law_number", "_law_line_here"] : List Str).Nodup by decide +kernel) rfl (Or.inl rfl) (Or.inr rfl))) (fun _ _ _ => Yt) (fun _ _ _ => (Qr Wb (pv 0) (Qm (Wp (K := K) rfl) (pv 1) Qd (fun _ _ => rfl))))) Qe))) (Zd (QE.of (pv 6)) Xs)))))))) Xl)
  (Qp (Ze (Qq Yl (Qm Ql (pv 3) Qd (fun _ _ => rfl)) Yp (Qs _)) (Qp (Ze (Qq Qlr (Xj cl_most (hr.mono (by decide)) (Qa (Qm Qw (pv 2) (Qm Ql (pv 3) Qd (fun _ _ => rfl)) (fun _ _ => rfl)) (Qa (Qm Ql (pv 3) Qd (fun _ _ => rfl)) Qe))) (Qm Ql (Qm Qw (pv 2) (Qm Ql (pv 3) Qd (fun _ _ => rfl)) (fun _ _ => rfl)) Qd (fun _ _ => rfl)) (Qs _)) (Xc (Xt (QE.of Xy))) Xl)
  (Qp (Yw (i := 4) scTold10.nd rfl (Or.inl rfl) (QE.of (Qr Vd (QE.pe (Vf (Xb (QE.of Qd) Xs))) (Qk Qi rfl M.len Xf (Qa (Qm Ql (pv 0) Qd (fun _ _ => rfl)) Qe)))))
  (Qp (QS.of (Yq PassesOwn.never rfl (Yk (Qm Ql (pv 3) Qd (fun _ _ => rfl))) (Zi (K := K) (i := 7) (j := 8) rfl rfl scTold10.nd rfl rfl rfl rfl) (QSs.pss (Xc (Qbv (QE.of (Qm Qw (QE.pe (Vf (Xb (QE.of Qd) (Qcs (QE.of (Vi Zw Qd)) Xs)))) (pv 8) (fun _ _ => rfl))) (Jp (pv 4) (pv 7) set_list))))))
  (Xc (Xt (Yo (Ja (QE.of (Qz Qy rfl M.tuple_ Xo (Qa (pv 4) Qe))) (Jw (QE.of (Qr Zv Qd (Qk (Qmj rfl) rfl M.sum bt_sum (Qa (Jr ["_law_choice", "_law_held"] [none, none] rfl (Yk (Qm Ql (pv 3) Qd (fun _ _ => rfl))) (fun _ _ _ => (Zi (K := K) (i := 0) (j := 1) rfl rfl (show (["_law_choice", "_law_held"] : List Str).Nodup by decide +kernel) rfl rfl rfl rfl)) (fun _ _ _ => Yt) (fun _ _ _ => (pv 1))) Qe)))) Xs)))))))) Xl)
  (Qp (Ze (Qq Yl (Qm Ql (pv 3) Qd (fun _ _ => rfl)) Yp (Qs _)) (Qp (QS.of (ps_par (i := 9) (j := 10) rfl scTold10.nd rfl rfl (by decide) rfl rfl (Qa (Qm Qw (pv 2) (Qm Ql (pv 3) Qd (fun _ _ => rfl)) (fun _ _ => rfl)) (Qa (Qm Qw (pv 2) (Qm Ql (pv 3) Qd (fun _ _ => rfl)) (fun _ _ => rfl)) Qe)) rfl))
  (Qp (Yw (i := 4) scTold10.nd rfl (Or.inl rfl) (QE.of (Qz Zl rfl M.list_ Zy (Qa (Qm Ql (pv 9) Qd (fun _ _ => rfl)) Qe))))
  (Qp (Ze (Qq Qlr (Qm Ql (pv 3) Qd (fun _ _ => rfl)) (Qk Qi rfl M.len Xf (Qa (pv 4) Qe)) (Qs _)) (Xc (Xt (QE.of Xy))) Xl)
  (Qp (QS.of (Yq PassesOwn.never rfl (Xz rfl M.range_ (Qa (Qk Qi rfl M.len Xf (Qa (pv 4) Qe)) Qe)) (Xe (i := 7) scTold10.nd rfl (Or.inl rfl) (Or.inl rfl)) (QSs.pss (Xc (Ze (PW.pt (Kc (Qq Qcy (pv 7) (Qm Ql (pv 3) Qd (fun _ _ => rfl)) (Qs _)) (Jl (Qq Qcy (Qm Qw (pv 4) (pv 7) (fun _ _ => rfl)) (Qm Ql (Qm Ql (pv 10) Qd (fun _ _ => rfl)) (pv 7) (fun _ _ => rfl)) (Qs _))))) (Xc (Xt (QE.of Xy))) Xl)))))
  (Qp (Qbv (QE.of Qd) (Jp (pv 4) (Qm Ql (pv 3) Qd (fun _ _ => rfl)) set_list))
  (Xc (Xt (Yo (Ja (QE.of (Qz Qy rfl M.tuple_ Xo (Qa (pv 4) Qe))) (Ja (QE.of (Qk (Vs rfl) rfl M.min Qig (Qa (Qr Zv (Qm Ql (pv 9) Qd (fun _ _ => rfl)) (Qm Ql (Qm Ql (pv 9) Qd (fun _ _ => rfl)) (Qm Ql (pv 3) Qd (fun _ _ => rfl)) (fun _ _ => rfl))) (Qa (Qm Ql (pv 10) Qd (fun _ _ => rfl)) Qe)))) Xs)))))))))) Xl)
  (Xc (Xt (QE.of (Xj cl_simple (hr.mono (by decide)) (Qa (pv 0) (Qa (pv 1) (Qa (pv 3) Qe))))))))))))), ?_⟩
 refine Qis ?_
 intro rT6 rT5 rT4 rT3 rT2
 have hz : (1000 : Nat) < sizeLine := by decide
 obtain ⟨l0, c0, us0, ht, hl0, hrw0, hc0⟩ := id J.prob
 have lw := J.rows.length
 have lc : (cs.map V.int).length = cs.length := jQ ..
 obtain ⟨vr, hla, hvr⟩ := Qhq hT
 refine ⟨_, rfl, _, rfl, l, a, ws, cs.length, ln, rfl, J.lst, hT, hok, hn, fun H1 s1 => ⟨_, rfl, ?_⟩⟩
 rw [lw]
 cases hnm : nmB told.length ln with
 | false => exact iteT (qn (Qqx hok hnm) H1 s1)
 | true =>
  refine iteF ?_
  have hla1 := s1.tup hla
  have hvr1 := hvr.same s1
  have J1 := J.same s1
  have ht1 := s1.tup ht
  have hc1 := s1.tup hc0
  have hT1 := hT.same s1
  have qn1 := fun e H' s' => qn e H' (s1.trans s')
  have qs1 := fun r e t' H' s' => qs r e t' H' (s1.trans s')
  refine ⟨_, rfl, a, _, _, _, rfl, rfl, hla1, atZ, rfl, _, rfl, ite2 (fun c => ?_) (fun c => ?_)⟩
  ·obtain ⟨ps, rfl⟩ := Qsd (eqStr c)
   obtain ⟨v, rfl, hv⟩ := hvr1.one_inv
   obtain ⟨pl, us, rfl, hpl, hlen, hgl⟩ := hv.lst_inv
   have hpa := Qjm hlen hgl
   obtain ⟨h0, h3, hb⟩ := hok
   have hall : ∀ p ∈ ps, p.1 < told.length := fun p hp => yX (xW.mp hnm p hp)
   exact ⟨_, rfl, _, rfl, a, _, _, _, rfl, rfl, hla1, at1', l, pl, ws, us, told, ps, cs.length, rfl, J1.lst, J1.rows, J.tl, by omega, hpl, hpa, h0, fun p hp => ⟨hall p hp, (hb p hp).2⟩, fun t' H2 s2 hr' => qs1 _ (Qod h0 hall) t' H2 s2 hr'⟩
  have n1 := Qcf c
  refine ⟨_, rfl, a, _, _, _, rfl, rfl, hla1, atZ, rfl, _, rfl, ite2 (fun c => ?_) (fun c => ?_)⟩
  ·obtain ⟨k, b, rfl⟩ := Qjn (eqStr c)
   obtain ⟨v, w', rfl, hv, hw⟩ := hvr1.two_inv
   cases hv
   cases hw
   obtain ⟨_, hb1, hb4⟩ := hok
   have hk : k < told.length := yX hnm
   obtain ⟨ar, ea, hra, hrl'⟩ := J1.row hk
   rw [Qoe hb1] at qn1 qs1
   obtain ⟨p, r1, r2⟩ := id hra
   generalize rowK told k = r at *
   have pb : (0 : Int) < (b : Int) := by omega
   have big : Big (b : Int) := xZ (show ((b : Nat) : Int).natAbs ≤ 4 by omega) (by decide +kernel)
   refine ⟨_, rfl, _, rfl, a, _, _, _, rfl, rfl, hla1, at1', l, _, _, _, rfl, rfl, J1.lst, Xx ea, ?_⟩
   refine ⟨ar, _, rfl, r1, rfl, _, _, rfl, _, _, rfl, rfl, ?_⟩
   refine ⟨_, rfl, p, rfl, ⟨_, r2⟩, fun D hD => ?_⟩
   let Pv1 : Nat → St → List V → Hp → Prop := fun i τ ys H2 => ∃ v : Option V, τ = [v, some (.ref a)] ∧ ys = ((r.1.take i).filter fun x => !decide (x % (b : Int) = 0)).map V.int ∧ H2 D = some (.lst ys) ∧ Same H1 H2
   refine Ym (n := r.1.length) Pv1 ?_ (fun i τ ys H2 hi h => ?_) (fun i τ ys H2 hi h => ?_) (fun τ ys H2 h => ?_) ?_ ?_
   ·exact ⟨none, rfl, rfl, Qc, Qb hD _⟩
   ·obtain ⟨v, rfl, rfl, hD2, s2⟩ := h
    have h2 := List.length_filter_le (fun x => !decide (x % (b : Int) = 0)) (r.1.take i)
    rw [kW] at h2
    exact ⟨hD2, by rw [jQ]; omega⟩
   ·obtain ⟨v, rfl, rfl, hD2, s2⟩ := h
    exact ⟨_, .int r.1[i], s2.tup r2, by rw [jY, gE hi]; rfl⟩
   ·obtain ⟨v, rfl, rfl, hD2, s2⟩ := h
    exact ⟨_, s2.tup r2, by rw [jQ]; exact jZ _⟩
   ·rintro i τ ys H2 x H3 hi ⟨v, rfl, rfl, hD2, s2⟩ ⟨rfl, e1⟩
    obtain ⟨z, ez, rfl⟩ := Yn (e1 _ (s2.tup r2))
    have es := Qhr (f := fun x => !decide (x % (b : Int) = 0)) ez
    refine ⟨_, rfl, _, rfl, a, _, _, _, rfl, rfl, s2.tup hla1, at2', _, _, rfl, rfl, pb, rfl, _, rfl, ?_⟩
    rw [Kr]
    cases hd : (!decide (z % (b : Int) = 0)) with
    | true =>
     rw [hd, if_pos rfl] at es
     refine iteT ⟨_, rfl, hD2, _, rfl, ?_, Qc, fun b' o e => ?_⟩
     ·rw [es, kX]; rfl
     ·rw [Qo (Qh e hD)]; exact s2 _ _ e
    | false =>
     rw [hd, if_neg kY, kXa] at es
     refine iteF ⟨_, rfl, ?_, hD2, s2⟩
     rw [es]
   rintro τ ys H2 ⟨v, rfl, rfl, hD2, s2⟩
   rw [wQ] at hD2
   refine ⟨by show 0 ≤ sizeLine; decide, fun e0 fe0 => ⟨D, e0, _, rfl, rfl, Qj ((Qb fe0 _) _ _ hD2), Qj Qc, _, rfl, ?_⟩⟩
   have s3 := s2.trans (Qb fe0 (.lst []))
   generalize upd H2 e0 (.lst []) = H3 at s3 ⊢
   by_cases hd : divides r (b : Int) = true
   ·have hall : ∀ x ∈ r.1, x % (b : Int) = 0 := fun x hx => yX (xW.mp hd x hx)
    have ef : (r.1.filter fun x => !decide (x % (b : Int) = 0)) = [] := List.filter_eq_nil_iff.mpr fun x hx => by rw [jW (hall x hx)]; decide
    rw [ef]
    refine iteF ?_
    refine ⟨_, rfl, _, rfl, a, _, _, _, rfl, rfl, s3.tup hla1, at2', _, _, rfl, rfl, ⟨by omega, big⟩, _, rfl, _, rfl, a, _, _, _, rfl, rfl, s3.tup hla1, at2', _, _, rfl, rfl, pb, rfl, .inr ⟨_, rfl, _, _, rfl, rfl, ?_⟩⟩
    rw [Kr]
    have eup := Qse (l := r.2) pb
    refine ⟨_, rfl, p, rfl, ⟨_, s3.tup r2⟩, fun D2 hD2' => ?_⟩
    let Pv2 : Nat → St → List V → Hp → Prop := fun i τ ys H4 => ∃ v : Option V, τ = [v, some (.ref a)] ∧ ys = ((r.1.map fun x => -((-x).fdiv (b : Int))).take i).map V.int ∧ H4 D2 = some (.lst ys) ∧ Same H3 H4
    refine Ym (n := r.1.length) Pv2 ?_ (fun i τ ys H4 hi h => ?_) (fun i τ ys H4 hi h => ?_) (fun τ ys H4 h => ?_) ?_ ?_
    ·exact ⟨none, rfl, rfl, Qc, Qb hD2' _⟩
    ·obtain ⟨v, rfl, rfl, hD4, s4⟩ := h
     exact ⟨hD4, by rw [jQ, kW, jQ]; omega⟩
    ·obtain ⟨v, rfl, rfl, hD4, s4⟩ := h
     exact ⟨_, .int r.1[i], (s3.trans s4).tup r2, by rw [jY, gE hi]; rfl⟩
    ·obtain ⟨v, rfl, rfl, hD4, s4⟩ := h
     exact ⟨_, (s3.trans s4).tup r2, by rw [jQ]; exact jZ _⟩
    ·rintro i τ ys H4 x H5 hi ⟨v, rfl, rfl, hD4, s4⟩ ⟨rfl, e1⟩
     obtain ⟨z, ez, rfl⟩ := Yn (e1 _ ((s3.trans s4).tup r2))
     refine ⟨_, rfl, _, rfl, a, _, _, _, rfl, rfl, (s3.trans s4).tup hla1, at2', _, _, rfl, rfl, ⟨by omega, big⟩, hD4, _, rfl, ?_, Qc, fun b' o e => ?_⟩
     ·rw [Zz (show (r.1.map fun x => -((-x).fdiv (b : Int)))[i]? = some (-((-z).fdiv (b : Int))) by rw [jY, ez]; rfl), kX, ← ex_div pb (hall z (kK ez))]
      rfl
     ·rw [Qo (Qh e hD2')]; exact s4 _ _ e
    ·rintro τ ys H4 ⟨v, rfl, rfl, hD4, s4⟩
     rw [zQ (by rw [jQ]; exact jZ _)] at hD4
     refine ⟨D2, _, rfl, .inl ⟨Qj hD4, fun l2 hl2 => ⟨_, rfl, by show 2 ≤ sizeLine; decide, fun t' ht' => ?_⟩⟩⟩
     refine qs1 _ (if_pos ⟨hk, hd⟩) t' _ (((s3.trans s4).trans (Qb hl2 _)).trans (Qb ht' _)) ?_
     have := Jm (K := K) (H := H4) (l := l2) (t := t') (ns := r.1.map fun x => -((-x).fdiv (b : Int))) (z := -((-r.2).fdiv (b : Int))) ht'
     rw [← eup] at this
     rw [show Wf r (b : Int) = (r.1.map fun x => -((-x).fdiv (b : Int)), r.2.fdiv (b : Int) + (if (!decide (r.2 % (b : Int) = 0)) = true then 1 else 0)) from Prod.ext rfl eup.symm]
     exact this
   ·have ef : (r.1.filter fun x => !decide (x % (b : Int) = 0)) ≠ [] := fun z => hd (xW.mpr fun x hx => by
     have := List.filter_eq_nil_iff.mp z x hx
     simpa using this)
    have : (((r.1.filter fun x => !decide (x % (b : Int) = 0)).map V.int).isEmpty) = false := by
     cases hh : (r.1.filter fun x => !decide (x % (b : Int) = 0)) with
     | nil => exact absurd hh ef
     | cons _ _ => rfl
    rw [this]
    exact iteT (qn1 (if_neg fun z => hd z.2) H3 s3)
  have n2 := Qcf c
  refine ⟨_, rfl, a, _, _, _, rfl, rfl, hla1, atZ, rfl, _, rfl, ite2 (fun c => ?_) (fun c => ?_)⟩
  ·obtain ⟨k, hs, rfl⟩ := Qoj (eqStr c)
   obtain ⟨v, w', rfl, hv, hw⟩ := hvr1.two_inv
   cases hv
   obtain ⟨_, hho, hl5⟩ := hok
   have hk : k < told.length := yX hnm
   obtain ⟨ar, ea, hra, hrl'⟩ := J1.row hk
   rw [Qsa hho] at qn1 qs1
   obtain ⟨al, vs2, rfl, hal, hall, hgl⟩ := hw.lst_inv
   obtain ⟨hpa, hok2⟩ := Wv (n := cs.length) hall hgl (Qhp hho)
   rw [jQ] at hall
   obtain ⟨p, r1, r2⟩ := id hra
   generalize rowK told k = r at *
   refine ⟨_, rfl, _, rfl, a, _, _, _, rfl, rfl, hla1, at1', l, _, _, _, rfl, rfl, J1.lst, Xx ea, _, rfl, a, _, _, _, rfl, rfl, hla1, at2', ar, al, r, hs, rfl, hra, ⟨vs2, hal, hpa⟩, by omega, hho.w, by omega, fun H2 s2 => ?_⟩
   refine ⟨_, rfl, _, rfl, a, _, _, _, rfl, rfl, s2.tup hla1, at1', l, _, _, _, rfl, rfl, s2.seq J1.lst, Xx ea, ar, _, _, _, rfl, rfl, s2.tup r1, at1, _, _, rfl, rfl, _, rfl, ite2 (fun c => ?_) (fun c => ?_)⟩
   ·have c' : r.2 ≤ Qak r hs := yX c
    exact qn1 (if_neg fun z => by have := z.2; omega) H2 s2
   have c' : Qak r hs < r.2 := by
    have : ¬ r.2 ≤ Qak r hs := fun z => c (jW z)
    omega
   have qs2 := qs1 _ (if_pos ⟨hk, c'⟩)
   have hok3 : ∀ p ∈ hs, 0 ≤ p.1 ∧ p.1 < (cs.length : Int) ∧ (p.2 = 0 ∨ p.2 = 1) := fun p hp => ⟨(hho.lt p hp).1, (hho.lt p hp).2, hho.w p hp⟩
   refine ⟨by show 1 ≤ sizeLine; decide, fun p0 hp0 => ?_⟩
   have sA := s2.trans (Qb hp0 (.lst [.int 0]))
   refine ⟨_, rfl, t, _, _, _, rfl, rfl, sA.tup ht1, at1, c0, _, rfl, .inr (sA.tup hc1), ?_⟩
   rw [lc]
   generalize hnn : cs.length = n at qs2 hok3 hn hall ⊢
   refine ⟨p0, (n : Int), _, rfl, rfl, Qc, by omega, by omega, by show 1 * ((n : Int)).toNat ≤ sizeLine; omega, fun g0 hg0 => ?_⟩
   have e0 : (List.replicate ((n : Int)).toNat [V.int 0]).flatten = (List.replicate n (0 : Int)).map V.int := rep0 n
   rw [e0]
   have s0 : Same H1 (upd (upd H2 p0 (.lst [.int 0])) g0 (.lst ((List.replicate n (0 : Int)).map V.int))) := sA.trans (Qb hg0 _)
   have gH : H1 g0 = none := by
    cases e5 : H1 g0 with
    | none => rfl
    | some o => rw [sA _ _ e5] at hg0; cases hg0
   have hg : upd (upd H2 p0 (.lst [.int 0])) g0 (.lst ((List.replicate n (0 : Int)).map V.int)) g0 = some (.lst ((List.replicate n (0 : Int)).map V.int)) := Qc
   generalize upd (upd H2 p0 (.lst [.int 0])) g0 (.lst ((List.replicate n (0 : Int)).map V.int)) = H0 at s0 hg ⊢
   let Pv3 : Nat → St → Hp → Prop := fun i σ H3 => ∃ u v : Option V, σ = [some (.ref t), some (Ks best), some (.ref l), some (.ref a), some (.ref g0), none, none, u, v, none, none] ∧ H3 g0 = some (.lst ((Yb n (hs.take i)).map V.int)) ∧ (Yb n (hs.take i)).length = n ∧ Same H1 H3
   refine ⟨_, rfl, a, _, _, _, rfl, rfl, s0.tup hla1, at2', al, rfl, ⟨_, s0.seq hal⟩, Ju (K := K) (a := al) (xs := vs2) Pv3 ⟨none, none, rfl, hg, xQ .., s0⟩ (fun i σ H3 _ h => ?_) ?_ ?_⟩
   ·obtain ⟨u, v, rfl, hg1, hl1, s3⟩ := h
    exact s3.seq hal
   ·rintro i x σ H3 e1 ⟨u, v, rfl, hg1, hl1, s3⟩
    obtain ⟨T, pr, rfl, ep, hT'⟩ := hpa.get e1
    rw [jY] at ep
    obtain ⟨⟨cc, w⟩, ec, rfl⟩ := yY.mp ep
    obtain ⟨k1, k2, k3⟩ := hok3 (cc, w) (kK ec)
    have k1' : 0 ≤ cc := k1
    have k2' : cc < (n : Int) := k2
    have k3' : w = 0 ∨ w = 1 := k3
    have eN : Yb n (hs.take (i + 1)) = (Yb n (hs.take i)).set cc.toNat (1 - 2 * w) := by unfold Yb; rw [Zz ec, jZe]; rfl
    refine ⟨T, _, rfl, s3.tup hT', rfl, _, _, rfl, _, _, rfl, rfl, ?_⟩
    have ew : atI [V.int 1, V.int (-1)] w = some (.int (1 - 2 * w)) := by rcases k3' with z | z <;> subst z <;> rfl
    refine ⟨_, rfl, by show 2 ≤ sizeLine; decide, fun pq hpq => ⟨_, rfl, pq, _, _, _, rfl, rfl, Qj Qc, ew, ?_⟩⟩
    have s4 := Qb hpq (.lst [V.int 1, V.int (-1)])
    refine ⟨_, rfl, _, rfl, g0, _, _, cc.toNat, rfl, rfl, s4 _ _ hg1, by rw [show cc = ((cc.toNat : Nat) : Int) by omega]; exact Vl (by rw [jQ, hl1]; omega), ?_⟩
    refine ⟨some (.int cc), some (.int w), rfl, ?_, ?_, fun b o e => ?_⟩
    ·rw [Qc, eN, ← Je]
    ·rw [eN, zX]; exact hl1
    ·rw [Qo (Qh e gH)]; exact s4 _ _ (s3 _ _ e)
   ·rintro σ H3 ⟨u, v, rfl, hg1, hl1, s3⟩
    have lpa := hpa.length
    rw [jQ] at lpa
    have eT : hs.take vs2.length = hs := by rw [lpa, wQ]
    rw [eT] at hg1
    refine ⟨_, rfl, g0, _, rfl, .inl ⟨Qj hg1, fun l2 hl2 => ?_⟩⟩
    have s4 := s3.trans (Qb hl2 (.tup ((Yb n hs).map V.int)))
    have hl2' : upd H3 l2 (.tup ((Yb n hs).map V.int)) l2 = some (.tup ((Yb n hs).map V.int)) := Qc
    generalize upd H3 l2 (.tup ((Yb n hs).map V.int)) = H4 at s4 hl2' ⊢
    refine ⟨_, rfl, a, _, _, _, rfl, rfl, s4.tup hla1, at2', al, rfl, ⟨_, s4.seq hal⟩, fun D hD => ?_⟩
    let Pv4 : Nat → St → List V → Hp → Prop := fun i τ ys H5 => ∃ u v : Option V, τ = [u, v] ∧ ys = ((hs.map (·.2)).take i).map V.int ∧ H5 D = some (.lst ys) ∧ Same H4 H5
    refine Ym (n := vs2.length) Pv4 ?_ (fun i τ ys H5 hi h => ?_) (fun i τ ys H5 hi h => ?_) (fun τ ys H5 h => ?_) ?_ ?_
    ·exact ⟨none, none, rfl, rfl, Qc, Qb hD _⟩
    ·obtain ⟨u, v, rfl, rfl, hD1, s5⟩ := h
     exact ⟨hD1, by rw [jQ, kW]; omega⟩
    ·obtain ⟨u, v, rfl, rfl, hD1, s5⟩ := h
     exact ⟨vs2, vs2[i], (s4.trans s5).seq hal, gE hi⟩
    ·obtain ⟨u, v, rfl, rfl, hD1, s5⟩ := h
     exact ⟨vs2, (s4.trans s5).seq hal, jZ _⟩
    ·rintro i τ ys H5 x H6 hi ⟨u, v, rfl, rfl, hD1, s5⟩ ⟨rfl, e1⟩
     obtain ⟨T, pr, rfl, ep, hT'⟩ := hpa.get (e1 _ ((s4.trans s5).seq hal))
     rw [jY] at ep
     obtain ⟨⟨cc, w⟩, ec, rfl⟩ := yY.mp ep
     refine ⟨T, _, rfl, (s4.trans s5).tup hT', rfl, _, _, rfl, _, _, rfl, rfl, ?_⟩
     refine ⟨_, rfl, hD1, _, _, rfl, ?_, Qc, fun b o e => ?_⟩
     ·rw [Zz (show (hs.map (·.2))[i]? = some w by rw [jY, ec]; rfl), kX]; rfl
     ·rw [Qo (Qh e hD)]; exact s5 _ _ e
    ·rintro τ ys H5 ⟨u, v, rfl, rfl, hD1, s5⟩
     rw [zQ (by rw [jQ]; omega)] at hD1
     refine ⟨D, _, rfl, Qj hD1, _, _, rfl, rfl, by show 2 ≤ sizeLine; decide, fun t' ht' => ?_⟩
     refine qs2 t' _ ((s4.trans s5).trans (Qb ht' _)) ⟨l2, Xa ?_, Xa ?_⟩
     ·rw [Qc, Qed]
     ·rw [Qo (Qh (s5 _ _ hl2') ht')]; exact s5 _ _ hl2'
  have n3 := Qcf c
  refine ⟨_, rfl, a, _, _, _, rfl, rfl, hla1, atZ, rfl, _, rfl, ite2 (fun c => ?_) (fun c => ?_)⟩
  ·obtain ⟨i, j, ch, rfl⟩ := Qgm (eqStr c)
   obtain ⟨v, w', x, rfl, hv, hw, hx⟩ := hvr1.three_inv
   cases hv
   cases hw
   cases hx
   have hnm' : (decide (i < told.length) && decide (j < told.length)) = true := hnm
   rw [zV] at hnm'
   have hi := yX hnm'.1
   have hj := yX hnm'.2
   obtain ⟨a1, ea1, hra1, hrl1⟩ := J1.row hi
   obtain ⟨a2, ea2, hra2, hrl2⟩ := J1.row hj
   rw [Qji] at qn1 qs1
   obtain ⟨p1, r11, r12⟩ := id hra1
   obtain ⟨p2, r21, r22⟩ := id hra2
   generalize rowK told i = one at *
   generalize rowK told j = other at *
   refine ⟨_, rfl, _, rfl, a, _, _, _, rfl, rfl, hla1, at1', l, _, _, _, rfl, rfl, J1.lst, Xx ea1, _, rfl, _, rfl, a, _, _, _, rfl, rfl, hla1, at2', l, _, _, _, rfl, rfl, J1.lst, Xx ea2, _, _, rfl, ?_⟩
   refine ⟨_, rfl, a1, _, _, _, rfl, rfl, r11, at0, p1, _, rfl, .inr r12, fun g0 hg0 => ?_⟩
   have s2 := Qb hg0 (.lst (one.1.map V.int))
   have hg : upd H1 g0 (.lst (one.1.map V.int)) g0 = some (.lst (one.1.map V.int)) := Qc
   generalize upd H1 g0 (.lst (one.1.map V.int)) = H2 at s2 hg ⊢
   have l1 : (one.1.map V.int).length = cs.length := by rw [jQ]; exact hrl1
   refine ⟨_, rfl, a, _, _, _, rfl, rfl, s2.tup hla1, at3', _, rfl, g0, _, rfl, .inl (Qj hg), _, _, rfl, rfl, _, rfl, ite2 (fun c => ?_) (fun c => ?_)⟩
   ·have c' : (((one.1.map V.int).length : Nat) : Int) ≤ (ch : Int) := yX c
    exact qn1 (if_neg fun z => by have := z.2.2.1; omega) H2 s2
   have hch : ch < cs.length := by
    have : ¬ (((one.1.map V.int).length : Nat) : Int) ≤ (ch : Int) := fun z => c (jW z)
    omega
   refine ⟨_, rfl, g0, _, rfl, .inl (Qj hg), ?_⟩
   rw [l1]
   let Pv5 : Nat → St → Hp → Prop := fun k σ H3 => (∃ u : Option V, σ = [some (.ref t), some (Ks best), some (.ref l), some (.ref a), some (.ref g0), none, none, u, none, some (.ref a1), some (.ref a2)]) ∧ (∀ m, m < k → m ≠ ch → one.1.getD m 0 = other.1.getD m 0) ∧ H3 = H2
   refine ⟨_, rfl, by omega, by omega, Yd (lo := 0) (n := ((cs.length : Nat) : Int).toNat) Pv5 ⟨⟨none, rfl⟩, (fun m hm => absurd hm (Nat.not_lt_zero _)), rfl⟩ ?_ ?_⟩
   ·rintro k σ H3 hk ⟨⟨u, rfl⟩, hco, rfl⟩
    have hk' : k < cs.length := by omega
    have b1 : atI (one.1.map V.int) (0 + (k : Int)) = some (.int (one.1.getD k 0)) := by rw [show (0 : Int) + (k : Int) = ((k : Nat) : Int) by omega]; exact atK6 (by omega)
    have b2 : atI (other.1.map V.int) (0 + (k : Int)) = some (.int (other.1.getD k 0)) := by rw [show (0 : Int) + (k : Int) = ((k : Nat) : Int) by omega]; exact atK6 (by omega)
    refine ⟨_, rfl, _, rfl, a, _, _, _, rfl, rfl, s2.tup hla1, at3', rfl, _, rfl, ?_⟩
    rw [Kr]
    have go : one.1.getD k 0 = other.1.getD k 0 ∨ k = ch → ∀ m, m < k + 1 → m ≠ ch → one.1.getD m 0 = other.1.getD m 0 := fun e m hm hmc => by
     by_cases z : m < k
     ·exact hco m z hmc
     ·have : m = k := by omega
      subst this
      rcases e with e | e
      ·exact e
      ·exact absurd e hmc
    by_cases hkc : (0 : Int) + (k : Int) = (ch : Int)
    ·rw [jW hkc]
     exact iteF (iteF ⟨⟨_, rfl⟩, go (.inr (by omega)), rfl⟩)
    ·rw [yQ hkc]
     refine iteT ⟨_, rfl, _, rfl, g0, _, _, _, rfl, rfl, Qj hg, b1, _, rfl, a2, _, _, _, rfl, rfl, s2.tup r21, at0, _, rfl, p2, _, _, _, rfl, rfl, s2.tup r22, b2, rfl, _, rfl, ?_⟩
     rw [Kr]
     by_cases e : one.1.getD k 0 = other.1.getD k 0
     ·rw [jW e]
      exact iteF ⟨⟨_, rfl⟩, go (.inl e), rfl⟩
     ·rw [yQ e]
      refine iteT (qn1 (if_neg fun z => e ((Qch hrl1 hrl2 hch).mp z.2.2.2 k hk' fun y => hkc (by omega))) H3 s2)
   ·rintro σ H3 ⟨⟨u, rfl⟩, hco, rfl⟩
    rw [show ((cs.length : Nat) : Int).toNat = cs.length by omega] at hco
    have hw := (Qch hrl1 hrl2 hch).mpr hco
    have qs2 := qs1 _ (if_pos ⟨hi, hj, hch, hw⟩)
    have e1 : Xi one.1 ch = one.1.set ch 0 := by
     unfold Xi
     rw [List.set_eq_take_append_cons_drop, if_pos (by omega)]
     simp
    refine ⟨_, rfl, _, rfl, a, _, _, _, rfl, rfl, s2.tup hla1, at3', g0, _, _, ch, rfl, rfl, hg, Vl (by omega), ?_⟩
    rw [Je]
    have s3 : Same H1 (upd H3 g0 (.lst ((one.1.set ch 0).map V.int))) := fun b o e => by rw [Qo (Qh e hg0)]; exact s2 _ _ e
    have hg3 : upd H3 g0 (.lst ((one.1.set ch 0).map V.int)) g0 = some (.lst ((one.1.set ch 0).map V.int)) := Qc
    generalize upd H3 g0 (.lst ((one.1.set ch 0).map V.int)) = H4 at s3 hg3 ⊢
    refine ⟨_, rfl, g0, _, rfl, .inl ⟨Qj hg3, fun l2 hl2 => ?_⟩⟩
    have s4 := s3.trans (Qb hl2 (.tup ((one.1.set ch 0).map V.int)))
    refine ⟨_, rfl, a1, _, _, _, rfl, rfl, s4.tup r11, at1, _, rfl, a1, _, _, _, rfl, rfl, s4.tup r11, at0, _, rfl, a, _, _, _, rfl, rfl, s4.tup hla1, at3', p1, _, _, _, rfl, rfl, s4.tup r12, atK6 (by omega), _, _, rfl, rfl, _, rfl, a2, _, _, _, rfl, rfl, s4.tup r21, at1, _, _, rfl, by show 2 ≤ sizeLine; decide, fun t' ht' => ?_⟩
    refine qs2 t' _ (s4.trans (Qb ht' _)) ?_
    have := Jm (K := K) (H := H4) (l := l2) (t := t') (ns := one.1.set ch 0) (z := if other.2 < one.2 - one.1.getD ch 0 then other.2 else one.2 - one.1.getD ch 0) ht'
    rw [show Kq one other ch = (one.1.set ch 0, if other.2 < one.2 - one.1.getD ch 0 then other.2 else one.2 - one.1.getD ch 0) from Prod.ext e1 rfl]
    exact this
  have n4 := Qcf c
  exact ⟨_, rfl, _, rfl, _, rfl, t, a, rs, cs, best, told, ln, rfl, J1.prob, J.rl, hn, hm, hT1, hok, n1, n2, n3, n4, qn1, qs1⟩
end
abbrev Qaw : Stmt := top 61
theorem Qci {rs : List Rw} {cs : List Int} {best : Option Int} (more : List Dt) : ∀ (ds : List Dt) (acc : List Rw), (Xm rs cs best ds acc).length = acc.length + ds.length → Xm rs cs best (ds ++ more) acc = Xm rs cs best more (Xm rs cs best ds acc)
 | [], acc, _ => rfl
 | d :: ds, acc, h => by
  cases e : rowT rs cs best acc d with
  | none => rw [Jj e] at h; simp at h
  | some row =>
   rw [Za e] at h
   rw [List.cons_append, Za e, Za e]
   refine Qci more ds (acc ++ [row]) ?_
   rw [h, kZ]
   simp only [yV, jQb]
   omega
def Qgn (K : Fg) : Sp := fun vs H Q _ => ∃ (l t : Addr) (ds : List Int) (rs : List Rw) (cs : List Int) (best : Option Int), vs = [.ref l, .ref t, Ks best] ∧ Dr K H l ds ∧ ds.length = 230 ∧ ProbAt K H t rs cs ∧ (∀ r ∈ rs, r.1.length = cs.length) ∧ cs.length ≤ 5 ∧ rs.length ≤ 10 ∧
 ∀ (pr P T : Addr) (us ws : List V) (lns : List Ln) (H' : Hp), Same H H' → SqT K H' pr [.ref P, .ref T] → H' P = some (.lst us) → HasTs K H' us (lns.map lnD) → (∀ ln ∈ lns, LnOk cs.length ln) → H' T = some (.lst ws) → RowsAre K H' ws (Xm rs cs best (lns.map lnD) []) → lns.length ≤ 21 → Q (.ref pr) H'
section
variable {P : Program} {w : World} {K : Fg} {mg : Str → Option Value} {base : Heap} {aT aL : Addr} {fT fL : Str → Option Value}
theorem scPaper10 : FnScope ["_law_draws_here", "_law_problem_here", "_law_best", "_law_paper_here", "_law_tells", "_law_k", "_law_line_here", "_law_row_here"] ["_law_draws_here", "_law_problem_here", "_law_best"] (Qf Qaw) := ⟨rfl, rfl, rfl, by decide +kernel, rfl, by decide +kernel, by decide +kernel⟩
theorem Qoo (F : Fn K mg "_law_paper" Qaw) (M : Mg mg) (cl_line : Cal P w K mg base 2 "_law_line" ["_law_draws_here", "_law_at", "_law_count", "_law_many", "_law_rows"] (Qjk K)) (cl_told : Cal P w K mg base 4 "_law_told" ["_law_problem_here", "_law_best", "_law_tells", "_law_line_here"] (Qjq K)) : Cal P w K mg base 5 "_law_paper" ["_law_draws_here", "_law_problem_here", "_law_best"] (Qgn K) := by
 refine Xd F scPaper10 (fun _ _ _ _ _ _ => Qfp (fun _ _ _ => rfl)) (fun vs H Q E h => ?_) (fun f cdv A outer s H vs Q E hr h => ?_)
 ·obtain ⟨l, t, ds, rs, cs, best, rfl, _⟩ := h
  rfl
 obtain ⟨l, t, ds, rs, cs, best, rfl, hD, hd3, hP, hrl, hn, hm, q⟩ := h
 refine ⟨_, (QSs.pss (Qp (Yw (i := 3) scPaper10.nd rfl (Or.inl rfl) (Vf Xs))
  (Qp (Yw (i := 4) scPaper10.nd rfl (Or.inl rfl) (Vf Xs))
  (Qp (QS.of (Yq PassesOwn.never rfl (Xz rfl M.range_ (Qa (Qr Xn (Qm Qw (pv 0) Qd (fun _ _ => rfl)) Qd) Qe)) (Xe (i := 5) scPaper10.nd rfl (Or.inl rfl) (Or.inl rfl)) (QSs.pss (Qp (Yw (i := 6) scPaper10.nd rfl (Or.inl rfl) (QE.of (Xj cl_line (hr.mono (by decide)) (Qa (pv 0) (Qa (Qr Xr Qd (Qr Kd Qd (pv 5))) (Qa (Qk Qi rfl M.len Xf (Qa (pv 4) Qe)) (Qa (Qk Qi rfl M.len Xf (Qa (Qm Ql (pv 1) Qd (fun _ _ => rfl)) Qe)) (Qa (Qk Qi rfl M.len Xf (Qa (Qm Ql (pv 1) Qd (fun _ _ => rfl)) Qe)) Qe))))))))
  (Qp (Yw (i := 7) scPaper10.nd rfl (Or.inl rfl) (QE.of (Xj cl_told (hr.mono (by decide)) (Qa (pv 1) (Qa (pv 2) (Qa (pv 4) (Qa (pv 6) Qe)))))))
  (Xc (Ze (PW.pt (Ki (Qq Qgs (pv 7) Xy (Qs _)) (Jf (PW.pt (Kc (Qq Yl (Qr Xn (Qm Qw (pv 0) Qd (fun _ _ => rfl)) Qd) Qd (Qs _)) (Jl (Qq Qlq (pv 5) Qd (Qs _)))))))) (Qp (QS.of (Kk (Qck PySem.F.plainAttrs_list PySem.F.slot_list_append PySem.F.type_list_append Zm (pv 3) (Qa (pv 6) Qe))))
  (Qp (Ze (Qq Qhy (pv 7) Xy (Qs _)) (Xc (Xt (Yo (Zd (QE.of (pv 3)) (Zd (QE.of (pv 4)) Xs))))) Xl)
  (Xc (QS.of (Kk (Qck PySem.F.plainAttrs_list PySem.F.slot_list_append PySem.F.type_list_append Zm (pv 4) (Qa (pv 7) Qe))))))) Xl)))))))
  (Xc (Xt (Yo (Zd (QE.of (pv 3)) (Zd (QE.of (pv 4)) Xs))))))))), ?_⟩
 refine Zj ?_
 intro rT4 rT3 rT2
 have hz : (1000 : Nat) < sizeLine := by decide
 obtain ⟨rl, c, vs, hpt, hl, hrw, hc⟩ := id hP
 have lv := hrw.length
 have lc : (cs.map V.int).length = cs.length := jQ ..
 refine ⟨by show 0 ≤ sizeLine; decide, fun P fP => ?_⟩
 have sP := Qb fP (.lst [])
 refine ⟨by show 0 ≤ sizeLine; decide, fun T fT => ?_⟩
 have sT := sP.trans (Qb fT (.lst []))
 have nPT : P ≠ T := fun z => by subst z; rw [Qc] at fT; cases fT
 have fT0 : H T = none := by
  cases e : H T with
  | none => rfl
  | some o => rw [sP _ _ e] at fT; cases fT
 have hP0 : upd (upd H P (.lst [])) T (.lst []) P = some (.lst []) := by rw [Qo nPT]; exact Qc
 have hT0 : upd (upd H P (.lst [])) T (.lst []) T = some (.lst []) := Qc
 generalize upd (upd H P (.lst [])) T (.lst []) = H0 at sT hP0 hT0 ⊢
 have keep : ∀ (G : Hp), Same H G → ∀ (x : HO) (b : Addr) (o : HO), H b = some o → upd G P x b = some o := fun G sG x b o e => by rw [Qo (Qh e fP)]; exact sG _ _ e
 have keepT : ∀ (G : Hp), Same H G → ∀ (x : HO) (b : Addr) (o : HO), H b = some o → upd G T x b = some o := fun G sG x b o e => by rw [Qo (Qh e fT0)]; exact sG _ _ e
 obtain ⟨z6, hz6, _, _⟩ := hD.get 6 (by decide) (by omega)
 obtain ⟨z7, hz7, _, _⟩ := hD.get 7 (by decide) (by omega)
 let Pv1 : Nat → St → Hp → Prop := fun i σ H1 => ∃ (us ws : List V) (lns : List Ln) (told : List Rw) (u v w : Option V), σ = [some (.ref l), some (.ref t), some (Ks best), some (.ref P), some (.ref T), u, v, w] ∧ HasTs K (OffS H1 [P, T]) us (lns.map lnD) ∧ (∀ ln ∈ lns, LnOk cs.length ln) ∧ lns.length ≤ i ∧ H1 P = some (.lst us) ∧ H1 T = some (.lst ws) ∧ RowsAre K H1 ws told ∧ Xm rs cs best (lns.map lnD) [] = told ∧ told.length = lns.length ∧ Same H H1
 refine ⟨_, rfl, l, _, _, _, rfl, rfl, (hD.same sT).lst, hz6, _, _, rfl, rfl, (by show (0 : Int) < _; decide +kernel), z6 % 21, rfl, (by omega), (by omega), Yd (lo := 0) (n := (z6 % 21).toNat) Pv1 ⟨[], [], [], [], none, none, none, rfl, .nil, (fun ln h => nomatch h), jZ _, hP0, hT0, .nil, rfl, rfl, sT⟩ ?_ ?_⟩
 ·rintro i σ H1 hi ⟨us, ws, lns, told, u, v, w, rfl, hTs, hok, hll, hP1, hT1, hra, htold, htl, s1⟩
  have hi20 : i < 21 := by omega
  have lu := hTs.1
  rw [jQ] at lu
  have lw := hra.length
  have live : Live H1 [P, T] := fun x hx => by
   rcases yJ.mp hx with z | z
   ·rw [z]; exact ⟨_, hP1⟩
   ·rw [zK.mp z]; exact ⟨_, hT1⟩
  refine ⟨_, rfl, _, rfl, _, _, rfl, rfl, .inl ⟨by decide, by decide⟩, _, _, rfl, rfl, _, rfl, T, _, rfl, .inl (Qj hT1), _, rfl, t, _, _, _, rfl, rfl, s1.tup hpt, at1, c, _, rfl, .inr (s1.tup hc), _, rfl, t, _, _, _, rfl, rfl, s1.tup hpt, at0, rl, _, rfl, .inl (s1.seq hl), l, ds, _, _, (cs.map V.int).length, vs.length, [P, T], rfl, live, hD.same s1, by omega, by omega, by omega, by omega, by omega, by omega, fun a ln H2 s2 ha hlok => ?_⟩
  rw [lc] at hlok
  have hP2 := s2 _ _ hP1
  have hT2 := s2 _ _ hT1
  have s12 := s1.trans s2
  have htll : ∀ r ∈ told, r.1.length = cs.length := by rw [← htold]; exact (Wz (best := best) hrl (lns.map lnD) [] (fun _ h => nomatch h)).1
  have J : Jx K H2 t T rs cs ws told := ⟨hP.same s12, Qj hT2, hra.imp fun _ _ z => z.same s2, hrl, htll, by omega, by omega, by omega⟩
  have hTs2 : HasTs K (OffS H2 [P, T]) (us ++ [.ref a]) ((lns ++ [ln]).map lnD) := by
   rw [kX]
   exact (hTs.same (Ye s2)).append (.cons ha .nil)
  have hok2 : ∀ x ∈ lns ++ [ln], LnOk cs.length x := fun x hx => by
   rcases wJ.mp hx with z | z
   ·exact hok x z
   ·rw [zK.mp z]; exact hlok
  have hll2 : (lns ++ [ln]).length ≤ i + 1 := by rw [kZ]; simp only [yV, jQb]; omega
  have tapp : Xm rs cs best ((lns ++ [ln]).map lnD) [] = Xm rs cs best [lnD ln] told := by
   rw [kX, xX, jJb, Qci _ _ _ (by rw [htold, jQ, jQb, htl]; omega), htold]
  refine ⟨_, rfl, _, rfl, _, rfl, _, rfl, t, T, a, rs, cs, best, ws, told, ln, rfl, J, hn, hm, ha.same Qhn, hlok, fun e H3 s3 => ?_, fun r e t' H3 s3 hrt => ?_⟩
  ·have s23 := s2.trans s3
   have s13 := s12.trans s3
   have skipIt : ∀ (u v w : Option V), ∃ (us ws : List V) (lns : List Ln) (told : List Rw) (u' v' w' : Option V), [some (.ref l), some (.ref t), some (Ks best), some (.ref P), some (.ref T), u, v, w] = [some (.ref l), some (.ref t), some (Ks best), some (.ref P), some (.ref T), u', v', w'] ∧ HasTs K (OffS H3 [P, T]) us (lns.map lnD) ∧ (∀ ln ∈ lns, LnOk cs.length ln) ∧ lns.length ≤ i + 1 ∧ H3 P = some (.lst us) ∧ H3 T = some (.lst ws) ∧ RowsAre K H3 ws told ∧ Xm rs cs best (lns.map lnD) [] = told ∧ told.length = lns.length ∧ Same H H3 := fun u v w =>
    ⟨us, ws, lns, told, u, v, w, rfl, hTs.same (Ye s23), hok, by omega, s3 _ _ hP2, s3 _ _ hT2, hra.imp fun _ _ z => z.same s23, htold, htl, s13⟩
   refine ⟨_, rfl, rfl, _, rfl, iteF ⟨_, rfl, l, _, _, _, rfl, rfl, (hD.same s13).lst, hz7, _, _, rfl, rfl, (by show (0 : Int) < _; decide +kernel), rfl, _, rfl, ite2 (fun _ => ⟨_, rfl, _, _, rfl, rfl, _, rfl, ite2 (fun _ => ?_) (fun _ => skipIt _ _ _)⟩) (fun _ => iteF (skipIt _ _ _))⟩⟩
   have hP3 := s3 _ _ hP2
   refine ⟨_, rfl, .inl ⟨rfl, _, Qj hP3⟩, _, rfl, P, _, _, rfl, rfl, hP3, by omega, ?_⟩
   refine ⟨_, rfl, rfl, _, rfl, iteT ⟨_, rfl, _, rfl, by show 2 ≤ sizeLine; decide, fun pr hpr => ?_⟩⟩
   have s4 := Qb hpr (.tup [.ref P, .ref T])
   have hP4 := s4 _ _ (Qc (H := H3) (a := P) (o := .lst (us ++ [.ref a])))
   refine q pr P T (us ++ [.ref a]) ws (lns ++ [ln]) _ (fun b o e => s4 _ _ (keep H3 s13 _ b o e)) (Xa Qc) hP4 ?_ hok2 (s4 _ _ (by rw [Qo (Ne.symm nPT)]; exact s3 _ _ hT2)) ?_ (by omega)
   ·refine HasTs.same (H := OffS H3 [P, T]) (hTs2.same (Ye s3)) ?_
    have := Qhn (H := upd H3 P (.lst (us ++ [.ref a]))) (S := [P, T])
    rw [Qec (zY)] at this
    exact this.trans s4
   ·rw [tapp, Jj e]
    exact hra.imp fun _ _ z => ((z.same s23).upd hP3).same s4
  ·have s23 := s2.trans s3
   have s13 := s12.trans s3
   have hP3 := s3 _ _ hP2
   have hT3 := s3 _ _ hT2
   refine ⟨_, rfl, rfl, _, rfl, iteT (iteT ?_)⟩
   refine ⟨_, rfl, .inl ⟨rfl, _, Qj hP3⟩, _, rfl, P, _, _, rfl, rfl, hP3, by omega, ?_⟩
   have hT4 : upd H3 P (.lst (us ++ [.ref a])) T = some (.lst ws) := by rw [Qo (Ne.symm nPT)]; exact hT3
   refine ⟨_, rfl, rfl, _, rfl, iteF ⟨_, rfl, .inl ⟨rfl, _, Qj hT4⟩, _, rfl, T, _, _, rfl, rfl, hT4, by omega, ?_⟩⟩
   have hra4 : RowsAre K (upd H3 P (.lst (us ++ [.ref a]))) (ws ++ [.ref t']) (told ++ [r]) := RowsAre.snoc (hra.imp fun _ _ z => (z.same s23).upd hP3) (hrt.upd hP3)
   refine ⟨us ++ [.ref a], ws ++ [.ref t'], lns ++ [ln], told ++ [r], _, _, _, rfl, ?_, hok2, hll2, by rw [Qo nPT]; exact Qc, Qc, hra4.imp fun _ _ z => z.upd hT4, ?_, ?_, fun b o e => keepT _ (fun b o e => keep H3 s13 _ b o e) _ b o e⟩
   ·rw [Qec (zW _ (zK.mpr rfl)), Qec (zY)]
    exact hTs2.same (Ye s3)
   ·rw [tapp, Za e]
    rfl
   ·rw [kZ, kZ, htl]
    rfl
 ·rintro σ H1 ⟨us, ws, lns, told, u, v, w, rfl, hTs, hok, hll, hP1, hT1, hra, htold, htl, s1⟩
  refine ⟨_, rfl, _, rfl, by show 2 ≤ sizeLine; decide, fun pr hpr => ?_⟩
  have s4 := Qb hpr (.tup [.ref P, .ref T])
  exact q pr P T us ws lns _ (s1.trans s4) (Xa Qc) (s4 _ _ hP1) ((hTs.same Qhn).same s4) hok (s4 _ _ hT1) (by rw [htold]; exact hra.imp fun _ _ z => z.same s4) (by omega)
end
abbrev Qee : Stmt := top 53
section
variable {P : Program} {w : World} {K : Fg} {mg : Str → Option Value} {base : Heap} {aT aL : Addr} {fT fL : Str → Option Value}
theorem scLine10 : FnScope ["_law_draws_here", "_law_at", "_law_count", "_law_many", "_law_rows", "_law_word", "_law_one", "_law_other", "_law_choice", "_law_parts"] ["_law_draws_here", "_law_at", "_law_count", "_law_many", "_law_rows"] (Qf Qee) := ⟨rfl, rfl, rfl, by decide +kernel, rfl, by decide +kernel, by decide +kernel⟩
theorem Qqz (F : Fn K mg "_law_line" Qee) (M : Mg mg) (cl_holds : Cal P w K mg base 1 "_law_holds" ["_law_number", "_law_many"] (Qgi K)) (cl_turn : Cal P w K mg base 1 "_law_turn" ["_law_number", "_law_many"] (Qjj K)) : Cal P w K mg base 2 "_law_line" ["_law_draws_here", "_law_at", "_law_count", "_law_many", "_law_rows"] (Qjk K) := by
 refine Xd F scLine10 (fun _ _ _ _ _ _ => bind5 (fun _ _ _ _ _ => rfl)) (fun vs H Q E h => ?_) (fun f cdv A outer s H vs Q E hr h => ?_)
 ·obtain ⟨l, ds, at_, cnt, n, m, S, rfl, _⟩ := h
  rfl
 obtain ⟨l, ds, at_, cnt, n, m, S, rfl, hL, hD, h0, h1, h2, h3, h4, h5, q⟩ := h
 refine ⟨_, (QSs.pss (Qp (Yw (i := 5) scLine10.nd rfl (Or.inl rfl) (QE.of (Qr Xn (Qm Qw (pv 0) (pv 1) (fun _ _ => rfl)) Qd)))
  (Qp (Yw (i := 6) scLine10.nd rfl (Or.inl rfl) (QE.of (Qr Xn (Qm Qw (pv 0) (Qr Xr (pv 1) Qd) (fun _ _ => rfl)) (Qk (Zx rfl) rfl M.max Qad (Qa (pv 2) (Qa Qd Qe))))))
  (Qp (Yw (i := 7) scLine10.nd rfl (Or.inl rfl) (QE.of (Qr Xn (Qm Qw (pv 0) (Qr Xr (pv 1) Qd) (fun _ _ => rfl)) (Qk (Zx rfl) rfl M.max Qad (Qa (pv 2) (Qa Qd Qe))))))
  (Qp (Yw (i := 8) scLine10.nd rfl (Or.inl rfl) (QE.of (Qr Xn (Qm Qw (pv 0) (Qr Xr (pv 1) Qd) (fun _ _ => rfl)) (Qk (Zx rfl) rfl M.max Qad (Qa (pv 3) (Qa Qd Qe))))))
  (Qp (Ze (Qq Yl (pv 5) Qd (Qs _)) (Xc (Xt (Yo (Xb (QE.of Yp) (Zd (QE.of (pv 8)) Xs))))) Xl)
  (Qp (Ze (Qq Yl (pv 5) Qd (Qs _)) (Xc (Xt (Yo (Xb (QE.of Yp) (Zd (QE.of (pv 8)) Xs))))) Xl)
  (Qp (Ze (Qq Yl (pv 5) Qd (Qs _)) (Xc (Xt (Yo (Xb (QE.of Yp) Xs)))) Xl)
  (Qp (Ze (Qq Qer (pv 5) (QE.pe (Vf (Xb (QE.of Qd) (Xb (QE.of Qd) (Xb (QE.of Qd) Xs))))) rfl) (Qp (Yw (i := 9) scLine10.nd rfl (Or.inl rfl) (Vf (Qdl (Yo (Zd (QE.of (pv 6)) (Jw (QE.of (Qr Xn (Qm Qw (pv 0) (Qr Xr (pv 1) Qd) (fun _ _ => rfl)) Qd)) Xs))) (Qdl (Yo (Zd (QE.of (pv 7)) (Jw (QE.of (Qr Xr Qd (Qr Xn (Qr Kl (Qm Qw (pv 0) (Qr Xr (pv 1) Qd) (fun _ _ => rfl)) Qd) Qd))) Xs))) (Qdl (Yo (Jw (QE.of (Qr Xn (Qm Qw (pv 0) (Qr Xr (pv 1) Qd) (fun _ _ => rfl)) (Qk (Zx rfl) rfl M.max Qad (Qa (pv 2) (Qa Qd Qe))))) (Xb (QE.of Qd) Xs))) Xs)))))
  (Xc (Xt (Yo (Xb (QE.of Yp) (Qaf (QE.of (Vt Qsm (pv 9) (Qbd (Qr Xn (Qr Kl (Qm Qw (pv 0) (Qr Xr (pv 1) Qd) (fun _ _ => rfl)) Qd) Qd)) Qbc)) Xs)))))) Xl)
  (Qp (Ze (Qq Yl (pv 5) Qd (Qs _)) (Xc (Xt (Yo (Xb (QE.of Yp) (Zd (QE.of (pv 6)) (Jw (QE.of (Qr Xr Qd (Qr Xn (Qm Qw (pv 0) (Qr Xr (pv 1) Qd) (fun _ _ => rfl)) Qd))) Xs)))))) Xl)
  (Qp (Ze (Qq Qer (pv 5) (QE.pe (Vf (Xb (QE.of Qd) (Xb (QE.of Qd) Xs)))) rfl) (Xc (Xt (Yo (Xb (QE.of Yp) (Zd (QE.of (pv 6)) (Ja (QE.of (Xj cl_holds (hr.mono (by decide)) (Qa (Qm Qw (pv 0) (Qr Xr (pv 1) Qd) (fun _ _ => rfl)) (Qa (pv 3) Qe)))) Xs)))))) Xl)
  (Qp (Ze (Qq Yl (pv 5) Qd (Qs _)) (Xc (Xt (Yo (Xb (QE.of Yp) (Zd (QE.of (pv 6)) (Zd (QE.of (pv 7)) (Zd (QE.of (pv 8)) Xs))))))) Xl)
  (Qp (Ze (Qq Yl (pv 5) Qd (Qs _)) (Xc (Xt (Yo (Xb (QE.of Yp) (Ja (QE.of (Xj cl_turn (hr.mono (by decide)) (Qa (Qm Qw (pv 0) (Qr Xr (pv 1) Qd) (fun _ _ => rfl)) (Qa (pv 3) Qe)))) Xs))))) Xl)
  (Xc (Xt (Yo (Xb (QE.of Yp) (Jw (QE.of (Qr Xn (Qm Qw (pv 0) (Qr Xr (pv 1) Qd) (fun _ _ => rfl)) (Qk (Zx rfl) rfl M.max Qad (Qa (pv 4) (Qa Qd Qe))))) Xs)))))))))))))))))), ?_⟩
 refine Qfq ?_
 intro rT13 rT12 rT11 rT10 rT9 rT8 rT7 rT6 rT5 rT4 rT3 rT2
 have hz : (1000 : Nat) < sizeLine := by decide
 obtain ⟨z0, hz0, a0, b0⟩ := hD.get (at_) (by omega) (by omega)
 obtain ⟨z1, hz1, a1, b1⟩ := hD.get (at_ + 1) (by omega) (by omega)
 obtain ⟨z2, hz2, a2, b2⟩ := hD.get (at_ + 2) (by omega) (by omega)
 obtain ⟨z3, hz3, a3, b3⟩ := hD.get (at_ + 3) (by omega) (by omega)
 obtain ⟨z4, hz4, a4, b4⟩ := hD.get (at_ + 4) (by omega) (by omega)
 obtain ⟨z5, hz5, a5, b5⟩ := hD.get (at_ + 5) (by omega) (by omega)
 have pc : (0 : Int) < (if (1 : Int) > cnt then 1 else cnt) := by split <;> omega
 have pn : (0 : Int) < (if (1 : Int) > (n : Int) then 1 else (n : Int)) := by split <;> omega
 have pm : (0 : Int) < (if (1 : Int) > (m : Int) then 1 else (m : Int)) := by split <;> omega
 obtain ⟨one, e1, o1⟩ := dmN a1 b1 pc
 obtain ⟨other, e2, o2⟩ := dmN a2 b2 pc
 obtain ⟨choice, e3, o3⟩ := dmN a3 b3 pn
 obtain ⟨third, e5, o5⟩ := dmN a5 b5 pc
 obtain ⟨gv, eg, og⟩ := dmN a1 b1 pm
 have s0 := Same.refl H
 refine ⟨_, rfl, _, rfl, l, _, _, _, rfl, rfl, hD.lst, hz0, _, _, rfl, rfl, (by show (0 : Int) < _; decide +kernel), ?_⟩
 refine ⟨_, rfl, _, rfl, _, _, rfl, rfl, l, _, _, _, rfl, rfl, hD.lst, hz1, _, rfl, _, _, rfl, _, _, rfl, rfl, pc, ?_⟩
 refine ⟨_, rfl, _, rfl, _, _, rfl, rfl, l, _, _, _, rfl, rfl, hD.lst, hz2, _, rfl, _, _, rfl, _, _, rfl, rfl, pc, ?_⟩
 refine ⟨_, rfl, _, rfl, _, _, rfl, rfl, l, _, _, _, rfl, rfl, hD.lst, hz3, _, rfl, _, _, rfl, _, _, rfl, rfl, pn, ?_⟩
 refine ⟨_, rfl, rfl, _, rfl, ite2 (fun _ => ?_) (fun _ => ?_)⟩
 ·exact ⟨_, rfl, by show 2 ≤ sizeLine; decide, fun a ha => q a (.low choice) _ (s0.trans (Qb ha _)) (by show HasT K _ _ (.tup [.str "low", .int (choice : Int)]); rw [← e3]; exact tupO ((hL.same s0).fresh ha) (.cons (.str "low") (.cons (.int _) .nil))) o3⟩
 refine ⟨_, rfl, rfl, _, rfl, ite2 (fun _ => ?_) (fun _ => ?_)⟩
 ·exact ⟨_, rfl, by show 2 ≤ sizeLine; decide, fun a ha => q a (.high choice) _ (s0.trans (Qb ha _)) (by show HasT K _ _ (.tup [.str "high", .int (choice : Int)]); rw [← e3]; exact tupO ((hL.same s0).fresh ha) (.cons (.str "high") (.cons (.int _) .nil))) o3⟩
 refine ⟨_, rfl, rfl, _, rfl, ite2 (fun _ => ?_) (fun _ => ?_)⟩
 ·exact ⟨by show 1 ≤ sizeLine; decide, fun a ha => q a (.better) _ (s0.trans (Qb ha _)) (by show HasT K _ _ (.tup [.str "better"]); exact tupO ((hL.same s0).fresh ha) (.cons (.str "better") .nil)) trivial⟩
 refine ⟨_, rfl, by show 3 ≤ sizeLine; decide, fun b3' hb3 => ⟨b3', _, rfl, .inl (Qj Qc), rfl, rfl, _, rfl, ?_⟩⟩
 have s1 := Qb hb3 (.lst [.int 4, .int 5, .int 6])
 generalize upd H b3' (.lst [.int 4, .int 5, .int 6]) = H1 at s1 ⊢
 have hD1 := hD.same s1
 obtain ⟨f4, ef4, of4⟩ : ∃ k : Nat, z4 % 4 = (k : Int) ∧ k < 4 := ⟨(z4 % 4).toNat, by omega, by omega⟩
 obtain ⟨g4, eg4, og4⟩ : ∃ k : Nat, 1 + z4 / 4 % 3 = (k : Int) ∧ k < 4 := ⟨(1 + z4 / 4 % 3).toNat, by omega, by omega⟩
 refine ite2 (fun _ => ?_) (fun _ => ?_)
 ·refine ⟨_, rfl, _, rfl, _, rfl, _, _, rfl, rfl, l, _, _, _, rfl, rfl, hD1.lst, hz4, _, _, rfl, rfl, (by show (0 : Int) < _; decide +kernel), by show 2 ≤ sizeLine; decide, fun ta hta => ?_⟩
  have t1 := Qb hta (.tup [.int (z1 % (if (1 : Int) > cnt then 1 else cnt)), .int (z4 % 4)])
  have hD2 := hD1.same t1
  have ht1 : HasT K (OffS (upd H1 ta (.tup [.int (z1 % (if (1 : Int) > cnt then 1 else cnt)), .int (z4 % 4)])) S) (.ref ta) (Jk (one, f4)) := by
   show HasT K _ _ (.tup [.int (one : Int), .int (f4 : Int)])
   rw [← ef4, ← e1]
   exact tupO ((hL.same s1).fresh hta) (.cons (.int _) (.cons (.int _) .nil))
  generalize upd H1 ta (.tup [.int (z1 % (if (1 : Int) > cnt then 1 else cnt)), .int (z4 % 4)]) = H2 at t1 hD2 ht1 ⊢
  refine ⟨_, rfl, _, rfl, _, rfl, _, _, rfl, rfl, l, _, _, _, rfl, rfl, hD2.lst, hz4, _, _, rfl, rfl, ⟨by decide, by decide⟩, _, _, rfl, rfl, (by show (0 : Int) < _; decide +kernel), _, _, rfl, rfl, by show 2 ≤ sizeLine; decide, fun tb htb => ?_⟩
  have t2 := Qb htb (.tup [.int (z2 % (if (1 : Int) > cnt then 1 else cnt)), .int (1 + z4 / 4 % 3)])
  have hD3 := hD2.same t2
  have ht2 : HasT K (OffS (upd H2 tb (.tup [.int (z2 % (if (1 : Int) > cnt then 1 else cnt)), .int (1 + z4 / 4 % 3)])) S) (.ref tb) (Jk (other, g4)) := by
   show HasT K _ _ (.tup [.int (other : Int), .int (g4 : Int)])
   rw [← eg4, ← e2]
   exact tupO ((hL.same (s1.trans t1)).fresh htb) (.cons (.int _) (.cons (.int _) .nil))
  generalize upd H2 tb (.tup [.int (z2 % (if (1 : Int) > cnt then 1 else cnt)), .int (1 + z4 / 4 % 3)]) = H3 at t2 hD3 ht2 ⊢
  refine ⟨_, rfl, _, rfl, _, _, rfl, rfl, l, _, _, _, rfl, rfl, hD3.lst, hz5, _, rfl, _, _, rfl, _, _, rfl, rfl, pc, by show 2 ≤ sizeLine; decide, fun tc htc => ?_⟩
  have t3 := Qb htc (.tup [.int (z5 % (if (1 : Int) > cnt then 1 else cnt)), .int 1])
  have hD4 := hD3.same t3
  have ht3 : HasT K (OffS (upd H3 tc (.tup [.int (z5 % (if (1 : Int) > cnt then 1 else cnt)), .int 1])) S) (.ref tc) (Jk (third, 1)) := by
   show HasT K _ _ (.tup [.int (third : Int), .int 1])
   rw [← e5]
   exact tupO ((hL.same ((s1.trans t1).trans t2)).fresh htc) (.cons (.int _) (.cons (.int _) .nil))
  have ht1' := ht1.same (Ye (t2.trans t3))
  have ht2' := ht2.same (Ye t3)
  generalize upd H3 tc (.tup [.int (z5 % (if (1 : Int) > cnt then 1 else cnt)), .int 1]) = H4 at t3 hD4 ht3 ht1' ht2' ⊢
  refine ⟨by show 3 ≤ sizeLine; decide, fun pl hpl => ?_⟩
  have s5 := Qb hpl (.lst [.ref ta, .ref tb, .ref tc])
  have hpl5 : upd H4 pl (.lst [.ref ta, .ref tb, .ref tc]) pl = some (.lst [.ref ta, .ref tb, .ref tc]) := Qc
  generalize upd H4 pl (.lst [.ref ta, .ref tb, .ref tc]) = H5 at s5 hpl5 ⊢
  have hD5 := hD4.same s5
  generalize hk : z3 / 16 % 3 = k
  have hk3 : k = 0 ∨ k = 1 ∨ k = 2 := by omega
  have sH5 := (((s1.trans t1).trans t2).trans t3).trans s5
  have fin : ∀ (vs : List V) (ps : List (Nat × Nat)), HasTs K (OffS H5 S) vs (ps.map Jk) → LnOk n (.sum ps) → ∀ (sl a : Addr), H5 sl = none → upd H5 sl (.lst vs) a = none → Q (.ref a) (upd (upd H5 sl (.lst vs)) a (.tup [.str "sum", .ref sl])) := fun vs ps hv hok sl a f1 f2 => by
   have s6 := Qb f1 (.lst vs)
   have s7 := s6.trans (Qb f2 (.tup [.str "sum", .ref sl]))
   have nq : sl ≠ a := Qh Qc f2
   exact q a (.sum ps) _ (sH5.trans s7) (tupO ((hL.same (sH5.trans s6)).fresh f2) (.cons (.str _) (.cons (lstT (Qj (by rw [Zp ((hL.same sH5).fresh f1), Qo nq]; exact Qc)) (hv.same (Ye s7))) .nil))) hok
  refine ⟨_, rfl, _, rfl, _, rfl, _, _, rfl, rfl, l, _, _, _, rfl, rfl, hD5.lst, hz3, _, _, rfl, rfl, ⟨by decide, by decide⟩, _, _, rfl, rfl, (by show (0 : Int) < _; decide +kernel), k, (by show V.int (z3 / 16 % 3) = V.int k; rw [hk]), ?_⟩
  refine ⟨pl, _, rfl, Qj hpl5, fun sl hsl => ⟨by show 2 ≤ sizeLine; decide, fun a ha => ?_⟩⟩
  have p1 : one < 2147483648 ∧ f4 < 2147483648 := ⟨o1, by omega⟩
  have p2 : other < 2147483648 ∧ g4 < 2147483648 := ⟨o2, by omega⟩
  have p3 : third < 2147483648 ∧ 1 < 2147483648 := ⟨o5, by decide⟩
  rcases hk3 with y | y | y <;> subst y
  ·refine fin _ [(one, f4), (other, g4), (third, 1)] ((HasTs.cons ht1' (.cons ht2' (.cons ht3 .nil))).same (Ye s5)) ⟨(fun z => nomatch z), by show 3 ≤ 3; decide, fun p hp => ?_⟩ sl a hsl ha
   rcases yJ.mp hp with z | z
   ·rw [z]; exact p1
   rcases yJ.mp z with z | z
   ·rw [z]; exact p2
   ·rw [zK.mp z]; exact p3
  ·refine fin _ [(other, g4), (third, 1)] ((HasTs.cons ht2' (.cons ht3 .nil)).same (Ye s5)) ⟨(fun z => nomatch z), by show 2 ≤ 3; decide, fun p hp => ?_⟩ sl a hsl ha
   rcases yJ.mp hp with z | z
   ·rw [z]; exact p2
   ·rw [zK.mp z]; exact p3
  ·refine fin _ [(third, 1)] ((HasTs.cons ht3 .nil).same (Ye s5)) ⟨(fun z => nomatch z), by show 1 ≤ 3; decide, fun p hp => ?_⟩ sl a hsl ha
   rw [zK.mp hp]; exact p3
 refine ⟨_, rfl, rfl, _, rfl, ite2 (fun _ => ?_) (fun _ => ?_)⟩
 ·obtain ⟨b4, eb4, ob4⟩ : ∃ k : Nat, 1 + z4 % 4 = (k : Int) ∧ 1 ≤ k ∧ k ≤ 4 := ⟨(1 + z4 % 4).toNat, by omega, by omega, by omega⟩
  refine ⟨_, rfl, _, rfl, _, rfl, _, _, rfl, rfl, l, _, _, _, rfl, rfl, hD1.lst, hz4, _, _, rfl, rfl, (by show (0 : Int) < _; decide +kernel), _, _, rfl, rfl, by show 3 ≤ sizeLine; decide, fun a ha => ?_⟩
  refine q a (.share one b4) _ (s1.trans (Qb ha _)) ?_ ⟨o1, ob4⟩
  show HasT K _ _ (.tup [.str "share", .int (one : Int), .int (b4 : Int)])
  rw [← eb4, ← e1]
  exact tupO ((hL.same s1).fresh ha) (.cons (.str "share") (.cons (.int _) (.cons (.int _) .nil)))
 refine ⟨_, rfl, by show 2 ≤ sizeLine; decide, fun b2' hb2 => ⟨b2', _, rfl, .inl (Qj Qc), rfl, rfl, _, rfl, ?_⟩⟩
 have s2 := s1.trans (Qb hb2 (.lst [.int 8, .int 9]))
 generalize upd H1 b2' (.lst [.int 8, .int 9]) = H2 at s2 ⊢
 have hD2 := hD.same s2
 refine ite2 (fun _ => ?_) (fun _ => ?_)
 ·refine ⟨_, rfl, _, rfl, _, rfl, _, _, rfl, rfl, l, _, _, _, rfl, rfl, hD2.lst, hz4, _, rfl, z4, n, S, rfl, h4, hL.same s2, fun p hs H3 s3 hp hok hl5 => ⟨by show 3 ≤ sizeLine; decide, fun a ha => ?_⟩⟩
  have s4 := Qb ha (.tup [.str "shut", .int (z1 % (if (1 : Int) > cnt then 1 else cnt)), .ref p])
  refine q a (.shut one hs) _ ((s2.trans s3).trans s4) ?_ ⟨o1, hok, hl5⟩
  show HasT K _ _ (.tup [.str "shut", .int (one : Int), .lst (hs.map Vh)])
  rw [← e1]
  exact tupO ((hL.same (s2.trans s3)).fresh ha) (.cons (.str _) (.cons (.int _) (.cons (hp.same (Ye s4)) .nil)))
 refine ⟨_, rfl, rfl, _, rfl, ite2 (fun _ => ?_) (fun _ => ?_)⟩
 ·exact ⟨_, rfl, _, rfl, _, rfl, by show 4 ≤ sizeLine; decide, fun a ha => q a (.either one other choice) _ (s2.trans (Qb ha _)) (by show HasT K _ _ (.tup [.str "either", .int (one : Int), .int (other : Int), .int (choice : Int)]); rw [← e1, ← e2, ← e3]; exact tupO ((hL.same s2).fresh ha) (.cons (.str "either") (.cons (.int _) (.cons (.int _) (.cons (.int _) .nil))))) ⟨o1, o2, o3⟩⟩
 refine ⟨_, rfl, rfl, _, rfl, ite2 (fun _ => ?_) (fun _ => ?_)⟩
 ·refine ⟨_, rfl, _, rfl, _, _, rfl, rfl, l, _, _, _, rfl, rfl, hD2.lst, hz4, _, rfl, z4, n, S, rfl, h4, hL.same s2, fun p t H3 s3 hp hT => ⟨by show 2 ≤ sizeLine; decide, fun a ha => ?_⟩⟩
  have s4 := Qb ha (.tup [.str "like", .ref p])
  exact q a (.like t) _ ((s2.trans s3).trans s4) (tupO ((hL.same (s2.trans s3)).fresh ha) (.cons (.str _) (.cons (hp.same (Ye s4)) .nil))) hT
 refine ⟨_, rfl, _, rfl, _, _, rfl, rfl, l, _, _, _, rfl, rfl, hD2.lst, hz1, _, rfl, _, _, rfl, _, _, rfl, rfl, pm, by show 2 ≤ sizeLine; decide, fun a ha => ?_⟩
 refine q a (.given gv) _ (s2.trans (Qb ha _)) ?_ og
 show HasT K _ _ (.tup [.str "given", .int (gv : Int)])
 rw [← eg]
 exact tupO ((hL.same s2).fresh ha) (.cons (.str "given") (.cons (.int _) .nil))
end
abbrev Wl : Stmt := top 44
abbrev Qef : Stmt := top 49
abbrev Qax : Stmt := top 50
section
variable {P : Program} {w : World} {K : Fg} {mg : Str → Option Value} {base : Heap} {aT aL : Addr} {fT fL : Str → Option Value}
theorem scAlike10 : FnScope ["_law_problem_here", "_law_draws_here", "_law_at", "_law_many", "_law_one", "_law_other", "_law_turn_here", "_law_rows", "_law_row_here", "_law_moved", "_law_costs"] ["_law_problem_here", "_law_draws_here", "_law_at"] (Qf Wl) := ⟨rfl, rfl, rfl, by decide +kernel, rfl, by decide +kernel, by decide +kernel⟩
theorem Qop (F : Fn K mg "_law_alike" Wl) (M : Mg mg) (cl_turned : Cal P w K mg base 1 "_law_turned" ["_law_row_here", "_law_turn_here"] (Wy K)) : Cal P w K mg base 2 "_law_alike" ["_law_problem_here", "_law_draws_here", "_law_at"] (Qgc K) := by
 refine Xd F scAlike10 (fun _ _ _ _ _ _ => Qfp (fun _ _ _ => rfl)) (fun vs H Q E h => ?_) (fun f cdv A outer s H vs Q E hr h => ?_)
 ·obtain ⟨t, l, ds, at_, rs, cs, rfl, _⟩ := h
  rfl
 obtain ⟨t, l, ds, at_, rs, cs, rfl, hP, hD0, h0, h1, hrl, hn, hm, q⟩ := h
 have hu6 : (A.deeper (PyProof.Rows.envOfC "_law_alike" (Qf Wl) s.heap.objs.size f cdv)).units + 6 < cLine := xZ (wW (by decide) _) hr.un
 refine ⟨_, (Qg (Qx (i := 3) scAlike10.nd rfl (Or.inl rfl) (Qk Qi rfl M.len Xf (Qa (Qm Ql (pv 0) Qd (fun _ _ => rfl)) Qe)))
  (Qg (Yi (Qq Yl (pv 3) Qd (Qs _)) (Qn (Qv (pv 0))) Xg)
  (Qg (Qx (i := 4) scAlike10.nd rfl (Or.inl rfl) (Qr Xn (Qm Qw (pv 1) (pv 2) (fun _ _ => rfl)) (pv 3)))
  (Qg (Qx (i := 5) scAlike10.nd rfl (Or.inl rfl) (Qr Xn (Qm Qw (pv 1) (Qr Xr (pv 2) Qd) (fun _ _ => rfl)) (pv 3)))
  (Qg (Yi (Qq Yl (pv 4) (pv 5) (Qs _)) (Qn (Qv (pv 0))) Xg)
  (Qg (Qx (i := 6) scAlike10.nd rfl (Or.inl rfl) (Qz (Vx rfl) rfl M.list_ Zy (Qa (Qih M.range_ (Qa (pv 3) Qe)) Qe)))
  (Qg (Vc (pv 5) (Jp (pv 6) (pv 4) set_list))
  (Qg (Vc (pv 4) (Jp (pv 6) (pv 5) set_list))
  (Qg (Qx (i := 7) scAlike10.nd rfl (Or.inl rfl) (Qz Zl rfl M.list_ Zy (Qa (Qm Ql (pv 0) Qd (fun _ _ => rfl)) Qe)))
  (Qg (Yq PassesOwn.never rfl (Yk (Qm Ql (pv 0) Qd (fun _ _ => rfl))) (Xe (i := 8) scAlike10.nd rfl (Or.inl rfl) (Or.inl rfl)) (Qg (Qx (i := 9) scAlike10.nd rfl (Or.inl rfl) (Xj cl_turned (hr.mono (by decide)) (Qa (pv 8) (Qa (pv 6) Qe))))
  (Qn (Yi (Qq Qah (Qck PySem.F.plainAttrs_list PySem.F.slot_list_count PySem.F.type_list_count (Qfo (K := K) rfl hu6) (pv 7) (Qa (pv 9) Qe)) (Qck PySem.F.plainAttrs_list PySem.F.slot_list_count PySem.F.type_list_count (Qfo (K := K) rfl hu6) (pv 7) (Qa (pv 8) Qe)) (Qs _)) (Qn (Kk (Qck PySem.F.plainAttrs_list PySem.F.slot_list_append PySem.F.type_list_append Zm (pv 7) (Qa (pv 9) Qe)))) Xg))))
  (Qg (Qx (i := 10) scAlike10.nd rfl (Or.inl rfl) (Qz Zl rfl M.list_ Zy (Qa (Qm Ql (pv 0) Qd (fun _ _ => rfl)) Qe)))
  (Qg (Vc (Qm Qw (pv 10) (pv 5) (fun _ _ => rfl)) (Jp (pv 10) (pv 4) set_list))
  (Qn (Qv (Yy (Qa (pv 7) (Qa (Qz Qy rfl M.tuple_ Xo (Qa (pv 10) Qe)) Qe))))))))))))))))), ?_⟩
 refine Qfq ?_
 intro rT13 rT12 rT11 rT10 rT9 rT8 rT7 rT6 rT5 rT4 rT3 rT2
 have hz : (2000 : Nat) < sizeLine := by decide
 obtain ⟨rl, c, vs, ht, hl, hrw, hc⟩ := id hP
 have lv := hrw.length
 have lc : (cs.map V.int).length = cs.length := jQ ..
 refine ⟨_, rfl, t, _, _, _, rfl, rfl, ht, at1, c, _, rfl, .inr hc, ?_⟩
 rw [lc]
 refine ⟨_, rfl, rfl, _, rfl, ite2 (fun _ => ⟨_, rfl, q t rs cs H (Same.refl H) hP hrl rfl (by omega) Iff.rfl⟩) (fun cz => ?_)⟩
 have hpos : 0 < cs.length := by
  rcases Nat.eq_zero_or_pos cs.length with z | z
  ·exact absurd (jW (congrArg V.int (show ((cs.length : Nat) : Int) = 0 by rw [z]; rfl))) cz
  ·exact z
 have pn : (0 : Int) < ((cs.length : Nat) : Int) := by omega
 obtain ⟨z1, hz1, _, _⟩ := hD0.get at_ (by omega) (by omega)
 obtain ⟨z2, hz2, _, _⟩ := hD0.get (at_ + 1) (by omega) (by omega)
 refine ⟨_, rfl, _, rfl, l, _, _, _, rfl, rfl, hD0.lst, hz1, _, rfl, _, _, rfl, rfl, pn, ?_⟩
 refine ⟨_, rfl, _, rfl, _, _, rfl, rfl, l, _, _, _, rfl, rfl, hD0.lst, hz2, _, rfl, _, _, rfl, rfl, pn, ?_⟩
 have o1 := jXd z1 (Int.ne_of_gt pn)
 have o2 := jQe z1 pn
 have p1 := jXd z2 (Int.ne_of_gt pn)
 have p2 := jQe z2 pn
 obtain ⟨i, ei⟩ : ∃ i : Nat, z1 % ((cs.length : Nat) : Int) = (i : Int) := ⟨_, (Int.toNat_of_nonneg o1).symm⟩
 obtain ⟨j, ej⟩ : ∃ j : Nat, z2 % ((cs.length : Nat) : Int) = (j : Int) := ⟨_, (Int.toNat_of_nonneg p1).symm⟩
 show tSeq _ _ _ [some (.ref t), some (.ref l), some (.int at_), some (.int ((cs.length : Nat) : Int)), some (.int (z1 % ((cs.length : Nat) : Int))), some (.int (z2 % ((cs.length : Nat) : Int))), none, none, none, none, none] H
 rw [ei, ej]
 rw [ei] at o2
 rw [ej] at p2
 have hi : i < cs.length := by omega
 have hj : j < cs.length := by omega
 refine ⟨_, rfl, _, rfl, rfl, _, rfl, ite2 (fun _ => ⟨_, rfl, q t rs cs H (Same.refl H) hP hrl rfl (by omega) Iff.rfl⟩) (fun _ => ?_)⟩
 refine ⟨_, rfl, ((cs.length : Nat) : Int), rfl, fun r hr' => ?_⟩
 have s1 := Qb hr' (.rng 0 ((cs.length : Nat) : Int))
 refine ⟨r, ((cs.length : Nat) : Int), rfl, Qc, by omega, by omega, fun u hu1 => ?_⟩
 have s2 := s1.trans (Qb hu1 (.lst ((List.range ((cs.length : Nat) : Int).toNat).map fun i => V.int (i : Nat))))
 have e0 : ((List.range ((cs.length : Nat) : Int).toNat).map fun i => V.int (i : Nat)) = (tI (List.range cs.length)).map V.int := by unfold tI; rw [List.map_map]; rfl
 rw [e0] at s2 ⊢
 have uH : H u = none := by
  cases e5 : H u with
  | none => rfl
  | some o => rw [s1 _ _ e5] at hu1; cases hu1
 have hl0 : ((tI (List.range cs.length)).map V.int).length = cs.length := by rw [jQ, Js, wY]
 refine ⟨_, rfl, _, rfl, _, rfl, u, _, _, i, rfl, rfl, Qc, Vl (by omega), ?_⟩
 rw [Qrz]
 refine ⟨_, rfl, _, rfl, _, rfl, u, _, _, j, rfl, rfl, Qc, Vl (by rw [jQ, Js, zX, wY]; omega), ?_⟩
 rw [Qrz]
 have htl : (((List.range cs.length).set i j).set j i).length = cs.length := by rw [zX, zX, wY]
 have htb : ∀ k ∈ ((List.range cs.length).set i j).set j i, k < cs.length := Qry (Qry (fun x hx => wZ.mp hx) hj) hi
 generalize ((List.range cs.length).set i j).set j i = tn at htl htb ⊢
 have s3 : Same H (upd (upd (upd (upd H r (.rng 0 ((cs.length : Nat) : Int))) u (.lst ((tI (List.range cs.length)).map V.int))) u (.lst ((tI ((List.range cs.length).set i j)).map V.int))) u (.lst ((tI tn).map V.int))) := fun b o e => by
  rw [Qo (Qh e uH), Qo (Qh e uH)]; exact s2 _ _ e
 have hu3 : upd (upd (upd (upd H r (.rng 0 ((cs.length : Nat) : Int))) u (.lst ((tI (List.range cs.length)).map V.int))) u (.lst ((tI ((List.range cs.length).set i j)).map V.int))) u (.lst ((tI tn).map V.int)) u = some (.lst ((tI tn).map V.int)) := Qc
 generalize upd (upd (upd (upd H r (.rng 0 ((cs.length : Nat) : Int))) u (.lst ((tI (List.range cs.length)).map V.int))) u (.lst ((tI ((List.range cs.length).set i j)).map V.int))) u (.lst ((tI tn).map V.int)) = H3 at s3 hu3 ⊢
 refine ⟨_, rfl, t, _, _, _, rfl, rfl, s3.tup ht, at0, rl, _, rfl, .inl (s3.seq hl), fun L hL => ?_⟩
 have s4 := Qb hL (.lst vs)
 have s34 := s3.trans s4
 have LH : H L = none := by
  cases e5 : H L with
  | none => rfl
  | some o => rw [s3 _ _ e5] at hL; cases hL
 let Pv1 : Nat → St → Hp → Prop := fun k σ H4 => ∃ (ws : List V) (qs : List Rw) (x y : Option V), σ = [some (.ref t), some (.ref l), some (.int at_), some (.int ((cs.length : Nat) : Int)), some (.int ((i : Nat) : Int)), some (.int ((j : Nat) : Int)), some (.ref u), some (.ref L), x, y, none] ∧ H4 L = some (.lst ws) ∧ RowsAre K H4 ws qs ∧ (∀ r ∈ qs, r.1.length = cs.length) ∧ qs.length ≤ rs.length + k ∧ rs.length ≤ qs.length ∧ H4 u = some (.lst ((tI tn).map V.int)) ∧ Same H H4
 refine ⟨_, rfl, t, _, _, _, rfl, rfl, s34.tup ht, at0, rl, rfl, ⟨_, s34.seq hl⟩, Ju (K := K) (a := rl) (xs := vs) Pv1 ⟨vs, rs, none, none, rfl, Qc, hrw.imp fun _ _ z => z.same s34, hrl, jZ _, jZ _, s4 _ _ hu3, s34⟩ (fun k σ H4 _ h => ?_) ?_ ?_⟩
 ·obtain ⟨ws, qs, x, y, rfl, hL4, hra, hql, hq1, hq2, hu4, s5⟩ := h
  exact s5.seq hl
 ·rintro k x σ H4 e1 ⟨ws, qs, x', y', rfl, hL4, hra, hql, hq1, hq2, hu4, s5⟩
  obtain ⟨t', row, rfl, er, hrt⟩ := hrw.get e1
  have hrow := hrl row (kK er)
  have hk : k < rs.length := (yK.mp er).1
  refine ⟨_, rfl, _, rfl, t', u, row, cs.length, tn, rfl, hrt.same s5, Qj hu4, htl, htb, hrow, by omega, fun r' H5 s6 rr => ?_⟩
  have hL5 := s6 _ _ hL4
  have hra5 := hra.imp fun _ _ z => z.same s6
  refine ⟨_, rfl, .inl ⟨rfl, _, Qj hL5⟩, _, rfl, L, r', _, ws, qs, rfl, rfl, Qj hL5, rr, hra5, fun n1 => ?_⟩
  refine ⟨_, rfl, .inl ⟨rfl, _, Qj hL5⟩, _, rfl, L, t', _, ws, qs, rfl, rfl, Qj hL5, hrt.same (s5.trans s6), hra5, fun n2 => ⟨_, _, rfl, rfl, _, rfl, ite2 (fun _ => ?_) (fun _ => ?_)⟩⟩
  ·refine ⟨_, rfl, .inl ⟨rfl, _, Qj hL5⟩, _, rfl, L, _, _, rfl, rfl, hL5, by rw [hra.length]; omega, ?_⟩
   refine ⟨_, qs ++ [(put row.1 tn cs.length, row.2)], _, _, rfl, Qc, RowsAre.snoc (hra5.imp fun _ _ z => z.upd hL5) (rr.upd hL5), fun r2 hr2 => ?_, by rw [kZ]; simp only [yV, jQb]; omega, by rw [kZ]; omega, ?_, fun b o e => ?_⟩
   ·rcases wJ.mp hr2 with z | z
    ·exact hql r2 z
    ·rw [zK.mp z]; exact (Kv ..).trans htl
   ·have : u ≠ L := fun z => by subst z; rw [hL] at hu3; cases hu3
    rw [Qo this]
    exact s6 _ _ hu4
   ·rw [Qo (Qh e LH)]
    exact s6 _ _ (s5 _ _ e)
  ·exact ⟨ws, qs, _, _, rfl, hL5, hra5, hql, by omega, hq2, s6 _ _ hu4, s5.trans s6⟩
 ·rintro σ H4 ⟨ws, qs, x, y, rfl, hL4, hra, hql, hq1, hq2, hu4, s5⟩
  refine ⟨_, rfl, t, _, _, _, rfl, rfl, s5.tup ht, at1, c, _, rfl, .inr (s5.tup hc), fun C hC => ?_⟩
  have s6 := Qb hC (.lst (cs.map V.int))
  refine ⟨_, rfl, _, rfl, C, _, _, _, rfl, rfl, Qj Qc, Xx (show (cs.map V.int)[j]? = some (.int (cs.getD j 0)) by rw [jY, jK, gE hj]; rfl), _, rfl, _, rfl, C, _, _, i, rfl, rfl, Qc, Vl (by omega), ?_⟩
  rw [Je]
  have s7 : Same H4 (upd (upd H4 C (.lst (cs.map V.int))) C (.lst ((cs.set i (cs.getD j 0)).map V.int))) := fun b o e => by
   rw [Qo (Qh e hC)]; exact s6 _ _ e
  have hC7 : upd (upd H4 C (.lst (cs.map V.int))) C (.lst ((cs.set i (cs.getD j 0)).map V.int)) C = some (.lst ((cs.set i (cs.getD j 0)).map V.int)) := Qc
  generalize upd (upd H4 C (.lst (cs.map V.int))) C (.lst ((cs.set i (cs.getD j 0)).map V.int)) = H7 at s7 hC7 ⊢
  refine ⟨_, rfl, _, rfl, C, _, rfl, .inl ⟨Qj hC7, fun l2 hl2 => ?_⟩⟩
  have s8 := s7.trans (Qb hl2 (.tup ((cs.set i (cs.getD j 0)).map V.int)))
  refine ⟨by show 2 ≤ sizeLine; decide, fun t2 ht2 => ?_⟩
  have s9 := s8.trans (Qb ht2 (.tup [.ref L, .ref l2]))
  have nt : l2 ≠ t2 := Qh Qc ht2
  have lrs : vs.length = rs.length := lv
  refine q t2 qs (cs.set i (cs.getD j 0)) _ (s5.trans s9) ⟨L, l2, ws, Xa Qc, s9.seq (Qj hL4), hra.imp fun _ _ z => z.same s9, Xa (by rw [Qo nt]; exact Qc)⟩ hql (by rw [zX]) (by omega) ⟨fun z => ?_, fun z => ?_⟩
  ·subst z; exact zZ (by simpa using hq2)
  ·subst z; exact zZ (by simp at hq1 lrs; subst lrs; simpa using hq1)
theorem scEven10 : FnScope ["_law_problem_here", "_law_many", "_law_rows"] ["_law_problem_here"] (Qf Qef) := ⟨rfl, rfl, rfl, by decide +kernel, rfl, by decide +kernel, by decide +kernel⟩
theorem Qra (F : Fn K mg "_law_even" Qef) (M : Mg mg) : Cal P w K mg base 1 "_law_even" ["_law_problem_here"] (Qjd K) := by
 refine Xd F scEven10 (fun _ _ _ _ _ _ => bind1 (fun _ => rfl)) (fun vs H Q E h => ?_) (fun f cdv A outer s H vs Q E hr h => ?_)
 ·obtain ⟨t, rs, cs, rfl, _⟩ := h
  rfl
 obtain ⟨t, rs, cs, rfl, hP, hrl, hn, hm, q⟩ := h
 refine ⟨_, (Qg (Qx (i := 1) scEven10.nd rfl (Or.inr rfl) (Qk Qi rfl M.len Xf (Qa (Qm Ql (pv 0) Qd (fun _ _ => rfl)) Qe)))
  (Qg (Qgv (i := 2) ["_law_row_here", "_law_many"] [none, some 1] rfl scEven10.nd rfl (Or.inl rfl) (Yk (Qm Ql (pv 0) Qd (fun _ _ => rfl))) (fun _ _ _ => (Xe (i := 0) (show (["_law_row_here", "_law_many"] : List Str).Nodup by decide +kernel) rfl (Or.inl rfl) (Or.inr rfl))) (fun _ _ _ => Yt) (fun _ _ _ => (Yy (Qa (Qr (Qpv (K := K) rfl) (Vt (Qpw (K := K) rfl) (Qm (Wp (K := K) rfl) (pv 0) Qd (fun _ _ => rfl)) Qbc (Qbd Qd)) (pv 1)) (Qa (Qm (Wp (K := K) rfl) (pv 0) Qd (fun _ _ => rfl)) Qe)))))
  (Qn (Qv (Yy (Qa (pv 2) (Qa (Qr Qhe (Vt Qnh (Qm Ql (pv 0) Qd (fun _ _ => rfl)) Qbc (Qbd Qd)) (pv 1)) Qe))))))), ?_⟩
 refine Yj ?_
 intro rT3 rT2
 have hz : (2000 : Nat) < sizeLine := by decide
 obtain ⟨rl, c, vs, ht, hl, hrw, hc⟩ := id hP
 have lv := hrw.length
 have lc : (cs.map V.int).length = cs.length := jQ ..
 have cut1 : ∀ xs : List Int, cutV (xs.map V.int) none (some 1) = (xs.take 1).map V.int := by
  intro xs
  cases xs with
  | nil => rfl
  | cons x r =>
   unfold cutV
   rw [jQ]
   show (((x :: r).map V.int).drop 0).take (min (1 : Int).toNat (x :: r).length - 0) = _
   rw [List.drop_zero, jYe (show (1 : Int).toNat ≤ (x :: r).length from Nat.succ_le_succ (jXb _))]
   rfl
 have lcut : ∀ xs : List Int, xs.length = cs.length → ((xs.take 1).map V.int).length * Int.toNat ((cs.length : Nat) : Int) ≤ sizeLine := by
  intro xs hx
  rw [jQ, kW]
  exact jQf (Nat.mul_le_mul (Nat.min_le_left _ _) (show Int.toNat ((cs.length : Nat) : Int) ≤ 5 by omega)) (by omega)
 refine ⟨_, rfl, t, _, _, _, rfl, rfl, ht, at1, c, _, rfl, .inr hc, ?_⟩
 rw [lc]
 refine ⟨_, rfl, t, _, _, _, rfl, rfl, ht, at0, rl, rfl, ⟨_, hl⟩, fun D hD => ?_⟩
 let Pv1 : Nat → St → List V → Hp → Prop := fun i τ ys H1 => ∃ (v : Option V) (qs : List Rw), τ = [v, some (.int ((cs.length : Nat) : Int))] ∧ RowsAre K H1 ys qs ∧ qs.length = i ∧ (∀ r ∈ qs, r.1.length = cs.length) ∧ H1 D = some (.lst ys) ∧ Same H H1
 refine Ym (n := rs.length) Pv1 ?_ (fun i τ ys H1 hi h => ?_) (fun i τ ys H1 hi h => ?_) (fun τ ys H1 h => ?_) ?_ ?_
 ·exact ⟨none, [], rfl, .nil, rfl, (fun _ z => nomatch z), Qc, Qb hD _⟩
 ·obtain ⟨v, qs, rfl, hr1, rfl, hql, hD1, s1⟩ := h
  exact ⟨hD1, by rw [hr1.length]; omega⟩
 ·obtain ⟨v, qs, rfl, hr1, rfl, hql, hD1, s1⟩ := h
  exact ⟨vs, vs[qs.length]'(by omega), s1.seq hl, gE (by omega)⟩
 ·obtain ⟨v, qs, rfl, hr1, eq, hql, hD1, s1⟩ := h
  exact ⟨vs, s1.seq hl, by omega⟩
 ·rintro i τ ys H1 x H2 hi ⟨v, qs, rfl, hr1, rfl, hql, hD1, s1⟩ ⟨rfl, e1⟩
  obtain ⟨t', r, rfl, er, p, rt1, rt2⟩ := hrw.get (e1 _ (s1.seq hl))
  have hrow := hrl r (kK er)
  refine ⟨_, rfl, t', _, _, _, rfl, rfl, s1.tup rt1, at0, _, rfl, p, _, rfl, s1.tup rt2, fun p1 H3 s3 hp1 => ?_⟩
  rw [cut1] at hp1
  refine ⟨_, rfl, p1, _, _, rfl, rfl, hp1, by omega, by omega, lcut _ hrow, fun p2 H4 s4 hp2 => ?_⟩
  rw [Qje, show Int.toNat ((cs.length : Nat) : Int) = cs.length by omega] at hp2
  have s34 := s3.trans s4
  refine ⟨_, rfl, t', _, _, _, rfl, rfl, (s1.trans s34).tup rt1, at1, by show 2 ≤ sizeLine; decide, fun t2 ht2 => ?_⟩
  have s5 := s34.trans (Qb ht2 (.tup [.ref p2, .int r.2]))
  refine ⟨s5 _ _ hD1, _, qs ++ [((List.replicate cs.length (r.1.take 1)).flatten, r.2)], rfl, ?_, by rw [kZ]; rfl, fun r2 hr2 => ?_, Qc, fun b o e => ?_⟩
  ·exact RowsAre.snoc (hr1.imp fun _ _ z => (z.same s5).upd (s5 _ _ hD1)) (RowAt.upd (s5 _ _ hD1) ⟨p2, Xa Qc, (Qb ht2 _).tup hp2⟩)
  ·rcases wJ.mp hr2 with z | z
   ·exact hql r2 z
   ·rw [zK.mp z]; exact Qnz _ _ hrow
  ·rw [Qo (Qh e hD)]; exact s5 _ _ (s1 _ _ e)
 ·rintro τ ys H1 ⟨v, qs, rfl, hr1, eq, hql, hD1, s1⟩
  refine ⟨_, rfl, _, rfl, t, _, _, _, rfl, rfl, s1.tup ht, at1, _, rfl, c, _, rfl, s1.tup hc, fun p1 H3 s3 hp1 => ?_⟩
  rw [cut1] at hp1
  refine ⟨_, rfl, p1, _, _, rfl, rfl, hp1, by omega, by omega, lcut _ rfl, fun p2 H4 s4 hp2 => ?_⟩
  rw [Qje, show Int.toNat ((cs.length : Nat) : Int) = cs.length by omega] at hp2
  have s34 := s3.trans s4
  refine ⟨by show 2 ≤ sizeLine; decide, fun t2 ht2 => ?_⟩
  have s5 := s34.trans (Qb ht2 (.tup [.ref D, .ref p2]))
  exact q t2 qs _ _ (s1.trans s5) ⟨D, p2, ys, Xa Qc, s5.seq (Qj hD1), hr1.imp fun _ _ z => z.same s5, (Qb ht2 _).tup hp2⟩ hql (Qnz _ _ rfl) eq
theorem scGiven10 : FnScope ["_law_draws_here", "_law_many", "_law_problem_here", "_law_best"] ["_law_draws_here"] (Qf Qax) := ⟨rfl, rfl, rfl, by decide +kernel, rfl, by decide +kernel, by decide +kernel⟩
theorem Qoq (F : Fn K mg "_law_given" Qax) (M : Mg mg) (cl_problem : Cal P w K mg base 2 "_law_problem" ["_law_draws_here", "_law_at", "_law_many", "_law_rows"] (Qcd K)) (cl_alike : Cal P w K mg base 2 "_law_alike" ["_law_problem_here", "_law_draws_here", "_law_at"] (Qgc K)) (cl_even : Cal P w K mg base 1 "_law_even" ["_law_problem_here"] (Qjd K)) : Cal P w K mg base 3 "_law_given" ["_law_draws_here"] (Qgd K 0) := by
 refine Xd F scGiven10 (fun _ _ _ _ _ _ => bind1 (fun _ => rfl)) (fun vs H Q E h => ?_) (fun f cdv A outer s H vs Q E hr h => ?_)
 ·obtain ⟨l, ds, rfl, _⟩ := h
  rfl
 obtain ⟨l, ds, rfl, hD0, hlen, q⟩ := h
 refine ⟨_, (Qg (Qx (i := 1) scGiven10.nd rfl (Or.inl rfl) (Qr Xn (Qm Qw (pv 0) Qd (fun _ _ => rfl)) Qd))
  (Qg (Qx (i := 2) scGiven10.nd rfl (Or.inl rfl) (Xj cl_problem (hr.mono (by decide)) (Qa (pv 0) (Qa Qd (Qa (pv 1) (Qa (Qr Xn (Qm Qw (pv 0) Qd (fun _ _ => rfl)) Qd) Qe))))))
  (Qg (Yi (Qq Yl (Qr Xn (Qm Qw (pv 0) Qd (fun _ _ => rfl)) Qd) Qd (Qs _)) (Qn (Qx (i := 2) scGiven10.nd rfl (Or.inl rfl) (Xj cl_alike (hr.mono (by decide)) (Qa (pv 2) (Qa (pv 0) (Qa Qd Qe)))))) Xg)
  (Qg (Yi (Qq Yl (Qr Xn (Qm Qw (pv 0) Qd (fun _ _ => rfl)) Qd) Qd (Qs _)) (Qn (Qx (i := 2) scGiven10.nd rfl (Or.inl rfl) (Xj cl_even (hr.mono (by decide)) (Qa (pv 2) Qe)))) Xg)
  (Qg (Qx (i := 3) scGiven10.nd rfl (Or.inl rfl) (Qr Zv (Qr Xn (Qm Qw (pv 0) Qd (fun _ _ => rfl)) Qd) Qd))
  (Qg (Yi (Qq Yl (Qr Xn (Qr Kl (Qm Qw (pv 0) Qd (fun _ _ => rfl)) Qd) Qd) Qd (Qs _)) (Qn (Qx (i := 3) scGiven10.nd rfl (Or.inl rfl) Xy)) Xg)
  (Qn (Qv (Yy (Qa (pv 2) (Qa (pv 3) Qe))))))))))), ?_⟩
 refine Qdn ?_
 intro rT7 rT6 rT5 rT4 rT3 rT2
 obtain ⟨z0, hz0, _, _⟩ := hD0.get 0 (by decide) (by omega)
 obtain ⟨z1, hz1, _, _⟩ := hD0.get 1 (by decide) (by omega)
 obtain ⟨z2, hz2, _, _⟩ := hD0.get 2 (by decide) (by omega)
 obtain ⟨z5, hz5, _, _⟩ := hD0.get 5 (by decide) (by omega)
 have hz : (2000 : Nat) < sizeLine := by decide
 refine ⟨_, rfl, l, _, _, _, rfl, rfl, hD0.lst, hz0, _, _, rfl, rfl, (by show (0 : Int) < _; decide +kernel), ?_⟩
 obtain ⟨n, en, hn5⟩ : ∃ n : Nat, z0 % 6 = (n : Int) ∧ n ≤ 5 := ⟨(z0 % 6).toNat, by omega, by omega⟩
 obtain ⟨m, em, hm5⟩ : ∃ m : Nat, z1 % 6 = (m : Int) ∧ m ≤ 5 := ⟨(z1 % 6).toNat, by omega, by omega⟩
 show tSeq _ _ _ [some (.ref l), some (.int (z0 % 6)), none, none] H
 rw [en]
 clear en
 refine ⟨_, rfl, _, rfl, _, rfl, l, _, _, _, rfl, rfl, hD0.lst, hz1, _, _, rfl, rfl, (by show (0 : Int) < _; decide +kernel), l, ds, 10, n, m, (by show [V.ref l, V.int 10, V.int (n : Int), V.int (z1 % 6)] = _; rw [em]), hD0, by decide, by omega, by omega, by omega, by omega, fun p rs cs H1 s1 hP hr1 hc1 hm1 => ?_⟩
 clear em
 refine Qqk (fun σ' H' => ∃ (p9 : Addr) (rs9 : List Rw) (cs9 : List Int), σ' = [some (.ref l), some (.int (n : Int)), some (.ref p9), none] ∧ ProbAt K H' p9 rs9 cs9 ∧ (∀ r ∈ rs9, r.1.length = n) ∧ cs9.length = n ∧ rs9.length ≤ 10 ∧ Same H H') ?_ fun REST => ?_
 ·rintro σ' H8 ⟨p8, rs8, cs8, rfl, hP8, hr8, hc8, hm8, s8⟩
  refine Qhl (fun σ' H' => ∃ (p9 : Addr) (rs9 : List Rw) (cs9 : List Int), σ' = [some (.ref l), some (.int (n : Int)), some (.ref p9), none] ∧ ProbAt K H' p9 rs9 cs9 ∧ (∀ r ∈ rs9, r.1.length = n) ∧ cs9.length = n ∧ rs9.length ≤ 10 ∧ Same H H') ?_ fun REST => ?_
  rotate_left
  ·refine ⟨_, rfl, l, _, _, _, rfl, rfl, (hD0.same s8).lst, hz2, _, _, rfl, rfl, (by show (0 : Int) < _; decide +kernel), rfl, _, rfl, ite2 (fun _ => ?_) (fun _ => REST _ _ ⟨p8, rs8, cs8, rfl, hP8, hr8, hc8, hm8, s8⟩)⟩
   exact ⟨_, rfl, p8, rs8, cs8, rfl, hP8, fun r hr' => by rw [hc8]; exact hr8 r hr', by omega, hm8, fun p9 rs9 cs9 H9 s9 hP9 hr9 hc9 hm9 => REST _ _ ⟨p9, rs9, cs9, rfl, hP9, fun r hr' => by rw [← hc8]; exact hr9 r hr', by omega, by omega, s8.trans s9⟩⟩
  rintro σ' H9 ⟨p9, rs9, cs9, rfl, hP9, hr9, hc9, hm9, s9⟩
  refine ⟨_, rfl, l, _, _, _, rfl, rfl, (hD0.same s9).lst, hz5, _, _, rfl, rfl, (by show (0 : Int) < _; decide +kernel), _, _, rfl, rfl, ?_⟩
  refine ⟨_, rfl, l, _, _, _, rfl, rfl, (hD0.same s9).lst, hz5, _, _, rfl, rfl, ⟨by decide, by decide⟩, _, _, rfl, rfl, (by show (0 : Int) < _; decide +kernel), rfl, _, rfl, ite2 (fun _ => ?_) (fun _ => ?_)⟩
  ·exact ⟨_, rfl, _, rfl, by show 2 ≤ sizeLine; decide, fun t ht => q t p9 rs9 cs9 none _ (s9.trans (Qb ht _)) (Xa Qc) (hP9.same (Qb ht _)) (fun r hr' => by rw [hc9]; exact hr9 r hr') (by omega) (by omega) hm9⟩
  ·exact ⟨_, rfl, _, rfl, by show 2 ≤ sizeLine; decide, fun t ht => q t p9 rs9 cs9 (some _) _ (s9.trans (Qb ht _)) (Xa Qc) (hP9.same (Qb ht _)) (fun r hr' => by rw [hc9]; exact hr9 r hr') (by omega) (by omega) hm9⟩
 ·refine ⟨_, rfl, l, _, _, _, rfl, rfl, (hD0.same s1).lst, hz2, _, _, rfl, rfl, (by show (0 : Int) < _; decide +kernel), rfl, _, rfl, ite2 (fun _ => ?_) (fun _ => REST _ _ ⟨p, rs, cs, rfl, hP, hr1, hc1, by omega, s1⟩)⟩
  exact ⟨_, rfl, _, rfl, p, l, ds, 3, rs, cs, rfl, hP, hD0.same s1, by decide, by omega, fun r hr' => by rw [hc1]; exact hr1 r hr', by omega, by omega, fun p9 rs9 cs9 H9 s9 hP9 hr9 hc9 hm9 _ => REST _ _ ⟨p9, rs9, cs9, rfl, hP9, fun r hr' => by rw [← hc1]; exact hr9 r hr', by omega, hm9, s1.trans s9⟩⟩
end
abbrev Qjr : Stmt := top 39
abbrev sLaw : Stmt := top 62
theorem Qtp {ws : List V} {v : V} (h : ws[ws.length - 1]? = some v) (h0 : 0 < ws.length) : atI ws (-1) = some v := by
 unfold atI ixN
 rw [if_neg (by omega), if_pos (by omega)]
 show ws[((-1 : Int) + (ws.length : Int)).toNat]? = _
 rw [show ((-1 : Int) + (ws.length : Int)).toNat = ws.length - 1 by omega]
 exact h
theorem Qrb {xs : List Int} {n : Nat} (h : xs.length = n) : xs = List.replicate n 0 ↔ (xs.all fun x => decide (x = 0)) = true := by
 rw [xW]
 constructor
 ·intro e x hx
  rw [e] at hx
  exact jW (List.eq_of_mem_replicate hx)
 ·intro hh
  exact List.eq_replicate_iff.mpr ⟨h, fun x hx => yX (hh x hx)⟩
theorem rep0V (n : Nat) : (List.replicate n [V.int 0]).flatten = (List.replicate n (0 : Int)).map V.int := rep0 n
section
variable {P : Program} {w : World} {K : Fg} {mg : Str → Option Value} {base : Heap} {aT aL : Addr} {fT fL : Str → Option Value}
theorem Qtq : FnScope ["_law_found"] ["_law_found"] (Qf Qjr) := ⟨rfl, rfl, rfl, by decide +kernel, rfl, by decide +kernel, by decide +kernel⟩
theorem Qtr (F : Fn K mg "_law_whole" Qjr) (M : Mg mg) : Cal P w K mg base 1 "_law_whole" ["_law_found"] (Qmr) := by
 refine Xd F Qtq (fun _ _ _ _ _ _ => bind1 (fun _ => rfl)) (fun vs H Q E h => ?_) (fun f cdv A outer s H vs Q E hr h => ?_)
 ·obtain ⟨z, rfl, _⟩ := h
  rfl
 obtain ⟨z, rfl, q⟩ := h
 refine ⟨_, (Qn (Qv (Jo (Qk Qib rfl M.isinstance Xk (Qa (pv 0) (Qa (Qai M.int_ Qmn) Qe))) (Kj (Qrk (Qk Qib rfl M.isinstance Xk (Qa (pv 0) (Qa (Qai M.bool_ Qmo) Qe)))))))), ?_⟩
 refine ⟨_, rfl, _, "int", true, rfl, .inl ⟨rfl, rfl⟩, true, rfl, ?_⟩
 refine iteT ⟨_, rfl, _, "bool", false, rfl, .inr (.inl ⟨rfl, rfl⟩), false, rfl, q⟩
theorem scLaw : FnScope ["_law_script", "_law_draws_here", "_law_problem_here", "_law_best", "_law_paper_here", "_law_due", "_law_handed", "_law_lines", "_law_found", "_law_row_here", "_law_judge"] ["_law_script"] (Qf sLaw) := ⟨rfl, rfl, rfl, by decide +kernel, rfl, by decide +kernel, by decide +kernel⟩
theorem okLaw {f : Addr} {fd : FuncData} (F : Fun K "law" "law" sLaw f fd) (M : Mg mg) (cl_draws : Cal P w K mg base 2 "_law_draws" ["_law_script", "_law_many"] (Qgb K)) (cl_given : Cal P w K mg base 3 "_law_given" ["_law_draws_here"] (Qgd K 0)) (cl_paper : Cal P w K mg base 5 "_law_paper" ["_law_draws_here", "_law_problem_here", "_law_best"] (Qgn K)) (cl_whole : Cal P w K mg base 1 "_law_whole" ["_law_found"] (Qmr)) (c_rows_told : Cal P w K mg base 7 "rows_told" ["problem", "best", "paper"] (Qaa K)) (c_judged : Cal P w K mg base 8 "judged" ["problem", "best", "paper"] (Qjg K)) : FnOk P w K mg base CX0 11 f fd ["_law_script"] (Qpm K) := by
 refine F.ok scLaw (fun vs H Q E h => ?_) (fun cdv A outer s H vs Q E hr h => ?_)
 ·obtain ⟨a, ns, rfl, _⟩ := h
  rfl
 obtain ⟨a, ns, rfl, hS, hB, q⟩ := h
 have hu6 : (A.deeper (PyProof.Rows.envOfC "law" (Qf sLaw) s.heap.objs.size f cdv)).units + 6 < cLine := xZ (wW (by decide) _) hr.un
 refine ⟨_, (QSs.pss (Qp (Yw (i := 1) scLaw.nd rfl (Or.inl rfl) (QE.of (Xj cl_draws (hr.mono (by decide)) (Xv (pv 0) (Qbu Qd Qe)))))
  (Qp (Qbv (QE.of (Xj cl_given (hr.mono (by decide)) (Xv (pv 1) Qe))) (Zi (K := K) (i := 2) (j := 3) rfl rfl scLaw.nd rfl rfl rfl rfl))
  (Qp (Qbv (QE.of (Xj cl_paper (hr.mono (by decide)) (Xv (pv 1) (Xv (pv 2) (Xv (pv 3) Qe))))) (Zi (K := K) (i := 4) (j := 5) rfl rfl scLaw.nd rfl rfl rfl rfl))
  (Qp (Yw (i := 6) scLaw.nd rfl (Or.inl rfl) (Yo (Ja (QE.of (Qz Zl rfl M.list_ Zy (Zn (Qm Ql (pv 2) Qd (fun _ _ => rfl)) Qe))) (Qaf (QE.of (Qm Ql (pv 2) Qd (fun _ _ => rfl))) Xs))))
  (Qp (Yw (i := 7) scLaw.nd rfl (Or.inl rfl) (QE.of (Qz Zl rfl M.list_ Zy (Xv (pv 4) Qe))))
  (Qp (Yw (i := 8) scLaw.nd rfl (Or.inl rfl) (QE.of (Xj c_rows_told (hr.mono (by decide)) (Xv (pv 6) (Xv (pv 3) (Xv (pv 7) Qe))))))
  (Qp (Ze (PW.pt (Ki (Yh (Ya (Qk Yv rfl M.isinstance Xk (Xv (pv 8) (Xv (Qai M.list_ Zy) Qe))))) (Ki (Qq (Qmm (n := 6) hu6) (pv 8) (pv 5) (Qs _)) (Ki (Qq (Qmm (n := 6) hu6) (pv 6) (pv 2) (Qs _)) (Jf (Qq (Qoc (K := K) (n := 6) rfl hu6) (pv 7) (pv 4) (Qs _))))))) (Xc (Xt (QE.of Qgq))) Xl)
  (Qp (QS.of (Yq PassesOwn.never rfl (Yk (pv 8)) (Xe (i := 9) scLaw.nd rfl (Or.inl rfl) (Or.inl rfl)) (QSs.pss (Qp (Ze (PW.pt (Ki (Yh (Ya (Qk Yv rfl M.isinstance Xk (Xv (pv 9) (Xv (Qai M.tuple_ Xo) Qe))))) (Jf (Yh (Ya (Xj cl_whole (hr.mono (by decide)) (Zn (Qm Ql (pv 9) Qd (fun _ _ => rfl)) Qe))))))) (Xc (Xt (QE.of Qgq))) Xl)
  (Xc (Ze (Qq Qcy (Qk Qi rfl M.len Xf (Qhf (Jr ["_law_number"] [none] rfl (Qac (Qm Ql (pv 9) Qd (fun _ _ => rfl))) (fun _ _ _ => (Xe (i := 0) (show (["_law_number"] : List Str).Nodup by decide +kernel) rfl (Or.inl rfl) (Or.inr rfl))) (fun _ _ _ => (Qrq (Ya (Xj cl_whole (hr.mono (by decide)) (Xv (pv 0) Qe))))) (fun _ _ _ => (pv 0))) Qe)) (Qk Qi rfl M.len Xf (Zn (Qm Ql (pv 2) Qd (fun _ _ => rfl)) Qe)) (Qs _)) (Xc (Xt (QE.of Qgq))) Xl))))))
  (Qp (Yw (i := 10) scLaw.nd rfl (Or.inl rfl) (QE.of (Xj c_judged (hr.mono (by decide)) (Xv (pv 6) (Xv (pv 3) (Xv (pv 7) Qe))))))
  (Qp (Ze (Qq Qah (Qk Qi rfl M.len Xf (Xv (pv 5) Qe)) (Qk Qi rfl M.len Xf (Xv (pv 4) Qe)) (Qs _)) (Xc (Xt (QE.of (Jo (Yg Yl (pv 10) (Qk Qi rfl M.len Xf (Xv (pv 5) Qe)) (Qs _)) (Kj (Xj cl_whole (hr.mono (by decide)) (Xv (pv 10) Qe))))))) Xl)
  (Qp (Ze (PW.pt (Kc (Qq (Qjh (K := K) (n := 6) rfl hu6) (pv 5) (QE.pe (Vf Xs)) (Qs _)) (Kc (Qq Qlq (Qm Ql (Qm Qw (pv 5) (Vi Zw Qd) (fun _ _ => rfl)) Qd (fun _ _ => rfl)) Qd (Qs _)) (Jl (Qq (Qie (n := 6) hu6) (Qm Ql (Qm Qw (pv 5) (Vi Zw Qd) (fun _ _ => rfl)) Qd (fun _ _ => rfl)) (Qr Qhe (QE.pe (Yo (Xb (QE.of Qd) Xs))) (Qk Qi rfl M.len Xf (Zn (Qm Ql (pv 2) Qd (fun _ _ => rfl)) Qe))) (Qs _)))))) (Xc (Xt (QE.of (Yg Qhy (pv 10) Xy (Qs _))))) Xl)
  (Xc (Xt (QE.of (Jo (Xj cl_whole (hr.mono (by decide)) (Xv (pv 10) Qe)) (Kj (Yg Yl (pv 10) (Qk Qi rfl M.len Xf (Xv (pv 4) Qe)) (Qs _))))))))))))))))))), ?_⟩
 refine Qni ?_
 intro rT12 rT11 rT10 rT9 rT8 rT7 rT6 rT5 rT4 rT3 rT2
 have hz : (2000 : Nat) < sizeLine := by decide
 refine ⟨_, rfl, a, ns, 230, rfl, hS, by decide, fun l ds H1 hlen s1 hD => ?_⟩
 refine ⟨_, rfl, l, ds, rfl, hD, by omega, fun t p rs cs best H2 s2 ht hP hrl hlo hn hm => ?_⟩
 refine ⟨t, _, rfl, ht, rfl, _, _, rfl, _, _, rfl, rfl, ?_⟩
 obtain ⟨rl, c, vs, hpt, hl, hrw, hc⟩ := id hP
 have lv := hrw.length
 have lc : (cs.map V.int).length = cs.length := jQ ..
 refine ⟨_, rfl, _, rfl, _, rfl, l, p, ds, rs, cs, best, rfl, hD.same s2, hlen, hP, hrl, hn, hm, fun pr P T us ws lns H3 s3 hpr hP3 hTs hok hT3 hra hll => ?_⟩
 refine ⟨pr, _, rfl, hpr, rfl, _, _, rfl, _, _, rfl, rfl, ?_⟩
 have lu := hTs.1
 rw [jQ] at lu
 refine ⟨_, rfl, p, _, _, _, rfl, rfl, s3.tup hpt, at0, rl, _, rfl, .inl (s3.seq hl), fun L fL => ?_⟩
 have s5 := Qb fL (.lst vs)
 refine ⟨_, rfl, p, _, _, _, rfl, rfl, (s3.trans s5).tup hpt, at1, by show 2 ≤ sizeLine; decide, fun hd fhd => ?_⟩
 have s6 := s5.trans (Qb fhd (.tup [.ref L, .ref c]))
 have hhd : ProbAt K (upd (upd H3 L (.lst vs)) hd (.tup [.ref L, .ref c])) hd rs cs := ⟨L, c, vs, Xa Qc, Qj (by rw [Qo (Qh Qc fhd)]; exact Qc), hrw.imp fun _ _ z => (z.same s3).same s6, s6.tup (s3.tup hc)⟩
 generalize upd (upd H3 L (.lst vs)) hd (.tup [.ref L, .ref c]) = H5 at s6 hhd ⊢
 have hP5 := s6 _ _ hP3
 refine ⟨_, rfl, P, _, rfl, .inl (Qj hP5), fun LL fLL => ?_⟩
 have s7 := s6.trans (Qb fLL (.lst us))
 have hLL : upd H5 LL (.lst us) LL = some (.lst us) := Qc
 have hhd6 := hhd.same (Qb fLL (.lst us))
 generalize upd H5 LL (.lst us) = H6 at s7 hLL hhd6 ⊢
 have hp6 := (hP.same s3).same s7
 have hpt6 := s7.tup (s3.tup hpt)
 have hc6 := s7.tup (s3.tup hc)
 have hTs6 := hTs.same s7
 have hra6 := hra.imp fun _ _ z => z.same s7
 have hP6 := s7 _ _ hP3
 have hT6 := s7 _ _ hT3
 have X : Px K H6 hd LL rs cs us (lns.map lnD) := ⟨hhd6, Qj hLL, hTs6.1, hTs6.2, fun x hx => by obtain ⟨y, hy, rfl⟩ := jQd.mp hx; exact sm_ln hn (hok y hy), hrl, by omega, by omega, by rw [jQ]; omega, fun _ _ _ _ _ _ => trivial⟩
 obtain ⟨hlenR, _, hlt⟩ := Wz (best := best) hrl (lns.map lnD) [] (fun _ h => nomatch h)
 rw [jQb, Nat.zero_add, jQ] at hlt
 have lw := hra.length
 refine ⟨_, rfl, _, rfl, _, rfl, hd, LL, rs, cs, best, us, lns.map lnD, rfl, X, fun F fv H7 _ s8 hF hFr => ?_⟩
 have hrefs : ∀ x ∈ us, ∃ c, x = V.ref c := fun x hx => by
  obtain ⟨i, hi, rfl⟩ := jXf.mp hx
  have h9 := hTs.2 i _ _ (gE hi) (gE (show i < (lns.map lnD).length by rw [jQ]; omega))
  rw [kQd, Qsc] at h9
  obtain ⟨a', _, e, _⟩ := h9.tup_inv
  exact ⟨a', e⟩
 refine ⟨_, rfl, _, "list", _, rfl, .list, .inr ⟨⟨_, Qj hF⟩, rfl⟩, _, rfl, iteF ⟨_, rfl, _, rfl, F, T, _, _, rfl, rfl, RowsAre.hasD (Qj hF) hFr, RowsAre.hasD (Qj (s8 _ _ hT6)) (hra6.imp fun _ _ z => z.same s8), Vz _ _, fun c1 hc1 => ⟨_, rfl, ?_⟩⟩⟩
 have e1 : c1 = true := hc1.mpr rfl
 subst e1
 refine iteF ⟨_, rfl, _, rfl, hd, p, _, _, rfl, rfl, (hhd6.same s8).hasD, (hp6.same s8).hasD, Qms _ _ _ _, fun c2 hc2 => ⟨_, rfl, ?_⟩⟩
 have e2 : c2 = true := hc2.mpr rfl
 subst e2
 refine iteF ⟨_, rfl, _, rfl, LL, P, us, rfl, rfl, s8.seq (Qj hLL), s8.seq (Qj hP6), hrefs, _, rfl, iteF ?_⟩
 let Pv1 : Nat → St → Hp → Prop := fun i σ G => (∃ u : Option V, σ = [some (.ref a), some (.ref l), some (.ref p), some (Ks best), some (.ref P), some (.ref T), some (.ref hd), some (.ref LL), some (.ref F), u, none]) ∧ Same H7 G
 refine ⟨_, rfl, F, rfl, ⟨_, Qj hF⟩, Ju (K := K) (a := F) (xs := fv) Pv1 ⟨⟨none, rfl⟩, Same.refl _⟩ (fun i σ G _ h => h.2.seq (Qj hF)) ?_ ?_⟩
 ·rintro i x σ G ex ⟨⟨u, rfl⟩, sG⟩
  obtain ⟨tr, r, rfl, er, pq, rt1, rt2⟩ := hFr.get ex
  have hr' := hlenR r (kK er)
  refine ⟨_, rfl, _, "tuple", _, rfl, .tuple, .inl ⟨⟨_, sG.tup rt1⟩, rfl⟩, _, rfl, iteF ⟨_, rfl, tr, _, _, _, rfl, rfl, sG.tup rt1, at1, _, rfl, ⟨_, rfl, iteF ?_⟩⟩⟩
  refine ⟨_, rfl, tr, _, _, _, rfl, rfl, sG.tup rt1, at0, pq, rfl, ⟨_, sG.tup rt2⟩, fun D hD => ?_⟩
  let Pv2 : Nat → St → List V → Hp → Prop := fun i τ ys G2 => ∃ v : Option V, τ = [v] ∧ ys = (r.1.take i).map V.int ∧ G2 D = some (.lst ys) ∧ Same G G2
  refine Ym (n := r.1.length) Pv2 ?_ (fun i τ ys G2 hi h => ?_) (fun i τ ys G2 hi h => ?_) (fun τ ys G2 h => ?_) ?_ ?_
  ·exact ⟨none, rfl, rfl, Qc, Qb hD _⟩
  ·obtain ⟨v, rfl, rfl, hD2, sG2⟩ := h
   exact ⟨hD2, by rw [jQ, kW]; omega⟩
  ·obtain ⟨v, rfl, rfl, hD2, sG2⟩ := h
   exact ⟨_, .int r.1[i], (sG.trans sG2).tup rt2, by rw [jY, gE hi]; rfl⟩
  ·obtain ⟨v, rfl, rfl, hD2, sG2⟩ := h
   exact ⟨_, (sG.trans sG2).tup rt2, by rw [jQ]; exact jZ _⟩
  ·rintro i τ ys G2 x G3 hi ⟨v, rfl, rfl, hD2, sG2⟩ ⟨rfl, e1⟩
   obtain ⟨z, ez, rfl⟩ := Yn (e1 _ ((sG.trans sG2).tup rt2))
   refine ⟨_, rfl, _, rfl, ⟨_, rfl, iteT ⟨_, rfl, hD2, _, rfl, ?_, Qc, fun b o e => ?_⟩⟩⟩
   ·rw [Zz ez, kX]; rfl
   ·rw [Qo (Qh e hD)]; exact sG2 _ _ e
  ·rintro τ ys G2 ⟨v, rfl, rfl, hD2, sG2⟩
   rw [wQ] at hD2
   refine ⟨D, _, rfl, .inl (Qj hD2), _, rfl, p, _, _, _, rfl, rfl, (s8.trans (sG.trans sG2)).tup hpt6, at1, c, _, rfl, .inr ((s8.trans (sG.trans sG2)).tup hc6), rfl, _, rfl, ?_⟩
   rw [lc, jQ, hr', Kr, jW rfl]
   exact iteF ⟨⟨_, rfl⟩, sG.trans sG2⟩
 ·rintro σ G ⟨⟨u, rfl⟩, sG⟩
  have s6G := s8.trans sG
  refine ⟨_, rfl, _, rfl, _, rfl, hd, LL, rs, cs, best, us, lns.map lnD, rfl, X.same s6G, fun H8 s9 => ?_⟩
  have s68 := s6G.trans s9
  have hT8 := s68 _ _ hT6
  have hP8 := s68 _ _ hP6
  have hra8 := hra6.imp fun _ _ z => z.same s68
  have ejt : Qea rs cs best (lns.map lnD) = if (Xm rs cs best (lns.map lnD) []).length = (lns.map lnD).length ∧ 0 < (Xm rs cs best (lns.map lnD) []).length ∧ Kb ((Xm rs cs best (lns.map lnD) []).getLastD ([], 0)) = true then none else some (Xm rs cs best (lns.map lnD) []).length := rfl
  rw [jQ] at ejt
  generalize Qea rs cs best (lns.map lnD) = jt at ejt ⊢
  generalize Xm rs cs best (lns.map lnD) [] = told at *
  refine ⟨_, rfl, T, _, rfl, .inl (Qj hT8), _, rfl, P, _, rfl, .inl (Qj hP8), _, _, rfl, rfl, _, rfl, ite2 (fun z => ?_) (fun z => ?_)⟩
  ·have z' : ((ws.length : Nat) : Int) < ((us.length : Nat) : Int) := yX z
   rw [if_neg (fun y => by have := y.1; omega)] at ejt
   subst ejt
   refine ⟨_, rfl, _, rfl, T, _, rfl, .inl (Qj hT8), rfl, _, rfl, ?_⟩
   show (if decide (V.int ((told.length : Nat) : Int) = V.int ((ws.length : Nat) : Int)) = true then _ else _)
   rw [lw, Kr, jW rfl]
   exact iteT ⟨_, rfl, _, rfl, q _⟩
  have z' : ¬ ((ws.length : Nat) : Int) < ((us.length : Nat) : Int) := fun y => z (jW y)
  have hll2 : told.length = lns.length := by omega
  refine ⟨_, rfl, by show 0 ≤ sizeLine; decide, fun e0 fe0 => ⟨T, e0, ws, rfl, rfl, Qj ((Qb fe0 _) _ _ hT8), Qj Qc, _, rfl, ?_⟩⟩
  have s10 := Qb fe0 (.lst [])
  generalize upd H8 e0 (.lst []) = H9 at s10 ⊢
  have hT9 := s10 _ _ hT8
  have hP9 := s10 _ _ hP8
  by_cases h0 : told.length = 0
  ·have hw0 : ws = [] := zZ (by omega)
   rw [if_neg (fun y => by have := y.2.1; omega)] at ejt
   subst ejt
   subst hw0
   refine iteF (⟨_, rfl, _, rfl, ⟨_, rfl, iteT ⟨_, rfl, _, rfl, P, _, rfl, .inl (Qj hP9), rfl, ?_⟩⟩⟩)
   have ef : decide (V.int ((told.length : Nat) : Int) = V.int ((us.length : Nat) : Int)) = true := by rw [Kr]; exact jW (by omega)
   show Q (.bl (decide (V.int ((told.length : Nat) : Int) = V.int ((us.length : Nat) : Int)))) _
   rw [ef]
   exact q _
  ·have hpos : 0 < told.length := by omega
   have hne : ws.isEmpty = false := by
    cases ws with
    | nil => simp at lw; omega
    | cons _ _ => rfl
   rw [hne]
   obtain ⟨ar, r, e1, e2, hr9⟩ := hra8.get (gE (show told.length - 1 < ws.length by omega))
   have hlast : told.getLastD ([], 0) = r := by
    rw [List.getLastD_eq_getLast?, List.getLast?_eq_getElem?, e2]
    rfl
   have hrlen := hlenR r (kK e2)
   have ea : atI ws (-1) = some (.ref ar) := Qtp (by rw [lw, gE (show told.length - 1 < ws.length by omega), e1]) (by omega)
   obtain ⟨pq, r1, r2⟩ := hr9
   refine iteT ⟨_, rfl, _, rfl, T, _, _, _, rfl, rfl, Qj hT9, ea, ar, _, _, _, rfl, rfl, s10.tup r1, at1, _, _, rfl, rfl, _, rfl, ite2 (fun y => ?_) (fun y => ?_)⟩
   ·have y1 : r.2 > 0 := yX y
    refine ⟨_, rfl, _, rfl, T, _, _, _, rfl, rfl, Qj hT9, ea, ar, _, _, _, rfl, rfl, s10.tup r1, at0, by show 1 ≤ sizeLine; decide, fun zt hzt => ?_⟩
    have s11 := s10.trans (Qb hzt (.tup [.int 0]))
    refine ⟨_, rfl, p, _, _, _, rfl, rfl, (s68.trans s11).tup hpt6, at1, c, _, rfl, .inr ((s68.trans s11).tup hc6), ?_⟩
    rw [lc]
    refine ⟨zt, _, _, rfl, rfl, Xa Qc, by omega, by omega, by show 1 * ((cs.length : Int)).toNat ≤ sizeLine; omega, fun zp H10 s12 hzp => ?_⟩
    rw [show Int.toNat ((cs.length : Nat) : Int) = cs.length by omega, rep0V] at hzp
    have s13 := s11.trans s12
    refine ⟨pq, zp, _, _, rfl, rfl, Qkd (s13.tup r2), Qkd hzp, Vy _ _, fun cb hcb => ⟨_, rfl, ?_⟩⟩
    have hcb' : cb = true ↔ (r.1.all fun x => decide (x = 0)) = true := by
     rw [hcb, ← Qrb hrlen]
     constructor
     ·intro e
      have e9 : r.1.map L2.D.int = (List.replicate cs.length (0 : Int)).map L2.D.int := by injection e
      exact (List.map_inj_right (fun _ _ h => by cases h; rfl)).mp e9
     ·intro e; rw [e]
    have hbr : Kb r = cb := by
     unfold Kb
     rw [jW (show 1 ≤ r.2 by omega), Bool.and_true]
     exact xY.mpr hcb'.symm
    cases cb with
    | true =>
     rw [if_pos ⟨hll2, hpos, by rw [hlast]; exact hbr⟩] at ejt
     subst ejt
     exact iteT ⟨_, rfl, rfl, q _⟩
    | false =>
     rw [if_neg (fun y => by have y2 := y.2.2; rw [hlast, hbr] at y2; cases y2)] at ejt
     subst ejt
     refine iteF (⟨_, rfl, _, rfl, ⟨_, rfl, iteT ⟨_, rfl, _, rfl, P, _, rfl, .inl (Qj (s12 _ _ ((Qb hzt _) _ _ hP9))), rfl, ?_⟩⟩⟩)
     have ef : decide (V.int ((told.length : Nat) : Int) = V.int ((us.length : Nat) : Int)) = true := by rw [Kr]; exact jW (by omega)
     show Q (.bl (decide (V.int ((told.length : Nat) : Int) = V.int ((us.length : Nat) : Int)))) _
     rw [ef]
     exact q _
   ·have y1 : ¬ r.2 > 0 := fun w => y (jW w)
    rw [if_neg (fun y => by
     have y2 := y.2.2
     rw [hlast] at y2
     unfold Kb at y2
     rw [zV] at y2
     have := yX y2.2
     omega)] at ejt
    subst ejt
    refine iteF (⟨_, rfl, _, rfl, ⟨_, rfl, iteT ⟨_, rfl, _, rfl, P, _, rfl, .inl (Qj hP9), rfl, ?_⟩⟩⟩)
    have ef : decide (V.int ((told.length : Nat) : Int) = V.int ((us.length : Nat) : Int)) = true := by rw [Kr]; exact jW (by omega)
    show Q (.bl (decide (V.int ((told.length : Nat) : Int) = V.int ((us.length : Nat) : Int)))) _
    rw [ef]
    exact q _
end
abbrev Qeg : Stmt := top 5
abbrev Ky : Stmt := top 6
abbrev Wm : Stmt := top 8
abbrev Qay : Stmt := top 9
section
variable {P : Program} {w : World} {K : Fg} {mg : Str → Option Value} {base : Heap} {aT aL : Addr} {fT fL : Str → Option Value}
theorem scSingle : FnScope ["count", "choice", "number", "least", "numbers"] ["count", "choice", "number", "least"] (Qf Qeg) := ⟨rfl, rfl, rfl, by decide +kernel, rfl, by decide +kernel, by decide +kernel⟩
theorem Qrc (F : Fn K mg "single_row" Qeg) (M : Mg mg) : Cal P w K mg base 1 "single_row" ["count", "choice", "number", "least"] (Qdv K) := by
 refine Xd F scSingle (fun _ _ _ _ _ _ => Wr (fun _ _ _ _ => rfl)) (fun vs H Q E h => ?_) (fun f cdv A outer s H vs Q E hr h => ?_)
 ·obtain ⟨n, c, x, l, rfl, _⟩ := h
  rfl
 obtain ⟨n, c, x, l, rfl, hc, hn, q⟩ := h
 refine ⟨_, (Qg (Qx (i := 4) scSingle.nd rfl (Or.inl rfl) (Qr Vd (Jg (Qa Qd Qe)) (pv 0)))
  (Qg (Vc (pv 2) (Jp (pv 4) (pv 1) set_list))
  (Qn (Qv (Yy (Qa (Qz Qy rfl M.tuple_ Xo (Qa (pv 4) Qe)) (Qa (pv 3) Qe))))))), ?_⟩
 refine Yj ?_
 intro rT3 rT2
 have hz : (1000 : Nat) < sizeLine := by decide
 refine ⟨by show 1 ≤ sizeLine; decide, fun p0 hp0 => ?_⟩
 refine ⟨_, rfl, p0, (n : Int), _, rfl, rfl, Qc, by omega, by omega, by show 1 * ((n : Int)).toNat ≤ sizeLine; omega, fun g0 hg0 => ?_⟩
 have e0 : (List.replicate ((n : Int)).toNat [V.int 0]).flatten = (List.replicate n (0 : Int)).map V.int := rep0 n
 rw [e0]
 have s0 : Same H (upd (upd H p0 (.lst [.int 0])) g0 (.lst ((List.replicate n (0 : Int)).map V.int))) := (Qb hp0 _).trans (Qb hg0 _)
 have gH : H g0 = none := by
  cases e5 : H g0 with
  | none => rfl
  | some o => rw [Qb hp0 (.lst [.int 0]) _ _ e5] at hg0; cases hg0
 have hg : upd (upd H p0 (.lst [.int 0])) g0 (.lst ((List.replicate n (0 : Int)).map V.int)) g0 = some (.lst ((List.replicate n (0 : Int)).map V.int)) := Qc
 generalize upd (upd H p0 (.lst [.int 0])) g0 (.lst ((List.replicate n (0 : Int)).map V.int)) = H0 at s0 hg ⊢
 refine ⟨_, rfl, _, rfl, _, rfl, g0, _, _, c, rfl, rfl, hg, Vl (by rw [jQ, xQ]; exact hc), ?_⟩
 rw [Je]
 have s1 : Same H (upd H0 g0 (.lst (((List.replicate n (0 : Int)).set c x).map V.int))) := fun b o e => by rw [Qo (Qh e gH)]; exact s0 _ _ e
 refine ⟨_, rfl, g0, _, rfl, .inl ⟨Qj Qc, fun l2 hl2 => ⟨_, rfl, by show 2 ≤ sizeLine; decide, fun t ht => ?_⟩⟩⟩
 exact q t _ ((s1.trans (Qb hl2 _)).trans (Qb ht _)) (Jm ht)
theorem Qhs : FnScope ["problem", "best"] ["problem", "best"] (Qf Ky) := ⟨rfl, rfl, rfl, by decide +kernel, rfl, by decide +kernel, by decide +kernel⟩
theorem Qht (F : Fn K mg "better_row" Ky) (M : Mg mg) : Cal P w K mg base 1 "better_row" ["problem", "best"] (Qiy K) := by
 refine Xd F Qhs (fun _ _ _ _ _ _ => Jb (fun _ _ => rfl)) (fun vs H Q E h => ?_) (fun f cdv A outer s H vs Q E hr h => ?_)
 ·obtain ⟨t, rs, cs, b, rfl, _⟩ := h
  rfl
 obtain ⟨t, rs, cs, b, rfl, ⟨l, c, us, ht, hl, hrw, hc⟩, hn, q⟩ := h
 refine ⟨_, (Qn (Qv (Yy (Qa (Qz Qy rfl M.tuple_ Xo (Qa (Jr ["cost"] [none] rfl (Qac (Qm Ql (pv 0) Qd (fun _ _ => rfl))) (fun _ _ _ => (Xe (i := 0) (show (["cost"] : List Str).Nodup by decide +kernel) rfl (Or.inl rfl) (Or.inr rfl))) (fun _ _ _ => Yt) (fun _ _ _ => (Vi Zw (pv 0)))) Qe)) (Qa (Qr Zv Qd (pv 1)) Qe))))), ?_⟩
 have hz : (1000 : Nat) < sizeLine := by decide
 refine ⟨_, rfl, t, _, _, _, rfl, rfl, ht, at1, c, rfl, ⟨_, hc⟩, fun D hD => ?_⟩
 let Pv1 : Nat → St → List V → Hp → Prop := fun i τ ys H1 => ∃ v : Option V, τ = [v] ∧ ys = ((cs.map fun c => -c).take i).map V.int ∧ H1 D = some (.lst ys) ∧ Same H H1
 refine Ym (n := cs.length) Pv1 ?_ (fun i τ ys H1 hi h => ?_) (fun i τ ys H1 hi h => ?_) (fun τ ys H1 h => ?_) ?_ ?_
 ·exact ⟨none, rfl, rfl, Qc, Qb hD _⟩
 ·obtain ⟨v, rfl, rfl, hE, s1⟩ := h
  exact ⟨hE, by rw [jQ, kW]; omega⟩
 ·obtain ⟨v, rfl, rfl, hE, s1⟩ := h
  exact ⟨_, .int cs[i], s1.tup hc, by rw [jY, gE hi]; rfl⟩
 ·obtain ⟨v, rfl, rfl, hE, s1⟩ := h
  exact ⟨_, s1.tup hc, by rw [jQ]; exact jZ _⟩
 ·rintro i τ ys H1 x H2 hi ⟨v, rfl, rfl, hE, s1⟩ ⟨rfl, e1⟩
  obtain ⟨z, ez, rfl⟩ := Yn (e1 _ (s1.tup hc))
  refine ⟨_, rfl, _, rfl, hE, _, rfl, ?_, Qc, fun b' o e => ?_⟩
  ·rw [Zz (show (cs.map fun c => -c)[i]? = some (-z) by rw [jY, ez]; rfl), kX]; rfl
  ·rw [Qo (Qh e hD)]; exact s1 _ _ e
 ·rintro τ ys H1 ⟨v, rfl, rfl, hE, s1⟩
  rw [zQ (by rw [jQ]; exact jZ _)] at hE
  refine ⟨D, _, rfl, .inl ⟨Qj hE, fun l2 hl2 => ⟨_, rfl, _, _, rfl, rfl, by show 2 ≤ sizeLine; decide, fun t2 ht2 => ?_⟩⟩⟩
  exact q t2 _ ((s1.trans (Qb hl2 _)).trans (Qb ht2 _)) (Jm ht2)
theorem Qkz : FnScope ["row", "by"] ["row", "by"] (Qf Wm) := ⟨rfl, rfl, rfl, by decide +kernel, rfl, by decide +kernel, by decide +kernel⟩
theorem Qla (F : Fn K mg "share_row" Wm) (M : Mg mg) : Cal P w K mg base 1 "share_row" ["row", "by"] (Qns K) := by
 refine Xd F Qkz (fun _ _ _ _ _ _ => Jb (fun _ _ => rfl)) (fun vs H Q E h => ?_) (fun f cdv A outer s H vs Q E hr h => ?_)
 ·obtain ⟨t, r, b, rfl, _⟩ := h
  rfl
 obtain ⟨t, r, b, rfl, ⟨p, rt1, rt2⟩, hn, b0, hb, q⟩ := h
 refine ⟨_, (Qn (Qv (Yy (Qa (Qz Qy rfl M.tuple_ Xo (Qa (Jr ["number", "by"] [none, some 1] rfl (Qac (Qm Ql (pv 0) Qd (fun _ _ => rfl))) (fun _ _ _ => (Xe (i := 0) (show (["number", "by"] : List Str).Nodup by decide +kernel) rfl (Or.inl rfl) (Or.inr rfl))) (fun _ _ _ => Yt) (fun _ _ _ => (Vi Zw (Qr Wb (Vi Zw (pv 0)) (pv 1))))) Qe)) (Qa (Vi Zw (Qr Wb (Vi Zw (Qm Ql (pv 0) Qd (fun _ _ => rfl))) (pv 1))) Qe))))), ?_⟩
 have hz : (1000 : Nat) < sizeLine := by decide
 refine ⟨_, rfl, t, _, _, _, rfl, rfl, rt1, at0, p, rfl, ⟨_, rt2⟩, fun D hD => ?_⟩
 let Pv1 : Nat → St → List V → Hp → Prop := fun i τ ys H1 => ∃ v : Option V, τ = [v, some (.int b)] ∧ ys = ((r.1.map fun x => -((-x).fdiv b)).take i).map V.int ∧ H1 D = some (.lst ys) ∧ Same H H1
 refine Ym (n := r.1.length) Pv1 ?_ (fun i τ ys H1 hi h => ?_) (fun i τ ys H1 hi h => ?_) (fun τ ys H1 h => ?_) ?_ ?_
 ·exact ⟨none, rfl, rfl, Qc, Qb hD _⟩
 ·obtain ⟨v, rfl, rfl, hE, s1⟩ := h
  exact ⟨hE, by rw [jQ, kW]; omega⟩
 ·obtain ⟨v, rfl, rfl, hE, s1⟩ := h
  exact ⟨_, .int r.1[i], s1.tup rt2, by rw [jY, gE hi]; rfl⟩
 ·obtain ⟨v, rfl, rfl, hE, s1⟩ := h
  exact ⟨_, s1.tup rt2, by rw [jQ]; exact jZ _⟩
 ·rintro i τ ys H1 x H2 hi ⟨v, rfl, rfl, hE, s1⟩ ⟨rfl, e1⟩
  obtain ⟨z, ez, rfl⟩ := Yn (e1 _ (s1.tup rt2))
  refine ⟨_, rfl, _, rfl, _, rfl, _, _, rfl, rfl, ⟨by omega, hb⟩, _, rfl, hE, _, rfl, ?_, Qc, fun b' o e => ?_⟩
  ·rw [Zz (show (r.1.map fun x => -((-x).fdiv b))[i]? = some (-((-z).fdiv b)) by rw [jY, ez]; rfl), kX]; rfl
  ·rw [Qo (Qh e hD)]; exact s1 _ _ e
 ·rintro τ ys H1 ⟨v, rfl, rfl, hE, s1⟩
  rw [zQ (by rw [jQ]; exact jZ _)] at hE
  refine ⟨D, _, rfl, .inl ⟨Qj hE, fun l2 hl2 => ?_⟩⟩
  have s2 := s1.trans (Qb hl2 (.tup ((r.1.map fun x => -((-x).fdiv b)).map V.int)))
  refine ⟨_, rfl, t, _, _, _, rfl, rfl, s2.tup rt1, at1, _, rfl, _, rfl, _, _, rfl, rfl, ⟨by omega, hb⟩, _, rfl, by show 2 ≤ sizeLine; decide, fun t2 ht2 => ?_⟩
  exact q t2 _ (s2.trans (Qb ht2 _)) (Jm ht2)
theorem scShutRow : FnScope ["count", "holds", "numbers", "least", "choice", "worth"] ["count", "holds"] (Qf Qay) := ⟨rfl, rfl, rfl, by decide +kernel, rfl, by decide +kernel, by decide +kernel⟩
theorem Qor (F : Fn K mg "shut_row" Qay) (M : Mg mg) : Cal P w K mg base 1 "shut_row" ["count", "holds"] (Qft K) := by
 refine Xd F scShutRow (fun _ _ _ _ _ _ => Jb (fun _ _ => rfl)) (fun vs H Q E h => ?_) (fun f cdv A outer s H vs Q E hr h => ?_)
 ·obtain ⟨l, n, hs, rfl, _⟩ := h
  rfl
 obtain ⟨l, n, hs, rfl, ⟨ws, hl, hpa⟩, hok, hn, q⟩ := h
 refine ⟨_, (Qg (Qx (i := 2) scShutRow.nd rfl (Or.inl rfl) (Qr Vd (Jg (Qa Qd Qe)) (pv 0)))
  (Qg (Qx (i := 3) scShutRow.nd rfl (Or.inl rfl) Qd)
  (Qg (Yq PassesOwn.never rfl (Yk (pv 1)) (Zi (K := K) (i := 4) (j := 5) rfl rfl scShutRow.nd rfl rfl rfl rfl) (Qg (Vc (Qr Zv Qd (Qr Kd Qd (pv 5))) (Jp (pv 2) (pv 4) set_list))
  (Qn (Qhx (i := 3) scShutRow.nd rfl (Or.inl rfl) (pv 5) Qrm))))
  (Qn (Qv (Yy (Qa (Qz Qy rfl M.tuple_ Xo (Qa (pv 2) Qe)) (Qa (pv 3) Qe)))))))), ?_⟩
 refine Zj ?_
 intro rT4 rT3 rT2
 have hz : (1000 : Nat) < sizeLine := by decide
 have lv := hpa.length
 rw [jQ] at lv
 refine ⟨by show 1 ≤ sizeLine; decide, fun p0 hp0 => ?_⟩
 refine ⟨_, rfl, p0, (n : Int), _, rfl, rfl, Qc, by omega, by omega, by show 1 * ((n : Int)).toNat ≤ sizeLine; omega, fun g0 hg0 => ?_⟩
 have e0 : (List.replicate ((n : Int)).toNat [V.int 0]).flatten = (List.replicate n (0 : Int)).map V.int := rep0 n
 rw [e0]
 have s0 : Same H (upd (upd H p0 (.lst [.int 0])) g0 (.lst ((List.replicate n (0 : Int)).map V.int))) := (Qb hp0 _).trans (Qb hg0 _)
 have gH : H g0 = none := by
  cases e5 : H g0 with
  | none => rfl
  | some o => rw [Qb hp0 (.lst [.int 0]) _ _ e5] at hg0; cases hg0
 have hg : upd (upd H p0 (.lst [.int 0])) g0 (.lst ((List.replicate n (0 : Int)).map V.int)) g0 = some (.lst ((List.replicate n (0 : Int)).map V.int)) := Qc
 generalize upd (upd H p0 (.lst [.int 0])) g0 (.lst ((List.replicate n (0 : Int)).map V.int)) = H0 at s0 hg ⊢
 let Pv1 : Nat → St → Hp → Prop := fun i σ H1 => ∃ u v : Option V, σ = [some (.int (n : Int)), some (.ref l), some (.ref g0), some (.int (Jd (hs.take i))), u, v] ∧ H1 g0 = some (.lst ((Yb n (hs.take i)).map V.int)) ∧ (Yb n (hs.take i)).length = n ∧ Same H H1
 refine ⟨_, rfl, l, rfl, ⟨_, s0.seq hl⟩, Ju (K := K) (a := l) (xs := ws) Pv1 ⟨none, none, rfl, hg, xQ .., s0⟩ (fun i σ H1 _ h => ?_) ?_ ?_⟩
 ·obtain ⟨u, v, rfl, hg1, hl1, s1⟩ := h
  exact s1.seq hl
 ·rintro i x σ H1 e1 ⟨u, v, rfl, hg1, hl1, s1⟩
  obtain ⟨T, pr, rfl, ep, hT⟩ := hpa.get e1
  rw [jY] at ep
  obtain ⟨⟨c, w⟩, ec, rfl⟩ := yY.mp ep
  obtain ⟨k1, k2, k3⟩ := hok (c, w) (kK ec)
  have k1' : 0 ≤ c := k1
  have k2' : c < (n : Int) := k2
  have k3' : w = 0 ∨ w = 1 := k3
  have eN : Yb n (hs.take (i + 1)) = (Yb n (hs.take i)).set c.toNat (1 - 2 * w) := by unfold Yb; rw [Zz ec, jZe]; rfl
  have eL : Jd (hs.take (i + 1)) = Jd (hs.take i) - w := by unfold Jd; rw [Zz ec, jZe]; rfl
  refine ⟨T, _, rfl, s1.tup hT, rfl, _, _, rfl, _, _, rfl, rfl, ?_⟩
  refine ⟨_, rfl, _, _, rfl, rfl, .inl ⟨by decide, by decide⟩, _, _, rfl, rfl, _, rfl, _, rfl, g0, _, _, c.toNat, rfl, rfl, hg1, by rw [show c = ((c.toNat : Nat) : Int) by omega]; exact Vl (by rw [jQ, hl1]; omega), ?_⟩
  refine ⟨_, rfl, _, rfl, _, _, rfl, rfl, some (.int c), some (.int w), ?_, ?_, ?_, fun b o e => ?_⟩
  rotate_left
  ·rw [Qc, eN, ← Je]
  ·rw [eN, zX]; exact hl1
  ·rw [Qo (Qh e gH)]; exact s1 _ _ e
  ·rw [eL]; rfl
 ·rintro σ H1 ⟨u, v, rfl, hg1, hl1, s1⟩
  have eT : hs.take ws.length = hs := by rw [lv, wQ]
  rw [eT] at hg1 ⊢
  refine ⟨_, rfl, g0, _, rfl, .inl ⟨Qj hg1, fun l2 hl2 => ⟨_, rfl, by show 2 ≤ sizeLine; decide, fun t ht => ?_⟩⟩⟩
  exact q t _ ((s1.trans (Qb hl2 _)).trans (Qb ht _)) (Jm ht)
end
abbrev Qaz : Stmt := top 10
abbrev Kz : Stmt := top 11
abbrev Qba : Stmt := top 12
section
variable {P : Program} {w : World} {K : Fg} {mg : Str → Option Value} {base : Heap} {aT aL : Addr} {fT fL : Str → Option Value}
theorem Qos : FnScope ["row", "choice"] ["row", "choice"] (Qf Qaz) := ⟨rfl, rfl, rfl, by decide +kernel, rfl, by decide +kernel, by decide +kernel⟩
theorem Qot (F : Fn K mg "without" Qaz) (M : Mg mg) : Cal P w K mg base 1 "without" ["row", "choice"] (Qca K) := by
 refine Xd F Qos (fun _ _ _ _ _ _ => Jb (fun _ _ => rfl)) (fun vs H Q E h => ?_) (fun f cdv A outer s H vs Q E hr h => ?_)
 ·obtain ⟨t, r, c, rfl, _⟩ := h
  rfl
 obtain ⟨t, r, c, rfl, ⟨p, rt1, rt2⟩, hn, hc, q⟩ := h
 refine ⟨_, (Qn (Qv (Qr Qlw (Qr Qsw (Vt Qlv (Qm Ql (pv 0) Qd (fun _ _ => rfl)) Qbc (Qbd (pv 1))) (Yy (Qa Qd Qe))) (Vt Qlv (Qm Ql (pv 0) Qd (fun _ _ => rfl)) (Qbd (Qr Xr (pv 1) Qd)) Qbc)))), ?_⟩
 have hz : (2000 : Nat) < sizeLine := by decide
 have ln : (r.1.map V.int).length = r.1.length := jQ ..
 have cut1 : cutV (r.1.map V.int) none (some (c : Int)) = (r.1.take c).map V.int := by
  unfold cutV
  show ((r.1.map V.int).drop 0).take ((if (c : Int) < 0 then ((c : Int) + ((r.1.map V.int).length : Int)).toNat else min ((c : Int)).toNat (r.1.map V.int).length) - 0) = _
  rw [if_neg (Int.not_lt.mpr (jJf c)), List.drop_zero, List.map_take, ln, jZc, jYe (jKd hc), Nat.sub_zero]
 have cut2 : cutV (r.1.map V.int) (some ((c : Int) + 1)) none = (r.1.drop (c + 1)).map V.int := by
  unfold cutV
  show ((r.1.map V.int).drop (if (c : Int) + 1 < 0 then ((c : Int) + 1 + ((r.1.map V.int).length : Int)).toNat else min ((c : Int) + 1).toNat (r.1.map V.int).length)).take ((r.1.map V.int).length - (if (c : Int) + 1 < 0 then ((c : Int) + 1 + ((r.1.map V.int).length : Int)).toNat else min ((c : Int) + 1).toNat (r.1.map V.int).length)) = _
  rw [if_neg (show ¬ (c : Int) + 1 < 0 from Int.not_lt.mpr (jJf (c + 1))), List.map_drop]
  have e : min ((c : Int) + 1).toNat (r.1.map V.int).length = c + 1 := by rw [ln]; exact jYe (show c + 1 ≤ r.1.length from hc)
  rw [e]
  apply zQ
  rw [jYb]
  exact jZ _
 refine ⟨_, rfl, t, _, _, _, rfl, rfl, rt1, at0, _, rfl, _, rfl, p, _, rfl, rt2, ?_, fun p1 hp1 => ?_⟩
 ·rintro ⟨_, h2⟩
  have h3 : (if (c : Int) < 0 then ((c : Int) + ((r.1.map V.int).length : Int)).toNat else min ((c : Int)).toNat (r.1.map V.int).length) = (r.1.map V.int).length := h2
  rw [if_neg (Int.not_lt.mpr (jJf c)), ln, jZc, jYe (jKd hc)] at h3
  exact absurd h3 (yW hc)
 rw [cut1]
 have s1 := Qb hp1 (.tup ((r.1.take c).map V.int))
 refine ⟨by show 1 ≤ sizeLine; decide, fun p2 hp2 => ?_⟩
 have s2 := Qb hp2 (.tup [V.int 0])
 refine ⟨p1, p2, _, _, rfl, rfl, s2.tup (Xa Qc), Xa Qc, by simp, by rw [jQ, kW]; show _ + 1 ≤ _; omega, fun p3 H3 s3 h3 => ?_⟩
 have s13 := (s1.trans s2).trans s3
 refine ⟨_, rfl, t, _, _, _, rfl, rfl, s13.tup rt1, at0, _, rfl, _, _, rfl, rfl, _, rfl, p, _, rfl, s13.tup rt2, ?_, fun p4 hp4 => ?_⟩
 ·rintro ⟨h2, _⟩
  have h3 : (if (c : Int) + 1 < 0 then ((c : Int) + 1 + ((r.1.map V.int).length : Int)).toNat else min ((c : Int) + 1).toNat (r.1.map V.int).length) = 0 := h2
  rw [if_neg (show ¬ (c : Int) + 1 < 0 from Int.not_lt.mpr (jJf (c + 1))), ln] at h3
  exact absurd ((jYe (show c + 1 ≤ r.1.length from hc)).symm.trans h3) (Nat.succ_ne_zero c)
 rw [cut2]
 have s4 := Qb hp4 (.tup ((r.1.drop (c + 1)).map V.int))
 have eW : (Xi r.1 c).map V.int = ((r.1.take c).map V.int ++ [V.int 0]) ++ (r.1.drop (c + 1)).map V.int := by unfold Xi; rw [kX, kX]; rfl
 refine ⟨p3, p4, _, _, rfl, rfl, s4.tup h3, Xa Qc, by simp, by rw [kZ, jQ, jQ, kW, jYb]; show _ + 1 + _ ≤ _; omega, fun he => ?_, fun he p5 hp5 => ?_⟩
 ·refine q p3 _ (s13.trans s4) ?_
  have e9 : (Xi r.1 c).map V.int = (r.1.take c).map V.int ++ [V.int 0] := by rw [eW, he, kXa]
  rw [e9]
  exact s4.tup h3
 ·refine q p5 _ ((s13.trans s4).trans (Qb hp5 _)) ?_
  rw [eW]
  exact Xa Qc
theorem Qhu : FnScope ["one", "other", "choice"] ["one", "other", "choice"] (Qf Kz) := ⟨rfl, rfl, rfl, by decide +kernel, rfl, by decide +kernel, by decide +kernel⟩
theorem Qhv (F : Fn K mg "either_row" Kz) (M : Mg mg) (c_without : Cal P w K mg base 1 "without" ["row", "choice"] (Qca K)) : Cal P w K mg base 2 "either_row" ["one", "other", "choice"] (Qcb K) := by
 refine Xd F Qhu (fun _ _ _ _ _ _ => Qfp (fun _ _ _ => rfl)) (fun vs H Q E h => ?_) (fun f cdv A outer s H vs Q E hr h => ?_)
 ·obtain ⟨t1, t2, r1, r2, c, rfl, _⟩ := h
  rfl
 obtain ⟨t1, t2, r1, r2, c, rfl, h1, h2, hn, hc, q⟩ := h
 refine ⟨_, (Qn (Qv (Yy (Qa (Xj c_without (hr.mono (by decide)) (Qa (pv 0) (Qa (pv 2) Qe))) (Qa (Qk (Vs rfl) rfl M.min Qig (Qa (Qr Zv (Qm Ql (pv 0) Qd (fun _ _ => rfl)) (Qm Ql (Qm Ql (pv 0) Qd (fun _ _ => rfl)) (pv 2) (fun _ _ => rfl))) (Qa (Qm Ql (pv 1) Qd (fun _ _ => rfl)) Qe))) Qe))))), ?_⟩
 obtain ⟨p1, a1, a2⟩ := id h1
 obtain ⟨p2, b1, b2⟩ := id h2
 refine ⟨_, rfl, _, rfl, t1, r1, c, rfl, h1, hn, hc, fun p H1 s1 hp => ?_⟩
 refine ⟨_, rfl, t1, _, _, _, rfl, rfl, s1.tup a1, at1, _, rfl, t1, _, _, _, rfl, rfl, s1.tup a1, at0, _, rfl, p1, _, _, _, rfl, rfl, s1.tup a2, Xx (show (r1.1.map V.int)[c]? = some (V.int (r1.1.getD c 0)) by rw [jY, jK, gE hc]; rfl), _, _, rfl, rfl, _, rfl, t2, _, _, _, rfl, rfl, s1.tup b1, at1, _, _, rfl, by show 2 ≤ sizeLine; decide, fun t ht => ?_⟩
 exact q t _ (s1.trans (Qb ht _)) ⟨p, Xa Qc, (Qb ht _).tup hp⟩
theorem scLikeRow : FnScope ["turn", "numbers", "weight", "choice"] ["turn"] (Qf Qba) := ⟨rfl, rfl, rfl, by decide +kernel, rfl, by decide +kernel, by decide +kernel⟩
theorem Qou (F : Fn K mg "like_row" Qba) (M : Mg mg) : Cal P w K mg base 1 "like_row" ["turn"] (Qfu K) := by
 refine Xd F scLikeRow (fun _ _ _ _ _ _ => bind1 (fun _ => rfl)) (fun vs H Q E h => ?_) (fun f cdv A outer s H vs Q E hr h => ?_)
 ·obtain ⟨l, t, rfl, _⟩ := h
  rfl
 obtain ⟨l, t, rfl, hl, ht, hlt, q⟩ := h
 refine ⟨_, (Qg (Qx (i := 1) scLikeRow.nd rfl (Or.inl rfl) (Qr Vd (Jg (Qa Qd Qe)) (Qk Qi rfl M.len Xf (Qa (pv 0) Qe))))
  (Qg (Qx (i := 2) scLikeRow.nd rfl (Or.inl rfl) Qd)
  (Qg (Yq PassesOwn.never rfl (Qmx rfl M.range_ (Qa (Qr Zv (Qk Qi rfl M.len Xf (Qa (pv 0) Qe)) Qd) (Qa (Vi Zw Qd) (Qa (Vi Zw Qd) Qe)))) (Xe (i := 3) scLikeRow.nd rfl (Or.inl rfl) (Or.inl rfl)) (Qg (Qlj (pv 1) (pv 3) Qim (pv 2) Qlk set_list)
  (Qg (Qlj (pv 1) (Qm Qw (pv 0) (pv 3) (fun _ _ => rfl)) Qim (pv 2) Qrm set_list)
  (Qn (Qhx (i := 2) scLikeRow.nd rfl (Or.inl rfl) Qd Qsz)))))
  (Qn (Qv (Yy (Qa (Qz Qy rfl M.tuple_ Xo (Qa (pv 1) Qe)) (Qa Qd Qe)))))))), ?_⟩
 refine Zj ?_
 intro rT4 rT3 rT2
 have hz : (1000 : Nat) < sizeLine := by decide
 have ln : ((t.map fun (k : Nat) => (k : Int)).map V.int).length = t.length := by rw [jQ, jQ]
 refine ⟨by show 1 ≤ sizeLine; decide, fun p0 hp0 => ?_⟩
 have sp := Qb hp0 (.lst [V.int 0])
 refine ⟨_, rfl, l, _, rfl, .inl (sp.seq hl), p0, _, _, rfl, rfl, Qc, by omega, by rw [ln]; omega, by rw [ln]; show 1 * ((t.length : Int)).toNat ≤ sizeLine; omega, fun g0 hg0 => ?_⟩
 rw [ln]
 have e0 : (List.replicate ((t.length : Int)).toNat [V.int 0]).flatten = (List.replicate t.length (0 : Int)).map V.int := rep0 t.length
 rw [e0]
 have gH : H g0 = none := by
  cases e5 : H g0 with
  | none => rfl
  | some o => rw [sp _ _ e5] at hg0; cases hg0
 have s0 : Same H (upd (upd H p0 (.lst [.int 0])) g0 (.lst ((List.replicate t.length (0 : Int)).map V.int))) := sp.trans (Qb hg0 _)
 have hg : upd (upd H p0 (.lst [.int 0])) g0 (.lst ((List.replicate t.length (0 : Int)).map V.int)) g0 = some (.lst ((List.replicate t.length (0 : Int)).map V.int)) := Qc
 generalize upd (upd H p0 (.lst [.int 0])) g0 (.lst ((List.replicate t.length (0 : Int)).map V.int)) = H0 at s0 hg ⊢
 refine ⟨_, rfl, l, _, rfl, .inl (s0.seq hl), _, _, rfl, rfl, _, rfl, _, rfl, ?_⟩
 rw [ln]
 refine ⟨_, _, _, rfl, ⟨by decide, by decide, Qng (by omega)⟩, Qkg (lo := (t.length : Int) - 1) (c := -1) (n := (Builtin.Range.rangeSize ((t.length : Int) - 1) (-1) (-1)).toNat) (fun i σ H1 => ∃ u : Option V, σ = [some (.ref l), some (.ref g0), some (.int (Zs t i).2), u] ∧ H1 g0 = some (.lst ((Zs t i).1.map V.int)) ∧ Same H H1) ⟨none, rfl, hg, s0⟩ ?_ ?_⟩
 ·rintro i σ H1 hi ⟨u, rfl, hg1, s1⟩
  rw [Qbt] at hi
  have ec : (t.length : Int) - 1 + ((i : Nat) : Int) * (-1) = ((t.length - 1 - i : Nat) : Int) := by omega
  rw [ec]
  have hc : t.length - 1 - i < t.length := by omega
  have lk := Kw t i
  have tk : t.getD (t.length - 1 - i) 0 < t.length := by
   rw [jK, gE hc]
   exact hlt _ (jQc hc)
  have es := Vp t i
  generalize Zs t i = a at hg1 lk es ⊢
  generalize t.length - 1 - i = c at hc tk es ⊢
  refine ⟨_, rfl, _, rfl, g0, _, _, _, rfl, rfl, Qj hg1, Xx (show (a.1.map V.int)[c]? = some (V.int (a.1.getD c 0)) by rw [jY, jK, gE (by omega)]; rfl), _, rfl, _, _, rfl, rfl, g0, _, _, c, rfl, rfl, hg1, Vl (by rw [jQ]; omega), ?_⟩
  rw [Je]
  have hg2 : upd H1 g0 (.lst ((a.1.set c (a.1.getD c 0 + a.2)).map V.int)) g0 = some (.lst ((a.1.set c (a.1.getD c 0 + a.2)).map V.int)) := Qc
  have s2 : Same H (upd H1 g0 (.lst ((a.1.set c (a.1.getD c 0 + a.2)).map V.int))) := fun b o e => by rw [Qo (Qh e gH)]; exact s1 _ _ e
  have hls : (a.1.set c (a.1.getD c 0 + a.2)).length = t.length := by rw [zX, lk]
  have es2 : (Zs t (i + 1)) = ((a.1.set c (a.1.getD c 0 + a.2)).set (t.getD c 0) ((a.1.set c (a.1.getD c 0 + a.2)).getD (t.getD c 0) 0 - a.2), a.2 * 2) := es
  generalize a.1.set c (a.1.getD c 0 + a.2) = a1 at hg2 s2 hls es2 ⊢
  have et : ((t.map fun (k : Nat) => (k : Int)).map V.int)[c]? = some (V.int ((t.getD c 0 : Nat) : Int)) := by rw [jY, jY, jK, gE hc]; rfl
  generalize t.getD c 0 = k at tk es2 et ⊢
  refine ⟨_, rfl, _, rfl, _, rfl, l, _, _, _, rfl, rfl, s2.seq hl, Xx et, g0, _, _, _, rfl, rfl, Qj hg2, Xx (show (a1.map V.int)[k]? = some (V.int (a1.getD k 0)) by rw [jY, jK, gE (by omega)]; rfl), _, rfl, _, _, rfl, rfl, g0, _, _, k, rfl, rfl, hg2, Vl (by rw [jQ]; omega), ?_⟩
  rw [Je]
  refine ⟨_, rfl, _, _, rfl, rfl, .inr ⟨by decide, by decide⟩, some (.int ((c : Nat) : Int)), ?_, ?_, fun b o e => ?_⟩
  rotate_left
  ·rw [Qc, es2]
  ·rw [Qo (Qh e gH)]; exact s2 _ _ e
  ·rw [es2]; rfl
 ·rintro σ H1 ⟨u, rfl, hg1, s1⟩
  rw [Qbt] at hg1
  refine ⟨_, rfl, g0, _, rfl, .inl ⟨Qj hg1, fun l2 hl2 => ⟨by show 2 ≤ sizeLine; decide, fun t2 ht2 => ?_⟩⟩⟩
  exact q t2 _ ((s1.trans (Qb hl2 _)).trans (Qb ht2 _)) (Jm ht2)
end
abbrev Wn : Stmt := top 21
abbrev Qcj : Stmt := top 22
section
variable {P : Program} {w : World} {K : Fg} {mg : Str → Option Value} {base : Heap} {aT aL : Addr} {fT fL : Str → Option Value}
theorem Qlb : FnScope ["thing", "count"] ["thing", "count"] (Qf Wn) := ⟨rfl, rfl, rfl, by decide +kernel, rfl, by decide +kernel, by decide +kernel⟩
theorem Qlc (F : Fn K mg "are_holds" Wn) (M : Mg mg) (c_is_hold : Cal P w K mg base 3 "is_hold" ["thing", "count"] (Qiv K)) : Cal P w K mg base 4 "are_holds" ["thing", "count"] (Qct K) := by
 refine Xd F Qlb (fun _ _ _ _ _ _ => Jb (fun _ _ => rfl)) (fun vs H Q E h => ?_) (fun f cdv A outer s H vs Q E hr h => ?_)
 ·obtain ⟨v, d, n, rfl, _⟩ := h
  rfl
 obtain ⟨v, d, n, rfl, hv, hsz, q⟩ := h
 refine ⟨_, (Qg (Yi (PW.pt (Ki (Yh (Ya (Qk Yv rfl M.isinstance Xk (Qa (pv 0) (Qa (Qai M.list_ Zy) Qe))))) (Jf (Yh (Ya (Qk (Vw rfl) rfl M.all Qif (Qa (Jr ["hold", "count"] [none, some 1] rfl (Yk (pv 0)) (fun _ _ _ => (Xe (i := 0) (show (["hold", "count"] : List Str).Nodup by decide +kernel) rfl (Or.inl rfl) (Or.inr rfl))) (fun _ _ _ => Yt) (fun _ _ _ => (Xj c_is_hold (hr.mono (by decide)) (Qa (pv 0) (Qa (pv 1) Qe))))) Qe))))))) (Qn (Qv Qgq)) Xg)
  (Qn (Qv (Yg Yl (Qk Qdj rfl M.len Xf (Qa (Qz (Qhd rfl) rfl M.set_ bt_set (Qa (Jr ["hold"] [none] rfl (Yk (pv 0)) (fun _ _ _ => (Xe (i := 0) (show (["hold"] : List Str).Nodup by decide +kernel) rfl (Or.inl rfl) (Or.inr rfl))) (fun _ _ _ => Yt) (fun _ _ _ => (Qm (Wp (K := K) rfl) (pv 0) Qd (fun _ _ => rfl)))) Qe)) Qe)) (Qk Qi rfl M.len Xf (Qa (pv 0) Qe)) (Qs _))))), ?_⟩
 have hz : (1000 : Nat) < sizeLine := by decide
 cases d with
 | lst xs =>
  obtain ⟨a, us, rfl, hl, hlen, hget⟩ := hv.lst_inv
  have hsz' : xs.length < 1000 := hsz
  refine ⟨_, rfl, _, "list", _, rfl, .list, hv.isi _, _, rfl, iteF ?_⟩
  refine ⟨_, rfl, a, rfl, ⟨_, hl⟩, fun D hD => ?_⟩
  let Pv1 : Nat → St → List V → Hp → Prop := fun i τ ys H1 => ∃ u : Option V, τ = [u, some (.int (n : Int))] ∧ ys = ((xs.take i).map fun d => (Jy n d).isSome).map V.bl ∧ H1 D = some (.lst ys) ∧ Same H H1
  refine Ym (n := xs.length) Pv1 ?_ (fun i τ ys H1 hi h => ?_) (fun i τ ys H1 hi h => ?_) (fun τ ys H1 h => ?_) ?_ ?_
  ·exact ⟨none, rfl, rfl, Qc, Qb hD _⟩
  ·obtain ⟨u, rfl, rfl, hE, s1⟩ := h
   exact ⟨hE, by rw [jQ, jQ, kW]; omega⟩
  ·obtain ⟨u, rfl, rfl, hE, s1⟩ := h
   exact ⟨us, us[i]'(by omega), s1.seq hl, gE (by omega)⟩
  ·obtain ⟨u, rfl, rfl, hE, s1⟩ := h
   exact ⟨us, s1.seq hl, by omega⟩
  ·rintro i τ ys H1 x H2 hi ⟨u, rfl, rfl, hE, s1⟩ ⟨rfl, e1⟩
   obtain ⟨d, ed⟩ : ∃ d, xs[i]? = some d := ⟨_, gE hi⟩
   have hx := (hget i _ _ (e1 _ (s1.seq hl)) ed).same s1
   refine ⟨_, rfl, _, rfl, _, d, n, rfl, hx, hE, _, rfl, ?_, Qc, fun b o e => ?_⟩
   ·rw [Zz ed, kX, kX]; rfl
   ·rw [Qo (Qh e hD)]; exact s1 _ _ e
  rintro τ ys H1 ⟨u, rfl, rfl, hE, s1⟩
  rw [wQ] at hE
  refine ⟨D, _, rfl, Qj hE, ?_⟩
  have eall : (xs.map fun d => (Jy n d).isSome).all id = (allT (Jy n) xs).isSome := by rw [Jz, List.all_map]; rfl
  rw [eall]
  cases ea : allT (Jy n) xs with
  | none =>
   have := q H1 s1
   rw [Qhj ea] at this
   exact ⟨_, rfl, iteT this⟩
  | some hs =>
   obtain ⟨hp, hok⟩ := Wv (n := n) hlen hget ea
   obtain ⟨el, eg⟩ := Ji ea
   refine ⟨_, rfl, iteF ?_⟩
   refine ⟨_, rfl, a, rfl, ⟨_, s1.seq hl⟩, fun D2 hD2 => ?_⟩
   let Pv2 : Nat → St → List V → Hp → Prop := fun i τ ys H2 => ∃ u : Option V, τ = [u] ∧ ys = ((hs.map (·.1)).take i).map V.int ∧ H2 D2 = some (.lst ys) ∧ Same H1 H2
   refine Ym (n := xs.length) Pv2 ?_ (fun i τ ys H2 hi h => ?_) (fun i τ ys H2 hi h => ?_) (fun τ ys H2 h => ?_) ?_ ?_
   ·exact ⟨none, rfl, rfl, Qc, Qb hD2 _⟩
   ·obtain ⟨u, rfl, rfl, hE2, s2⟩ := h
    exact ⟨hE2, by rw [jQ, kW]; omega⟩
   ·obtain ⟨u, rfl, rfl, hE2, s2⟩ := h
    exact ⟨us, us[i]'(by omega), (s1.trans s2).seq hl, gE (by omega)⟩
   ·obtain ⟨u, rfl, rfl, hE2, s2⟩ := h
    exact ⟨us, (s1.trans s2).seq hl, by omega⟩
   ·rintro i τ ys H2 x H3 hi ⟨u, rfl, rfl, hE2, s2⟩ ⟨rfl, e1⟩
    have s12 := s1.trans s2
    obtain ⟨T, pr, rfl, ep, hT⟩ := hp.get (e1 _ (s12.seq hl))
    rw [jY] at ep
    obtain ⟨⟨c, w⟩, ec, rfl⟩ := yY.mp ep
    refine ⟨_, rfl, T, _, _, _, rfl, rfl, s12.tup hT, at0, hE2, _, rfl, ?_, Qc, fun b o e => ?_⟩
    ·rw [Zz (show (hs.map (·.1))[i]? = some c by rw [jY, ec]; rfl), kX]; rfl
    ·rw [Qo (Qh e hD2)]; exact s2 _ _ e
   ·rintro τ ys H2 ⟨u, rfl, rfl, hE2, s2⟩
    rw [zQ (by rw [jQ]; omega)] at hE2
    refine ⟨D2, hs.map (·.1), rfl, Qj hE2, by rw [jQ]; omega, fun d2 S hd2 => ?_⟩
    have s3 := Qb hd2 (.set S ((hs.map (·.1)).foldl PyProof.Rows.step_dedup []).length)
    have s13 := (s1.trans s2).trans s3
    refine ⟨d2, S, _, rfl, Qc, _, rfl, a, us, rfl, .inl (s13.seq hl), rfl, ?_⟩
    have hq := q _ s13
    have : decide (V.int ((((hs.map (·.1)).foldl PyProof.Rows.step_dedup []).length : Nat) : Int) = V.int ((us.length : Nat) : Int)) = (Zr n (.lst xs)).isSome := by
     apply Qbz
     rw [decide_eq_true_iff, Qko]
     constructor
     ·intro z
      have z1 := V.int.inj z
      refine ⟨hs, ea, (Qfm _).mp ?_⟩
      rw [jQ]
      omega
     ·rintro ⟨hs', e1, e2⟩
      rw [ea] at e1
      cases e1
      have := (Qfm _).mpr e2
      rw [jQ] at this
      rw [this, el, hlen]
    rw [← this] at hq
    exact hq
 | int i => exact ⟨_, rfl, _, "list", _, rfl, .list, hv.isi _, _, rfl, iteT (q H (Same.refl H))⟩
 | non => exact ⟨_, rfl, _, "list", _, rfl, .list, hv.isi _, _, rfl, iteT (q H (Same.refl H))⟩
 | bl b => exact ⟨_, rfl, _, "list", _, rfl, .list, hv.isi _, _, rfl, iteT (q H (Same.refl H))⟩
 | str s => exact ⟨_, rfl, _, "list", _, rfl, .list, hv.isi _, _, rfl, iteT (q H (Same.refl H))⟩
 | tup xs => exact ⟨_, rfl, _, "list", _, rfl, .list, hv.isi _, _, rfl, iteT (q H (Same.refl H))⟩
theorem Qrd : FnScope ["thing", "count"] ["thing", "count"] (Qf Qcj) := ⟨rfl, rfl, rfl, by decide +kernel, rfl, by decide +kernel, by decide +kernel⟩
theorem Qre (F : Fn K mg "is_turn" Qcj) (M : Mg mg) (c_is_number_of : Cal P w K mg base 2 "is_number_of" ["thing", "count"] (Ko K)) : Cal P w K mg base 3 "is_turn" ["thing", "count"] (Qiw K) := by
 refine Xd F Qrd (fun _ _ _ _ _ _ => Jb (fun _ _ => rfl)) (fun vs H Q E h => ?_) (fun f cdv A outer s H vs Q E hr h => ?_)
 ·obtain ⟨v, d, n, rfl, _⟩ := h
  rfl
 obtain ⟨v, d, n, rfl, hv, hsz, hn, q⟩ := h
 have hu6 : (A.deeper (PyProof.Rows.envOfC "is_turn" (Qf Qcj) s.heap.objs.size f cdv)).units + 6 < cLine := xZ (wW (by decide) _) hr.un
 refine ⟨_, (Qg (Yi (PW.pt (Ki (Yh (Ya (Qk Yv rfl M.isinstance Xk (Qa (pv 0) (Qa (Qai M.list_ Zy) Qe))))) (Jf (Yh (Ya (Qk (Vw rfl) rfl M.all Qif (Qa (Jr ["choice", "count"] [none, some 1] rfl (Yk (pv 0)) (fun _ _ _ => (Xe (i := 0) (show (["choice", "count"] : List Str).Nodup by decide +kernel) rfl (Or.inl rfl) (Or.inr rfl))) (fun _ _ _ => Yt) (fun _ _ _ => (Xj c_is_number_of (hr.mono (by decide)) (Qa (pv 0) (Qa (pv 1) Qe))))) Qe))))))) (Qn (Qv Qgq)) Xg)
  (Qn (Qv (Yg (Qie (n := 6) hu6) (Qk (Qfl (K := K) rfl) rfl M.sorted Km (Qa (pv 0) Qe)) (Qz (Vx rfl) rfl M.list_ Zy (Qa (Qih M.range_ (Qa (pv 1) Qe)) Qe)) (Qs _))))), ?_⟩
 have hz : (1000 : Nat) < sizeLine := by decide
 cases d with
 | lst xs =>
  obtain ⟨a, us, rfl, hl, hlen, hget⟩ := hv.lst_inv
  have hsz' : xs.length < 64 := hsz
  refine ⟨_, rfl, _, "list", _, rfl, .list, hv.isi _, _, rfl, iteF ?_⟩
  refine ⟨_, rfl, a, rfl, ⟨_, hl⟩, fun D hD => ?_⟩
  let Pv1 : Nat → St → List V → Hp → Prop := fun i τ ys H1 => ∃ u : Option V, τ = [u, some (.int (n : Int))] ∧ ys = ((xs.take i).map fun d => (numT n d).isSome).map V.bl ∧ H1 D = some (.lst ys) ∧ Same H H1
  refine Ym (n := xs.length) Pv1 ?_ (fun i τ ys H1 hi h => ?_) (fun i τ ys H1 hi h => ?_) (fun τ ys H1 h => ?_) ?_ ?_
  ·exact ⟨none, rfl, rfl, Qc, Qb hD _⟩
  ·obtain ⟨u, rfl, rfl, hE, s1⟩ := h
   exact ⟨hE, by rw [jQ, jQ, kW]; omega⟩
  ·obtain ⟨u, rfl, rfl, hE, s1⟩ := h
   exact ⟨us, us[i]'(by omega), s1.seq hl, gE (by omega)⟩
  ·obtain ⟨u, rfl, rfl, hE, s1⟩ := h
   exact ⟨us, s1.seq hl, by omega⟩
  ·rintro i τ ys H1 x H2 hi ⟨u, rfl, rfl, hE, s1⟩ ⟨rfl, e1⟩
   obtain ⟨d, ed⟩ : ∃ d, xs[i]? = some d := ⟨_, gE hi⟩
   have hx := (hget i _ _ (e1 _ (s1.seq hl)) ed).same s1
   refine ⟨_, rfl, _, rfl, _, d, n, rfl, hx, hE, _, rfl, ?_, Qc, fun b o e => ?_⟩
   ·rw [Zz ed, kX, kX]; rfl
   ·rw [Qo (Qh e hD)]; exact s1 _ _ e
  rintro τ ys H1 ⟨u, rfl, rfl, hE, s1⟩
  rw [wQ] at hE
  refine ⟨D, _, rfl, Qj hE, ?_⟩
  have eall : (xs.map fun d => (numT n d).isSome).all id = (allT (numT n) xs).isSome := by rw [Jz, List.all_map]; rfl
  rw [eall]
  cases ea : allT (numT n) xs with
  | none =>
   have := q H1 s1
   rw [Qkp ea] at this
   exact ⟨_, rfl, iteT this⟩
  | some t =>
   obtain ⟨ev, hlt⟩ := Qfs (n := n) hlen hget ea
   obtain ⟨el, eg⟩ := Ji ea
   refine ⟨_, rfl, iteF ?_⟩
   refine ⟨_, rfl, a, t.map fun (k : Nat) => (k : Int), rfl, by rw [← ev]; exact s1.seq hl, by rw [jQ]; omega, fun D2 qs hD2 hp hs => ?_⟩
   have s2 := Qb hD2 (.lst (qs.map V.int))
   refine ⟨_, rfl, (n : Int), rfl, fun r hr' => ?_⟩
   have s3 := Qb hr' (.rng 0 (n : Int))
   refine ⟨r, (n : Int), rfl, Qc, by omega, by omega, fun l2 hl2 => ?_⟩
   have s4 := Qb hl2 (.lst ((List.range ((n : Int)).toNat).map fun i => V.int (i : Nat)))
   have e2 : ((List.range ((n : Int)).toNat).map fun i => V.int (i : Nat)) = (Qag n).map V.int := by unfold Qag; rw [List.map_map]; rfl
   rw [e2] at s4 ⊢
   have s14 := ((s1.trans s2).trans s3).trans s4
   refine ⟨D2, l2, _, _, rfl, rfl, lstD (s4.seq (s3.seq (Qj Qc))), lstD (Qj Qc), ?_, fun c hc => ?_⟩
   ·refine .lst fun i x y e3 e4 => ?_
    rw [jY] at e3 e4
    obtain ⟨a3, _, rfl⟩ := yY.mp e3
    obtain ⟨b3, _, rfl⟩ := yY.mp e4
    exact .int _ _
   have hq := q _ s14
   have : c = (Ws n (.lst xs)).isSome := by
    apply Qbz
    rw [hc, Qkq ea, ← Qhk hlt hp hs]
    constructor
    ·intro z
     have z1 : qs.map L2.D.int = (Qag n).map L2.D.int := by injection z
     exact (List.map_inj_right (fun _ _ h => by cases h; rfl)).mp z1
    ·intro z; rw [z]
   rw [← this] at hq
   exact hq
 | int i => exact ⟨_, rfl, _, "list", _, rfl, .list, hv.isi _, _, rfl, iteT (q H (Same.refl H))⟩
 | non => exact ⟨_, rfl, _, "list", _, rfl, .list, hv.isi _, _, rfl, iteT (q H (Same.refl H))⟩
 | bl b => exact ⟨_, rfl, _, "list", _, rfl, .list, hv.isi _, _, rfl, iteT (q H (Same.refl H))⟩
 | str s => exact ⟨_, rfl, _, "list", _, rfl, .list, hv.isi _, _, rfl, iteT (q H (Same.refl H))⟩
 | tup xs => exact ⟨_, rfl, _, "list", _, rfl, .list, hv.isi _, _, rfl, iteT (q H (Same.refl H))⟩
end
abbrev Qeh : Stmt := top 28
section
variable {P : Program} {w : World} {K : Fg} {mg : Str → Option Value} {base : Heap} {aT aL : Addr} {fT fL : Str → Option Value}
theorem scTShare : FnScope ["problem", "best", "told", "line", "by", "row"] ["problem", "best", "told", "line"] (Qf Qeh) := ⟨rfl, rfl, rfl, by decide +kernel, rfl, by decide +kernel, by decide +kernel⟩
theorem Qrf (F : Fn K mg "told_share" Qeh) (M : Mg mg) (c_is_ahead : Cal P w K mg base 3 "is_ahead" ["thing", "told"] (Kp K)) (c_is_whole : Cal P w K mg base 1 "is_whole" ["thing"] (Kn K)) (c_share_row : Cal P w K mg base 1 "share_row" ["row", "by"] (Qns K)) : Cal P w K mg base 4 "told_share" ["problem", "best", "told", "line"] (Zg K "share") := by
 refine Xd F scTShare (fun _ _ _ _ _ _ => Wr (fun _ _ _ _ => rfl)) (fun vs H Q E h => ?_) (fun f cdv A outer s H vs Q E hr h => ?_)
 ·obtain ⟨t, l, ln, rs, cs, best, ws, told, us, xs, rfl, _⟩ := h
  rfl
 obtain ⟨t, l, ln, rs, cs, best, ws, told, us, xs, rfl, J, hln, hul, hget, hsm, hlw, hok, qn, qs⟩ := h
 refine ⟨_, (Qg (Qx (i := 4) scTShare.nd rfl (Or.inr rfl) (Qm Ql (pv 3) Qd (fun _ _ => rfl)))
  (Qg (Yi (PW.pt (Ki (Yh (Ya (Xj c_is_ahead (hr.mono (by decide)) (Qa (Qm Ql (pv 3) Qd (fun _ _ => rfl)) (Qa (pv 2) Qe))))) (Ki (Yh (Ya (Xj c_is_whole (hr.mono (by decide)) (Qa (pv 4) Qe)))) (Jf (Qq Qah (pv 4) Qd (Qs _)))))) (Qn (Qv Xy)) Xg)
  (Qg (Qx (i := 5) scTShare.nd rfl (Or.inl rfl) (Qm Qw (pv 2) (Qm Ql (pv 3) Qd (fun _ _ => rfl)) (fun _ _ => rfl)))
  (Qg (Yi (Ya (Qk (Qey rfl) rfl M.any Qrs (Qa (Jr ["number", "by"] [none, some 4] rfl (Qac (Qm Ql (pv 5) Qd (fun _ _ => rfl))) (fun _ _ _ => (Xe (i := 0) (show (["number", "by"] : List Str).Nodup by decide +kernel) rfl (Or.inl rfl) (Or.inr rfl))) (fun _ _ _ => Yt) (fun _ _ _ => (Yg Qcy (Qr Xn (pv 0) (pv 1)) Qd (Qs _)))) Qe))) (Qn (Qv Xy)) Xg)
  (Qn (Qv (Xj c_share_row (hr.mono (by decide)) (Qa (pv 5) (Qa (pv 4) Qe))))))))), ?_⟩
 refine Qdm ?_
 intro rT5 rT4 rT3 rT2
 obtain ⟨l0, c0, us0, ht, hl0, hrw0, hc0⟩ := id J.prob
 have lr0 := hrw0.length
 have lw0 := J.rows.length
 have hn50 := J.n
 have hm60 := J.m
 have hk1000 := J.k
 have lc : (cs.map V.int).length = cs.length := jQ ..
 have hx2 : xs.length = 3 := (Option.some.inj (show some 3 = some xs.length from hlw)).symm
 obtain ⟨d0, d1, d2, rfl⟩ : ∃ d0 d1 d2, xs = [d0, d1, d2] := len3 hx2
 obtain ⟨v0, v1, v2, rfl⟩ : ∃ v0 v1 v2, us = [v0, v1, v2] := len3 hul
 have h1 := hget 1 v1 d1 rfl rfl
 have m1 := hsm d1 (List.Mem.tail _ (List.Mem.head _))
 have h2 := hget 2 v2 d2 rfl rfl
 have m2 := hsm d2 (List.Mem.tail _ (List.Mem.tail _ (List.Mem.head _)))
 have eq : Zt "share" rs cs best told [d0, d1, d2] = Qcu told d1 d2 := rfl
 rw [eq] at qn qs
 refine ⟨_, rfl, ln, _, _, _, rfl, rfl, hln, (show atI _ ((2 : Nat) : Int) = some _ from Xx rfl), ?_⟩
 refine ⟨_, rfl, ln, _, _, _, rfl, rfl, hln, (show atI _ ((1 : Nat) : Int) = some _ from Xx rfl), _, rfl, v1, d1, l, ws, rfl, h1, J.lst, J.ne, _, rfl, ?_⟩
 rw [lw0]
 cases e : numT told.length d1 with
 | none =>
  have : Qcu told d1 d2 = none := by
   unfold Qcu
   split
   ·split
    ·rw [e]; rfl
    ·rfl
   ·rfl
  exact iteT (iteT (qn this H (Same.refl H)))
 | some k =>
  obtain ⟨rfl, hk⟩ := Xu e
  obtain rfl := Zk h1
  refine iteF ⟨_, rfl, v2, d2, rfl, h2, _, rfl, ?_⟩
  cases d2 with
  | int b =>
   obtain rfl := Zk h2
   obtain ⟨b1, b2⟩ := m2.int_inv
   have eD : Qcu told (.int ((k : Nat) : Int)) (.int b) = if 1 ≤ b then (if divides (rowK told k) b = true then some (Wf (rowK told k) b) else none) else none := by
    show (if 1 ≤ b then _ else _) = _
    rw [e]
    rfl
   rw [eD] at qn qs
   refine iteF ⟨_, rfl, _, _, rfl, rfl, _, rfl, ite2 (fun c => ?_) (fun c => ?_)⟩
   ·have c' : b < 1 := yX c
    exact qn (if_neg (by omega)) H (Same.refl H)
   ·have c' : ¬ b < 1 := fun z => c (jW z)
    rw [if_pos (by omega)] at qn qs
    obtain ⟨a, ea, hra, hla⟩ := J.row hk
    obtain ⟨p, r1, r2⟩ := id hra
    refine ⟨_, rfl, _, rfl, ln, _, _, _, rfl, rfl, hln, (show atI _ ((1 : Nat) : Int) = some _ from Xx rfl), l, _, _, _, rfl, rfl, J.lst, Xx ea, ?_⟩
    refine ⟨_, rfl, a, _, _, _, rfl, rfl, r1, at0, p, rfl, ⟨_, r2⟩, fun D hD => ?_⟩
    generalize hrr : rowK told k = r at qn qs r1 r2 hla hra
    let Pv1 : Nat → St → List V → Hp → Prop := fun i τ ys H1 => ∃ v : Option V, τ = [v, some (.int b)] ∧ ys = ((r.1.map fun x => !decide (x % b = 0)).take i).map V.bl ∧ H1 D = some (.lst ys) ∧ Same H H1
    refine Ym (n := r.1.length) Pv1 ?_ (fun i τ ys H1 hi h => ?_) (fun i τ ys H1 hi h => ?_) (fun τ ys H1 h => ?_) ?_ ?_
    ·exact ⟨none, rfl, rfl, Qc, Qb hD _⟩
    ·obtain ⟨v, rfl, rfl, hE, s1⟩ := h
     have hz : (1000 : Nat) < sizeLine := by decide
     exact ⟨hE, by rw [jQ, kW]; omega⟩
    ·obtain ⟨v, rfl, rfl, hE, s1⟩ := h
     exact ⟨_, .int r.1[i], s1.tup r2, by rw [jY, gE hi]; rfl⟩
    ·obtain ⟨v, rfl, rfl, hE, s1⟩ := h
     exact ⟨_, s1.tup r2, by rw [jQ]; exact jZ _⟩
    ·rintro i τ ys H1 x H2 hi ⟨v, rfl, rfl, hE, s1⟩ ⟨rfl, e1⟩
     obtain ⟨z, ez, rfl⟩ := Yn (e1 _ (s1.tup r2))
     refine ⟨_, rfl, _, rfl, _, _, rfl, rfl, by omega, rfl, hE, _, rfl, ?_, Qc, fun b' o e => ?_⟩
     ·rw [Zz (show (r.1.map fun x => !decide (x % b = 0))[i]? = some (!decide (z % b = 0)) by rw [jY, ez]; rfl), kX]
      have : decide (V.int (z % b) = V.int 0) = decide (z % b = 0) := decide_eq_decide.mpr ⟨V.int.inj, congrArg V.int⟩
      show _ ++ [V.bl (!decide (V.int (z % b) = V.int 0))] = _
      rw [this]
      rfl
     ·rw [Qo (Qh e hD)]; exact s1 _ _ e
    ·rintro τ ys H1 ⟨v, rfl, rfl, hE, s1⟩
     rw [zQ (by rw [jQ]; exact jZ _)] at hE
     refine ⟨D, _, rfl, Qj hE, _, rfl, ?_⟩
     have ed : ((r.1.map fun x => !decide (x % b = 0)).any id) = !divides r b := by
      unfold divides
      rw [List.any_map, List.all_eq_not_any_not, Bool.not_not]
      rfl
     rw [ed]
     by_cases hd : divides r b = true
     ·rw [hd]
      rw [if_pos hd] at qs
      exact iteF ⟨_, rfl, _, rfl, a, r, b, rfl, hra.same s1, by omega, by omega, big62 (by omega) b2, fun t' H' s' hr' => qs _ rfl t' H' (s1.trans s') hr'⟩
     ·rw [if_neg hd] at qn
      have : divides r b = false := by cases h9 : divides r b with | true => exact absurd h9 hd | false => rfl
      rw [this]
      exact iteT (qn rfl H1 s1)
  | non => exact iteT (iteT (qn rfl H (Same.refl H)))
  | bl b => exact iteT (iteT (qn rfl H (Same.refl H)))
  | str b => exact iteT (iteT (qn rfl H (Same.refl H)))
  | tup b => exact iteT (iteT (qn rfl H (Same.refl H)))
  | lst b => exact iteT (iteT (qn rfl H (Same.refl H)))
end
abbrev Qjs : Stmt := top 29
section
variable {P : Program} {w : World} {K : Fg} {mg : Str → Option Value} {base : Heap} {aT aL : Addr} {fT fL : Str → Option Value}
theorem scTShut : FnScope ["problem", "best", "told", "line", "count", "holds", "row"] ["problem", "best", "told", "line"] (Qf Qjs) := ⟨rfl, rfl, rfl, by decide +kernel, rfl, by decide +kernel, by decide +kernel⟩
theorem Qts (F : Fn K mg "told_shut" Qjs) (M : Mg mg) (c_is_ahead : Cal P w K mg base 3 "is_ahead" ["thing", "told"] (Kp K)) (c_are_holds : Cal P w K mg base 4 "are_holds" ["thing", "count"] (Qct K)) (c_most_of : Cal P w K mg base 1 "most_of" ["row", "holds"] (Qrv K)) (c_shut_row : Cal P w K mg base 1 "shut_row" ["count", "holds"] (Qft K)) : Cal P w K mg base 5 "told_shut" ["problem", "best", "told", "line"] (Zg K "shut") := by
 refine Xd F scTShut (fun _ _ _ _ _ _ => Wr (fun _ _ _ _ => rfl)) (fun vs H Q E h => ?_) (fun f cdv A outer s H vs Q E hr h => ?_)
 ·obtain ⟨t, l, ln, rs, cs, best, ws, told, us, xs, rfl, _⟩ := h
  rfl
 obtain ⟨t, l, ln, rs, cs, best, ws, told, us, xs, rfl, J, hln, hul, hget, hsm, hlw, hok, qn, qs⟩ := h
 refine ⟨_, (Qg (Qx (i := 4) scTShut.nd rfl (Or.inl rfl) (Qk Qi rfl M.len Xf (Qa (Qm Ql (pv 0) Qd (fun _ _ => rfl)) Qe)))
  (Qg (Qx (i := 5) scTShut.nd rfl (Or.inl rfl) (Qm Ql (pv 3) Qd (fun _ _ => rfl)))
  (Qg (Yi (PW.pt (Ki (Yh (Ya (Xj c_is_ahead (hr.mono (by decide)) (Qa (Qm Ql (pv 3) Qd (fun _ _ => rfl)) (Qa (pv 2) Qe))))) (Jf (Yh (Ya (Xj c_are_holds (hr.mono (by decide)) (Qa (pv 5) (Qa (pv 4) Qe)))))))) (Qn (Qv Xy)) Xg)
  (Qg (Qx (i := 6) scTShut.nd rfl (Or.inl rfl) (Qm Qw (pv 2) (Qm Ql (pv 3) Qd (fun _ _ => rfl)) (fun _ _ => rfl)))
  (Qg (Yi (Qq Qlr (Xj c_most_of (hr.mono (by decide)) (Qa (pv 6) (Qa (pv 5) Qe))) (Qm Ql (pv 6) Qd (fun _ _ => rfl)) (Qs _)) (Qn (Qv Xy)) Xg)
  (Qn (Qv (Xj c_shut_row (hr.mono (by decide)) (Qa (pv 4) (Qa (pv 5) Qe)))))))))), ?_⟩
 refine Qis ?_
 intro rT6 rT5 rT4 rT3 rT2
 obtain ⟨l0, c0, us0, ht, hl0, hrw0, hc0⟩ := id J.prob
 have lr0 := hrw0.length
 have lw0 := J.rows.length
 have hn50 := J.n
 have hm60 := J.m
 have hk1000 := J.k
 have lc : (cs.map V.int).length = cs.length := jQ ..
 have hx2 : xs.length = 3 := (Option.some.inj (show some 3 = some xs.length from hlw)).symm
 obtain ⟨d0, d1, d2, rfl⟩ : ∃ d0 d1 d2, xs = [d0, d1, d2] := len3 hx2
 obtain ⟨v0, v1, v2, rfl⟩ : ∃ v0 v1 v2, us = [v0, v1, v2] := len3 hul
 have h1 := hget 1 v1 d1 rfl rfl
 have m1 := hsm d1 (List.Mem.tail _ (List.Mem.head _))
 have h2 := hget 2 v2 d2 rfl rfl
 have m2 := hsm d2 (List.Mem.tail _ (List.Mem.tail _ (List.Mem.head _)))
 have eq : Zt "shut" rs cs best told [d0, d1, d2] = (numT told.length d1).bind fun k => (Zr cs.length d2).bind fun hs => if Qak (rowK told k) hs < (rowK told k).2 then some (Vo cs.length hs) else none := rfl
 rw [eq] at qn qs
 refine ⟨_, rfl, t, _, _, _, rfl, rfl, ht, at1, c0, _, rfl, .inr hc0, ?_⟩
 rw [lc]
 refine ⟨_, rfl, ln, _, _, _, rfl, rfl, hln, (show atI _ ((2 : Nat) : Int) = some _ from Xx rfl), ?_⟩
 refine ⟨_, rfl, ln, _, _, _, rfl, rfl, hln, (show atI _ ((1 : Nat) : Int) = some _ from Xx rfl), _, rfl, v1, d1, l, ws, rfl, h1, J.lst, J.ne, _, rfl, ?_⟩
 rw [lw0]
 cases e : numT told.length d1 with
 | none => rw [e] at qn; exact iteT (iteT (qn rfl H (Same.refl H)))
 | some k =>
  rw [e] at qn qs
  obtain ⟨rfl, hk⟩ := Xu e
  obtain rfl := Zk h1
  have hl60 : lenT d2 < 1000 := by have := Qcv m2; omega
  have go : ∀ (H1 : Hp), Same H H1 → (Zr cs.length d2 = none → Q .non H1) := fun H1 s1 hh => qn (by show (Zr cs.length d2).bind _ = none; rw [hh]; rfl) H1 s1
  cases hh : Zr cs.length d2 with
  | none =>
   cases d2 with
   | tup zs => exact iteF ⟨_, rfl, _, rfl, v2, _, cs.length, rfl, h2, hl60, fun H1 s1 => ⟨_, rfl, iteT (go H1 s1 rfl)⟩⟩
   | lst zs => exact iteF ⟨_, rfl, _, rfl, v2, _, cs.length, rfl, h2, hl60, fun H1 s1 => ⟨_, rfl, by rw [hh]; exact iteT (go H1 s1 hh)⟩⟩
   | non => exact iteF ⟨_, rfl, _, rfl, v2, _, cs.length, rfl, h2, hl60, fun H1 s1 => ⟨_, rfl, iteT (go H1 s1 rfl)⟩⟩
   | bl b => exact iteF ⟨_, rfl, _, rfl, v2, _, cs.length, rfl, h2, hl60, fun H1 s1 => ⟨_, rfl, iteT (go H1 s1 rfl)⟩⟩
   | str b => exact iteF ⟨_, rfl, _, rfl, v2, _, cs.length, rfl, h2, hl60, fun H1 s1 => ⟨_, rfl, iteT (go H1 s1 rfl)⟩⟩
   | int b => exact iteF ⟨_, rfl, _, rfl, v2, _, cs.length, rfl, h2, hl60, fun H1 s1 => ⟨_, rfl, iteT (go H1 s1 rfl)⟩⟩
  | some hs =>
   obtain ⟨zs, rfl⟩ := Qkr hh
   obtain ⟨ea, hnd⟩ := holds_of hh
   obtain ⟨al, vs2, rfl, hal, hall, hgl⟩ := h2.lst_inv
   obtain ⟨hpa, hok⟩ := Wv (n := cs.length) hall hgl ea
   have hzl := (m2.lst_inv).1
   have hsl : hs.length = zs.length := (Ji ea).1
   have qs' : ∀ r, (if Qak (rowK told k) hs < (rowK told k).2 then some (Vo cs.length hs) else none) = some r → ∀ t' H', Same H H' → RowAt K H' t' r → Q (.ref t') H' := fun r er => qs r (by show (Zr cs.length (.lst zs)).bind _ = some r; rw [hh]; exact er)
   have qn' : (if Qak (rowK told k) hs < (rowK told k).2 then some (Vo cs.length hs) else none) = none → ∀ H', Same H H' → Q .non H' := fun er => qn (by show (Zr cs.length (.lst zs)).bind _ = none; rw [hh]; exact er)
   refine iteF ⟨_, rfl, _, rfl, _, _, cs.length, rfl, h2, by show zs.length < 1000; omega, fun H1 s1 => ⟨_, rfl, ?_⟩⟩
   rw [hh]
   refine iteF ?_
   obtain ⟨a, ewa, hra, hla⟩ := J.row hk
   obtain ⟨p, r1, r2⟩ := id hra
   have hln1 := s1.tup hln
   refine ⟨_, rfl, _, rfl, ln, _, _, _, rfl, rfl, hln1, (show atI _ ((1 : Nat) : Int) = some _ from Xx rfl), l, _, _, _, rfl, rfl, s1.seq J.lst, Xx ewa, ?_⟩
   have hH1 : HoldsAt K H1 al hs := ⟨vs2, s1.seq hal, PairsAre.same s1 hpa⟩
   refine ⟨_, rfl, _, rfl, a, al, rowK told k, hs, rfl, hra.same s1, hH1, by omega, fun p hp => (hok p hp).2.2, fun H2 s2 => ⟨_, rfl, a, _, _, _, rfl, rfl, (s1.trans s2).tup r1, at1, _, _, rfl, rfl, _, rfl, ite2 (fun c => ?_) (fun c => ?_)⟩⟩
   ·have c' : (rowK told k).2 ≤ Qak (rowK told k) hs := yX c
    exact qn' (if_neg (by omega)) H2 (s1.trans s2)
   ·have c' : ¬ (rowK told k).2 ≤ Qak (rowK told k) hs := fun z => c (jW z)
    exact ⟨_, rfl, _, rfl, al, cs.length, hs, rfl, hH1.same s2, hok, by omega, fun t' H' s' hr' => qs' _ (if_pos (by omega)) t' H' ((s1.trans s2).trans s') hr'⟩
end
abbrev Wo : Stmt := top 30
abbrev Qjt : Stmt := top 31
section
variable {P : Program} {w : World} {K : Fg} {mg : Str → Option Value} {base : Heap} {aT aL : Addr} {fT fL : Str → Option Value}
theorem scTEither : FnScope ["problem", "best", "told", "line", "choice", "one", "other"] ["problem", "best", "told", "line"] (Qf Wo) := ⟨rfl, rfl, rfl, by decide +kernel, rfl, by decide +kernel, by decide +kernel⟩
theorem Qov (F : Fn K mg "told_either" Wo) (M : Mg mg) (c_is_ahead : Cal P w K mg base 3 "is_ahead" ["thing", "told"] (Kp K)) (c_is_number_of : Cal P w K mg base 2 "is_number_of" ["thing", "count"] (Ko K)) (c_without : Cal P w K mg base 1 "without" ["row", "choice"] (Qca K)) (c_either_row : Cal P w K mg base 2 "either_row" ["one", "other", "choice"] (Qcb K)) : Cal P w K mg base 4 "told_either" ["problem", "best", "told", "line"] (Zg K "either") := by
 refine Xd F scTEither (fun _ _ _ _ _ _ => Wr (fun _ _ _ _ => rfl)) (fun vs H Q E h => ?_) (fun f cdv A outer s H vs Q E hr h => ?_)
 ·obtain ⟨t, l, ln, rs, cs, best, ws, told, us, xs, rfl, _⟩ := h
  rfl
 obtain ⟨t, l, ln, rs, cs, best, ws, told, us, xs, rfl, J, hln, hul, hget, hsm, hlw, hok, qn, qs⟩ := h
 have hu6 : (A.deeper (PyProof.Rows.envOfC "told_either" (Qf Wo) s.heap.objs.size f cdv)).units + 6 < cLine := xZ (wW (by decide) _) hr.un
 refine ⟨_, (Qg (Qx (i := 4) scTEither.nd rfl (Or.inl rfl) (Qm Ql (pv 3) Qd (fun _ _ => rfl)))
  (Qg (Yi (PW.pt (Ki (Yh (Ya (Xj c_is_ahead (hr.mono (by decide)) (Qa (Qm Ql (pv 3) Qd (fun _ _ => rfl)) (Qa (pv 2) Qe))))) (Jf (Yh (Ya (Xj c_is_ahead (hr.mono (by decide)) (Qa (Qm Ql (pv 3) Qd (fun _ _ => rfl)) (Qa (pv 2) Qe)))))))) (Qn (Qv Xy)) Xg)
  (Qg (Yi (Yh (Ya (Xj c_is_number_of (hr.mono (by decide)) (Qa (pv 4) (Qa (Qk Qi rfl M.len Xf (Qa (Qm Ql (pv 0) Qd (fun _ _ => rfl)) Qe)) Qe))))) (Qn (Qv Xy)) Xg)
  (Qg (Qx (i := 5) scTEither.nd rfl (Or.inl rfl) (Qm Qw (pv 2) (Qm Ql (pv 3) Qd (fun _ _ => rfl)) (fun _ _ => rfl)))
  (Qg (Qx (i := 6) scTEither.nd rfl (Or.inl rfl) (Qm Qw (pv 2) (Qm Ql (pv 3) Qd (fun _ _ => rfl)) (fun _ _ => rfl)))
  (Qg (Yi (Qq (Qmm (n := 6) hu6) (Xj c_without (hr.mono (by decide)) (Qa (pv 5) (Qa (pv 4) Qe))) (Xj c_without (hr.mono (by decide)) (Qa (pv 6) (Qa (pv 4) Qe))) (Qs _)) (Qn (Qv Xy)) Xg)
  (Qn (Qv (Xj c_either_row (hr.mono (by decide)) (Qa (pv 5) (Qa (pv 6) (Qa (pv 4) Qe)))))))))))), ?_⟩
 refine Qdn ?_
 intro rT7 rT6 rT5 rT4 rT3 rT2
 obtain ⟨l0, c0, us0, ht, hl0, hrw0, hc0⟩ := id J.prob
 have lr0 := hrw0.length
 have lw0 := J.rows.length
 have hn50 := J.n
 have hm60 := J.m
 have hk1000 := J.k
 have lc : (cs.map V.int).length = cs.length := jQ ..
 have hx2 : xs.length = 4 := (Option.some.inj (show some 4 = some xs.length from hlw)).symm
 obtain ⟨d0, d1, d2, d3, rfl⟩ : ∃ d0 d1 d2 d3, xs = [d0, d1, d2, d3] := len4 hx2
 obtain ⟨v0, v1, v2, v3, rfl⟩ : ∃ v0 v1 v2 v3, us = [v0, v1, v2, v3] := len4 hul
 have h1 := hget 1 v1 d1 rfl rfl
 have m1 := hsm d1 (List.Mem.tail _ (List.Mem.head _))
 have h2 := hget 2 v2 d2 rfl rfl
 have m2 := hsm d2 (List.Mem.tail _ (List.Mem.tail _ (List.Mem.head _)))
 have h3 := hget 3 v3 d3 rfl rfl
 have m3 := hsm d3 (List.Mem.tail _ (List.Mem.tail _ (List.Mem.tail _ (List.Mem.head _))))
 have eq : Zt "either" rs cs best told [d0, d1, d2, d3] = (numT told.length d1).bind fun i => (numT told.length d2).bind fun j => (numT cs.length d3).bind fun c => if Xi (rowK told i).1 c = Xi (rowK told j).1 c then some (Kq (rowK told i) (rowK told j) c) else none := rfl
 rw [eq] at qn qs
 refine ⟨_, rfl, ln, _, _, _, rfl, rfl, hln, (show atI _ ((3 : Nat) : Int) = some _ from Xx rfl), ?_⟩
 refine ⟨_, rfl, ln, _, _, _, rfl, rfl, hln, (show atI _ ((1 : Nat) : Int) = some _ from Xx rfl), _, rfl, v1, d1, l, ws, rfl, h1, J.lst, J.ne, _, rfl, ?_⟩
 rw [lw0]
 cases e : numT told.length d1 with
 | none => rw [e] at qn; exact iteT (iteT (qn rfl H (Same.refl H)))
 | some i =>
  rw [e] at qn qs
  obtain ⟨rfl, hi⟩ := Xu e
  obtain rfl := Zk h1
  refine iteF ⟨_, rfl, ln, _, _, _, rfl, rfl, hln, (show atI _ ((2 : Nat) : Int) = some _ from Xx rfl), _, rfl, v2, d2, l, ws, rfl, h2, J.lst, J.ne, _, rfl, ?_⟩
  rw [lw0]
  cases e2 : numT told.length d2 with
  | none => exact iteT (qn (by show (numT told.length d2).bind _ = none; rw [e2]; rfl) H (Same.refl H))
  | some j =>
   have qs2 := fun r er => qs r (show (numT told.length d2).bind _ = some r by rw [e2]; exact er)
   have qn2 := fun er => qn (show (numT told.length d2).bind _ = none by rw [e2]; exact er)
   obtain ⟨rfl, hj⟩ := Xu e2
   obtain rfl := Zk h2
   refine iteF ⟨_, rfl, _, rfl, t, _, _, _, rfl, rfl, ht, at1, c0, _, rfl, .inr hc0, v3, d3, (cs.map V.int).length, rfl, h3, _, rfl, ?_⟩
   rw [lc]
   cases e3 : numT cs.length d3 with
   | none => exact iteT (qn2 (by show (numT cs.length d3).bind _ = none; rw [e3]; rfl) H (Same.refl H))
   | some c =>
    have qs3 := fun r er => qs2 r (show (numT cs.length d3).bind _ = some r by rw [e3]; exact er)
    have qn3 := fun er => qn2 (show (numT cs.length d3).bind _ = none by rw [e3]; exact er)
    obtain ⟨rfl, hc⟩ := Xu e3
    obtain rfl := Zk h3
    obtain ⟨a1, ea1, hra1, hla1⟩ := J.row hi
    obtain ⟨a2, ea2, hra2, hla2⟩ := J.row hj
    refine iteF ⟨_, rfl, _, rfl, ln, _, _, _, rfl, rfl, hln, (show atI _ ((1 : Nat) : Int) = some _ from Xx rfl), l, _, _, _, rfl, rfl, J.lst, Xx ea1, ?_⟩
    refine ⟨_, rfl, _, rfl, ln, _, _, _, rfl, rfl, hln, (show atI _ ((2 : Nat) : Int) = some _ from Xx rfl), l, _, _, _, rfl, rfl, J.lst, Xx ea2, ?_⟩
    generalize rowK told i = one at qs3 qn3 hra1 hla1
    generalize rowK told j = other at qs3 qn3 hra2 hla2
    refine ⟨_, rfl, _, rfl, a1, one, c, rfl, hra1, by omega, by omega, fun p1 H1 s1 hp1 => ?_⟩
    refine ⟨_, rfl, _, rfl, a2, other, c, rfl, hra2.same s1, by omega, by omega, fun p2 H2 s2 hp2 => ?_⟩
    have s12 := s1.trans s2
    refine ⟨p1, p2, _, _, rfl, rfl, Qkd (s2.tup hp1), Qkd hp2, Vy _ _, fun b hb => ?_⟩
    have hb' : b = true ↔ Xi one.1 c = Xi other.1 c := by
     rw [hb]
     constructor
     ·intro z
      have z1 : (Xi one.1 c).map L2.D.int = (Xi other.1 c).map L2.D.int := by injection z
      exact (List.map_inj_right (fun _ _ h => by cases h; rfl)).mp z1
     ·intro z; rw [z]
    cases b with
    | true => exact ⟨_, rfl, iteF ⟨_, rfl, _, rfl, _, rfl, a1, a2, one, other, c, rfl, hra1.same s12, hra2.same s12, by omega, by omega, fun t' H' s' hr' => qs3 _ (if_pos (hb'.mp rfl)) t' H' (s12.trans s') hr'⟩⟩
    | false => exact ⟨_, rfl, iteT (qn3 (if_neg fun z => nomatch hb'.mpr z) H2 s12)⟩
theorem scTLike : FnScope ["problem", "best", "told", "line", "turn"] ["problem", "best", "told", "line"] (Qf Qjt) := ⟨rfl, rfl, rfl, by decide +kernel, rfl, by decide +kernel, by decide +kernel⟩
theorem Qtt (F : Fn K mg "told_like" Qjt) (M : Mg mg) (c_is_turn : Cal P w K mg base 3 "is_turn" ["thing", "count"] (Qiw K)) (c_turn_keeps : Cal P w K mg base 2 "turn_keeps" ["problem", "turn"] (spKT K)) (c_like_row : Cal P w K mg base 1 "like_row" ["turn"] (Qfu K)) : Cal P w K mg base 4 "told_like" ["problem", "best", "told", "line"] (Zg K "like") := by
 refine Xd F scTLike (fun _ _ _ _ _ _ => Wr (fun _ _ _ _ => rfl)) (fun vs H Q E h => ?_) (fun f cdv A outer s H vs Q E hr h => ?_)
 ·obtain ⟨t, l, ln, rs, cs, best, ws, told, us, xs, rfl, _⟩ := h
  rfl
 obtain ⟨t, l, ln, rs, cs, best, ws, told, us, xs, rfl, J, hln, hul, hget, hsm, hlw, hok, qn, qs⟩ := h
 refine ⟨_, (Qg (Qx (i := 4) scTLike.nd rfl (Or.inl rfl) (Qm Ql (pv 3) Qd (fun _ _ => rfl)))
  (Qg (Yi (PW.pt (Ki (Yh (Ya (Xj c_is_turn (hr.mono (by decide)) (Qa (pv 4) (Qa (Qk Qi rfl M.len Xf (Qa (Qm Ql (pv 0) Qd (fun _ _ => rfl)) Qe)) Qe))))) (Jf (Yh (Ya (Xj c_turn_keeps (hr.mono (by decide)) (Qa (pv 0) (Qa (pv 4) Qe)))))))) (Qn (Qv Xy)) Xg)
  (Qn (Qv (Xj c_like_row (hr.mono (by decide)) (Qa (pv 4) Qe)))))), ?_⟩
 refine Yj ?_
 intro rT3 rT2
 obtain ⟨l0, c0, us0, ht, hl0, hrw0, hc0⟩ := id J.prob
 have lr0 := hrw0.length
 have lw0 := J.rows.length
 have hn50 := J.n
 have hm60 := J.m
 have hk1000 := J.k
 have lc : (cs.map V.int).length = cs.length := jQ ..
 have hx2 : xs.length = 2 := (Option.some.inj (show some 2 = some xs.length from hlw)).symm
 obtain ⟨d0, d1, rfl⟩ : ∃ d0 d1, xs = [d0, d1] := len2 hx2
 obtain ⟨v0, v1, rfl⟩ : ∃ v0 v1, us = [v0, v1] := len2 hul
 have h1 := hget 1 v1 d1 rfl rfl
 have m1 := hsm d1 (List.Mem.tail _ (List.Mem.head _))
 have eq : Zt "like" rs cs best told [d0, d1] = (Ws cs.length d1).bind fun t => @ite _ (Qfv rs cs t cs.length) (Classical.propDecidable _) (some (Ww t)) none := rfl
 rw [eq] at qn qs
 refine ⟨_, rfl, ln, _, _, _, rfl, rfl, hln, (show atI _ ((1 : Nat) : Int) = some _ from Xx rfl), ?_⟩
 have hl60 : lenT d1 < 64 := by have := Qcv m1; omega
 have go : ∀ (H1 : Hp), Same H H1 → (Ws cs.length d1 = none → Q .non H1) := fun H1 s1 hh => qn (by rw [hh]; rfl) H1 s1
 cases hh : Ws cs.length d1 with
 | none =>
  cases d1 with
  | lst zs => exact ⟨_, rfl, _, rfl, t, _, _, _, rfl, rfl, ht, at1, c0, _, rfl, .inr hc0, v1, _, (cs.map V.int).length, rfl, h1, hl60, by rw [lc]; omega, fun H1 s1 => ⟨_, rfl, by rw [lc, hh]; exact iteT (iteT (go H1 s1 hh))⟩⟩
  | tup zs => exact ⟨_, rfl, _, rfl, t, _, _, _, rfl, rfl, ht, at1, c0, _, rfl, .inr hc0, v1, _, (cs.map V.int).length, rfl, h1, hl60, by rw [lc]; omega, fun H1 s1 => ⟨_, rfl, iteT (iteT (go H1 s1 rfl))⟩⟩
  | non => exact ⟨_, rfl, _, rfl, t, _, _, _, rfl, rfl, ht, at1, c0, _, rfl, .inr hc0, v1, _, (cs.map V.int).length, rfl, h1, hl60, by rw [lc]; omega, fun H1 s1 => ⟨_, rfl, iteT (iteT (go H1 s1 rfl))⟩⟩
  | bl b => exact ⟨_, rfl, _, rfl, t, _, _, _, rfl, rfl, ht, at1, c0, _, rfl, .inr hc0, v1, _, (cs.map V.int).length, rfl, h1, hl60, by rw [lc]; omega, fun H1 s1 => ⟨_, rfl, iteT (iteT (go H1 s1 rfl))⟩⟩
  | str b => exact ⟨_, rfl, _, rfl, t, _, _, _, rfl, rfl, ht, at1, c0, _, rfl, .inr hc0, v1, _, (cs.map V.int).length, rfl, h1, hl60, by rw [lc]; omega, fun H1 s1 => ⟨_, rfl, iteT (iteT (go H1 s1 rfl))⟩⟩
  | int b => exact ⟨_, rfl, _, rfl, t, _, _, _, rfl, rfl, ht, at1, c0, _, rfl, .inr hc0, v1, _, (cs.map V.int).length, rfl, h1, hl60, by rw [lc]; omega, fun H1 s1 => ⟨_, rfl, iteT (iteT (go H1 s1 rfl))⟩⟩
 | some tn =>
  obtain ⟨zs, rfl⟩ := Qga hh
  obtain ⟨ea, hnd, hlen⟩ := Qfz hh
  obtain ⟨al, vs2, rfl, hal, hall, hgl⟩ := h1.lst_inv
  obtain ⟨ev, hlt⟩ := Qfs (n := cs.length) hall hgl ea
  have hzl := (m1.lst_inv).1
  have hT : IsTurn cs.length tn := ⟨Kg hlt hnd hlen⟩
  rw [hh] at qn qs
  refine ⟨_, rfl, _, rfl, t, _, _, _, rfl, rfl, ht, at1, c0, _, rfl, .inr hc0, _, _, (cs.map V.int).length, rfl, h1, by show zs.length < 64; omega, by rw [lc]; omega, fun H1 s1 => ⟨_, rfl, ?_⟩⟩
  rw [lc, hh]
  have htn : SqL K H1 al ((tI tn).map V.int) := by show SqL K H1 al ((tn.map fun (k : Nat) => (k : Int)).map V.int); rw [← ev]; exact s1.seq hal
  refine iteF ⟨_, rfl, _, rfl, t, al, rs, cs, cs.length, tn, rfl, J.prob.same s1, htn, hT, by omega, J.rl, rfl, J.m, fun b H2 s2 hb => ⟨_, rfl, ?_⟩⟩
  have s12 := s1.trans s2
  cases b with
  | true => exact iteF ⟨_, rfl, al, tn, rfl, s2.seq htn, by omega, fun k hk => by rw [hlen]; exact hlt k hk, fun t' H' s' hr' => qs _ (show (some tn).bind _ = some _ from if_pos (hb.mp rfl)) t' H' (s12.trans s') hr'⟩
  | false => exact iteT (qn (show (some tn).bind _ = none from if_neg fun z => nomatch hb.mpr z) H2 s12)
end
abbrev Qrg : Stmt := top 27
theorem parts_nil {K : Fg} {H : Hp} : Ka K H [] [] := ⟨rfl, fun i v p e => by simp at e⟩
theorem Qld {K : Fg} {H : Hp} {vs : List V} {ps : List Part} {T t : Addr} {p : Part} (h : Ka K H vs ps) (h1 : SqT K H T [.ref t, .int p.2]) (h2 : RowAt K H t p.1) : Ka K H (vs ++ [.ref T]) (ps ++ [p]) := by
 refine ⟨by rw [kZ, kZ, h.1]; rfl, fun i v q e1 e2 => ?_⟩
 by_cases hi : i < vs.length
 ·rw [jKf hi] at e1
  rw [jKf (by rw [← h.1]; exact hi)] at e2
  exact h.2 i v q e1 e2
 ·have hi2 : i = vs.length := by
   have := (yK.mp e1).1
   rw [kZ] at this
   simp at this
   omega
  subst hi2
  rw [jZf (jZ _)] at e1
  rw [jZf (by rw [h.1]; exact jZ _), h.1] at e2
  simp at e1 e2
  subst e1 e2
  exact ⟨T, t, rfl, h1, h2⟩
theorem Qgo {K : Fg} {H H' : Hp} {vs : List V} {ps : List Part} (f : ∀ a xs, SqT K H a xs → SqT K H' a xs) (h : Ka K H vs ps) : Ka K H' vs ps :=
 ⟨h.1, fun i v p e1 e2 => let ⟨T, t, a, b, q, c1, c2⟩ := h.2 i v p e1 e2; ⟨T, t, a, f _ _ b, q, f _ _ c1, f _ _ c2⟩⟩
theorem Qow {K : Fg} {H : Hp} {n : Nat} {vs : List V} {xs : List Dt} {qs : List (Nat × Int)} (hl : vs.length = xs.length) (h : ∀ (i : Nat) v x, vs[i]? = some v → xs[i]? = some x → HasT K H v x) (hs : ∀ x ∈ xs, Sm x) (e : allT (Jt n) xs = some qs) {i : Nat} {v : V} (ev : vs[i]? = some v) :
  ∃ T p, v = .ref T ∧ qs[i]? = some p ∧ SqT K H T [.int ((p.1 : Nat) : Int), .int p.2] ∧ p.1 < n ∧ 0 ≤ p.2 ∧ p.2 < 2 ^ 62 := by
 have hi : i < vs.length := (yK.mp ev).1
 obtain ⟨x, ex⟩ : ∃ x, xs[i]? = some x := ⟨_, gE (by omega)⟩
 obtain ⟨p, ep, en⟩ := (Ji e).2 i x ex
 obtain ⟨rfl, h1, h2⟩ := Wt en
 obtain ⟨T, a, b, rfl, g1, g2, g3⟩ := (h i v _ ev ex).pair_inv
 cases g2
 cases g3
 have := (hs _ (kK ex)).tup_inv (.int p.2) (by simp)
 exact ⟨T, p, rfl, ep, g1, h1, h2, this.int_inv.2⟩
theorem Qrh {n : Nat} {xs : List Dt} {qs : List (Nat × Int)} (e : allT (Jt n) xs = some qs) (hs : ∀ x ∈ xs, Sm x) : ∀ p ∈ qs, p.1 < n ∧ 0 ≤ p.2 ∧ p.2 < 2 ^ 62 := by
 intro p hp
 obtain ⟨el, eg⟩ := Ji e
 obtain ⟨i, hi, rfl⟩ := jXf.mp hp
 obtain ⟨x, ex⟩ : ∃ x, xs[i]? = some x := ⟨_, gE (by omega)⟩
 obtain ⟨p, ep, en⟩ := eg i x ex
 rw [gE hi] at ep
 cases ep
 obtain ⟨rfl, h1, h2⟩ := Wt en
 exact ⟨h1, h2, ((hs _ (kK ex)).tup_inv (.int _) (by simp)).int_inv.2⟩
section
variable {P : Program} {w : World} {K : Fg} {mg : Str → Option Value} {base : Heap} {aT aL : Addr} {fT fL : Str → Option Value}
theorem scTSum : FnScope ["problem", "best", "told", "line", "parts"] ["problem", "best", "told", "line"] (Qf Qrg) := ⟨rfl, rfl, rfl, by decide +kernel, rfl, by decide +kernel, by decide +kernel⟩
theorem okTSum (F : Fn K mg "told_sum" Qrg) (M : Mg mg) (c_is_part : Cal P w K mg base 4 "is_part" ["thing", "told"] (Qiu K)) (c_sum_row : Cal P w K mg base 1 "sum_row" ["count", "parts"] (spSum K)) : Cal P w K mg base 5 "told_sum" ["problem", "best", "told", "line"] (Zg K "sum") := by
 refine Xd F scTSum (fun _ _ _ _ _ _ => Wr (fun _ _ _ _ => rfl)) (fun vs H Q E h => ?_) (fun f cdv A outer s H vs Q E hr h => ?_)
 ·obtain ⟨t, l, ln, rs, cs, best, ws, told, us, xs, rfl, _⟩ := h
  rfl
 obtain ⟨t, l, ln, rs, cs, best, ws, told, us, xs, rfl, J, hln, hul, hget, hsm, hlw, hok, qn, qs⟩ := h
 refine ⟨_, (Qg (Qx (i := 4) scTSum.nd rfl (Or.inl rfl) (Qm Ql (pv 3) Qd (fun _ _ => rfl)))
  (Qg (Yi (PW.pt (Ki (Yh (Ya (Qk Yv rfl M.isinstance Xk (Qa (pv 4) (Qa (Qai M.list_ Zy) Qe))))) (Jf (Qq Yl (Qk Qi rfl M.len Xf (Qa (pv 4) Qe)) Qd (Qs _))))) (Qn (Qv Xy)) Xg)
  (Qg (Yi (Yh (Ya (Qk (Vw rfl) rfl M.all Qif (Qa (Jr ["part", "told"] [none, some 2] rfl (Yk (pv 4)) (fun _ _ _ => (Xe (i := 0) (show (["part", "told"] : List Str).Nodup by decide +kernel) rfl (Or.inl rfl) (Or.inr rfl))) (fun _ _ _ => Yt) (fun _ _ _ => (Xj c_is_part (hr.mono (by decide)) (Qa (pv 0) (Qa (pv 1) Qe))))) Qe)))) (Qn (Qv Xy)) Xg)
  (Qn (Qv (Xj c_sum_row (hr.mono (by decide)) (Qa (Qk Qi rfl M.len Xf (Qa (Qm Ql (pv 0) Qd (fun _ _ => rfl)) Qe)) (Qa (Jr ["place", "many", "told"] [none, none, some 2] rfl (Yk (pv 4)) (fun _ _ _ => (Zi (K := K) (i := 0) (j := 1) rfl rfl (show (["place", "many", "told"] : List Str).Nodup by decide +kernel) rfl rfl rfl rfl)) (fun _ _ _ => Yt) (fun _ _ _ => (Yy (Qa (Qm (Qdc (K := K) rfl) (pv 2) (pv 0) (fun _ _ => rfl)) (Qa (pv 1) Qe))))) Qe)))))))), ?_⟩
 refine Zj ?_
 intro rT4 rT3 rT2
 obtain ⟨l0, c0, us0, ht, hl0, hrw0, hc0⟩ := id J.prob
 have lr0 := hrw0.length
 have lw0 := J.rows.length
 have hn50 := J.n
 have hm60 := J.m
 have hk1000 := J.k
 have lc : (cs.map V.int).length = cs.length := jQ ..
 have hx2 : xs.length = 2 := (Option.some.inj (show some 2 = some xs.length from hlw)).symm
 obtain ⟨d0, d1, rfl⟩ : ∃ d0 d1, xs = [d0, d1] := len2 hx2
 obtain ⟨v0, v1, rfl⟩ : ∃ v0 v1, us = [v0, v1] := len2 hul
 have h1 := hget 1 v1 d1 rfl rfl
 have m1 := hsm d1 (List.Mem.tail _ (List.Mem.head _))
 have eq : Zt "sum" rs cs best told [d0, d1] = sumD cs.length told d1 := rfl
 rw [eq] at qn qs
 have hz : (2000 : Nat) < sizeLine := by decide
 refine ⟨_, rfl, ln, _, _, _, rfl, rfl, hln, (show atI _ ((1 : Nat) : Int) = some _ from Xx rfl), ?_⟩
 cases d1 with
 | lst xs =>
  obtain ⟨a, us, rfl, hl, hlen, hgl⟩ := h1.lst_inv
  obtain ⟨hx60, hxs⟩ := m1.lst_inv
  refine ⟨_, rfl, _, "list", _, rfl, .list, h1.isi _, _, rfl, iteF ⟨_, rfl, a, us, rfl, .inl hl, rfl, _, rfl, ?_⟩⟩
  cases xs with
  | nil =>
   have : us = [] := zZ hlen
   subst this
   exact iteT (qn rfl H (Same.refl H))
  | cons d r =>
   have eS : sumD cs.length told (.lst (d :: r)) = (allT (Jt told.length) (d :: r)).map fun qs => Zf cs.length (partsOf told qs) := rfl
   rw [eS] at qn qs
   generalize hxx : d :: r = xs at *
   have hpos : 0 < xs.length := by rw [← hxx]; simp
   refine ite2 (fun c => absurd (V.int.inj (yX c)) (by omega)) (fun _ => ?_)
   refine ⟨_, rfl, a, rfl, ⟨_, hl⟩, fun D hD => ?_⟩
   let Pv1 : Nat → St → List V → Hp → Prop := fun i τ ys H1 => ∃ u : Option V, τ = [u, some (.ref l)] ∧ ys = ((xs.take i).map fun d => (Jt ws.length d).isSome).map V.bl ∧ H1 D = some (.lst ys) ∧ Same H H1
   refine Ym (n := xs.length) Pv1 ?_ (fun i τ ys H1 hi h => ?_) (fun i τ ys H1 hi h => ?_) (fun τ ys H1 h => ?_) ?_ ?_
   ·exact ⟨none, rfl, rfl, Qc, Qb hD _⟩
   ·obtain ⟨u, rfl, rfl, hE, s1⟩ := h
    exact ⟨hE, by rw [jQ, jQ, kW]; omega⟩
   ·obtain ⟨u, rfl, rfl, hE, s1⟩ := h
    exact ⟨us, us[i]'(by omega), s1.seq hl, gE (by omega)⟩
   ·obtain ⟨u, rfl, rfl, hE, s1⟩ := h
    exact ⟨us, s1.seq hl, by omega⟩
   ·rintro i τ ys H1 x H2 hi ⟨u, rfl, rfl, hE, s1⟩ ⟨rfl, e1⟩
    obtain ⟨dd, ed⟩ : ∃ d, xs[i]? = some d := ⟨_, gE hi⟩
    have hx := (hgl i _ _ (e1 _ (s1.seq hl)) ed).same s1
    refine ⟨_, rfl, _, rfl, _, dd, l, ws, rfl, hx, s1.seq J.lst, J.ne, hE, _, rfl, ?_, Qc, fun b o e => ?_⟩
    ·rw [Zz ed, kX, kX]; rfl
    ·rw [Qo (Qh e hD)]; exact s1 _ _ e
   rintro τ ys H1 ⟨u, rfl, rfl, hE, s1⟩
   rw [wQ] at hE
   refine ⟨D, _, rfl, Qj hE, _, rfl, ?_⟩
   have eall : (xs.map fun d => (Jt ws.length d).isSome).all id = (allT (Jt told.length) xs).isSome := by rw [lw0, Jz, List.all_map]; rfl
   rw [eall]
   cases ea : allT (Jt told.length) xs with
   | none => rw [ea] at qn; exact iteT (qn rfl H1 s1)
   | some qq =>
    rw [ea] at qs
    obtain ⟨el, eg⟩ := Ji ea
    have hok := Qrh ea hxs
    refine iteF ⟨_, rfl, t, _, _, _, rfl, rfl, s1.tup ht, at1, c0, _, rfl, .inr (s1.tup hc0), ?_⟩
    refine ⟨_, rfl, a, rfl, ⟨_, s1.seq hl⟩, fun D2 hD2 => ?_⟩
    have lpo : (partsOf told qq).length = qq.length := jQ ..
    let Pv2 : Nat → St → List V → Hp → Prop := fun i τ ys H2 => ∃ u v : Option V, τ = [u, v, some (.ref l)] ∧ Ka K H2 ys ((partsOf told qq).take i) ∧ H2 D2 = some (.lst ys) ∧ Same H1 H2
    refine Ym (n := xs.length) Pv2 ?_ (fun i τ ys H2 hi h => ?_) (fun i τ ys H2 hi h => ?_) (fun τ ys H2 h => ?_) ?_ ?_
    ·exact ⟨none, none, rfl, parts_nil, Qc, Qb hD2 _⟩
    ·obtain ⟨u, v, rfl, hp, hE2, s2⟩ := h
     have := hp.1
     rw [kW] at this
     exact ⟨hE2, by omega⟩
    ·obtain ⟨u, v, rfl, hp, hE2, s2⟩ := h
     exact ⟨us, us[i]'(by omega), (s1.trans s2).seq hl, gE (by omega)⟩
    ·obtain ⟨u, v, rfl, hp, hE2, s2⟩ := h
     exact ⟨us, (s1.trans s2).seq hl, by omega⟩
    ·rintro i τ ys H2 x H3 hi ⟨u, v, rfl, hp, hE2, s2⟩ ⟨rfl, e1⟩
     have s12 := s1.trans s2
     obtain ⟨T, p, rfl, ep, hT, hp1, hp2, hp3⟩ := Qow hlen hgl hxs ea (e1 _ (s12.seq hl))
     obtain ⟨ar, ear, hra, hla⟩ := J.row hp1
     refine ⟨T, _, rfl, s12.tup hT, rfl, _, _, rfl, _, _, rfl, rfl, ?_⟩
     refine ⟨_, rfl, _, rfl, l, _, _, _, rfl, rfl, s12.seq J.lst, Xx ear, _, rfl, by show 2 ≤ sizeLine; decide, fun T2 hT2 => ?_⟩
     have s3 := Qb hT2 (.tup [.ref ar, .int p.2])
     have hE3 := s3 _ _ hE2
     refine ⟨hE3, _, _, rfl, ?_, Qc, fun b o e => ?_⟩
     ·rw [Zz (show (partsOf told qq)[i]? = some (rowK told p.1, p.2) by unfold partsOf; rw [jY, ep]; rfl)]
      refine Qgo (fun a xs z => Qdd hE3 z) (Qld (Qgo (fun a xs z => s3.tup z) hp) (Xa Qc) (hra.same (s12.trans s3)))
     ·rw [Qo (Qh e hD2)]; exact s3 _ _ (s2 _ _ e)
    ·rintro τ ys H2 ⟨u, v, rfl, hp, hE2, s2⟩
     rw [zQ (by omega)] at hp
     refine ⟨D2, ys, partsOf told qq, (cs.map V.int).length, rfl, Qj hE2, hp, by rw [lc]; omega, fun p hp' => ?_, fun t' H' s' hr' => ?_⟩
     ·unfold partsOf at hp'
      obtain ⟨pq, hpq, rfl⟩ := jQd.mp hp'
      obtain ⟨k1, k2, k3⟩ := hok pq hpq
      rw [lc]
      obtain ⟨_, _, _, hla⟩ := J.row k1
      exact ⟨hla, by show -(2 ^ 64) < pq.2; omega, by show pq.2 < 2 ^ 64; omega⟩
     ·rw [lc] at hr'
      exact qs _ rfl t' H' ((s1.trans s2).trans s') hr'
 | int i => exact ⟨_, rfl, _, "list", _, rfl, .list, h1.isi _, _, rfl, iteT (iteT (qn rfl H (Same.refl H)))⟩
 | non => exact ⟨_, rfl, _, "list", _, rfl, .list, h1.isi _, _, rfl, iteT (iteT (qn rfl H (Same.refl H)))⟩
 | bl b => exact ⟨_, rfl, _, "list", _, rfl, .list, h1.isi _, _, rfl, iteT (iteT (qn rfl H (Same.refl H)))⟩
 | str s => exact ⟨_, rfl, _, "list", _, rfl, .list, h1.isi _, _, rfl, iteT (iteT (qn rfl H (Same.refl H)))⟩
 | tup xs => exact ⟨_, rfl, _, "list", _, rfl, .list, h1.isi _, _, rfl, iteT (iteT (qn rfl H (Same.refl H)))⟩
end
theorem Xh (e : DictEntry) (l : List DictEntry) (x : Str) (t : Tok) (h : e.key = .str x t) (s : Str) : PySem.findBy PySem.Value.isStrOf ⟨e :: l⟩ s = if s = x then some e.val else PySem.findBy PySem.Value.isStrOf ⟨l⟩ s := by
 unfold PySem.findBy
 rw [List.find?_toArray, List.find?_toArray, jZa]
 by_cases hs : s = x
 ·subst hs
  rw [if_pos rfl, h]
  have : PySem.Value.isStrOf s (.str s t) = true := by simp [PySem.Value.isStrOf]
  rw [this]
  rfl
 ·rw [if_neg hs, h]
  have : PySem.Value.isStrOf s (.str x t) = false := by simp [PySem.Value.isStrOf]; exact fun z => hs z.symm
  rw [this]
structure JTab0 (w : World) (K : Fg) (mg : Str → Option Value) (aT aL : Addr) (fT fL : Str → Option Value) : Prop where
 tt : Tab w K mg "TELLERS" aT fT
 lt : Tab w K mg "LENGTHS" aL fL
 nt : ∃ v1 v2 v3 v4 v5 v6 v7 v8 v9 : Value, mg "told_given" = some v1 ∧ mg "told_low" = some v2 ∧ mg "told_high" = some v3 ∧ mg "told_better" = some v4 ∧ mg "told_sum" = some v5 ∧ mg "told_share" = some v6 ∧ mg "told_shut" = some v7 ∧ mg "told_either" = some v8 ∧ mg "told_like" = some v9 ∧ ∀ s, fT s = if s = "given" then some v1 else if s = "low" then some v2 else if s = "high" then some v3 else if s = "better" then some v4 else if s = "sum" then some v5 else if s = "share" then some v6 else if s = "shut" then some v7 else if s = "either" then some v8 else if s = "like" then some v9 else none
 nl : ∃ t1 t2 t3 t4 t5 t6 t7 t8 t9 : Tok, ∀ s, fL s = if s = "given" then some (.int 2 t1) else if s = "low" then some (.int 2 t2) else if s = "high" then some (.int 2 t3) else if s = "better" then some (.int 1 t4) else if s = "sum" then some (.int 2 t5) else if s = "share" then some (.int 3 t6) else if s = "shut" then some (.int 3 t7) else if s = "either" then some (.int 4 t8) else if s = "like" then some (.int 2 t9) else none
theorem jtab0 {w : World} {K : Fg} {mg : Str → Option Value} {aT aL : Addr} {es fs : Array DictEntry} {m n : Nat} {v1 v2 v3 v4 v5 v6 v7 v8 v9 : Value} {h1 g1 h2 g2 h3 g3 h4 g4 h5 g5 h6 g6 h7 g7 h8 g8 h9 g9 : Int} {t1 q1 j1 t2 q2 j2 t3 q3 j3 t4 q4 j4 t5 q5 j5 t6 q6 j6 t7 q7 j7 t8 q8 j8 t9 q9 j9 : Tok}
  (b1 : mg "TELLERS" = some (.ref aT)) (l1 : K.lookup aT = some ⟨.type "dict", none, .dict es m, #[]⟩) (k1 : PySem.W.KeysLit w.params es.toList) (o1 : (aT == sysModules) = false) (e1 : es = ⟨[⟨h1, .str "given" t1, v1⟩, ⟨h2, .str "low" t2, v2⟩, ⟨h3, .str "high" t3, v3⟩, ⟨h4, .str "better" t4, v4⟩, ⟨h5, .str "sum" t5, v5⟩, ⟨h6, .str "share" t6, v6⟩, ⟨h7, .str "shut" t7, v7⟩, ⟨h8, .str "either" t8, v8⟩, ⟨h9, .str "like" t9, v9⟩]⟩)
  (b2 : mg "LENGTHS" = some (.ref aL)) (l2 : K.lookup aL = some ⟨.type "dict", none, .dict fs n, #[]⟩) (k2 : PySem.W.KeysLit w.params fs.toList) (o2 : (aL == sysModules) = false) (e2 : fs = ⟨[⟨g1, .str "given" q1, .int 2 j1⟩, ⟨g2, .str "low" q2, .int 2 j2⟩, ⟨g3, .str "high" q3, .int 2 j3⟩, ⟨g4, .str "better" q4, .int 1 j4⟩, ⟨g5, .str "sum" q5, .int 2 j5⟩, ⟨g6, .str "share" q6, .int 3 j6⟩, ⟨g7, .str "shut" q7, .int 3 j7⟩, ⟨g8, .str "either" q8, .int 4 j8⟩, ⟨g9, .str "like" q9, .int 2 j9⟩]⟩)
  (n1 : mg "told_given" = some v1) (n2 : mg "told_low" = some v2) (n3 : mg "told_high" = some v3) (n4 : mg "told_better" = some v4) (n5 : mg "told_sum" = some v5) (n6 : mg "told_share" = some v6) (n7 : mg "told_shut" = some v7) (n8 : mg "told_either" = some v8) (n9 : mg "told_like" = some v9) : JTab0 w K mg aT aL (fun k => PySem.findBy PySem.Value.isStrOf es k) (fun k => PySem.findBy PySem.Value.isStrOf fs k) := by
 refine ⟨Qrt b1 l1 k1 o1, Qrt b2 l2 k2 o2, ⟨v1, v2, v3, v4, v5, v6, v7, v8, v9, n1, n2, n3, n4, n5, n6, n7, n8, n9, fun s => ?_⟩, ⟨j1, j2, j3, j4, j5, j6, j7, j8, j9, fun s => ?_⟩⟩
 ·subst e1
  show PySem.findBy _ _ s = _
  rw [Xh _ _ "given" t1 rfl, Xh _ _ "low" t2 rfl, Xh _ _ "high" t3 rfl, Xh _ _ "better" t4 rfl, Xh _ _ "sum" t5 rfl, Xh _ _ "share" t6 rfl, Xh _ _ "shut" t7 rfl, Xh _ _ "either" t8 rfl, Xh _ _ "like" t9 rfl]
  rfl
 ·subst e2
  show PySem.findBy _ _ s = _
  rw [Xh _ _ "given" q1 rfl, Xh _ _ "low" q2 rfl, Xh _ _ "high" q3 rfl, Xh _ _ "better" q4 rfl, Xh _ _ "sum" q5 rfl, Xh _ _ "share" q6 rfl, Xh _ _ "shut" q7 rfl, Xh _ _ "either" q8 rfl, Xh _ _ "like" q9 rfl]
  rfl
theorem Qri {P : Program} {w : World} {K : Fg} {mg : Str → Option Value} {base : Heap} {aT aL : Addr} {fT fL : Str → Option Value} (J : JTab0 w K mg aT aL fT fL)
  (c1 : Cal P w K mg base 4 "told_given" ["problem", "best", "told", "line"] (Zg K "given")) (c2 : Cal P w K mg base 4 "told_low" ["problem", "best", "told", "line"] (Zg K "low")) (c3 : Cal P w K mg base 4 "told_high" ["problem", "best", "told", "line"] (Zg K "high")) (c4 : Cal P w K mg base 2 "told_better" ["problem", "best", "told", "line"] (Zg K "better")) (c5 : Cal P w K mg base 5 "told_sum" ["problem", "best", "told", "line"] (Zg K "sum")) (c6 : Cal P w K mg base 4 "told_share" ["problem", "best", "told", "line"] (Zg K "share")) (c7 : Cal P w K mg base 5 "told_shut" ["problem", "best", "told", "line"] (Zg K "shut")) (c8 : Cal P w K mg base 4 "told_either" ["problem", "best", "told", "line"] (Zg K "either")) (c9 : Cal P w K mg base 4 "told_like" ["problem", "best", "told", "line"] (Zg K "like")) : JTabs P w K mg base aT aL fT fL := by
 obtain ⟨v1, v2, v3, v4, v5, v6, v7, v8, v9, m1, m2, m3, m4, m5, m6, m7, m8, m9, ef⟩ := J.nt
 obtain ⟨k1, k2, k3, k4, k5, k6, k7, k8, k9, el⟩ := J.nl
 have cal : ∀ {x : Str} {sp : Sp} {v : Value} {k : Nat}, k ≤ 5 → Cal P w K mg base k x ["problem", "best", "told", "line"] sp → mg x = some v → ∃ fa fd, v = .ref fa ∧ FnOk P w K mg base CX0 5 fa fd ["problem", "best", "told", "line"] sp ∧ PySem.W.keepIn K (.ref fa) = true ∧ Binds K fd ["problem", "best", "told", "line"] [] := by
  intro x sp v k hk c hm
  obtain ⟨f, fd, F, m, kp, b⟩ := (c.mono hk).ex
  rw [hm] at m
  exact ⟨f, fd, Option.some.inj m, F, kp, b⟩
 refine ⟨J.tt, J.lt, fun s => ?_, fun s n h => ?_, fun s v h => ?_⟩
 ·rw [ef s]
  unfold lenW
  repeat' split
  all_goals rfl
 ·rw [el s]
  unfold lenW at h
  by_cases w1 : s = "given"
  ·rw [if_pos w1] at h ⊢; cases h; exact ⟨_, rfl⟩
  rw [if_neg w1] at h ⊢
  by_cases w2 : s = "low"
  ·rw [if_pos w2] at h ⊢; cases h; exact ⟨_, rfl⟩
  rw [if_neg w2] at h ⊢
  by_cases w3 : s = "high"
  ·rw [if_pos w3] at h ⊢; cases h; exact ⟨_, rfl⟩
  rw [if_neg w3] at h ⊢
  by_cases w4 : s = "better"
  ·rw [if_pos w4] at h ⊢; cases h; exact ⟨_, rfl⟩
  rw [if_neg w4] at h ⊢
  by_cases w5 : s = "sum"
  ·rw [if_pos w5] at h ⊢; cases h; exact ⟨_, rfl⟩
  rw [if_neg w5] at h ⊢
  by_cases w6 : s = "share"
  ·rw [if_pos w6] at h ⊢; cases h; exact ⟨_, rfl⟩
  rw [if_neg w6] at h ⊢
  by_cases w7 : s = "shut"
  ·rw [if_pos w7] at h ⊢; cases h; exact ⟨_, rfl⟩
  rw [if_neg w7] at h ⊢
  by_cases w8 : s = "either"
  ·rw [if_pos w8] at h ⊢; cases h; exact ⟨_, rfl⟩
  rw [if_neg w8] at h ⊢
  by_cases w9 : s = "like"
  ·rw [if_pos w9] at h ⊢; cases h; exact ⟨_, rfl⟩
  rw [if_neg w9] at h ⊢
  cases h
 ·rw [ef s] at h
  by_cases w1 : s = "given"
  ·rw [if_pos w1] at h; cases h; subst w1; exact cal (by decide) c1 m1
  rw [if_neg w1] at h
  by_cases w2 : s = "low"
  ·rw [if_pos w2] at h; cases h; subst w2; exact cal (by decide) c2 m2
  rw [if_neg w2] at h
  by_cases w3 : s = "high"
  ·rw [if_pos w3] at h; cases h; subst w3; exact cal (by decide) c3 m3
  rw [if_neg w3] at h
  by_cases w4 : s = "better"
  ·rw [if_pos w4] at h; cases h; subst w4; exact cal (by decide) c4 m4
  rw [if_neg w4] at h
  by_cases w5 : s = "sum"
  ·rw [if_pos w5] at h; cases h; subst w5; exact cal (by decide) c5 m5
  rw [if_neg w5] at h
  by_cases w6 : s = "share"
  ·rw [if_pos w6] at h; cases h; subst w6; exact cal (by decide) c6 m6
  rw [if_neg w6] at h
  by_cases w7 : s = "shut"
  ·rw [if_pos w7] at h; cases h; subst w7; exact cal (by decide) c7 m7
  rw [if_neg w7] at h
  by_cases w8 : s = "either"
  ·rw [if_pos w8] at h; cases h; subst w8; exact cal (by decide) c8 m8
  rw [if_neg w8] at h
  by_cases w9 : s = "like"
  ·rw [if_pos w9] at h; cases h; subst w9; exact cal (by decide) c9 m9
  rw [if_neg w9] at h
  cases h
def htop (i : Nat) : Stmt := PySem.Challenge.pw_nonebetter_k10_lines_of_each_word.main.body.getD i (.Pass ⟨0, 0, 0, 0⟩)
def hob0 (i : Nat) (P : Params) : Obj :=
 bif Nat.beq i 2 then .mk .none none (.dict #[]) #[] else
 bif Nat.beq i 3 then .mk (.type "dict") none (.dict #[.mk (PyData.keyHash P "__name__") (.str "__name__" 165) (.str "law_nonebetter_k10_lines_of_each_word" 528), .mk (PyData.keyHash P "__doc__") (.str "__doc__" 166) .none, .mk (PyData.keyHash P "__package__") (.str "__package__" 167) .none, .mk (PyData.keyHash P "__loader__") (.str "__loader__" 168) (.builtin "__main__.__loader__#opaque"), .mk (PyData.keyHash P "__spec__") (.str "__spec__" 169) .none, .mk (PyData.keyHash P "__annotations__") (.str "__annotations__" 170) (.ref 6), .mk (PyData.keyHash P "__builtins__") (.str "__builtins__" 171) (.ref 4), .mk (PyData.keyHash P "__file__") (.str "__file__" 173) (.str "/claim/cut.py" 172), .mk (PyData.keyHash P "__cached__") (.str "__cached__" 174) .none, .mk (PyData.keyHash P "is_whole") (.str "is_whole" 195) (.ref 21), .mk (PyData.keyHash P "is_number_of") (.str "is_number_of" 203) (.ref 28), .mk (PyData.keyHash P "is_pair") (.str "is_pair" 210) (.ref 35), .mk (PyData.keyHash P "single_row") (.str "single_row" 223) (.ref 42), .mk (PyData.keyHash P "better_row") (.str "better_row" 229) (.ref 47), .mk (PyData.keyHash P "sum_row") (.str "sum_row" 235) (.ref 52), .mk (PyData.keyHash P "share_row") (.str "share_row" 241) (.ref 57), .mk (PyData.keyHash P "shut_row") (.str "shut_row" 253) (.ref 64), .mk (PyData.keyHash P "without") (.str "without" 261) (.ref 71), .mk (PyData.keyHash P "either_row") (.str "either_row" 270) (.ref 78), .mk (PyData.keyHash P "like_row") (.str "like_row" 280) (.ref 85), .mk (PyData.keyHash P "most_of") (.str "most_of" 295) (.ref 92), .mk (PyData.keyHash P "turned") (.str "turned" 306) (.ref 99), .mk (PyData.keyHash P "turn_keeps") (.str "turn_keeps" 312) (.ref 104), .mk (PyData.keyHash P "is_ahead") (.str "is_ahead" 322) (.ref 111), .mk (PyData.keyHash P "is_part") (.str "is_part" 330) (.ref 118), .mk (PyData.keyHash P "is_hold") (.str "is_hold" 338) (.ref 125), .mk (PyData.keyHash P "are_holds") (.str "are_holds" 344) (.ref 130), .mk (PyData.keyHash P "is_turn") (.str "is_turn" 350) (.ref 135), .mk (PyData.keyHash P "told_given") (.str "told_given" 360) (.ref 142), .mk (PyData.keyHash P "told_low") (.str "told_low" 371) (.ref 149), .mk (PyData.keyHash P "told_high") (.str "told_high" 382) (.ref 156), .mk (PyData.keyHash P "told_better") (.str "told_better" 392) (.ref 163), .mk (PyData.keyHash P "told_sum") (.str "told_sum" 398) (.ref 168), .mk (PyData.keyHash P "told_share") (.str "told_share" 404) (.ref 173), .mk (PyData.keyHash P "told_shut") (.str "told_shut" 417) (.ref 180), .mk (PyData.keyHash P "told_either") (.str "told_either" 430) (.ref 187), .mk (PyData.keyHash P "told_like") (.str "told_like" 441) (.ref 194), .mk (PyData.keyHash P "LENGTHS") (.str "LENGTHS" 469) (.ref 195), .mk (PyData.keyHash P "TELLERS") (.str "TELLERS" 488) (.ref 196), .mk (PyData.keyHash P "row_told") (.str "row_told" 499) (.ref 203), .mk (PyData.keyHash P "rows_told") (.str "rows_told" 511) (.ref 210), .mk (PyData.keyHash P "is_broken") (.str "is_broken" 517) (.ref 215), .mk (PyData.keyHash P "judged") (.str "judged" 527) (.ref 222), .mk (PyData.keyHash P "_law_whole") (.str "_law_whole" 536) (.ref 229), .mk (PyData.keyHash P "_law_mix") (.str "_law_mix" 546) (.ref 236), .mk (PyData.keyHash P "_law_draws") (.str "_law_draws" 557) (.ref 243), .mk (PyData.keyHash P "_law_row") (.str "_law_row" 563) (.ref 248), .mk (PyData.keyHash P "_law_problem") (.str "_law_problem" 569) (.ref 253), .mk (PyData.keyHash P "_law_alike") (.str "_law_alike" 586) (.ref 260), .mk (PyData.keyHash P "_law_turned") (.str "_law_turned" 596) (.ref 267), .mk (PyData.keyHash P "_law_points") (.str "_law_points" 602) (.ref 272), .mk (PyData.keyHash P "_law_sum") (.str "_law_sum" 608) (.ref 277), .mk (PyData.keyHash P "_law_kept") (.str "_law_kept" 619) (.ref 284), .mk (PyData.keyHash P "_law_even") (.str "_law_even" 625) (.ref 289), .mk (PyData.keyHash P "_law_given") (.str "_law_given" 635) (.ref 296), .mk (PyData.keyHash P "_law_holds") (.str "_law_holds" 645) (.ref 303), .mk (PyData.keyHash P "_law_turn") (.str "_law_turn" 655) (.ref 310), .mk (PyData.keyHash P "_law_line") (.str "_law_line" 671) (.ref 317), .mk (PyData.keyHash P "_law_most") (.str "_law_most" 682) (.ref 324), .mk (PyData.keyHash P "_law_keeps_turn") (.str "_law_keeps_turn" 688) (.ref 329), .mk (PyData.keyHash P "_law_alone") (.str "_law_alone" 698) (.ref 336), .mk (PyData.keyHash P "_law_added") (.str "_law_added" 711) (.ref 343), .mk (PyData.keyHash P "_law_named") (.str "_law_named" 717) (.ref 348), .mk (PyData.keyHash P "_law_simple") (.str "_law_simple" 723) (.ref 353), .mk (PyData.keyHash P "_law_told") (.str "_law_told" 729) (.ref 358), .mk (PyData.keyHash P "_law_paper") (.str "_law_paper" 743) (.ref 365), .mk (PyData.keyHash P "law") (.str "law" 749) (.ref 370)] 67) #[] else
 bif Nat.beq i 15 then .mk (.type "tuple") none (.seq #[]) #[] else
 bif Nat.beq i 17 then .mk (.type "tuple") none (.seq #[.str "thing" 192]) #[] else
 .mk (.type "tuple") none (.seq #[]) #[]
def hob1 (i : Nat) (P : Params) : Obj :=
 bif Nat.beq i 20 then .mk (.type "code") none (.fields #[.str "is_whole" 189, .str "is_whole" 190, .str "/claim/cut.py" 191, .int 2 0, .int 1 0, .int 0 0, .int 0 0, .int 3 0, .ref 15, .bool Bool.true, .int 181 0, .ref 16, .none, .ref 17, .ref 18, .ref 19, .int 193 0, .int 2 0, .str "/claim/cut.py" 194]) #[] else
 bif Nat.beq i 21 then .mk (.type "function") (none) (.func (.mk "is_whole" "is_whole" (L2.Qu (htop 1)) (.stmts (L2.Qt (htop 1))) (L2.Qf (htop 1)) (3) ([]) (.none) (.none) (.none) (.str "nonebetter.kinds" 187) (none) (.ref 20) (.none) (0))) (#[]) else
 bif Nat.beq i 22 then .mk (.type "tuple") none (.seq #[]) #[] else
 bif Nat.beq i 24 then .mk (.type "tuple") none (.seq #[.str "thing" 199, .str "count" 200]) #[] else
 .mk (.type "tuple") none (.seq #[]) #[]
def hob2 (i : Nat) (P : Params) : Obj :=
 bif Nat.beq i 27 then .mk (.type "code") none (.fields #[.str "is_number_of" 196, .str "is_number_of" 197, .str "/claim/cut.py" 198, .int 4 0, .int 2 0, .int 0 0, .int 0 0, .int 3 0, .ref 22, .bool Bool.true, .int 181 0, .ref 23, .none, .ref 24, .ref 25, .ref 26, .int 201 0, .int 4 0, .str "/claim/cut.py" 202]) #[] else
 bif Nat.beq i 28 then .mk (.type "function") (none) (.func (.mk "is_number_of" "is_number_of" (L2.Qu (htop 2)) (.stmts (L2.Qt (htop 2))) (L2.Qf (htop 2)) (3) ([]) (.none) (.none) (.none) (.str "nonebetter.kinds" 187) (none) (.ref 27) (.none) (0))) (#[]) else
 bif Nat.beq i 29 then .mk (.type "tuple") none (.seq #[]) #[] else
 bif Nat.beq i 31 then .mk (.type "tuple") none (.seq #[.str "thing" 207]) #[] else
 .mk (.type "tuple") none (.seq #[]) #[]
def hob3 (i : Nat) (P : Params) : Obj :=
 bif Nat.beq i 34 then .mk (.type "code") none (.fields #[.str "is_pair" 204, .str "is_pair" 205, .str "/claim/cut.py" 206, .int 6 0, .int 1 0, .int 0 0, .int 0 0, .int 3 0, .ref 29, .bool Bool.true, .int 181 0, .ref 30, .none, .ref 31, .ref 32, .ref 33, .int 208 0, .int 6 0, .str "/claim/cut.py" 209]) #[] else
 bif Nat.beq i 35 then .mk (.type "function") (none) (.func (.mk "is_pair" "is_pair" (L2.Qu (htop 3)) (.stmts (L2.Qt (htop 3))) (L2.Qf (htop 3)) (3) ([]) (.none) (.none) (.none) (.str "nonebetter.kinds" 187) (none) (.ref 34) (.none) (0))) (#[]) else
 bif Nat.beq i 36 then .mk (.type "tuple") none (.seq #[]) #[] else
 bif Nat.beq i 38 then .mk (.type "tuple") none (.seq #[.str "count" 216, .str "choice" 217, .str "number" 218, .str "least" 219, .str "numbers" 220]) #[] else
 .mk (.type "tuple") none (.seq #[]) #[]
def hob4 (i : Nat) (P : Params) : Obj :=
 bif Nat.beq i 41 then .mk (.type "code") none (.fields #[.str "single_row" 213, .str "single_row" 214, .str "/claim/cut.py" 215, .int 9 0, .int 4 0, .int 0 0, .int 0 0, .int 3 0, .ref 36, .bool Bool.true, .int 181 0, .ref 37, .none, .ref 38, .ref 39, .ref 40, .int 221 0, .int 9 0, .str "/claim/cut.py" 222]) #[] else
 bif Nat.beq i 42 then .mk (.type "function") (none) (.func (.mk "single_row" "single_row" (L2.Qu (htop 5)) (.stmts (L2.Qt (htop 5))) (L2.Qf (htop 5)) (3) ([]) (.none) (.none) (.none) (.str "nonebetter.lines" 211) (none) (.ref 41) (.none) (0))) (#[]) else
 bif Nat.beq i 43 then .mk (.type "tuple") none (.seq #[]) #[] else
 bif Nat.beq i 46 then .mk (.type "code") none (.fields #[.str "better_row" 224, .str "better_row" 225, .str "/claim/cut.py" 226, .int 13 0, .int 2 0, .int 0 0, .int 0 0, .int 3 0, .ref 43, .bool Bool.true, .int 181 0, .ref 44, .none, .none, .none, .ref 45, .int 227 0, .int 13 0, .str "/claim/cut.py" 228]) #[] else
 .mk (.type "function") (none) (.func (.mk "better_row" "better_row" (L2.Qu (htop 6)) (.stmts (L2.Qt (htop 6))) (L2.Qf (htop 6)) (3) ([]) (.none) (.none) (.none) (.str "nonebetter.lines" 211) (none) (.ref 46) (.none) (0))) (#[])
def hob5 (i : Nat) (P : Params) : Obj :=
 bif Nat.beq i 48 then .mk (.type "tuple") none (.seq #[]) #[] else
 bif Nat.beq i 51 then .mk (.type "code") none (.fields #[.str "sum_row" 230, .str "sum_row" 231, .str "/claim/cut.py" 232, .int 15 0, .int 2 0, .int 0 0, .int 0 0, .int 3 0, .ref 48, .bool Bool.true, .int 181 0, .ref 49, .none, .none, .none, .ref 50, .int 233 0, .int 15 0, .str "/claim/cut.py" 234]) #[] else
 bif Nat.beq i 52 then .mk (.type "function") (none) (.func (.mk "sum_row" "sum_row" (L2.Qu (htop 7)) (.stmts (L2.Qt (htop 7))) (L2.Qf (htop 7)) (3) ([]) (.none) (.none) (.none) (.str "nonebetter.lines" 211) (none) (.ref 51) (.none) (0))) (#[]) else
 bif Nat.beq i 53 then .mk (.type "tuple") none (.seq #[]) #[] else
 .mk (.type "code") none (.fields #[.str "share_row" 236, .str "share_row" 237, .str "/claim/cut.py" 238, .int 22 0, .int 2 0, .int 0 0, .int 0 0, .int 3 0, .ref 53, .bool Bool.true, .int 181 0, .ref 54, .none, .none, .none, .ref 55, .int 239 0, .int 22 0, .str "/claim/cut.py" 240]) #[]
def hob6 (i : Nat) (P : Params) : Obj :=
 bif Nat.beq i 57 then .mk (.type "function") (none) (.func (.mk "share_row" "share_row" (L2.Qu (htop 8)) (.stmts (L2.Qt (htop 8))) (L2.Qf (htop 8)) (3) ([]) (.none) (.none) (.none) (.str "nonebetter.lines" 211) (none) (.ref 56) (.none) (0))) (#[]) else
 bif Nat.beq i 58 then .mk (.type "tuple") none (.seq #[]) #[] else
 bif Nat.beq i 60 then .mk (.type "tuple") none (.seq #[.str "count" 245, .str "holds" 246, .str "numbers" 247, .str "least" 248, .str "choice" 249, .str "worth" 250]) #[] else
 bif Nat.beq i 61 then .mk (.type "tuple") none (.seq #[]) #[] else
 .mk (.type "code") none (.fields #[.str "shut_row" 242, .str "shut_row" 243, .str "/claim/cut.py" 244, .int 24 0, .int 2 0, .int 0 0, .int 0 0, .int 3 0, .ref 58, .bool Bool.true, .int 181 0, .ref 59, .none, .ref 60, .ref 61, .ref 62, .int 251 0, .int 24 0, .str "/claim/cut.py" 252]) #[]
def hob7 (i : Nat) (P : Params) : Obj :=
 bif Nat.beq i 64 then .mk (.type "function") (none) (.func (.mk "shut_row" "shut_row" (L2.Qu (htop 9)) (.stmts (L2.Qt (htop 9))) (L2.Qf (htop 9)) (3) ([]) (.none) (.none) (.none) (.str "nonebetter.lines" 211) (none) (.ref 63) (.none) (0))) (#[]) else
 bif Nat.beq i 65 then .mk (.type "tuple") none (.seq #[]) #[] else
 bif Nat.beq i 67 then .mk (.type "tuple") none (.seq #[.str "row" 257, .str "choice" 258]) #[] else
 bif Nat.beq i 68 then .mk (.type "tuple") none (.seq #[]) #[] else
 .mk (.type "code") none (.fields #[.str "without" 254, .str "without" 255, .str "/claim/cut.py" 256, .int 31 0, .int 2 0, .int 0 0, .int 0 0, .int 3 0, .ref 65, .bool Bool.true, .int 181 0, .ref 66, .none, .ref 67, .ref 68, .ref 69, .int 259 0, .int 31 0, .str "/claim/cut.py" 260]) #[]
def hob8 (i : Nat) (P : Params) : Obj :=
 bif Nat.beq i 71 then .mk (.type "function") (none) (.func (.mk "without" "without" (L2.Qu (htop 10)) (.stmts (L2.Qt (htop 10))) (L2.Qf (htop 10)) (3) ([]) (.none) (.none) (.none) (.str "nonebetter.lines" 211) (none) (.ref 70) (.none) (0))) (#[]) else
 bif Nat.beq i 72 then .mk (.type "tuple") none (.seq #[]) #[] else
 bif Nat.beq i 74 then .mk (.type "tuple") none (.seq #[.str "one" 265, .str "other" 266, .str "choice" 267]) #[] else
 bif Nat.beq i 75 then .mk (.type "tuple") none (.seq #[]) #[] else
 .mk (.type "code") none (.fields #[.str "either_row" 262, .str "either_row" 263, .str "/claim/cut.py" 264, .int 33 0, .int 3 0, .int 0 0, .int 0 0, .int 3 0, .ref 72, .bool Bool.true, .int 181 0, .ref 73, .none, .ref 74, .ref 75, .ref 76, .int 268 0, .int 33 0, .str "/claim/cut.py" 269]) #[]
def hob9 (i : Nat) (P : Params) : Obj :=
 bif Nat.beq i 78 then .mk (.type "function") (none) (.func (.mk "either_row" "either_row" (L2.Qu (htop 11)) (.stmts (L2.Qt (htop 11))) (L2.Qf (htop 11)) (3) ([]) (.none) (.none) (.none) (.str "nonebetter.lines" 211) (none) (.ref 77) (.none) (0))) (#[]) else
 bif Nat.beq i 79 then .mk (.type "tuple") none (.seq #[]) #[] else
 bif Nat.beq i 81 then .mk (.type "tuple") none (.seq #[.str "turn" 274, .str "numbers" 275, .str "weight" 276, .str "choice" 277]) #[] else
 bif Nat.beq i 82 then .mk (.type "tuple") none (.seq #[]) #[] else
 .mk (.type "code") none (.fields #[.str "like_row" 271, .str "like_row" 272, .str "/claim/cut.py" 273, .int 35 0, .int 1 0, .int 0 0, .int 0 0, .int 3 0, .ref 79, .bool Bool.true, .int 181 0, .ref 80, .none, .ref 81, .ref 82, .ref 83, .int 278 0, .int 35 0, .str "/claim/cut.py" 279]) #[]
def hob10 (i : Nat) (P : Params) : Obj :=
 bif Nat.beq i 85 then .mk (.type "function") (none) (.func (.mk "like_row" "like_row" (L2.Qu (htop 12)) (.stmts (L2.Qt (htop 12))) (L2.Qf (htop 12)) (3) ([]) (.none) (.none) (.none) (.str "nonebetter.lines" 211) (none) (.ref 84) (.none) (0))) (#[]) else
 bif Nat.beq i 86 then .mk (.type "tuple") none (.seq #[]) #[] else
 bif Nat.beq i 88 then .mk (.type "tuple") none (.seq #[.str "row" 286, .str "holds" 287, .str "held" 288, .str "most" 289, .str "choice" 290, .str "number" 291, .str "worth" 292]) #[] else
 bif Nat.beq i 89 then .mk (.type "tuple") none (.seq #[]) #[] else
 .mk (.type "code") none (.fields #[.str "most_of" 283, .str "most_of" 284, .str "/claim/cut.py" 285, .int 44 0, .int 2 0, .int 0 0, .int 0 0, .int 3 0, .ref 86, .bool Bool.true, .int 181 0, .ref 87, .none, .ref 88, .ref 89, .ref 90, .int 293 0, .int 44 0, .str "/claim/cut.py" 294]) #[]
def hob11 (i : Nat) (P : Params) : Obj :=
 bif Nat.beq i 92 then .mk (.type "function") (none) (.func (.mk "most_of" "most_of" (L2.Qu (htop 14)) (.stmts (L2.Qt (htop 14))) (L2.Qf (htop 14)) (3) ([]) (.none) (.none) (.none) (.str "nonebetter.rows" 281) (none) (.ref 91) (.none) (0))) (#[]) else
 bif Nat.beq i 93 then .mk (.type "tuple") none (.seq #[]) #[] else
 bif Nat.beq i 95 then .mk (.type "tuple") none (.seq #[.str "row" 299, .str "turn" 300, .str "numbers" 301, .str "number" 302, .str "place" 303]) #[] else
 bif Nat.beq i 96 then .mk (.type "tuple") none (.seq #[]) #[] else
 .mk (.type "code") none (.fields #[.str "turned" 296, .str "turned" 297, .str "/claim/cut.py" 298, .int 52 0, .int 2 0, .int 0 0, .int 0 0, .int 3 0, .ref 93, .bool Bool.true, .int 181 0, .ref 94, .none, .ref 95, .ref 96, .ref 97, .int 304 0, .int 52 0, .str "/claim/cut.py" 305]) #[]
def hob12 (i : Nat) (P : Params) : Obj :=
 bif Nat.beq i 99 then .mk (.type "function") (none) (.func (.mk "turned" "turned" (L2.Qu (htop 15)) (.stmts (L2.Qt (htop 15))) (L2.Qf (htop 15)) (3) ([]) (.none) (.none) (.none) (.str "nonebetter.rows" 281) (none) (.ref 98) (.none) (0))) (#[]) else
 bif Nat.beq i 100 then .mk (.type "tuple") none (.seq #[]) #[] else
 bif Nat.beq i 103 then .mk (.type "code") none (.fields #[.str "turn_keeps" 307, .str "turn_keeps" 308, .str "/claim/cut.py" 309, .int 57 0, .int 2 0, .int 0 0, .int 0 0, .int 3 0, .ref 100, .bool Bool.true, .int 181 0, .ref 101, .none, .none, .none, .ref 102, .int 310 0, .int 57 0, .str "/claim/cut.py" 311]) #[] else
 bif Nat.beq i 104 then .mk (.type "function") (none) (.func (.mk "turn_keeps" "turn_keeps" (L2.Qu (htop 16)) (.stmts (L2.Qt (htop 16))) (L2.Qf (htop 16)) (3) ([]) (.none) (.none) (.none) (.str "nonebetter.rows" 281) (none) (.ref 103) (.none) (0))) (#[]) else
 .mk (.type "tuple") none (.seq #[]) #[]
def hob13 (i : Nat) (P : Params) : Obj :=
 bif Nat.beq i 107 then .mk (.type "tuple") none (.seq #[.str "thing" 318, .str "told" 319]) #[] else
 bif Nat.beq i 108 then .mk (.type "tuple") none (.seq #[]) #[] else
 bif Nat.beq i 110 then .mk (.type "code") none (.fields #[.str "is_ahead" 315, .str "is_ahead" 316, .str "/claim/cut.py" 317, .int 64 0, .int 2 0, .int 0 0, .int 0 0, .int 3 0, .ref 105, .bool Bool.true, .int 181 0, .ref 106, .none, .ref 107, .ref 108, .ref 109, .int 320 0, .int 64 0, .str "/claim/cut.py" 321]) #[] else
 bif Nat.beq i 111 then .mk (.type "function") (none) (.func (.mk "is_ahead" "is_ahead" (L2.Qu (htop 18)) (.stmts (L2.Qt (htop 18))) (L2.Qf (htop 18)) (3) ([]) (.none) (.none) (.none) (.str "nonebetter.judge" 313) (none) (.ref 110) (.none) (0))) (#[]) else
 .mk (.type "tuple") none (.seq #[]) #[]
def hob14 (i : Nat) (P : Params) : Obj :=
 bif Nat.beq i 114 then .mk (.type "tuple") none (.seq #[.str "thing" 326, .str "told" 327]) #[] else
 bif Nat.beq i 115 then .mk (.type "tuple") none (.seq #[]) #[] else
 bif Nat.beq i 117 then .mk (.type "code") none (.fields #[.str "is_part" 323, .str "is_part" 324, .str "/claim/cut.py" 325, .int 66 0, .int 2 0, .int 0 0, .int 0 0, .int 3 0, .ref 112, .bool Bool.true, .int 181 0, .ref 113, .none, .ref 114, .ref 115, .ref 116, .int 328 0, .int 66 0, .str "/claim/cut.py" 329]) #[] else
 bif Nat.beq i 118 then .mk (.type "function") (none) (.func (.mk "is_part" "is_part" (L2.Qu (htop 19)) (.stmts (L2.Qt (htop 19))) (L2.Qf (htop 19)) (3) ([]) (.none) (.none) (.none) (.str "nonebetter.judge" 313) (none) (.ref 117) (.none) (0))) (#[]) else
 .mk (.type "tuple") none (.seq #[]) #[]
def hob15 (i : Nat) (P : Params) : Obj :=
 bif Nat.beq i 121 then .mk (.type "tuple") none (.seq #[.str "thing" 334, .str "count" 335]) #[] else
 bif Nat.beq i 122 then .mk (.type "tuple") none (.seq #[]) #[] else
 bif Nat.beq i 124 then .mk (.type "code") none (.fields #[.str "is_hold" 331, .str "is_hold" 332, .str "/claim/cut.py" 333, .int 68 0, .int 2 0, .int 0 0, .int 0 0, .int 3 0, .ref 119, .bool Bool.true, .int 181 0, .ref 120, .none, .ref 121, .ref 122, .ref 123, .int 336 0, .int 68 0, .str "/claim/cut.py" 337]) #[] else
 bif Nat.beq i 125 then .mk (.type "function") (none) (.func (.mk "is_hold" "is_hold" (L2.Qu (htop 20)) (.stmts (L2.Qt (htop 20))) (L2.Qf (htop 20)) (3) ([]) (.none) (.none) (.none) (.str "nonebetter.judge" 313) (none) (.ref 124) (.none) (0))) (#[]) else
 .mk (.type "tuple") none (.seq #[]) #[]
def hob16 (i : Nat) (P : Params) : Obj :=
 bif Nat.beq i 129 then .mk (.type "code") none (.fields #[.str "are_holds" 339, .str "are_holds" 340, .str "/claim/cut.py" 341, .int 70 0, .int 2 0, .int 0 0, .int 0 0, .int 3 0, .ref 126, .bool Bool.true, .int 181 0, .ref 127, .none, .none, .none, .ref 128, .int 342 0, .int 70 0, .str "/claim/cut.py" 343]) #[] else
 bif Nat.beq i 130 then .mk (.type "function") (none) (.func (.mk "are_holds" "are_holds" (L2.Qu (htop 21)) (.stmts (L2.Qt (htop 21))) (L2.Qf (htop 21)) (3) ([]) (.none) (.none) (.none) (.str "nonebetter.judge" 313) (none) (.ref 129) (.none) (0))) (#[]) else
 bif Nat.beq i 131 then .mk (.type "tuple") none (.seq #[]) #[] else
 bif Nat.beq i 134 then .mk (.type "code") none (.fields #[.str "is_turn" 345, .str "is_turn" 346, .str "/claim/cut.py" 347, .int 74 0, .int 2 0, .int 0 0, .int 0 0, .int 3 0, .ref 131, .bool Bool.true, .int 181 0, .ref 132, .none, .none, .none, .ref 133, .int 348 0, .int 74 0, .str "/claim/cut.py" 349]) #[] else
 .mk (.type "function") (none) (.func (.mk "is_turn" "is_turn" (L2.Qu (htop 22)) (.stmts (L2.Qt (htop 22))) (L2.Qf (htop 22)) (3) ([]) (.none) (.none) (.none) (.str "nonebetter.judge" 313) (none) (.ref 134) (.none) (0))) (#[])
def hob17 (i : Nat) (P : Params) : Obj :=
 bif Nat.beq i 136 then .mk (.type "tuple") none (.seq #[]) #[] else
 bif Nat.beq i 138 then .mk (.type "tuple") none (.seq #[.str "problem" 354, .str "best" 355, .str "told" 356, .str "line" 357]) #[] else
 bif Nat.beq i 139 then .mk (.type "tuple") none (.seq #[]) #[] else
 bif Nat.beq i 141 then .mk (.type "code") none (.fields #[.str "told_given" 351, .str "told_given" 352, .str "/claim/cut.py" 353, .int 78 0, .int 4 0, .int 0 0, .int 0 0, .int 3 0, .ref 136, .bool Bool.true, .int 181 0, .ref 137, .none, .ref 138, .ref 139, .ref 140, .int 358 0, .int 78 0, .str "/claim/cut.py" 359]) #[] else
 .mk (.type "function") (none) (.func (.mk "told_given" "told_given" (L2.Qu (htop 23)) (.stmts (L2.Qt (htop 23))) (L2.Qf (htop 23)) (3) ([]) (.none) (.none) (.none) (.str "nonebetter.judge" 313) (none) (.ref 141) (.none) (0))) (#[])
def hob18 (i : Nat) (P : Params) : Obj :=
 bif Nat.beq i 143 then .mk (.type "tuple") none (.seq #[]) #[] else
 bif Nat.beq i 145 then .mk (.type "tuple") none (.seq #[.str "problem" 364, .str "best" 365, .str "told" 366, .str "line" 367, .str "count" 368]) #[] else
 bif Nat.beq i 146 then .mk (.type "tuple") none (.seq #[]) #[] else
 bif Nat.beq i 148 then .mk (.type "code") none (.fields #[.str "told_low" 361, .str "told_low" 362, .str "/claim/cut.py" 363, .int 82 0, .int 4 0, .int 0 0, .int 0 0, .int 3 0, .ref 143, .bool Bool.true, .int 181 0, .ref 144, .none, .ref 145, .ref 146, .ref 147, .int 369 0, .int 82 0, .str "/claim/cut.py" 370]) #[] else
 .mk (.type "function") (none) (.func (.mk "told_low" "told_low" (L2.Qu (htop 24)) (.stmts (L2.Qt (htop 24))) (L2.Qf (htop 24)) (3) ([]) (.none) (.none) (.none) (.str "nonebetter.judge" 313) (none) (.ref 148) (.none) (0))) (#[])
def hob19 (i : Nat) (P : Params) : Obj :=
 bif Nat.beq i 150 then .mk (.type "tuple") none (.seq #[]) #[] else
 bif Nat.beq i 152 then .mk (.type "tuple") none (.seq #[.str "problem" 375, .str "best" 376, .str "told" 377, .str "line" 378, .str "count" 379]) #[] else
 bif Nat.beq i 153 then .mk (.type "tuple") none (.seq #[]) #[] else
 bif Nat.beq i 155 then .mk (.type "code") none (.fields #[.str "told_high" 372, .str "told_high" 373, .str "/claim/cut.py" 374, .int 87 0, .int 4 0, .int 0 0, .int 0 0, .int 3 0, .ref 150, .bool Bool.true, .int 181 0, .ref 151, .none, .ref 152, .ref 153, .ref 154, .int 380 0, .int 87 0, .str "/claim/cut.py" 381]) #[] else
 .mk (.type "function") (none) (.func (.mk "told_high" "told_high" (L2.Qu (htop 25)) (.stmts (L2.Qt (htop 25))) (L2.Qf (htop 25)) (3) ([]) (.none) (.none) (.none) (.str "nonebetter.judge" 313) (none) (.ref 155) (.none) (0))) (#[])
def hob20 (i : Nat) (P : Params) : Obj :=
 bif Nat.beq i 157 then .mk (.type "tuple") none (.seq #[]) #[] else
 bif Nat.beq i 159 then .mk (.type "tuple") none (.seq #[.str "problem" 386, .str "best" 387, .str "told" 388, .str "line" 389]) #[] else
 bif Nat.beq i 160 then .mk (.type "tuple") none (.seq #[]) #[] else
 bif Nat.beq i 162 then .mk (.type "code") none (.fields #[.str "told_better" 383, .str "told_better" 384, .str "/claim/cut.py" 385, .int 92 0, .int 4 0, .int 0 0, .int 0 0, .int 3 0, .ref 157, .bool Bool.true, .int 181 0, .ref 158, .none, .ref 159, .ref 160, .ref 161, .int 390 0, .int 92 0, .str "/claim/cut.py" 391]) #[] else
 .mk (.type "function") (none) (.func (.mk "told_better" "told_better" (L2.Qu (htop 26)) (.stmts (L2.Qt (htop 26))) (L2.Qf (htop 26)) (3) ([]) (.none) (.none) (.none) (.str "nonebetter.judge" 313) (none) (.ref 162) (.none) (0))) (#[])
def hob21 (i : Nat) (P : Params) : Obj :=
 bif Nat.beq i 164 then .mk (.type "tuple") none (.seq #[]) #[] else
 bif Nat.beq i 167 then .mk (.type "code") none (.fields #[.str "told_sum" 393, .str "told_sum" 394, .str "/claim/cut.py" 395, .int 96 0, .int 4 0, .int 0 0, .int 0 0, .int 3 0, .ref 164, .bool Bool.true, .int 181 0, .ref 165, .none, .none, .none, .ref 166, .int 396 0, .int 96 0, .str "/claim/cut.py" 397]) #[] else
 bif Nat.beq i 168 then .mk (.type "function") (none) (.func (.mk "told_sum" "told_sum" (L2.Qu (htop 27)) (.stmts (L2.Qt (htop 27))) (L2.Qf (htop 27)) (3) ([]) (.none) (.none) (.none) (.str "nonebetter.judge" 313) (none) (.ref 167) (.none) (0))) (#[]) else
 bif Nat.beq i 169 then .mk (.type "tuple") none (.seq #[]) #[] else
 .mk (.type "code") none (.fields #[.str "told_share" 399, .str "told_share" 400, .str "/claim/cut.py" 401, .int 103 0, .int 4 0, .int 0 0, .int 0 0, .int 3 0, .ref 169, .bool Bool.true, .int 181 0, .ref 170, .none, .none, .none, .ref 171, .int 402 0, .int 103 0, .str "/claim/cut.py" 403]) #[]
def hob22 (i : Nat) (P : Params) : Obj :=
 bif Nat.beq i 173 then .mk (.type "function") (none) (.func (.mk "told_share" "told_share" (L2.Qu (htop 28)) (.stmts (L2.Qt (htop 28))) (L2.Qf (htop 28)) (3) ([]) (.none) (.none) (.none) (.str "nonebetter.judge" 313) (none) (.ref 172) (.none) (0))) (#[]) else
 bif Nat.beq i 174 then .mk (.type "tuple") none (.seq #[]) #[] else
 bif Nat.beq i 176 then .mk (.type "tuple") none (.seq #[.str "problem" 408, .str "best" 409, .str "told" 410, .str "line" 411, .str "count" 412, .str "holds" 413, .str "row" 414]) #[] else
 bif Nat.beq i 177 then .mk (.type "tuple") none (.seq #[]) #[] else
 .mk (.type "code") none (.fields #[.str "told_shut" 405, .str "told_shut" 406, .str "/claim/cut.py" 407, .int 111 0, .int 4 0, .int 0 0, .int 0 0, .int 3 0, .ref 174, .bool Bool.true, .int 181 0, .ref 175, .none, .ref 176, .ref 177, .ref 178, .int 415 0, .int 111 0, .str "/claim/cut.py" 416]) #[]
def hob23 (i : Nat) (P : Params) : Obj :=
 bif Nat.beq i 180 then .mk (.type "function") (none) (.func (.mk "told_shut" "told_shut" (L2.Qu (htop 29)) (.stmts (L2.Qt (htop 29))) (L2.Qf (htop 29)) (3) ([]) (.none) (.none) (.none) (.str "nonebetter.judge" 313) (none) (.ref 179) (.none) (0))) (#[]) else
 bif Nat.beq i 181 then .mk (.type "tuple") none (.seq #[]) #[] else
 bif Nat.beq i 183 then .mk (.type "tuple") none (.seq #[.str "problem" 421, .str "best" 422, .str "told" 423, .str "line" 424, .str "choice" 425, .str "one" 426, .str "other" 427]) #[] else
 bif Nat.beq i 184 then .mk (.type "tuple") none (.seq #[]) #[] else
 .mk (.type "code") none (.fields #[.str "told_either" 418, .str "told_either" 419, .str "/claim/cut.py" 420, .int 120 0, .int 4 0, .int 0 0, .int 0 0, .int 3 0, .ref 181, .bool Bool.true, .int 181 0, .ref 182, .none, .ref 183, .ref 184, .ref 185, .int 428 0, .int 120 0, .str "/claim/cut.py" 429]) #[]
def hob24 (i : Nat) (P : Params) : Obj :=
 bif Nat.beq i 187 then .mk (.type "function") (none) (.func (.mk "told_either" "told_either" (L2.Qu (htop 30)) (.stmts (L2.Qt (htop 30))) (L2.Qf (htop 30)) (3) ([]) (.none) (.none) (.none) (.str "nonebetter.judge" 313) (none) (.ref 186) (.none) (0))) (#[]) else
 bif Nat.beq i 188 then .mk (.type "tuple") none (.seq #[]) #[] else
 bif Nat.beq i 190 then .mk (.type "tuple") none (.seq #[.str "problem" 434, .str "best" 435, .str "told" 436, .str "line" 437, .str "turn" 438]) #[] else
 bif Nat.beq i 191 then .mk (.type "tuple") none (.seq #[]) #[] else
 .mk (.type "code") none (.fields #[.str "told_like" 431, .str "told_like" 432, .str "/claim/cut.py" 433, .int 131 0, .int 4 0, .int 0 0, .int 0 0, .int 3 0, .ref 188, .bool Bool.true, .int 181 0, .ref 189, .none, .ref 190, .ref 191, .ref 192, .int 439 0, .int 131 0, .str "/claim/cut.py" 440]) #[]
def hob25 (i : Nat) (P : Params) : Obj :=
 bif Nat.beq i 194 then .mk (.type "function") (none) (.func (.mk "told_like" "told_like" (L2.Qu (htop 31)) (.stmts (L2.Qt (htop 31))) (L2.Qf (htop 31)) (3) ([]) (.none) (.none) (.none) (.str "nonebetter.judge" 313) (none) (.ref 193) (.none) (0))) (#[]) else
 bif Nat.beq i 195 then .mk (.type "dict") none (.dict #[.mk (PyData.keyHash P "given") (.str "given" 442) (.int 2 443), .mk (PyData.keyHash P "low") (.str "low" 444) (.int 2 445), .mk (PyData.keyHash P "high") (.str "high" 446) (.int 2 447), .mk (PyData.keyHash P "better") (.str "better" 448) (.int 1 449), .mk (PyData.keyHash P "sum") (.str "sum" 450) (.int 2 451), .mk (PyData.keyHash P "share") (.str "share" 452) (.int 3 453), .mk (PyData.keyHash P "shut") (.str "shut" 454) (.int 3 455), .mk (PyData.keyHash P "either") (.str "either" 456) (.int 4 457), .mk (PyData.keyHash P "like") (.str "like" 458) (.int 2 459)] 9) #[] else
 bif Nat.beq i 196 then .mk (.type "dict") none (.dict #[.mk (PyData.keyHash P "given") (.str "given" 470) (.ref 142), .mk (PyData.keyHash P "low") (.str "low" 471) (.ref 149), .mk (PyData.keyHash P "high") (.str "high" 472) (.ref 156), .mk (PyData.keyHash P "better") (.str "better" 473) (.ref 163), .mk (PyData.keyHash P "sum") (.str "sum" 474) (.ref 168), .mk (PyData.keyHash P "share") (.str "share" 475) (.ref 173), .mk (PyData.keyHash P "shut") (.str "shut" 476) (.ref 180), .mk (PyData.keyHash P "either") (.str "either" 477) (.ref 187), .mk (PyData.keyHash P "like") (.str "like" 478) (.ref 194)] 9) #[] else
 bif Nat.beq i 197 then .mk (.type "tuple") none (.seq #[]) #[] else
 .mk (.type "tuple") none (.seq #[.str "problem" 492, .str "best" 493, .str "told" 494, .str "line" 495, .str "word" 496]) #[]
def hob26 (i : Nat) (P : Params) : Obj :=
 bif Nat.beq i 200 then .mk (.type "tuple") none (.seq #[]) #[] else
 bif Nat.beq i 202 then .mk (.type "code") none (.fields #[.str "row_told" 489, .str "row_told" 490, .str "/claim/cut.py" 491, .int 138 0, .int 4 0, .int 0 0, .int 0 0, .int 3 0, .ref 197, .bool Bool.true, .int 181 0, .ref 198, .none, .ref 199, .ref 200, .ref 201, .int 497 0, .int 138 0, .str "/claim/cut.py" 498]) #[] else
 bif Nat.beq i 203 then .mk (.type "function") (none) (.func (.mk "row_told" "row_told" (L2.Qu (htop 34)) (.stmts (L2.Qt (htop 34))) (L2.Qf (htop 34)) (3) ([]) (.none) (.none) (.none) (.str "nonebetter.judge" 313) (none) (.ref 202) (.none) (0))) (#[]) else
 bif Nat.beq i 204 then .mk (.type "tuple") none (.seq #[]) #[] else
 .mk (.type "tuple") none (.seq #[.str "problem" 503, .str "best" 504, .str "paper" 505, .str "told" 506, .str "line" 507, .str "row" 508]) #[]
def hob27 (i : Nat) (P : Params) : Obj :=
 bif Nat.beq i 207 then .mk (.type "tuple") none (.seq #[]) #[] else
 bif Nat.beq i 209 then .mk (.type "code") none (.fields #[.str "rows_told" 500, .str "rows_told" 501, .str "/claim/cut.py" 502, .int 145 0, .int 3 0, .int 0 0, .int 0 0, .int 3 0, .ref 204, .bool Bool.true, .int 181 0, .ref 205, .none, .ref 206, .ref 207, .ref 208, .int 509 0, .int 145 0, .str "/claim/cut.py" 510]) #[] else
 bif Nat.beq i 210 then .mk (.type "function") (none) (.func (.mk "rows_told" "rows_told" (L2.Qu (htop 35)) (.stmts (L2.Qt (htop 35))) (L2.Qf (htop 35)) (3) ([]) (.none) (.none) (.none) (.str "nonebetter.judge" 313) (none) (.ref 209) (.none) (0))) (#[]) else
 bif Nat.beq i 211 then .mk (.type "tuple") none (.seq #[]) #[] else
 .mk (.type "code") none (.fields #[.str "is_broken" 512, .str "is_broken" 513, .str "/claim/cut.py" 514, .int 153 0, .int 1 0, .int 0 0, .int 0 0, .int 3 0, .ref 211, .bool Bool.true, .int 181 0, .ref 212, .none, .none, .none, .ref 213, .int 515 0, .int 153 0, .str "/claim/cut.py" 516]) #[]
def hob28 (i : Nat) (P : Params) : Obj :=
 bif Nat.beq i 215 then .mk (.type "function") (none) (.func (.mk "is_broken" "is_broken" (L2.Qu (htop 36)) (.stmts (L2.Qt (htop 36))) (L2.Qf (htop 36)) (3) ([]) (.none) (.none) (.none) (.str "nonebetter.judge" 313) (none) (.ref 214) (.none) (0))) (#[]) else
 bif Nat.beq i 216 then .mk (.type "tuple") none (.seq #[]) #[] else
 bif Nat.beq i 218 then .mk (.type "tuple") none (.seq #[.str "problem" 521, .str "best" 522, .str "paper" 523, .str "told" 524]) #[] else
 bif Nat.beq i 219 then .mk (.type "tuple") none (.seq #[]) #[] else
 .mk (.type "code") none (.fields #[.str "judged" 518, .str "judged" 519, .str "/claim/cut.py" 520, .int 155 0, .int 3 0, .int 0 0, .int 0 0, .int 3 0, .ref 216, .bool Bool.true, .int 181 0, .ref 217, .none, .ref 218, .ref 219, .ref 220, .int 525 0, .int 155 0, .str "/claim/cut.py" 526]) #[]
def hob29 (i : Nat) (P : Params) : Obj :=
 bif Nat.beq i 222 then .mk (.type "function") (none) (.func (.mk "judged" "judged" (L2.Qu (htop 37)) (.stmts (L2.Qt (htop 37))) (L2.Qf (htop 37)) (3) ([]) (.none) (.none) (.none) (.str "nonebetter.judge" 313) (none) (.ref 221) (.none) (0))) (#[]) else
 bif Nat.beq i 223 then .mk (.type "tuple") none (.seq #[]) #[] else
 bif Nat.beq i 225 then .mk (.type "tuple") none (.seq #[.str "_law_found" 533]) #[] else
 bif Nat.beq i 226 then .mk (.type "tuple") none (.seq #[]) #[] else
 .mk (.type "code") none (.fields #[.str "_law_whole" 530, .str "_law_whole" 531, .str "/claim/cut.py" 532, .int 161 0, .int 1 0, .int 0 0, .int 0 0, .int 3 0, .ref 223, .bool Bool.true, .int 181 0, .ref 224, .none, .ref 225, .ref 226, .ref 227, .int 534 0, .int 161 0, .str "/claim/cut.py" 535]) #[]
def hob30 (i : Nat) (P : Params) : Obj :=
 bif Nat.beq i 229 then .mk (.type "function") (none) (.func (.mk "_law_whole" "_law_whole" (L2.Qu (htop 39)) (.stmts (L2.Qt (htop 39))) (L2.Qf (htop 39)) (3) ([]) (.none) (.none) (.none) (.str "law_nonebetter_k10_lines_of_each_word" 528) (none) (.ref 228) (.none) (0))) (#[]) else
 bif Nat.beq i 230 then .mk (.type "tuple") none (.seq #[]) #[] else
 bif Nat.beq i 232 then .mk (.type "tuple") none (.seq #[.str "_law_script" 540, .str "_law_k" 541, .str "_law_cell" 542, .str "_law_number" 543]) #[] else
 bif Nat.beq i 233 then .mk (.type "tuple") none (.seq #[]) #[] else
 .mk (.type "code") none (.fields #[.str "_law_mix" 537, .str "_law_mix" 538, .str "/claim/cut.py" 539, .int 163 0, .int 2 0, .int 0 0, .int 0 0, .int 3 0, .ref 230, .bool Bool.true, .int 181 0, .ref 231, .none, .ref 232, .ref 233, .ref 234, .int 544 0, .int 163 0, .str "/claim/cut.py" 545]) #[]
def hob31 (i : Nat) (P : Params) : Obj :=
 bif Nat.beq i 236 then .mk (.type "function") (none) (.func (.mk "_law_mix" "_law_mix" (L2.Qu (htop 40)) (.stmts (L2.Qt (htop 40))) (L2.Qf (htop 40)) (3) ([]) (.none) (.none) (.none) (.str "law_nonebetter_k10_lines_of_each_word" 528) (none) (.ref 235) (.none) (0))) (#[]) else
 bif Nat.beq i 237 then .mk (.type "tuple") none (.seq #[]) #[] else
 bif Nat.beq i 239 then .mk (.type "tuple") none (.seq #[.str "_law_script" 550, .str "_law_many" 551, .str "_law_found" 552, .str "_law_k" 553, .str "_law_cell" 554]) #[] else
 bif Nat.beq i 240 then .mk (.type "tuple") none (.seq #[]) #[] else
 .mk (.type "code") none (.fields #[.str "_law_draws" 547, .str "_law_draws" 548, .str "/claim/cut.py" 549, .int 170 0, .int 2 0, .int 0 0, .int 0 0, .int 3 0, .ref 237, .bool Bool.true, .int 181 0, .ref 238, .none, .ref 239, .ref 240, .ref 241, .int 555 0, .int 170 0, .str "/claim/cut.py" 556]) #[]
def hob32 (i : Nat) (P : Params) : Obj :=
 bif Nat.beq i 243 then .mk (.type "function") (none) (.func (.mk "_law_draws" "_law_draws" (L2.Qu (htop 41)) (.stmts (L2.Qt (htop 41))) (L2.Qf (htop 41)) (3) ([]) (.none) (.none) (.none) (.str "law_nonebetter_k10_lines_of_each_word" 528) (none) (.ref 242) (.none) (0))) (#[]) else
 bif Nat.beq i 244 then .mk (.type "tuple") none (.seq #[]) #[] else
 bif Nat.beq i 247 then .mk (.type "code") none (.fields #[.str "_law_row" 558, .str "_law_row" 559, .str "/claim/cut.py" 560, .int 185 0, .int 3 0, .int 0 0, .int 0 0, .int 3 0, .ref 244, .bool Bool.true, .int 181 0, .ref 245, .none, .none, .none, .ref 246, .int 561 0, .int 185 0, .str "/claim/cut.py" 562]) #[] else
 bif Nat.beq i 248 then .mk (.type "function") (none) (.func (.mk "_law_row" "_law_row" (L2.Qu (htop 42)) (.stmts (L2.Qt (htop 42))) (L2.Qf (htop 42)) (3) ([]) (.none) (.none) (.none) (.str "law_nonebetter_k10_lines_of_each_word" 528) (none) (.ref 247) (.none) (0))) (#[]) else
 .mk (.type "tuple") none (.seq #[]) #[]
def hob33 (i : Nat) (P : Params) : Obj :=
 bif Nat.beq i 252 then .mk (.type "code") none (.fields #[.str "_law_problem" 564, .str "_law_problem" 565, .str "/claim/cut.py" 566, .int 188 0, .int 4 0, .int 0 0, .int 0 0, .int 3 0, .ref 249, .bool Bool.true, .int 181 0, .ref 250, .none, .none, .none, .ref 251, .int 567 0, .int 188 0, .str "/claim/cut.py" 568]) #[] else
 bif Nat.beq i 253 then .mk (.type "function") (none) (.func (.mk "_law_problem" "_law_problem" (L2.Qu (htop 43)) (.stmts (L2.Qt (htop 43))) (L2.Qf (htop 43)) (3) ([]) (.none) (.none) (.none) (.str "law_nonebetter_k10_lines_of_each_word" 528) (none) (.ref 252) (.none) (0))) (#[]) else
 bif Nat.beq i 254 then .mk (.type "tuple") none (.seq #[]) #[] else
 bif Nat.beq i 256 then .mk (.type "tuple") none (.seq #[.str "_law_problem_here" 573, .str "_law_draws_here" 574, .str "_law_at" 575, .str "_law_many" 576, .str "_law_one" 577, .str "_law_other" 578, .str "_law_turn_here" 579, .str "_law_rows" 580, .str "_law_row_here" 581, .str "_law_moved" 582, .str "_law_costs" 583]) #[] else
 .mk (.type "tuple") none (.seq #[]) #[]
def hob34 (i : Nat) (P : Params) : Obj :=
 bif Nat.beq i 259 then .mk (.type "code") none (.fields #[.str "_law_alike" 570, .str "_law_alike" 571, .str "/claim/cut.py" 572, .int 192 0, .int 3 0, .int 0 0, .int 0 0, .int 3 0, .ref 254, .bool Bool.true, .int 181 0, .ref 255, .none, .ref 256, .ref 257, .ref 258, .int 584 0, .int 192 0, .str "/claim/cut.py" 585]) #[] else
 bif Nat.beq i 260 then .mk (.type "function") (none) (.func (.mk "_law_alike" "_law_alike" (L2.Qu (htop 44)) (.stmts (L2.Qt (htop 44))) (L2.Qf (htop 44)) (3) ([]) (.none) (.none) (.none) (.str "law_nonebetter_k10_lines_of_each_word" 528) (none) (.ref 259) (.none) (0))) (#[]) else
 bif Nat.beq i 261 then .mk (.type "tuple") none (.seq #[]) #[] else
 bif Nat.beq i 263 then .mk (.type "tuple") none (.seq #[.str "_law_row_here" 590, .str "_law_turn_here" 591, .str "_law_numbers" 592, .str "_law_choice" 593]) #[] else
 .mk (.type "tuple") none (.seq #[]) #[]
def hob35 (i : Nat) (P : Params) : Obj :=
 bif Nat.beq i 266 then .mk (.type "code") none (.fields #[.str "_law_turned" 587, .str "_law_turned" 588, .str "/claim/cut.py" 589, .int 211 0, .int 2 0, .int 0 0, .int 0 0, .int 3 0, .ref 261, .bool Bool.true, .int 181 0, .ref 262, .none, .ref 263, .ref 264, .ref 265, .int 594 0, .int 211 0, .str "/claim/cut.py" 595]) #[] else
 bif Nat.beq i 267 then .mk (.type "function") (none) (.func (.mk "_law_turned" "_law_turned" (L2.Qu (htop 45)) (.stmts (L2.Qt (htop 45))) (L2.Qf (htop 45)) (3) ([]) (.none) (.none) (.none) (.str "law_nonebetter_k10_lines_of_each_word" 528) (none) (.ref 266) (.none) (0))) (#[]) else
 bif Nat.beq i 285 then .mk (.type "tuple") none (.seq #[]) #[] else
 bif Nat.beq i 288 then .mk (.type "code") none (.fields #[.str "_law_even" 620, .str "_law_even" 621, .str "/claim/cut.py" 622, .int 228 0, .int 1 0, .int 0 0, .int 0 0, .int 3 0, .ref 285, .bool Bool.true, .int 181 0, .ref 286, .none, .none, .none, .ref 287, .int 623 0, .int 228 0, .str "/claim/cut.py" 624]) #[] else
 .mk (.type "function") (none) (.func (.mk "_law_even" "_law_even" (L2.Qu (htop 49)) (.stmts (L2.Qt (htop 49))) (L2.Qf (htop 49)) (3) ([]) (.none) (.none) (.none) (.str "law_nonebetter_k10_lines_of_each_word" 528) (none) (.ref 288) (.none) (0))) (#[])
def hob36 (i : Nat) (P : Params) : Obj :=
 bif Nat.beq i 290 then .mk (.type "tuple") none (.seq #[]) #[] else
 bif Nat.beq i 292 then .mk (.type "tuple") none (.seq #[.str "_law_draws_here" 629, .str "_law_many" 630, .str "_law_problem_here" 631, .str "_law_best" 632]) #[] else
 bif Nat.beq i 293 then .mk (.type "tuple") none (.seq #[]) #[] else
 bif Nat.beq i 295 then .mk (.type "code") none (.fields #[.str "_law_given" 626, .str "_law_given" 627, .str "/claim/cut.py" 628, .int 232 0, .int 1 0, .int 0 0, .int 0 0, .int 3 0, .ref 290, .bool Bool.true, .int 181 0, .ref 291, .none, .ref 292, .ref 293, .ref 294, .int 633 0, .int 232 0, .str "/claim/cut.py" 634]) #[] else
 .mk (.type "function") (none) (.func (.mk "_law_given" "_law_given" (L2.Qu (htop 50)) (.stmts (L2.Qt (htop 50))) (L2.Qf (htop 50)) (3) ([]) (.none) (.none) (.none) (.str "law_nonebetter_k10_lines_of_each_word" 528) (none) (.ref 295) (.none) (0))) (#[])
def hob37 (i : Nat) (P : Params) : Obj :=
 bif Nat.beq i 297 then .mk (.type "tuple") none (.seq #[]) #[] else
 bif Nat.beq i 299 then .mk (.type "tuple") none (.seq #[.str "_law_number" 639, .str "_law_many" 640, .str "_law_found" 641, .str "_law_k" 642]) #[] else
 bif Nat.beq i 300 then .mk (.type "tuple") none (.seq #[]) #[] else
 bif Nat.beq i 302 then .mk (.type "code") none (.fields #[.str "_law_holds" 636, .str "_law_holds" 637, .str "/claim/cut.py" 638, .int 243 0, .int 2 0, .int 0 0, .int 0 0, .int 3 0, .ref 297, .bool Bool.true, .int 181 0, .ref 298, .none, .ref 299, .ref 300, .ref 301, .int 643 0, .int 243 0, .str "/claim/cut.py" 644]) #[] else
 .mk (.type "function") (none) (.func (.mk "_law_holds" "_law_holds" (L2.Qu (htop 51)) (.stmts (L2.Qt (htop 51))) (L2.Qf (htop 51)) (3) ([]) (.none) (.none) (.none) (.str "law_nonebetter_k10_lines_of_each_word" 528) (none) (.ref 302) (.none) (0))) (#[])
def hob38 (i : Nat) (P : Params) : Obj :=
 bif Nat.beq i 304 then .mk (.type "tuple") none (.seq #[]) #[] else
 bif Nat.beq i 306 then .mk (.type "tuple") none (.seq #[.str "_law_number" 649, .str "_law_many" 650, .str "_law_found" 651, .str "_law_k" 652]) #[] else
 bif Nat.beq i 307 then .mk (.type "tuple") none (.seq #[]) #[] else
 bif Nat.beq i 309 then .mk (.type "code") none (.fields #[.str "_law_turn" 646, .str "_law_turn" 647, .str "/claim/cut.py" 648, .int 250 0, .int 2 0, .int 0 0, .int 0 0, .int 3 0, .ref 304, .bool Bool.true, .int 181 0, .ref 305, .none, .ref 306, .ref 307, .ref 308, .int 653 0, .int 250 0, .str "/claim/cut.py" 654]) #[] else
 .mk (.type "function") (none) (.func (.mk "_law_turn" "_law_turn" (L2.Qu (htop 52)) (.stmts (L2.Qt (htop 52))) (L2.Qf (htop 52)) (3) ([]) (.none) (.none) (.none) (.str "law_nonebetter_k10_lines_of_each_word" 528) (none) (.ref 309) (.none) (0))) (#[])
def hob39 (i : Nat) (P : Params) : Obj :=
 bif Nat.beq i 311 then .mk (.type "tuple") none (.seq #[]) #[] else
 bif Nat.beq i 313 then .mk (.type "tuple") none (.seq #[.str "_law_draws_here" 659, .str "_law_at" 660, .str "_law_count" 661, .str "_law_many" 662, .str "_law_rows" 663, .str "_law_word" 664, .str "_law_one" 665, .str "_law_other" 666, .str "_law_choice" 667, .str "_law_parts" 668]) #[] else
 bif Nat.beq i 314 then .mk (.type "tuple") none (.seq #[]) #[] else
 bif Nat.beq i 316 then .mk (.type "code") none (.fields #[.str "_law_line" 656, .str "_law_line" 657, .str "/claim/cut.py" 658, .int 256 0, .int 5 0, .int 0 0, .int 0 0, .int 3 0, .ref 311, .bool Bool.true, .int 181 0, .ref 312, .none, .ref 313, .ref 314, .ref 315, .int 669 0, .int 256 0, .str "/claim/cut.py" 670]) #[] else
 .mk (.type "function") (none) (.func (.mk "_law_line" "_law_line" (L2.Qu (htop 53)) (.stmts (L2.Qt (htop 53))) (L2.Qf (htop 53)) (3) ([]) (.none) (.none) (.none) (.str "law_nonebetter_k10_lines_of_each_word" 528) (none) (.ref 316) (.none) (0))) (#[])
def hob40 (i : Nat) (P : Params) : Obj :=
 bif Nat.beq i 318 then .mk (.type "tuple") none (.seq #[]) #[] else
 bif Nat.beq i 320 then .mk (.type "tuple") none (.seq #[.str "_law_row_here" 675, .str "_law_holds_here" 676, .str "_law_total" 677, .str "_law_held" 678, .str "_law_choice" 679]) #[] else
 bif Nat.beq i 321 then .mk (.type "tuple") none (.seq #[]) #[] else
 bif Nat.beq i 323 then .mk (.type "code") none (.fields #[.str "_law_most" 672, .str "_law_most" 673, .str "/claim/cut.py" 674, .int 279 0, .int 2 0, .int 0 0, .int 0 0, .int 3 0, .ref 318, .bool Bool.true, .int 181 0, .ref 319, .none, .ref 320, .ref 321, .ref 322, .int 680 0, .int 279 0, .str "/claim/cut.py" 681]) #[] else
 .mk (.type "function") (none) (.func (.mk "_law_most" "_law_most" (L2.Qu (htop 54)) (.stmts (L2.Qt (htop 54))) (L2.Qf (htop 54)) (3) ([]) (.none) (.none) (.none) (.str "law_nonebetter_k10_lines_of_each_word" 528) (none) (.ref 323) (.none) (0))) (#[])
def hob41 (i : Nat) (P : Params) : Obj :=
 bif Nat.beq i 325 then .mk (.type "tuple") none (.seq #[]) #[] else
 bif Nat.beq i 328 then .mk (.type "code") none (.fields #[.str "_law_keeps_turn" 683, .str "_law_keeps_turn" 684, .str "/claim/cut.py" 685, .int 288 0, .int 2 0, .int 0 0, .int 0 0, .int 3 0, .ref 325, .bool Bool.true, .int 181 0, .ref 326, .none, .none, .none, .ref 327, .int 686 0, .int 288 0, .str "/claim/cut.py" 687]) #[] else
 bif Nat.beq i 329 then .mk (.type "function") (none) (.func (.mk "_law_keeps_turn" "_law_keeps_turn" (L2.Qu (htop 55)) (.stmts (L2.Qt (htop 55))) (L2.Qf (htop 55)) (3) ([]) (.none) (.none) (.none) (.str "law_nonebetter_k10_lines_of_each_word" 528) (none) (.ref 328) (.none) (0))) (#[]) else
 bif Nat.beq i 330 then .mk (.type "tuple") none (.seq #[]) #[] else
 .mk (.type "tuple") none (.seq #[.str "_law_many" 692, .str "_law_choice" 693, .str "_law_number" 694, .str "_law_numbers" 695]) #[]
def hob42 (i : Nat) (P : Params) : Obj :=
 bif Nat.beq i 333 then .mk (.type "tuple") none (.seq #[]) #[] else
 bif Nat.beq i 335 then .mk (.type "code") none (.fields #[.str "_law_alone" 689, .str "_law_alone" 690, .str "/claim/cut.py" 691, .int 293 0, .int 3 0, .int 0 0, .int 0 0, .int 3 0, .ref 330, .bool Bool.true, .int 181 0, .ref 331, .none, .ref 332, .ref 333, .ref 334, .int 696 0, .int 293 0, .str "/claim/cut.py" 697]) #[] else
 bif Nat.beq i 336 then .mk (.type "function") (none) (.func (.mk "_law_alone" "_law_alone" (L2.Qu (htop 56)) (.stmts (L2.Qt (htop 56))) (L2.Qf (htop 56)) (3) ([]) (.none) (.none) (.none) (.str "law_nonebetter_k10_lines_of_each_word" 528) (none) (.ref 335) (.none) (0))) (#[]) else
 bif Nat.beq i 337 then .mk (.type "tuple") none (.seq #[]) #[] else
 .mk (.type "tuple") none (.seq #[.str "_law_tells" 702, .str "_law_parts" 703, .str "_law_numbers" 704, .str "_law_least" 705, .str "_law_one" 706, .str "_law_often" 707, .str "_law_k" 708]) #[]
def hob43 (i : Nat) (P : Params) : Obj :=
 bif Nat.beq i 340 then .mk (.type "tuple") none (.seq #[]) #[] else
 bif Nat.beq i 342 then .mk (.type "code") none (.fields #[.str "_law_added" 699, .str "_law_added" 700, .str "/claim/cut.py" 701, .int 297 0, .int 2 0, .int 0 0, .int 0 0, .int 3 0, .ref 337, .bool Bool.true, .int 181 0, .ref 338, .none, .ref 339, .ref 340, .ref 341, .int 709 0, .int 297 0, .str "/claim/cut.py" 710]) #[] else
 bif Nat.beq i 343 then .mk (.type "function") (none) (.func (.mk "_law_added" "_law_added" (L2.Qu (htop 57)) (.stmts (L2.Qt (htop 57))) (L2.Qf (htop 57)) (3) ([]) (.none) (.none) (.none) (.str "law_nonebetter_k10_lines_of_each_word" 528) (none) (.ref 342) (.none) (0))) (#[]) else
 bif Nat.beq i 344 then .mk (.type "tuple") none (.seq #[]) #[] else
 .mk (.type "code") none (.fields #[.str "_law_named" 712, .str "_law_named" 713, .str "/claim/cut.py" 714, .int 305 0, .int 2 0, .int 0 0, .int 0 0, .int 3 0, .ref 344, .bool Bool.true, .int 181 0, .ref 345, .none, .none, .none, .ref 346, .int 715 0, .int 305 0, .str "/claim/cut.py" 716]) #[]
def hob44 (i : Nat) (P : Params) : Obj :=
 bif Nat.beq i 348 then .mk (.type "function") (none) (.func (.mk "_law_named" "_law_named" (L2.Qu (htop 58)) (.stmts (L2.Qt (htop 58))) (L2.Qf (htop 58)) (3) ([]) (.none) (.none) (.none) (.str "law_nonebetter_k10_lines_of_each_word" 528) (none) (.ref 347) (.none) (0))) (#[]) else
 bif Nat.beq i 349 then .mk (.type "tuple") none (.seq #[]) #[] else
 bif Nat.beq i 352 then .mk (.type "code") none (.fields #[.str "_law_simple" 718, .str "_law_simple" 719, .str "/claim/cut.py" 720, .int 311 0, .int 3 0, .int 0 0, .int 0 0, .int 3 0, .ref 349, .bool Bool.true, .int 181 0, .ref 350, .none, .none, .none, .ref 351, .int 721 0, .int 311 0, .str "/claim/cut.py" 722]) #[] else
 bif Nat.beq i 353 then .mk (.type "function") (none) (.func (.mk "_law_simple" "_law_simple" (L2.Qu (htop 59)) (.stmts (L2.Qt (htop 59))) (L2.Qf (htop 59)) (3) ([]) (.none) (.none) (.none) (.str "law_nonebetter_k10_lines_of_each_word" 528) (none) (.ref 352) (.none) (0))) (#[]) else
 .mk (.type "tuple") none (.seq #[]) #[]
def hob45 (i : Nat) (P : Params) : Obj :=
 bif Nat.beq i 357 then .mk (.type "code") none (.fields #[.str "_law_told" 724, .str "_law_told" 725, .str "/claim/cut.py" 726, .int 331 0, .int 4 0, .int 0 0, .int 0 0, .int 3 0, .ref 354, .bool Bool.true, .int 181 0, .ref 355, .none, .none, .none, .ref 356, .int 727 0, .int 331 0, .str "/claim/cut.py" 728]) #[] else
 bif Nat.beq i 358 then .mk (.type "function") (none) (.func (.mk "_law_told" "_law_told" (L2.Qu (htop 60)) (.stmts (L2.Qt (htop 60))) (L2.Qf (htop 60)) (3) ([]) (.none) (.none) (.none) (.str "law_nonebetter_k10_lines_of_each_word" 528) (none) (.ref 357) (.none) (0))) (#[]) else
 bif Nat.beq i 359 then .mk (.type "tuple") none (.seq #[]) #[] else
 bif Nat.beq i 361 then .mk (.type "tuple") none (.seq #[.str "_law_draws_here" 733, .str "_law_problem_here" 734, .str "_law_best" 735, .str "_law_paper_here" 736, .str "_law_tells" 737, .str "_law_k" 738, .str "_law_line_here" 739, .str "_law_row_here" 740]) #[] else
 .mk (.type "tuple") none (.seq #[]) #[]
def hob46 (i : Nat) (P : Params) : Obj :=
 bif Nat.beq i 364 then .mk (.type "code") none (.fields #[.str "_law_paper" 730, .str "_law_paper" 731, .str "/claim/cut.py" 732, .int 360 0, .int 3 0, .int 0 0, .int 0 0, .int 3 0, .ref 359, .bool Bool.true, .int 181 0, .ref 360, .none, .ref 361, .ref 362, .ref 363, .int 741 0, .int 360 0, .str "/claim/cut.py" 742]) #[] else
 bif Nat.beq i 365 then .mk (.type "function") (none) (.func (.mk "_law_paper" "_law_paper" (L2.Qu (htop 61)) (.stmts (L2.Qt (htop 61))) (L2.Qf (htop 61)) (3) ([]) (.none) (.none) (.none) (.str "law_nonebetter_k10_lines_of_each_word" 528) (none) (.ref 364) (.none) (0))) (#[]) else
 bif Nat.beq i 366 then .mk (.type "tuple") none (.seq #[]) #[] else
 bif Nat.beq i 369 then .mk (.type "code") none (.fields #[.str "law" 744, .str "law" 745, .str "/claim/cut.py" 746, .int 372 0, .int 1 0, .int 0 0, .int 0 0, .int 3 0, .ref 366, .bool Bool.true, .int 181 0, .ref 367, .none, .none, .none, .ref 368, .int 747 0, .int 372 0, .str "/claim/cut.py" 748]) #[] else
 .mk (.type "function") (none) (.func (.mk "law" "law" (L2.Qu (htop 62)) (.stmts (L2.Qt (htop 62))) (L2.Qf (htop 62)) (3) ([]) (.none) (.none) (.none) (.str "law_nonebetter_k10_lines_of_each_word" 528) (none) (.ref 369) (.none) (0))) (#[])
def hob (i : Nat) (P : Params) : Obj := (bif Nat.ble i 179 then (bif Nat.ble i 91 then (bif Nat.ble i 47 then (bif Nat.ble i 25 then (bif Nat.ble i 18 then hob0 i P else hob1 i P) else (bif Nat.ble i 32 then hob2 i P else (bif Nat.ble i 39 then hob3 i P else hob4 i P))) else (bif Nat.ble i 70 then (bif Nat.ble i 56 then hob5 i P else (bif Nat.ble i 63 then hob6 i P else hob7 i P)) else (bif Nat.ble i 77 then hob8 i P else (bif Nat.ble i 84 then hob9 i P else hob10 i P)))) else (bif Nat.ble i 135 then (bif Nat.ble i 112 then (bif Nat.ble i 98 then hob11 i P else (bif Nat.ble i 105 then hob12 i P else hob13 i P)) else (bif Nat.ble i 119 then hob14 i P else (bif Nat.ble i 126 then hob15 i P else hob16 i P))) else (bif Nat.ble i 156 then (bif Nat.ble i 142 then hob17 i P else (bif Nat.ble i 149 then hob18 i P else hob19 i P)) else (bif Nat.ble i 163 then hob20 i P else (bif Nat.ble i 172 then hob21 i P else hob22 i P))))) else (bif Nat.ble i 264 then (bif Nat.ble i 221 then (bif Nat.ble i 199 then (bif Nat.ble i 186 then hob23 i P else (bif Nat.ble i 193 then hob24 i P else hob25 i P)) else (bif Nat.ble i 206 then hob26 i P else (bif Nat.ble i 214 then hob27 i P else hob28 i P))) else (bif Nat.ble i 242 then (bif Nat.ble i 228 then hob29 i P else (bif Nat.ble i 235 then hob30 i P else hob31 i P)) else (bif Nat.ble i 249 then hob32 i P else (bif Nat.ble i 257 then hob33 i P else hob34 i P)))) else (bif Nat.ble i 324 then (bif Nat.ble i 303 then (bif Nat.ble i 289 then hob35 i P else (bif Nat.ble i 296 then hob36 i P else hob37 i P)) else (bif Nat.ble i 310 then hob38 i P else (bif Nat.ble i 317 then hob39 i P else hob40 i P))) else (bif Nat.ble i 347 then (bif Nat.ble i 332 then hob41 i P else (bif Nat.ble i 339 then hob42 i P else hob43 i P)) else (bif Nat.ble i 354 then hob44 i P else (bif Nat.ble i 362 then hob45 i P else hob46 i P))))))
def heapK : Params → W.Frag := fun P => (nat_lit 2, hob (nat_lit 2) P) :: (nat_lit 3, hob (nat_lit 3) P) :: (nat_lit 15, hob (nat_lit 15) P) :: (nat_lit 17, hob (nat_lit 17) P) :: (nat_lit 18, hob (nat_lit 18) P) :: (nat_lit 20, hob (nat_lit 20) P) :: (nat_lit 21, hob (nat_lit 21) P) :: (nat_lit 22, hob (nat_lit 22) P) :: (nat_lit 24, hob (nat_lit 24) P) :: (nat_lit 25, hob (nat_lit 25) P) :: (nat_lit 27, hob (nat_lit 27) P) :: (nat_lit 28, hob (nat_lit 28) P) :: (nat_lit 29, hob (nat_lit 29) P) :: (nat_lit 31, hob (nat_lit 31) P) :: (nat_lit 32, hob (nat_lit 32) P) :: (nat_lit 34, hob (nat_lit 34) P) :: (nat_lit 35, hob (nat_lit 35) P) :: (nat_lit 36, hob (nat_lit 36) P) :: (nat_lit 38, hob (nat_lit 38) P) :: (nat_lit 39, hob (nat_lit 39) P) :: (nat_lit 41, hob (nat_lit 41) P) :: (nat_lit 42, hob (nat_lit 42) P) :: (nat_lit 43, hob (nat_lit 43) P) :: (nat_lit 46, hob (nat_lit 46) P) :: (nat_lit 47, hob (nat_lit 47) P) :: (nat_lit 48, hob (nat_lit 48) P) :: (nat_lit 51, hob (nat_lit 51) P) :: (nat_lit 52, hob (nat_lit 52) P) :: (nat_lit 53, hob (nat_lit 53) P) :: (nat_lit 56, hob (nat_lit 56) P) :: (nat_lit 57, hob (nat_lit 57) P) :: (nat_lit 58, hob (nat_lit 58) P) :: (nat_lit 60, hob (nat_lit 60) P) :: (nat_lit 61, hob (nat_lit 61) P) :: (nat_lit 63, hob (nat_lit 63) P) :: (nat_lit 64, hob (nat_lit 64) P) :: (nat_lit 65, hob (nat_lit 65) P) :: (nat_lit 67, hob (nat_lit 67) P) :: (nat_lit 68, hob (nat_lit 68) P) :: (nat_lit 70, hob (nat_lit 70) P) :: (nat_lit 71, hob (nat_lit 71) P) :: (nat_lit 72, hob (nat_lit 72) P) :: (nat_lit 74, hob (nat_lit 74) P) :: (nat_lit 75, hob (nat_lit 75) P) :: (nat_lit 77, hob (nat_lit 77) P) :: (nat_lit 78, hob (nat_lit 78) P) :: (nat_lit 79, hob (nat_lit 79) P) :: (nat_lit 81, hob (nat_lit 81) P) :: (nat_lit 82, hob (nat_lit 82) P) :: (nat_lit 84, hob (nat_lit 84) P) :: (nat_lit 85, hob (nat_lit 85) P) :: (nat_lit 86, hob (nat_lit 86) P) :: (nat_lit 88, hob (nat_lit 88) P) :: (nat_lit 89, hob (nat_lit 89) P) :: (nat_lit 91, hob (nat_lit 91) P) :: (nat_lit 92, hob (nat_lit 92) P) :: (nat_lit 93, hob (nat_lit 93) P) :: (nat_lit 95, hob (nat_lit 95) P) :: (nat_lit 96, hob (nat_lit 96) P) :: (nat_lit 98, hob (nat_lit 98) P) :: (nat_lit 99, hob (nat_lit 99) P) :: (nat_lit 100, hob (nat_lit 100) P) :: (nat_lit 103, hob (nat_lit 103) P) :: (nat_lit 104, hob (nat_lit 104) P) :: (nat_lit 105, hob (nat_lit 105) P) :: (nat_lit 107, hob (nat_lit 107) P) :: (nat_lit 108, hob (nat_lit 108) P) :: (nat_lit 110, hob (nat_lit 110) P) :: (nat_lit 111, hob (nat_lit 111) P) :: (nat_lit 112, hob (nat_lit 112) P) :: (nat_lit 114, hob (nat_lit 114) P) :: (nat_lit 115, hob (nat_lit 115) P) :: (nat_lit 117, hob (nat_lit 117) P) :: (nat_lit 118, hob (nat_lit 118) P) :: (nat_lit 119, hob (nat_lit 119) P) :: (nat_lit 121, hob (nat_lit 121) P) :: (nat_lit 122, hob (nat_lit 122) P) :: (nat_lit 124, hob (nat_lit 124) P) :: (nat_lit 125, hob (nat_lit 125) P) :: (nat_lit 126, hob (nat_lit 126) P) :: (nat_lit 129, hob (nat_lit 129) P) :: (nat_lit 130, hob (nat_lit 130) P) :: (nat_lit 131, hob (nat_lit 131) P) :: (nat_lit 134, hob (nat_lit 134) P) :: (nat_lit 135, hob (nat_lit 135) P) :: (nat_lit 136, hob (nat_lit 136) P) :: (nat_lit 138, hob (nat_lit 138) P) :: (nat_lit 139, hob (nat_lit 139) P) :: (nat_lit 141, hob (nat_lit 141) P) :: (nat_lit 142, hob (nat_lit 142) P) :: (nat_lit 143, hob (nat_lit 143) P) :: (nat_lit 145, hob (nat_lit 145) P) :: (nat_lit 146, hob (nat_lit 146) P) :: (nat_lit 148, hob (nat_lit 148) P) :: (nat_lit 149, hob (nat_lit 149) P) :: (nat_lit 150, hob (nat_lit 150) P) :: (nat_lit 152, hob (nat_lit 152) P) :: (nat_lit 153, hob (nat_lit 153) P) :: (nat_lit 155, hob (nat_lit 155) P) :: (nat_lit 156, hob (nat_lit 156) P) :: (nat_lit 157, hob (nat_lit 157) P) :: (nat_lit 159, hob (nat_lit 159) P) :: (nat_lit 160, hob (nat_lit 160) P) :: (nat_lit 162, hob (nat_lit 162) P) :: (nat_lit 163, hob (nat_lit 163) P) :: (nat_lit 164, hob (nat_lit 164) P) :: (nat_lit 167, hob (nat_lit 167) P) :: (nat_lit 168, hob (nat_lit 168) P) :: (nat_lit 169, hob (nat_lit 169) P) :: (nat_lit 172, hob (nat_lit 172) P) :: (nat_lit 173, hob (nat_lit 173) P) :: (nat_lit 174, hob (nat_lit 174) P) :: (nat_lit 176, hob (nat_lit 176) P) :: (nat_lit 177, hob (nat_lit 177) P) :: (nat_lit 179, hob (nat_lit 179) P) :: (nat_lit 180, hob (nat_lit 180) P) :: (nat_lit 181, hob (nat_lit 181) P) :: (nat_lit 183, hob (nat_lit 183) P) :: (nat_lit 184, hob (nat_lit 184) P) :: (nat_lit 186, hob (nat_lit 186) P) :: (nat_lit 187, hob (nat_lit 187) P) :: (nat_lit 188, hob (nat_lit 188) P) :: (nat_lit 190, hob (nat_lit 190) P) :: (nat_lit 191, hob (nat_lit 191) P) :: (nat_lit 193, hob (nat_lit 193) P) :: (nat_lit 194, hob (nat_lit 194) P) :: (nat_lit 195, hob (nat_lit 195) P) :: (nat_lit 196, hob (nat_lit 196) P) :: (nat_lit 197, hob (nat_lit 197) P) :: (nat_lit 199, hob (nat_lit 199) P) :: (nat_lit 200, hob (nat_lit 200) P) :: (nat_lit 202, hob (nat_lit 202) P) :: (nat_lit 203, hob (nat_lit 203) P) :: (nat_lit 204, hob (nat_lit 204) P) :: (nat_lit 206, hob (nat_lit 206) P) :: (nat_lit 207, hob (nat_lit 207) P) :: (nat_lit 209, hob (nat_lit 209) P) :: (nat_lit 210, hob (nat_lit 210) P) :: (nat_lit 211, hob (nat_lit 211) P) :: (nat_lit 214, hob (nat_lit 214) P) :: (nat_lit 215, hob (nat_lit 215) P) :: (nat_lit 216, hob (nat_lit 216) P) :: (nat_lit 218, hob (nat_lit 218) P) :: (nat_lit 219, hob (nat_lit 219) P) :: (nat_lit 221, hob (nat_lit 221) P) :: (nat_lit 222, hob (nat_lit 222) P) :: (nat_lit 223, hob (nat_lit 223) P) :: (nat_lit 225, hob (nat_lit 225) P) :: (nat_lit 226, hob (nat_lit 226) P) :: (nat_lit 228, hob (nat_lit 228) P) :: (nat_lit 229, hob (nat_lit 229) P) :: (nat_lit 230, hob (nat_lit 230) P) :: (nat_lit 232, hob (nat_lit 232) P) :: (nat_lit 233, hob (nat_lit 233) P) :: (nat_lit 235, hob (nat_lit 235) P) :: (nat_lit 236, hob (nat_lit 236) P) :: (nat_lit 237, hob (nat_lit 237) P) :: (nat_lit 239, hob (nat_lit 239) P) :: (nat_lit 240, hob (nat_lit 240) P) :: (nat_lit 242, hob (nat_lit 242) P) :: (nat_lit 243, hob (nat_lit 243) P) :: (nat_lit 244, hob (nat_lit 244) P) :: (nat_lit 247, hob (nat_lit 247) P) :: (nat_lit 248, hob (nat_lit 248) P) :: (nat_lit 249, hob (nat_lit 249) P) :: (nat_lit 252, hob (nat_lit 252) P) :: (nat_lit 253, hob (nat_lit 253) P) :: (nat_lit 254, hob (nat_lit 254) P) :: (nat_lit 256, hob (nat_lit 256) P) :: (nat_lit 257, hob (nat_lit 257) P) :: (nat_lit 259, hob (nat_lit 259) P) :: (nat_lit 260, hob (nat_lit 260) P) :: (nat_lit 261, hob (nat_lit 261) P) :: (nat_lit 263, hob (nat_lit 263) P) :: (nat_lit 264, hob (nat_lit 264) P) :: (nat_lit 266, hob (nat_lit 266) P) :: (nat_lit 267, hob (nat_lit 267) P) :: (nat_lit 285, hob (nat_lit 285) P) :: (nat_lit 288, hob (nat_lit 288) P) :: (nat_lit 289, hob (nat_lit 289) P) :: (nat_lit 290, hob (nat_lit 290) P) :: (nat_lit 292, hob (nat_lit 292) P) :: (nat_lit 293, hob (nat_lit 293) P) :: (nat_lit 295, hob (nat_lit 295) P) :: (nat_lit 296, hob (nat_lit 296) P) :: (nat_lit 297, hob (nat_lit 297) P) :: (nat_lit 299, hob (nat_lit 299) P) :: (nat_lit 300, hob (nat_lit 300) P) :: (nat_lit 302, hob (nat_lit 302) P) :: (nat_lit 303, hob (nat_lit 303) P) :: (nat_lit 304, hob (nat_lit 304) P) :: (nat_lit 306, hob (nat_lit 306) P) :: (nat_lit 307, hob (nat_lit 307) P) :: (nat_lit 309, hob (nat_lit 309) P) :: (nat_lit 310, hob (nat_lit 310) P) :: (nat_lit 311, hob (nat_lit 311) P) :: (nat_lit 313, hob (nat_lit 313) P) :: (nat_lit 314, hob (nat_lit 314) P) :: (nat_lit 316, hob (nat_lit 316) P) :: (nat_lit 317, hob (nat_lit 317) P) :: (nat_lit 318, hob (nat_lit 318) P) :: (nat_lit 320, hob (nat_lit 320) P) :: (nat_lit 321, hob (nat_lit 321) P) :: (nat_lit 323, hob (nat_lit 323) P) :: (nat_lit 324, hob (nat_lit 324) P) :: (nat_lit 325, hob (nat_lit 325) P) :: (nat_lit 328, hob (nat_lit 328) P) :: (nat_lit 329, hob (nat_lit 329) P) :: (nat_lit 330, hob (nat_lit 330) P) :: (nat_lit 332, hob (nat_lit 332) P) :: (nat_lit 333, hob (nat_lit 333) P) :: (nat_lit 335, hob (nat_lit 335) P) :: (nat_lit 336, hob (nat_lit 336) P) :: (nat_lit 337, hob (nat_lit 337) P) :: (nat_lit 339, hob (nat_lit 339) P) :: (nat_lit 340, hob (nat_lit 340) P) :: (nat_lit 342, hob (nat_lit 342) P) :: (nat_lit 343, hob (nat_lit 343) P) :: (nat_lit 344, hob (nat_lit 344) P) :: (nat_lit 347, hob (nat_lit 347) P) :: (nat_lit 348, hob (nat_lit 348) P) :: (nat_lit 349, hob (nat_lit 349) P) :: (nat_lit 352, hob (nat_lit 352) P) :: (nat_lit 353, hob (nat_lit 353) P) :: (nat_lit 354, hob (nat_lit 354) P) :: (nat_lit 357, hob (nat_lit 357) P) :: (nat_lit 358, hob (nat_lit 358) P) :: (nat_lit 359, hob (nat_lit 359) P) :: (nat_lit 361, hob (nat_lit 361) P) :: (nat_lit 362, hob (nat_lit 362) P) :: (nat_lit 364, hob (nat_lit 364) P) :: (nat_lit 365, hob (nat_lit 365) P) :: (nat_lit 366, hob (nat_lit 366) P) :: (nat_lit 369, hob (nat_lit 369) P) :: (nat_lit 370, hob (nat_lit 370) P) :: []
theorem all_ok {P : Program} {w : World} {K : Fg} {mg : Str → Option Value} {base : Heap} (M : Mg mg) {aT aL : Addr} {fT fL : Str → Option Value} (J0 : JTab0 w K mg aT aL fT fL) (F1 : Fn K mg "single_row" Qeg) (F2 : Fn K mg "better_row" Ky) (F3 : Fn K mg "sum_row" Qds) (F4 : Fn K mg "share_row" Wm) (F5 : Fn K mg "shut_row" Qay) (F6 : Fn K mg "without" Qaz) (F7 : Fn K mg "either_row" Kz) (F8 : Fn K mg "like_row" Qba) (F9 : Fn K mg "most_of" Qno) (F10 : Fn K mg "is_whole" Qam) (F11 : Fn K mg "is_number_of" Qit) (F12 : Fn K mg "is_pair" Qdo) (F13 : Fn K mg "is_ahead" Qan) (F14 : Fn K mg "is_part" Qdp) (F15 : Fn K mg "is_hold" Qdq) (F16 : Fn K mg "are_holds" Wn) (F17 : Fn K mg "is_turn" Qcj) (F18 : Fn K mg "turned" Qdw) (F19 : Fn K mg "turn_keeps" Qcc) (F20 : Fn K mg "told_given" Qdy) (F21 : Fn K mg "told_low" Qqn) (F22 : Fn K mg "told_high" Qja) (F23 : Fn K mg "told_better" Qao) (F24 : Fn K mg "told_share" Qeh) (F25 : Fn K mg "told_shut" Qjs) (F26 : Fn K mg "told_either" Wo) (F27 : Fn K mg "told_like" Qjt) (F28 : Fn K mg "told_sum" Qrg) (F29 : Fn K mg "row_told" Qaq) (F30 : Fn K mg "rows_told" Wh) (F31 : Fn K mg "is_broken" Wi) (F32 : Fn K mg "judged" Qdz) (F33 : Fn K mg "_law_mix" Qjb) (F34 : Fn K mg "_law_draws" Qap) (F35 : Fn K mg "_law_row" Qjc) (F36 : Fn K mg "_law_problem" Kx) (F37 : Fn K mg "_law_turned" Wg) (F38 : Fn K mg "_law_alike" Wl) (F39 : Fn K mg "_law_even" Qef) (F40 : Fn K mg "_law_given" Qax) (F41 : Fn K mg "_law_whole" Qjr) (F42 : Fn K mg "_law_holds" Qar) (F43 : Fn K mg "_law_turn" Qeb) (F44 : Fn K mg "_law_line" Qee) (F45 : Fn K mg "_law_alone" Qas) (F46 : Fn K mg "_law_most" Qce) (F47 : Fn K mg "_law_keeps_turn" Qoi) (F48 : Fn K mg "_law_added" Qau) (F49 : Fn K mg "_law_named" Qav) (F50 : Fn K mg "_law_simple" Wk) (F51 : Fn K mg "_law_told" Qcg) (F52 : Fn K mg "_law_paper" Qaw) {f : Addr} {fd : FuncData} (F53 : Fun K "law" "law" sLaw f fd) : FnOk P w K mg base CX0 11 f fd ["_law_script"] (Qpm K) := by
 have h_c_single_row := Qrc (P := P) (w := w) (base := base) F1 M
 have h_c_better_row := Qht (P := P) (w := w) (base := base) F2 M
 have h_c_sum_row := Qqg (P := P) (w := w) (base := base) F3 M
 have h_c_share_row := Qla (P := P) (w := w) (base := base) F4 M
 have h_c_shut_row := Qor (P := P) (w := w) (base := base) F5 M
 have h_c_without := Qot (P := P) (w := w) (base := base) F6 M
 have h_c_either_row := Qhv (P := P) (w := w) (base := base) F7 M h_c_without
 have h_c_like_row := Qou (P := P) (w := w) (base := base) F8 M
 have h_c_most_of := okMost (P := P) (w := w) (base := base) F9 M
 have h_c_is_whole := Qnl (P := P) (w := w) (base := base) F10 M
 have h_c_is_number_of := Qtd (P := P) (w := w) (base := base) F11 M h_c_is_whole
 have h_c_is_pair := Qqa (P := P) (w := w) (base := base) F12 M
 have h_c_is_ahead := Qnn (P := P) (w := w) (base := base) F13 M h_c_is_number_of
 have h_c_is_part := Qqc (P := P) (w := w) (base := base) F14 M h_c_is_pair h_c_is_ahead h_c_is_whole
 have h_c_is_hold := Qqe (P := P) (w := w) (base := base) F15 M h_c_is_pair h_c_is_number_of
 have h_c_are_holds := Qlc (P := P) (w := w) (base := base) F16 M h_c_is_hold
 have h_c_is_turn := Qre (P := P) (w := w) (base := base) F17 M h_c_is_number_of
 have h_c_turned := Qql (P := P) (w := w) (base := base) F18 M
 have h_c_turn_keeps := Qqm (P := P) (w := w) (base := base) F19 M h_c_turned
 have h_c_told_given := Qqp (P := P) (w := w) (base := base) F20 M h_c_is_number_of
 have h_c_told_low := okTLow (P := P) (w := w) (base := base) F21 M h_c_is_number_of h_c_single_row
 have h_c_told_high := Qtf (P := P) (w := w) (base := base) F22 M h_c_is_number_of h_c_single_row
 have h_c_told_better := Qnw (P := P) (w := w) (base := base) F23 M h_c_is_whole h_c_better_row
 have h_c_told_share := Qrf (P := P) (w := w) (base := base) F24 M h_c_is_ahead h_c_is_whole h_c_share_row
 have h_c_told_shut := Qts (P := P) (w := w) (base := base) F25 M h_c_is_ahead h_c_are_holds h_c_most_of h_c_shut_row
 have h_c_told_either := Qov (P := P) (w := w) (base := base) F26 M h_c_is_ahead h_c_is_number_of h_c_without h_c_either_row
 have h_c_told_like := Qtt (P := P) (w := w) (base := base) F27 M h_c_is_turn h_c_turn_keeps h_c_like_row
 have h_c_told_sum := okTSum (P := P) (w := w) (base := base) F28 M h_c_is_part h_c_sum_row
 have JT := Qri (P := P) (base := base) J0 h_c_told_given h_c_told_low h_c_told_high h_c_told_better h_c_told_sum h_c_told_share h_c_told_shut h_c_told_either h_c_told_like
 have h_c_row_told := Qob (P := P) (w := w) (base := base) F29 M JT
 have h_c_rows_told := Qku (P := P) (w := w) (base := base) F30 M h_c_row_told
 have h_c_is_broken := Qkw (P := P) (w := w) (base := base) F31 M
 have h_c_judged := Qqr (P := P) (w := w) (base := base) F32 M h_c_rows_told h_c_is_broken
 have h_cl_mix := Qth (P := P) (w := w) (base := base) F33 M
 have h_cl_draws := Qoa (P := P) (w := w) (base := base) F34 M h_cl_mix
 have h_cl_row := Qtj (P := P) (w := w) (base := base) F35 M
 have h_cl_problem := Qhm (P := P) (w := w) (base := base) F36 M h_cl_row
 have h_cl_turned := Qks (P := P) (w := w) (base := base) F37 M
 have h_cl_alike := Qop (P := P) (w := w) (base := base) F38 M h_cl_turned
 have h_cl_even := Qra (P := P) (w := w) (base := base) F39 M
 have h_cl_given := Qoq (P := P) (w := w) (base := base) F40 M h_cl_problem h_cl_alike h_cl_even
 have h_cl_whole := Qtr (P := P) (w := w) (base := base) F41 M
 have h_cl_holds := Qog (P := P) (w := w) (base := base) F42 M
 have h_cl_turn := Qqu (P := P) (w := w) (base := base) F43 M
 have h_cl_line := Qqz (P := P) (w := w) (base := base) F44 M h_cl_holds h_cl_turn
 have h_cl_alone := Qoh (P := P) (w := w) (base := base) F45 M
 have h_cl_most := Qqv (P := P) (w := w) (base := base) F46 M
 have h_cl_keeps_turn := okKT10 (P := P) (w := w) (base := base) F47 M h_cl_turned
 have h_cl_added := Qok (P := P) (w := w) (base := base) F48 M
 have h_cl_named := Qom (P := P) (w := w) (base := base) F49 M
 have h_cl_simple := Qky (P := P) (w := w) (base := base) F50 M h_cl_alone h_cl_keeps_turn
 have h_cl_told := Qqy (P := P) (w := w) (base := base) F51 M h_cl_named h_cl_added h_cl_most h_cl_simple
 have h_cl_paper := Qoo (P := P) (w := w) (base := base) F52 M h_cl_line h_cl_told
 have h_c_law := okLaw (P := P) (w := w) (base := base) F53 M h_cl_draws h_cl_given h_cl_paper h_cl_whole h_c_rows_told h_c_judged
 exact h_c_law
theorem walk {l : PySem.W.OpenLaw} {q : Program} {loose : List Str} {XP : (Str → Option Value) → Heap → Prop} {YP : World → Heap → Prop} {d : DefRec} {K : Params → Fg} (hn : l.most = some 63) (hdf : d.params.defaults = [])
  (hY : ∀ (w : World) (h : Heap), YP w h → (K w.params).In h)
  (F : ∀ (w : World) (mg : Str → Option Value) (fa : Addr) (h : Heap), (K w.params).In h → h.Ns mainGlobals mg → mg d.name = some (.ref fa) →
   ∃ fd : FuncData, (∀ (s : Shared) (u : Value), BindsTo s fd ⟨[u], []⟩ [("_law_script", u)]) ∧ ∀ base : Heap, (K w.params).In base → base.Ns mainGlobals mg → FnOk l.prog w (K w.params) mg base CX0 11 fa fd ["_law_script"] (Qpm (K w.params))) :
  PySem.W.WalkO q loose XP YP l.row.toRowW d [] (fun f vs => PySem.call f vs) :=
 L2.Qmc (n := 63) (k := 11) (x := "_law_script") (CX := fun _ => CX0) (sp := fun w => Qpm (K w.params)) hn (by decide) hdf ⟨rfl, by decide, by decide⟩ hY F (fun _ _ a ns hl hb hS => ⟨a, ns, rfl, hS, hl, fun _ => rfl⟩) fun _ _ _ _ _ z => z
end Nb
def Nb.pwv : PySem.Program := { PySem.Challenge.pw_nonebetter_k10_lines_of_each_word with main := { PySem.Challenge.pw_nonebetter_k10_lines_of_each_word.main with body := [Nb.htop 0, Nb.htop 1, Nb.htop 2, Nb.htop 3, Nb.htop 4, Nb.htop 5, Nb.htop 6, Nb.htop 7, Nb.htop 8, Nb.htop 9, Nb.htop 10, Nb.htop 11, Nb.htop 12, Nb.htop 13, Nb.htop 14, Nb.htop 15, Nb.htop 16, Nb.htop 17, Nb.htop 18, Nb.htop 19, Nb.htop 20, Nb.htop 21, Nb.htop 22, Nb.htop 23, Nb.htop 24, Nb.htop 25, Nb.htop 26, Nb.htop 27, Nb.htop 28, Nb.htop 29, Nb.htop 30, Nb.htop 31, Nb.htop 32, Nb.htop 33, Nb.htop 34, Nb.htop 35, Nb.htop 36, Nb.htop 37, Nb.htop 38, Nb.htop 39, Nb.htop 40, Nb.htop 41, Nb.htop 42, Nb.htop 43, Nb.htop 44, Nb.htop 45, Nb.htop 46, Nb.htop 47, Nb.htop 48, Nb.htop 49, Nb.htop 50, Nb.htop 51, Nb.htop 52, Nb.htop 53, Nb.htop 54, Nb.htop 55, Nb.htop 56, Nb.htop 57, Nb.htop 58, Nb.htop 59, Nb.htop 60, Nb.htop 61, Nb.htop 62] } }
def PySem.W.Fast.tw1653918685017820470 : Nat → PySem.Params → PySem.Obj := Nb.hob
theorem PySem.W.Fast.te1653918685017820470 : Nb.hob = PySem.W.Fast.tw1653918685017820470 := rfl
def PySem.W.Fast.tw367045846865913305 : PySem.Program := PySem.Challenge.pw_nonebetter_k10_lines_of_each_word
theorem PySem.W.Fast.te367045846865913305 : PySem.Challenge.pw_nonebetter_k10_lines_of_each_word = PySem.W.Fast.tw367045846865913305 := rfl
def PySem.W.Fast.tw9401860820342270615 : PySem.Program := Nb.pwv
theorem PySem.W.Fast.te9401860820342270615 : Nb.pwv = PySem.W.Fast.tw9401860820342270615 := rfl
def PySem.W.Fast.tw11570947652754012800 : Nat → PySem.Stmt := Nb.htop
theorem PySem.W.Fast.te11570947652754012800 : Nb.htop = PySem.W.Fast.tw11570947652754012800 := rfl
namespace PySem.W.Fast
def tw17668252211025708317 := 0
def tw4862748998311141014 := 0
def tw114602578602871938 := 0
def tw7040798542484416055 := 0
def tw8879355279516486484 := 0
def tw7735469023356967730 := 0
def tw16232245747261637631 := 0
end PySem.W.Fast
open PySem PySem.W PyProof.Rows
set_option maxRecDepth 100000 in
set_option maxHeartbeats 0 in
theorem PySem.Challenge.cw_nonebetter_k10_lines_of_each_word_holds : PySem.Challenge.rw_nonebetter_k10_lines_of_each_word.Holds := by
 w_on; o_law; show PySem.W.OpenRow.Holds { PySem.Challenge.rw_nonebetter_k10_lines_of_each_word.row with prog := Nb.pwv }; o_head (PySem.W.kHook Nb.heapK (nat_lit 2 :: nat_lit 3 :: nat_lit 15 :: nat_lit 17 :: nat_lit 18 :: nat_lit 20 :: nat_lit 21 :: nat_lit 22 :: nat_lit 24 :: nat_lit 25 :: nat_lit 27 :: nat_lit 28 :: nat_lit 29 :: nat_lit 31 :: nat_lit 32 :: nat_lit 34 :: nat_lit 35 :: nat_lit 36 :: nat_lit 38 :: nat_lit 39 :: nat_lit 41 :: nat_lit 42 :: nat_lit 43 :: nat_lit 46 :: nat_lit 47 :: nat_lit 48 :: nat_lit 51 :: nat_lit 52 :: nat_lit 53 :: nat_lit 56 :: nat_lit 57 :: nat_lit 58 :: nat_lit 60 :: nat_lit 61 :: nat_lit 63 :: nat_lit 64 :: nat_lit 65 :: nat_lit 67 :: nat_lit 68 :: nat_lit 70 :: nat_lit 71 :: nat_lit 72 :: nat_lit 74 :: nat_lit 75 :: nat_lit 77 :: nat_lit 78 :: nat_lit 79 :: nat_lit 81 :: nat_lit 82 :: nat_lit 84 :: nat_lit 85 :: nat_lit 86 :: nat_lit 88 :: nat_lit 89 :: nat_lit 91 :: nat_lit 92 :: nat_lit 93 :: nat_lit 95 :: nat_lit 96 :: nat_lit 98 :: nat_lit 99 :: nat_lit 100 :: nat_lit 103 :: nat_lit 104 :: nat_lit 105 :: nat_lit 107 :: nat_lit 108 :: nat_lit 110 :: nat_lit 111 :: nat_lit 112 :: nat_lit 114 :: nat_lit 115 :: nat_lit 117 :: nat_lit 118 :: nat_lit 119 :: nat_lit 121 :: nat_lit 122 :: nat_lit 124 :: nat_lit 125 :: nat_lit 126 :: nat_lit 129 :: nat_lit 130 :: nat_lit 131 :: nat_lit 134 :: nat_lit 135 :: nat_lit 136 :: nat_lit 138 :: nat_lit 139 :: nat_lit 141 :: nat_lit 142 :: nat_lit 143 :: nat_lit 145 :: nat_lit 146 :: nat_lit 148 :: nat_lit 149 :: nat_lit 150 :: nat_lit 152 :: nat_lit 153 :: nat_lit 155 :: nat_lit 156 :: nat_lit 157 :: nat_lit 159 :: nat_lit 160 :: nat_lit 162 :: nat_lit 163 :: nat_lit 164 :: nat_lit 167 :: nat_lit 168 :: nat_lit 169 :: nat_lit 172 :: nat_lit 173 :: nat_lit 174 :: nat_lit 176 :: nat_lit 177 :: nat_lit 179 :: nat_lit 180 :: nat_lit 181 :: nat_lit 183 :: nat_lit 184 :: nat_lit 186 :: nat_lit 187 :: nat_lit 188 :: nat_lit 190 :: nat_lit 191 :: nat_lit 193 :: nat_lit 194 :: nat_lit 195 :: nat_lit 196 :: nat_lit 197 :: nat_lit 199 :: nat_lit 200 :: nat_lit 202 :: nat_lit 203 :: nat_lit 204 :: nat_lit 206 :: nat_lit 207 :: nat_lit 209 :: nat_lit 210 :: nat_lit 211 :: nat_lit 214 :: nat_lit 215 :: nat_lit 216 :: nat_lit 218 :: nat_lit 219 :: nat_lit 221 :: nat_lit 222 :: nat_lit 223 :: nat_lit 225 :: nat_lit 226 :: nat_lit 228 :: nat_lit 229 :: nat_lit 230 :: nat_lit 232 :: nat_lit 233 :: nat_lit 235 :: nat_lit 236 :: nat_lit 237 :: nat_lit 239 :: nat_lit 240 :: nat_lit 242 :: nat_lit 243 :: nat_lit 244 :: nat_lit 247 :: nat_lit 248 :: nat_lit 249 :: nat_lit 252 :: nat_lit 253 :: nat_lit 254 :: nat_lit 256 :: nat_lit 257 :: nat_lit 259 :: nat_lit 260 :: nat_lit 261 :: nat_lit 263 :: nat_lit 264 :: nat_lit 266 :: nat_lit 267 :: nat_lit 285 :: nat_lit 288 :: nat_lit 289 :: nat_lit 290 :: nat_lit 292 :: nat_lit 293 :: nat_lit 295 :: nat_lit 296 :: nat_lit 297 :: nat_lit 299 :: nat_lit 300 :: nat_lit 302 :: nat_lit 303 :: nat_lit 304 :: nat_lit 306 :: nat_lit 307 :: nat_lit 309 :: nat_lit 310 :: nat_lit 311 :: nat_lit 313 :: nat_lit 314 :: nat_lit 316 :: nat_lit 317 :: nat_lit 318 :: nat_lit 320 :: nat_lit 321 :: nat_lit 323 :: nat_lit 324 :: nat_lit 325 :: nat_lit 328 :: nat_lit 329 :: nat_lit 330 :: nat_lit 332 :: nat_lit 333 :: nat_lit 335 :: nat_lit 336 :: nat_lit 337 :: nat_lit 339 :: nat_lit 340 :: nat_lit 342 :: nat_lit 343 :: nat_lit 344 :: nat_lit 347 :: nat_lit 348 :: nat_lit 349 :: nat_lit 352 :: nat_lit 353 :: nat_lit 354 :: nat_lit 357 :: nat_lit 358 :: nat_lit 359 :: nat_lit 361 :: nat_lit 362 :: nat_lit 364 :: nat_lit 365 :: nat_lit 366 :: nat_lit 369 :: nat_lit 370 :: []) (fun _ => by kernel_rfl)); (case hw => w_witness2)
 k_fill
 refine Nb.walk (l := PySem.Challenge.rw_nonebetter_k10_lines_of_each_word) rfl rfl (fun w h Y => PySem.W.kIn_of Y) ?F
 case F =>
  intro w mg fa h KX G hmg
  have F1 : L2.Fn (L2.KOf KX) mg "single_row" Nb.Qeg := by
   dsimp only [L2.KOf]
   refine' L2.Xp KX G ?a ?l ?c ?k
   (case a => k_is); (case l => k_is); (case c => k_is); (case k => k_is)
  have F2 : L2.Fn (L2.KOf KX) mg "better_row" Nb.Ky := by
   dsimp only [L2.KOf]
   refine' L2.Xp KX G ?a ?l ?c ?k
   (case a => k_is); (case l => k_is); (case c => k_is); (case k => k_is)
  have F3 : L2.Fn (L2.KOf KX) mg "sum_row" Nb.Qds := by
   dsimp only [L2.KOf]
   refine' L2.Xp KX G ?a ?l ?c ?k
   (case a => k_is); (case l => k_is); (case c => k_is); (case k => k_is)
  have F4 : L2.Fn (L2.KOf KX) mg "share_row" Nb.Wm := by
   dsimp only [L2.KOf]
   refine' L2.Xp KX G ?a ?l ?c ?k
   (case a => k_is); (case l => k_is); (case c => k_is); (case k => k_is)
  have F5 : L2.Fn (L2.KOf KX) mg "shut_row" Nb.Qay := by
   dsimp only [L2.KOf]
   refine' L2.Xp KX G ?a ?l ?c ?k
   (case a => k_is); (case l => k_is); (case c => k_is); (case k => k_is)
  have F6 : L2.Fn (L2.KOf KX) mg "without" Nb.Qaz := by
   dsimp only [L2.KOf]
   refine' L2.Xp KX G ?a ?l ?c ?k
   (case a => k_is); (case l => k_is); (case c => k_is); (case k => k_is)
  have F7 : L2.Fn (L2.KOf KX) mg "either_row" Nb.Kz := by
   dsimp only [L2.KOf]
   refine' L2.Xp KX G ?a ?l ?c ?k
   (case a => k_is); (case l => k_is); (case c => k_is); (case k => k_is)
  have F8 : L2.Fn (L2.KOf KX) mg "like_row" Nb.Qba := by
   dsimp only [L2.KOf]
   refine' L2.Xp KX G ?a ?l ?c ?k
   (case a => k_is); (case l => k_is); (case c => k_is); (case k => k_is)
  have F9 : L2.Fn (L2.KOf KX) mg "most_of" Nb.Qno := by
   dsimp only [L2.KOf]
   refine' L2.Xp KX G ?a ?l ?c ?k
   (case a => k_is); (case l => k_is); (case c => k_is); (case k => k_is)
  have F10 : L2.Fn (L2.KOf KX) mg "is_whole" Nb.Qam := by
   dsimp only [L2.KOf]
   refine' L2.Xp KX G ?a ?l ?c ?k
   (case a => k_is); (case l => k_is); (case c => k_is); (case k => k_is)
  have F11 : L2.Fn (L2.KOf KX) mg "is_number_of" Nb.Qit := by
   dsimp only [L2.KOf]
   refine' L2.Xp KX G ?a ?l ?c ?k
   (case a => k_is); (case l => k_is); (case c => k_is); (case k => k_is)
  have F12 : L2.Fn (L2.KOf KX) mg "is_pair" Nb.Qdo := by
   dsimp only [L2.KOf]
   refine' L2.Xp KX G ?a ?l ?c ?k
   (case a => k_is); (case l => k_is); (case c => k_is); (case k => k_is)
  have F13 : L2.Fn (L2.KOf KX) mg "is_ahead" Nb.Qan := by
   dsimp only [L2.KOf]
   refine' L2.Xp KX G ?a ?l ?c ?k
   (case a => k_is); (case l => k_is); (case c => k_is); (case k => k_is)
  have F14 : L2.Fn (L2.KOf KX) mg "is_part" Nb.Qdp := by
   dsimp only [L2.KOf]
   refine' L2.Xp KX G ?a ?l ?c ?k
   (case a => k_is); (case l => k_is); (case c => k_is); (case k => k_is)
  have F15 : L2.Fn (L2.KOf KX) mg "is_hold" Nb.Qdq := by
   dsimp only [L2.KOf]
   refine' L2.Xp KX G ?a ?l ?c ?k
   (case a => k_is); (case l => k_is); (case c => k_is); (case k => k_is)
  have F16 : L2.Fn (L2.KOf KX) mg "are_holds" Nb.Wn := by
   dsimp only [L2.KOf]
   refine' L2.Xp KX G ?a ?l ?c ?k
   (case a => k_is); (case l => k_is); (case c => k_is); (case k => k_is)
  have F17 : L2.Fn (L2.KOf KX) mg "is_turn" Nb.Qcj := by
   dsimp only [L2.KOf]
   refine' L2.Xp KX G ?a ?l ?c ?k
   (case a => k_is); (case l => k_is); (case c => k_is); (case k => k_is)
  have F18 : L2.Fn (L2.KOf KX) mg "turned" Nb.Qdw := by
   dsimp only [L2.KOf]
   refine' L2.Xp KX G ?a ?l ?c ?k
   (case a => k_is); (case l => k_is); (case c => k_is); (case k => k_is)
  have F19 : L2.Fn (L2.KOf KX) mg "turn_keeps" Nb.Qcc := by
   dsimp only [L2.KOf]
   refine' L2.Xp KX G ?a ?l ?c ?k
   (case a => k_is); (case l => k_is); (case c => k_is); (case k => k_is)
  have F20 : L2.Fn (L2.KOf KX) mg "told_given" Nb.Qdy := by
   dsimp only [L2.KOf]
   refine' L2.Xp KX G ?a ?l ?c ?k
   (case a => k_is); (case l => k_is); (case c => k_is); (case k => k_is)
  have F21 : L2.Fn (L2.KOf KX) mg "told_low" Nb.Qqn := by
   dsimp only [L2.KOf]
   refine' L2.Xp KX G ?a ?l ?c ?k
   (case a => k_is); (case l => k_is); (case c => k_is); (case k => k_is)
  have F22 : L2.Fn (L2.KOf KX) mg "told_high" Nb.Qja := by
   dsimp only [L2.KOf]
   refine' L2.Xp KX G ?a ?l ?c ?k
   (case a => k_is); (case l => k_is); (case c => k_is); (case k => k_is)
  have F23 : L2.Fn (L2.KOf KX) mg "told_better" Nb.Qao := by
   dsimp only [L2.KOf]
   refine' L2.Xp KX G ?a ?l ?c ?k
   (case a => k_is); (case l => k_is); (case c => k_is); (case k => k_is)
  have F24 : L2.Fn (L2.KOf KX) mg "told_share" Nb.Qeh := by
   dsimp only [L2.KOf]
   refine' L2.Xp KX G ?a ?l ?c ?k
   (case a => k_is); (case l => k_is); (case c => k_is); (case k => k_is)
  have F25 : L2.Fn (L2.KOf KX) mg "told_shut" Nb.Qjs := by
   dsimp only [L2.KOf]
   refine' L2.Xp KX G ?a ?l ?c ?k
   (case a => k_is); (case l => k_is); (case c => k_is); (case k => k_is)
  have F26 : L2.Fn (L2.KOf KX) mg "told_either" Nb.Wo := by
   dsimp only [L2.KOf]
   refine' L2.Xp KX G ?a ?l ?c ?k
   (case a => k_is); (case l => k_is); (case c => k_is); (case k => k_is)
  have F27 : L2.Fn (L2.KOf KX) mg "told_like" Nb.Qjt := by
   dsimp only [L2.KOf]
   refine' L2.Xp KX G ?a ?l ?c ?k
   (case a => k_is); (case l => k_is); (case c => k_is); (case k => k_is)
  have F28 : L2.Fn (L2.KOf KX) mg "told_sum" Nb.Qrg := by
   dsimp only [L2.KOf]
   refine' L2.Xp KX G ?a ?l ?c ?k
   (case a => k_is); (case l => k_is); (case c => k_is); (case k => k_is)
  have F29 : L2.Fn (L2.KOf KX) mg "row_told" Nb.Qaq := by
   dsimp only [L2.KOf]
   refine' L2.Xp KX G ?a ?l ?c ?k
   (case a => k_is); (case l => k_is); (case c => k_is); (case k => k_is)
  have F30 : L2.Fn (L2.KOf KX) mg "rows_told" Nb.Wh := by
   dsimp only [L2.KOf]
   refine' L2.Xp KX G ?a ?l ?c ?k
   (case a => k_is); (case l => k_is); (case c => k_is); (case k => k_is)
  have F31 : L2.Fn (L2.KOf KX) mg "is_broken" Nb.Wi := by
   dsimp only [L2.KOf]
   refine' L2.Xp KX G ?a ?l ?c ?k
   (case a => k_is); (case l => k_is); (case c => k_is); (case k => k_is)
  have F32 : L2.Fn (L2.KOf KX) mg "judged" Nb.Qdz := by
   dsimp only [L2.KOf]
   refine' L2.Xp KX G ?a ?l ?c ?k
   (case a => k_is); (case l => k_is); (case c => k_is); (case k => k_is)
  have F33 : L2.Fn (L2.KOf KX) mg "_law_mix" Nb.Qjb := by
   dsimp only [L2.KOf]
   refine' L2.Xp KX G ?a ?l ?c ?k
   (case a => k_is); (case l => k_is); (case c => k_is); (case k => k_is)
  have F34 : L2.Fn (L2.KOf KX) mg "_law_draws" Nb.Qap := by
   dsimp only [L2.KOf]
   refine' L2.Xp KX G ?a ?l ?c ?k
   (case a => k_is); (case l => k_is); (case c => k_is); (case k => k_is)
  have F35 : L2.Fn (L2.KOf KX) mg "_law_row" Nb.Qjc := by
   dsimp only [L2.KOf]
   refine' L2.Xp KX G ?a ?l ?c ?k
   (case a => k_is); (case l => k_is); (case c => k_is); (case k => k_is)
  have F36 : L2.Fn (L2.KOf KX) mg "_law_problem" Nb.Kx := by
   dsimp only [L2.KOf]
   refine' L2.Xp KX G ?a ?l ?c ?k
   (case a => k_is); (case l => k_is); (case c => k_is); (case k => k_is)
  have F37 : L2.Fn (L2.KOf KX) mg "_law_turned" Nb.Wg := by
   dsimp only [L2.KOf]
   refine' L2.Xp KX G ?a ?l ?c ?k
   (case a => k_is); (case l => k_is); (case c => k_is); (case k => k_is)
  have F38 : L2.Fn (L2.KOf KX) mg "_law_alike" Nb.Wl := by
   dsimp only [L2.KOf]
   refine' L2.Xp KX G ?a ?l ?c ?k
   (case a => k_is); (case l => k_is); (case c => k_is); (case k => k_is)
  have F39 : L2.Fn (L2.KOf KX) mg "_law_even" Nb.Qef := by
   dsimp only [L2.KOf]
   refine' L2.Xp KX G ?a ?l ?c ?k
   (case a => k_is); (case l => k_is); (case c => k_is); (case k => k_is)
  have F40 : L2.Fn (L2.KOf KX) mg "_law_given" Nb.Qax := by
   dsimp only [L2.KOf]
   refine' L2.Xp KX G ?a ?l ?c ?k
   (case a => k_is); (case l => k_is); (case c => k_is); (case k => k_is)
  have F41 : L2.Fn (L2.KOf KX) mg "_law_whole" Nb.Qjr := by
   dsimp only [L2.KOf]
   refine' L2.Xp KX G ?a ?l ?c ?k
   (case a => k_is); (case l => k_is); (case c => k_is); (case k => k_is)
  have F42 : L2.Fn (L2.KOf KX) mg "_law_holds" Nb.Qar := by
   dsimp only [L2.KOf]
   refine' L2.Xp KX G ?a ?l ?c ?k
   (case a => k_is); (case l => k_is); (case c => k_is); (case k => k_is)
  have F43 : L2.Fn (L2.KOf KX) mg "_law_turn" Nb.Qeb := by
   dsimp only [L2.KOf]
   refine' L2.Xp KX G ?a ?l ?c ?k
   (case a => k_is); (case l => k_is); (case c => k_is); (case k => k_is)
  have F44 : L2.Fn (L2.KOf KX) mg "_law_line" Nb.Qee := by
   dsimp only [L2.KOf]
   refine' L2.Xp KX G ?a ?l ?c ?k
   (case a => k_is); (case l => k_is); (case c => k_is); (case k => k_is)
  have F45 : L2.Fn (L2.KOf KX) mg "_law_alone" Nb.Qas := by
   dsimp only [L2.KOf]
   refine' L2.Xp KX G ?a ?l ?c ?k
   (case a => k_is); (case l => k_is); (case c => k_is); (case k => k_is)
  have F46 : L2.Fn (L2.KOf KX) mg "_law_most" Nb.Qce := by
   dsimp only [L2.KOf]
   refine' L2.Xp KX G ?a ?l ?c ?k
   (case a => k_is); (case l => k_is); (case c => k_is); (case k => k_is)
  have F47 : L2.Fn (L2.KOf KX) mg "_law_keeps_turn" Nb.Qoi := by
   dsimp only [L2.KOf]
   refine' L2.Xp KX G ?a ?l ?c ?k
   (case a => k_is); (case l => k_is); (case c => k_is); (case k => k_is)
  have F48 : L2.Fn (L2.KOf KX) mg "_law_added" Nb.Qau := by
   dsimp only [L2.KOf]
   refine' L2.Xp KX G ?a ?l ?c ?k
   (case a => k_is); (case l => k_is); (case c => k_is); (case k => k_is)
  have F49 : L2.Fn (L2.KOf KX) mg "_law_named" Nb.Qav := by
   dsimp only [L2.KOf]
   refine' L2.Xp KX G ?a ?l ?c ?k
   (case a => k_is); (case l => k_is); (case c => k_is); (case k => k_is)
  have F50 : L2.Fn (L2.KOf KX) mg "_law_simple" Nb.Wk := by
   dsimp only [L2.KOf]
   refine' L2.Xp KX G ?a ?l ?c ?k
   (case a => k_is); (case l => k_is); (case c => k_is); (case k => k_is)
  have F51 : L2.Fn (L2.KOf KX) mg "_law_told" Nb.Qcg := by
   dsimp only [L2.KOf]
   refine' L2.Xp KX G ?a ?l ?c ?k
   (case a => k_is); (case l => k_is); (case c => k_is); (case k => k_is)
  have F52 : L2.Fn (L2.KOf KX) mg "_law_paper" Nb.Qaw := by
   dsimp only [L2.KOf]
   refine' L2.Xp KX G ?a ?l ?c ?k
   (case a => k_is); (case l => k_is); (case c => k_is); (case k => k_is)
  have F53 : L2.Fn (L2.KOf KX) mg "law" Nb.sLaw := by
   dsimp only [L2.KOf]
   refine' L2.Xp KX G ?a ?l ?c ?k
   (case a => k_is); (case l => k_is); (case c => k_is); (case k => k_is)
  have M : Nb.Mg mg := by
   refine' ⟨PySem.W.mg_none_of KX G ?m_len, PySem.W.mg_none_of KX G ?m_min, PySem.W.mg_none_of KX G ?m_max, PySem.W.mg_none_of KX G ?m_sum, PySem.W.mg_none_of KX G ?m_all, PySem.W.mg_none_of KX G ?m_any, PySem.W.mg_none_of KX G ?m_abs, PySem.W.mg_none_of KX G ?m_isinstance, PySem.W.mg_none_of KX G ?m_sorted, PySem.W.mg_none_of KX G ?m_range_, PySem.W.mg_none_of KX G ?m_zip_, PySem.W.mg_none_of KX G ?m_tuple_, PySem.W.mg_none_of KX G ?m_list_, PySem.W.mg_none_of KX G ?m_int_, PySem.W.mg_none_of KX G ?m_bool_, PySem.W.mg_none_of KX G ?m_dict_, PySem.W.mg_none_of KX G ?m_enumerate_, PySem.W.mg_none_of KX G ?m_reversed_, PySem.W.mg_none_of KX G ?m_ValueError_, PySem.W.mg_none_of KX G ?m_set_, PySem.W.mg_none_of KX G ?m_str_⟩
   (case m_len => k_is)
   (case m_min => k_is)
   (case m_max => k_is)
   (case m_sum => k_is)
   (case m_all => k_is)
   (case m_any => k_is)
   (case m_abs => k_is)
   (case m_isinstance => k_is)
   (case m_sorted => k_is)
   (case m_range_ => k_is)
   (case m_zip_ => k_is)
   (case m_tuple_ => k_is)
   (case m_list_ => k_is)
   (case m_int_ => k_is)
   (case m_bool_ => k_is)
   (case m_dict_ => k_is)
   (case m_enumerate_ => k_is)
   (case m_reversed_ => k_is)
   (case m_ValueError_ => k_is)
   (case m_set_ => k_is)
   (case m_str_ => k_is)
  have J0 : ∃ aT aL fT fL, Nb.JTab0 w (L2.KOf KX) mg aT aL fT fL := by
   dsimp only [L2.KOf]
   refine' ⟨_, _, _, _, Nb.jtab0 (PySem.W.mg_of KX G ?b1) ?l1 ?k1 ?o1 ?e1 (PySem.W.mg_of KX G ?b2) ?l2 ?k2 ?o2 ?e2 (PySem.W.mg_of KX G ?n1) (PySem.W.mg_of KX G ?n2) (PySem.W.mg_of KX G ?n3) (PySem.W.mg_of KX G ?n4) (PySem.W.mg_of KX G ?n5) (PySem.W.mg_of KX G ?n6) (PySem.W.mg_of KX G ?n7) (PySem.W.mg_of KX G ?n8) (PySem.W.mg_of KX G ?n9)⟩
   (case b1 => k_is); (case l1 => k_is); (case k1 => k_keys); (case o1 => decide); (case e1 => exact rfl)
   (case b2 => k_is); (case l2 => k_is); (case k2 => k_keys); (case o2 => decide); (case e2 => exact rfl)
   (case n1 => k_is); (case n2 => k_is); (case n3 => k_is); (case n4 => k_is); (case n5 => k_is); (case n6 => k_is); (case n7 => k_is); (case n8 => k_is); (case n9 => k_is)
  obtain ⟨aT, aL, fT, fL, J0⟩ := J0
  obtain ⟨f, fd, FF, hm⟩ := F53
  have e0 := hmg.symm.trans hm
  cases e0
  refine' ⟨fd, ?b, fun base kb nb => Nb.all_ok M J0 F1 F2 F3 F4 F5 F6 F7 F8 F9 F10 F11 F12 F13 F14 F15 F16 F17 F18 F19 F20 F21 F22 F23 F24 F25 F26 F27 F28 F29 F30 F31 F32 F33 F34 F35 F36 F37 F38 F39 F40 F41 F42 F43 F44 F45 F46 F47 F48 F49 F50 F51 F52 FF⟩
  obtain ⟨oc, od, kV, doc, pm, an, cdv, ct, osl, rfl, lk, hcd⟩ := FF.ex
  exact fun s u => .of_eq rfl

