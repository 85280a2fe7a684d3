import PyProof.Rows.All
import Wide.All
import OpenK.AllK
import Wide.FinOn
import Lean
import PyProof.EqAt
import PyProof.EqKinds
import PyProof.TupleCall
import KE.KDictOf
import KE.KRevIter
import KE.KMinKey
import KE.KTryDeep
import KE.KIsAll
import KE.KSortTup
import OpenK.KTop
import KE.KEqDict
import KE.KPairComp
import KE.KDictSum
import PyProof.Rows.SortStr
import PyProof.Rows.SortShellK
import PySem.Challenge.RW_nonebetter_k31_what_a_paper_rests_on
noncomputable section
abbrev Fg := PySem.W.Frag
section
open PySem PySem.Spec PySem.W PyProof.Rows
abbrev jQ := @List.length_map
abbrev jX := @Nat.le_refl
abbrev jY := @List.size_toArray
abbrev jZ := @wpAny_bind
abbrev jJ := @List.append_assoc
abbrev jK := @Heap.get?_push_of_some
abbrev jV := @Array.toList_append
abbrev jW := @List.length_append
abbrev kQ := @List.getElem?_eq_some_iff
abbrev kX := @List.mem_singleton
abbrev kY := @List.getElem?_map
abbrev kZ := @Bool.false_ne_true
abbrev kJ := @Heap.lt_size
abbrev kK := @wpAny_pure
abbrev kW := @List.map_append
abbrev yQ := @List.mem_append
abbrev yX := @decide_eq_false
abbrev yY := @Nat.lt_of_lt_of_le
abbrev yZ := @decide_eq_true
abbrev yJ := @List.length_cons
abbrev yK := @Array.getElem_mem
abbrev yV := @List.getD_eq_getElem?_getD
abbrev yW := @Bool.and_eq_true
abbrev zQ := @of_decide_eq_true
abbrev zX := @Heap.get?_push_size
abbrev zY := @List.mem_cons_of_mem
abbrev zZ := @List.mem_of_getElem?
abbrev zJ := @List.pairwise_append
abbrev zK := @Array.toList_push
abbrev zV := @Nat.ne_of_lt
abbrev zW := @List.mem_append_right
abbrev xQ := @List.length_take
abbrev xX := @Nat.lt_of_succ_lt
abbrev xY := @Array.toList_reverse
abbrev xZ := @List.mem_cons_self
abbrev xJ := @Nat.lt_of_le_of_lt
abbrev xK := @List.map_cons
abbrev xV := @Array.length_toList
abbrev xW := @Array.getElem?_toList
abbrev wQ := @List.perm_append_comm
abbrev wX := @Bool.false_eq_true
abbrev wY := @List.mem_cons
abbrev wZ := @Option.map_eq_some_iff
abbrev wJ := @List.mem_map
abbrev wK := @Nat.add_le_add_left
abbrev wV := @Nat.zero_le
abbrev wW := @Nat.succ_ne_zero
abbrev jQa := @List.length_range
abbrev jQb := @List.reverse_append
abbrev jQc := @List.length_drop
abbrev jQd := @Int.emod_lt_of_pos
abbrev jQe := @Nat.le_trans
abbrev jQf := @Bool.eq_iff_iff
abbrev jXa := @List.length_set
abbrev jXb := @List.replicate_succ
abbrev jXc := @List.take_of_length_le
abbrev jXd := @Array.getD_eq_getD_getElem?
abbrev jXe := @List.lookup_cons
abbrev jXf := @List.take_length
abbrev jYa := @Array.perm_iff_toList_perm
abbrev jYb := @List.length_replicate
abbrev jYc := @List.getElem?_eq_none
abbrev jYd := @Array.getElem_extract
abbrev jYe := @List.pairwise_iff_getElem
abbrev jYf := @List.extract_eq_take_drop
abbrev jZa := @Int.emod_nonneg
abbrev jZb := @List.mem_range
abbrev jZc := @List.all_eq_true
abbrev jZd := @List.nodup_cons
abbrev jZe := @Bool.or_eq_true
abbrev jZf := @List.getElem?_append_right
abbrev jJa := @Array.toList_extract
abbrev jJb := @List.getElem?_append_left
abbrev jJc := @Nat.lt_irrefl
abbrev jJd := @List.append_nil
abbrev jJe := @List.find?_cons
abbrev jJf := @Int.natCast_nonneg
abbrev jKa := @List.flatten_cons
abbrev jKb := @List.ext_getElem?
abbrev jKc := @List.take_append_drop
abbrev jKd := @List.getElem_mem
abbrev jKe := @List.mem_append_left
abbrev jKf := @Array.getElem_toList
abbrev kQa := @List.reverse_reverse
abbrev kQb := @List.mem_of_mem_take
abbrev kQc := @List.length_nil
abbrev kQd := @Nat.min_eq_left
abbrev kQe := @List.getElem?_range
abbrev kQf := @Nat.le_of_lt
abbrev kXa := @Nat.zero_add
abbrev kXb := @List.map_set
abbrev kXc := @Array.size_extract
abbrev kXd := @List.drop_eq_getElem_cons
abbrev kXe := @Int.toNat_natCast
abbrev kXf := @Nat.lt_succ_of_lt
abbrev kYa := @Int.le_refl
abbrev kYb := @Option.isSome_iff_exists
abbrev kYc := @List.any_cons
abbrev kYd := @List.length_eq_zero_iff
abbrev kYe := @Nat.le_of_eq
abbrev kYf := @List.drop_eq_nil_of_le
abbrev kZa := @List.mem_filter
abbrev kZb := @Nat.le_succ
abbrev kZc := @List.filterMap_cons
end
abbrev gE := @List.getElem?_eq_getElem
set_option Elab.async false
set_option linter.all false
set_option maxRecDepth 100000
set_option maxHeartbeats 4000000
set_option bootstrap.genMatcherCode false
set_option genSizeOfSpec false
set_option compiler.extract_closed false
namespace L2
theorem aRfl (h : True := by rfl) : True := h
theorem aDec (h : True := by decide) : True := h
theorem aFst (h : True := by first | exact .inl rfl | exact .inr rfl | assumption) : True := h
theorem aIrf (h : True := by intro _; rfl) : True := h
end L2
namespace L2
open PySem PySem.Spec PyProof.Rows
abbrev Key := Sum Int Str
def keyIs : Key → Value → Bool
 | .inl k, v => Value.isInt k v
 | .inr x, v => Value.isStrOf x v
def keyH (w : World) : Key → Int
 | .inl k => hashInt k
 | .inr x => hashStr w x
theorem keyIs_shape : ∀ {k : Key} {v : Value}, keyIs k v = true → (∃ i t, k = Sum.inl i ∧ v = Value.int i t) ∨ (∃ x t, k = Sum.inr x ∧ v = Value.str x t)
 | .inl i, v, h => by
  obtain ⟨t, e⟩ := Value.isInt_shape (k := i) (v := v) h
  exact .inl ⟨i, t, rfl, e⟩
 | .inr x, v, h => by
  obtain ⟨t, e⟩ := Value.isStrOf_shape (x := x) (v := v) h
  exact .inr ⟨x, t, rfl, e⟩
theorem keyIs_int (i : Int) (t : Tok) : keyIs (.inl i) (.int i t) = true := by simp [keyIs, Value.isInt]
theorem keyIs_str (x : Str) (t : Tok) : keyIs (.inr x) (.str x t) = true := by simp [keyIs, Value.isStrOf]
theorem key_ll (a b : Int) : decide ((Sum.inl a : Key) = Sum.inl b) = (a == b) := by
 by_cases e : a = b
 ·subst e; simp
 ·have h : ¬ (Sum.inl a : Key) = Sum.inl b := fun q => e (Sum.inl.inj q)
  rw [yX h]
  exact (beq_eq_false_iff_ne.mpr e).symm
theorem key_rr (a b : Str) : decide ((Sum.inr a : Key) = Sum.inr b) = decide (a = b) := by
 by_cases e : a = b
 ·subst e; simp
 ·have h : ¬ (Sum.inr a : Key) = Sum.inr b := fun q => e (Sum.inr.inj q)
  rw [yX h, yX e]
theorem key_lr (a : Int) (b : Str) : decide ((Sum.inl a : Key) = Sum.inr b) = false := yX (fun q => nomatch q)
theorem key_rl (a : Str) (b : Int) : decide ((Sum.inr a : Key) = Sum.inl b) = false := yX (fun q => nomatch q)
def mixKind (prog : Program) (w : World) : PySem.KeyKind prog w Key where
 is := keyIs
 hash := keyH w
 inj := fun v a b ha hb => by
  rcases keyIs_shape ha with ⟨i, t, rfl, rfl⟩ | ⟨x, t, rfl, rfl⟩
  ·rcases keyIs_shape hb with ⟨j, u, rfl, e⟩ | ⟨y, u, rfl, e⟩
   ·injection e with e1 _; rw [e1]
   ·exact nomatch e
  ·rcases keyIs_shape hb with ⟨j, u, rfl, e⟩ | ⟨y, u, rfl, e⟩
   ·exact nomatch e
   ·injection e with e1 _; rw [e1]
 byValue := fun k v h => by
  rcases keyIs_shape h with ⟨i, t, rfl, rfl⟩ | ⟨x, t, rfl, rfl⟩ <;> rfl
 pyHash := fun hv h => by
  rcases keyIs_shape hv with ⟨i, t, rfl, rfl⟩ | ⟨x, t, rfl, rfl⟩
  ·exact wpAny_pyHash_int h
  ·exact wpAny_pyHash_str h
 eqBool := fun hu hv h => by
  rcases keyIs_shape hu with ⟨i, t, rfl, rfl⟩ | ⟨x, t, rfl, rfl⟩
  ·rcases keyIs_shape hv with ⟨j, u, rfl, rfl⟩ | ⟨y, u, rfl, rfl⟩
   ·rw [key_ll] at h; exact wpAny_eqBool_int h
   ·rw [key_lr] at h; exact SeqAt.EqAt.int_str i t y u _ _ _ _ h
  ·rcases keyIs_shape hv with ⟨j, u, rfl, rfl⟩ | ⟨y, u, rfl, rfl⟩
   ·rw [key_rl] at h; exact SeqAt.EqAt.str_int x t j u _ _ _ _ h
   ·rw [key_rr] at h; exact wpAny_eqBool_str h
 «strs» := fun k x t v h => by
  rcases keyIs_shape h with ⟨i, u, rfl, e⟩ | ⟨y, u, rfl, e⟩
  ·exact nomatch e
  ·injection e with e1 _
   subst e1
   cases v <;> rfl
theorem mixKind_is (prog : Program) (w : World) (k : Key) (v : Value) : (mixKind prog w).is k v = keyIs k v := rfl
theorem mixKind_int (prog : Program) (w : World) (i : Int) (t : Tok) : (mixKind prog w).is (.inl i) (.int i t) = true := keyIs_int i t
theorem mixKind_str (prog : Program) (w : World) (x : Str) (t : Tok) : (mixKind prog w).is (.inr x) (.str x t) = true := keyIs_str x t
inductive V where
 | non | bl (b : Bool) | int (i : Int) | str (x : Str) | byt (b : Array UInt8) | flt (b : UInt64) | ref (a : Addr) | ty (n : String)
 deriving DecidableEq
def RelV : V → Value → Prop
 | .non, u => u = Value.none
 | .bl b, u => u = Value.bool b
 | .int i, u => ∃ t, u = Value.int i t
 | .str x, u => ∃ t, u = Value.str x t
 | .byt b, u => ∃ t, u = Value.bytes b t
 | .flt b, u => ∃ t, u = Value.float b t
 | .ref a, u => u = Value.ref a
 | .ty n, u => u = Value.type n
abbrev Vals : List V → List Value → Prop := Paired RelV
theorem Vals.length {xs : List V} {us : List Value} (r : Vals xs us) : xs.length = us.length := Paired.length r
theorem Vals.get : ∀ {xs : List V} {us : List Value} {i : Nat} {x : V}, Vals xs us → xs[i]? = some x → ∃ u, us[i]? = some u ∧ RelV x u
 | _, _, _, _, .nil, e => by simp at e
 | _, _, 0, _, .cons r _, e => by simp at e; subst e; exact ⟨_, rfl, r⟩
 | _, _, i + 1, x, .cons _ t, e => by
  obtain ⟨u, h1, h2⟩ := Vals.get (i := i) (x := x) t (by simpa using e)
  exact ⟨u, by simpa using h1, h2⟩
theorem Vals.set {x : V} {u : Value} (r : RelV x u) : ∀ {xs : List V} {us : List Value} (i : Nat), Vals xs us → Vals (xs.set i x) (us.set i u)
 | _, _, _, .nil => .nil
 | _, _, 0, .cons _ t => .cons r t
 | _, _, i + 1, .cons q t => .cons q (Vals.set r i t)
theorem Vals.append {xs ys : List V} {us ws : List Value} (h : Vals xs us) (g : Vals ys ws) : Vals (xs ++ ys) (us ++ ws) := by
 induction h with
 | nil => exact g
 | cons r t ih => exact .cons r ih
theorem Vals.take : ∀ {xs : List V} {us : List Value} (n : Nat), Vals xs us → Vals (xs.take n) (us.take n)
 | _, _, 0, _ => .nil
 | _, _, _ + 1, .nil => .nil
 | _, _, n + 1, .cons r t => .cons r (Vals.take n t)
theorem Vals.drop : ∀ {xs : List V} {us : List Value} (n : Nat), Vals xs us → Vals (xs.drop n) (us.drop n)
 | _, _, 0, r => r
 | _, _, _ + 1, .nil => .nil
 | _, _, n + 1, .cons _ t => Vals.drop n t
def RelO : Option V → Option Value → Prop
 | some v, some u => RelV v u
 | none, none => True
 | _, _ => False
def KV {κ : Type} : List (κ × V) → List (κ × Value) → Prop := Paired fun (p : κ × V) (q : κ × Value) => p.1 = q.1 ∧ RelV p.2 q.2
def kV : Key → V
 | .inl i => .int i
 | .inr x => .str x
inductive HO where
 /-- a list -/
 | lst (xs : List V)
 /-- a tuple (never changes) -/
 | tup (xs : List V)
 /-- a dict whose keys are ints and texts; one whose keys are tuples of ints and texts (the empty one is both) -/
 | dK (kvs : List (Key × V)) | dT (kvs : List (List Key × V))
 /-- a set of ints: its members, its size -/
 | set (S : Int → Bool) (n : Nat)
 /-- an instance of the class at C, its dict at dx, its attributes -/
 | ins (C dx : Addr) (fs : List (Str × V))
 /-- the dict of the instance at x -/
 | own (x : Addr)
 /-- the dict of an exception -/
 | xd (fs : List (Str × V))
 /-- a bound method, f of x -/
 | met (f x : Addr)
 /-- a range object lo, lo + 1, .. below hi -/
 | rng (lo hi : Int)
 /-- a thing that is known to the object (the script; a dict while a loop walks it): read, never written while it is so -/
 | frz (o : Obj) (u : HO)
 /-- a code object's table -/
 | tbl (ps : Array Value)
 /-- any other thing, by what is true of its one object (a def of one's own: SetO a S n := HO.ext fun h => ..) -/
 | ext (φ : Heap → Prop)
abbrev Hp := Addr → Option HO
def upd (H : Hp) (a : Addr) (o : HO) : Hp := fun b => if b = a then some o else H b
theorem upd_same {H : Hp} {a : Addr} {o : HO} : upd H a o a = some o := by unfold upd; rw [if_pos rfl]
theorem upd_ne {H : Hp} {a b : Addr} {o : HO} (h : b ≠ a) : upd H a o b = H b := by unfold upd; rw [if_neg h]
theorem ne_of {H : Hp} {a b : Addr} {o u : HO} (h : H a = some o) (h' : H b = some u) (d : o ≠ u) : a ≠ b := by
 intro e; subst e; rw [h] at h'; exact d (Option.some.inj h')
theorem ne_of_none {H : Hp} {a b : Addr} {o : HO} (h : H a = some o) (h' : H b = none) : a ≠ b := by
 intro e; subst e; rw [h] at h'; cases h'
section
variable (P : Program) (w : World)
def ObjOk (H : Hp) (h : Heap) (a : Addr) : HO → Prop
 | .lst xs => xs.length ≤ sizeLine ∧ ∃ (its : List Value) (n : Nat), Vals xs its ∧ h.get? a = some { cls := .type "list", data := .seq its.toArray n }
 | .tup xs => xs.length ≤ sizeLine ∧ ∃ its : List Value, Vals xs its ∧ IsTup h a its.toArray
 | .dK kvs => kvs.length ≤ sizeLine ∧ (a == sysModules) = false ∧ ∃ vs, KV kvs vs ∧ h.DictOf (mixKind P w) a vs
 | .dT kvs => kvs.length ≤ sizeLine ∧ (a == sysModules) = false ∧ ∃ xs : List (List Key × Addr × Value),
   Paired (fun (p : List Key × V) (q : List Key × Addr × Value) => p.1 = q.1 ∧ H q.2.1 = some (.tup (p.1.map kV)) ∧ RelV p.2 q.2.2) kvs xs ∧
   ∃ o es ep, h.get? a = some o ∧ o.ExactDict ∧ o.data = .dict es ep ∧ es.toList = xs.map (entryOfKey (tupleKind (mixKind P w))) ∧ (xs.map (·.1)).Nodup
 | .set S n => h.SetOf (intKind P w) a S n
 | .ins C dx fs => H dx = some (.own a) ∧ fs.length ≤ 1000 ∧ dx ≠ a ∧ h.get? a = some (PySem.W.instObj C dx) ∧
   ∃ mA, h.Ns1 dx mA ∧ (∀ f, RelO (fs.lookup f) (mA f)) ∧ PySem.Within mA (fs.map (·.1))
 | .own _ => ∃ o, h.get? a = some o
 | .xd fs => ∃ mA, h.Ns1 a mA ∧ ∀ f, RelO (fs.lookup f) (mA f)
 | .rng lo hi => ∃ t u v, h.get? a = some { cls := .type "range", data := .fields #[.int lo t, .int hi u, .int 1 v] }
 | .frz o u => h.get? a = some o ∧ ObjOk H h a u
 | .tbl ps => h.get? a = some { cls := .none, data := .fields ps }
 | .met f x => h.get? a = some (PySem.W.methodObj (.ref f) (.ref x))
 | .ext φ => φ h ∧ (∃ o, h.get? a = some o) ∧ ∀ h1 h2 : Heap, φ h1 → (∀ o, h1.get? a = some o → h2.get? a = some o) → φ h2
def HOk (H : Hp) (h : Heap) : Prop := ∀ a o, H a = some o → ObjOk P w H h a o
end
section
variable {P : Program} {w : World} {H H' : Hp} {h h' : Heap} {a : Addr} {o : HO}
theorem ObjOk.lt (x : ObjOk P w H h a o) : a < h.objs.size := by
 cases o with
 | lst xs => obtain ⟨_, _, _, _, e⟩ := x; exact kJ e
 | tup xs => obtain ⟨_, _, _, p⟩ := x; exact p.lt
 | dK kvs => obtain ⟨_, _, _, _, o, _, _, e, _⟩ := x; exact kJ e
 | dT kvs => obtain ⟨_, _, _, _, o, _, _, e, _⟩ := x; exact kJ e
 | set S n => obtain ⟨o, _, _, _, e, _⟩ := x; exact kJ e
 | ins C dx fs => obtain ⟨_, _, _, e, _⟩ := x; exact kJ e
 | own y => obtain ⟨_, e⟩ := x; exact kJ e
 | xd fs => obtain ⟨_, ⟨_, _, _, e, _⟩, _⟩ := x; exact kJ e
 | rng lo hi => obtain ⟨_, _, _, e⟩ := x; exact kJ e
 | frz ob u => obtain ⟨e, _⟩ := x; exact kJ e
 | tbl ps => exact kJ (show h.get? a = some _ from x)
 | met f y => exact kJ (show h.get? a = some _ from x)
 | ext φ => obtain ⟨_, ⟨_, e⟩, _⟩ := x; exact kJ e
theorem Paired.mapP {α β : Type} {F G : α → β → Prop} {l₁ : List α} {l₂ : List β} (h : Paired F l₁ l₂) (f : ∀ a b, F a b → G a b) : Paired G l₁ l₂ := by
 induction h with
 | nil => exact .nil
 | cons r t ih => exact .cons (f _ _ r) ih
theorem Paired.imp' {α β : Type} {F G : α → β → Prop} (f : ∀ a b, F a b → G a b) {l₁ : List α} {l₂ : List β} (r : Paired F l₁ l₂) : Paired G l₁ l₂ := Paired.mapP r f
theorem ObjOk.stay (x : ObjOk P w H h a o) (k : ∀ b u, (b = a ∨ H b = some (.own a)) → h.get? b = some u → h'.get? b = some u)
  (ho : ∀ b, H b = some (.own a) → H' b = some (.own a)) (ht : ∀ b xs, H b = some (.tup xs) → H' b = some (.tup xs)) : ObjOk P w H' h' a o := by
 induction o with
 | lst xs => obtain ⟨z, its, n, r, e⟩ := x; exact ⟨z, its, n, r, k _ _ (.inl rfl) e⟩
 | tup xs => obtain ⟨z, its, r, ob, e, c⟩ := x; exact ⟨z, its, r, ob, k _ _ (.inl rfl) e, c⟩
 | dK kvs => obtain ⟨z, y, vs, r, ob, es, ep, e, c⟩ := x; exact ⟨z, y, vs, r, ob, es, ep, k _ _ (.inl rfl) e, c⟩
 | dT kvs =>
  obtain ⟨z, y, xs, r, ob, es, ep, e, c⟩ := x
  exact ⟨z, y, xs, Paired.mapP r fun p q z => ⟨z.1, ht _ _ z.2.1, z.2.2⟩, ob, es, ep, k _ _ (.inl rfl) e, c⟩
 | set S n => obtain ⟨ob, es, ep, t, e, c⟩ := x; exact ⟨ob, es, ep, t, k _ _ (.inl rfl) e, c⟩
 | ins C dx fs =>
  obtain ⟨d, z, ne, e, mA, ⟨od, es, ep, e2, c⟩, r⟩ := x
  exact ⟨ho _ d, z, ne, k _ _ (.inl rfl) e, mA, ⟨od, es, ep, k _ _ (.inr d) e2, c⟩, r⟩
 | own y => obtain ⟨ob, e⟩ := x; exact ⟨ob, k _ _ (.inl rfl) e⟩
 | xd fs => obtain ⟨mA, ⟨od, es, ep, e, c⟩, r⟩ := x; exact ⟨mA, ⟨od, es, ep, k _ _ (.inl rfl) e, c⟩, r⟩
 | rng lo hi => obtain ⟨t, u, v, e⟩ := x; exact ⟨t, u, v, k _ _ (.inl rfl) e⟩
 | frz ob u ih => obtain ⟨e, q⟩ := x; exact ⟨k _ _ (.inl rfl) e, ih q⟩
 | tbl ps =>
  have e : h.get? a = some { cls := .none, data := .fields ps } := x
  show h'.get? a = some { cls := .none, data := .fields ps }
  exact k a _ (.inl rfl) e
 | met f y =>
  have e : h.get? a = some (PySem.W.methodObj (.ref f) (.ref y)) := x
  show h'.get? a = some (PySem.W.methodObj (.ref f) (.ref y))
  exact k a _ (.inl rfl) e
 | ext φ => obtain ⟨p, ⟨o, e⟩, st⟩ := x; exact ⟨st _ _ p fun o q => k _ _ (.inl rfl) q, ⟨o, k _ _ (.inl rfl) e⟩, st⟩
theorem HOk.lt (x : HOk P w H h) (e : H a = some o) : a < h.objs.size := (x a o e).lt
theorem HOk.fresh (x : HOk P w H h) (e : h.objs.size ≤ a) : H a = none := by
 cases q : H a with
 | none => rfl
 | some u => exact absurd (yY (x.lt q) e) (jJc _)
theorem HOk.kept (x : HOk P w H h) (k : ∀ b u, h.get? b = some u → h'.get? b = some u) : HOk P w H h' := fun a o e =>
 (x a o e).stay (fun b u _ q => k b u q) (fun _ q => q) fun _ _ q => q
theorem HOk.laid (x : HOk P w H h) (k : ∀ b u, h.get? b = some u → h'.get? b = some u) (hp : h.objs.size ≤ a) (new : ObjOk P w (upd H a o) h' a o) : HOk P w (upd H a o) h' := fun b u e => by
 have hn := x.fresh hp
 by_cases hb : b = a
 ·subst hb; rw [upd_same] at e; cases e; exact new
 ·rw [upd_ne hb] at e
  exact (x b u e).stay (fun c v _ q => k c v q) (fun c q => by rw [upd_ne (ne_of_none q hn)]; exact q) fun c xs q => by rw [upd_ne (ne_of_none q hn)]; exact q
end
def Rd (H : Hp) (a : Addr) (u : HO) : Prop := H a = some u ∨ ∃ o, H a = some (.frz o u)
theorem Rd.ok {P : Program} {w : World} {H : Hp} {h : Heap} {a : Addr} {u : HO} (r : Rd H a u) (x : HOk P w H h) : ObjOk P w H h a u := by
 rcases r with r | ⟨o, r⟩
 ·exact x a u r
 ·obtain ⟨_, q⟩ := x a _ r
  exact q
def Mut : Option HO → Prop
 | some (.lst _) => True
 | some (.dK _) => True
 | some (.dT _) => True
 | some (.set _ _) => True
 | some (.ins _ _ _) => True
 | some (.ext _) => True
 | _ => False
section
variable {P : Program} {w : World} {H : Hp} {h h' : Heap} {x e : Addr} {o' : HO}
theorem HOk.write (ok : HOk P w H h) (mu : Mut (H x)) (he : e = x ∨ H e = some (.own x)) (k : ∀ b u, b ≠ e → h.get? b = some u → h'.get? b = some u) (heo : ∃ u, h'.get? e = some u)
  (new : ObjOk P w (upd H x o') h' x o') : HOk P w (upd H x o') h' := fun b u q => by
 have nown : ∀ c y, H c = some (.own y) → c ≠ x := fun c y r z => by subst z; rw [r] at mu; exact mu
 have ntup : ∀ c xs, H c = some (.tup xs) → c ≠ x := fun c xs r z => by subst z; rw [r] at mu; exact mu
 by_cases hb : b = x
 ·subst hb; rw [upd_same] at q; cases q; exact new
 ·rw [upd_ne hb] at q
  by_cases hbe : b = e
  ·have q' : H b = some (.own x) := by
    rcases he with z | z
    ·exact absurd (hbe.trans z) hb
    ·rw [hbe]; exact z
   rw [q] at q'; cases q'
   obtain ⟨v, hv⟩ := heo
   exact ⟨v, by rw [hbe]; exact hv⟩
  ·refine (ok b u q).stay (fun c v hc r => k c v ?_ r) (fun c r => by rw [upd_ne (nown c b r)]; exact r) fun c xs r => by rw [upd_ne (ntup c xs r)]; exact r
   rcases hc with rfl | hc
   ·exact hbe
   ·rintro rfl
    rcases he with z | z
    ·exact nown c b hc z
    ·rw [hc] at z; cases z; exact hb rfl
end
structure Un (fs ex : List Addr) (H H' : Hp) (h h' : Heap) : Prop where
 keep : ∀ b o, h.get? b = some o → H b = none → b ∉ fs → b ∉ ex → h'.get? b = some o
 slot : ∀ b o, h.get? b = some o → H b = none → b ∈ fs → b ∉ ex → ∃ sl, h'.get? b = some { o with slots := sl }
 free : ∀ b o, h.get? b = some o → H b = none → b ∉ ex → H' b = none
 there : ∀ b o, h.get? b = some o → b ∉ ex → ∃ o', h'.get? b = some o'
 tups : ∀ b xs, H b = some (.tup xs) → H' b = some (.tup xs)
 frzs : ∀ b o u, H b = some (.frz o u) → H' b = some (.frz o u)
 tbls : ∀ b ps, H b = some (.tbl ps) → ∃ more, H' b = some (.tbl (ps ++ more))
section
variable {fs fs' ex ex' : List Addr} {H H1 H2 : Hp} {h h1 h2 h' : Heap} {a x e : Addr} {o : HO}
theorem Un.any (u : Un fs ex H H1 h h1) {b : Addr} {ob : Obj} (q : h.get? b = some ob) (n : H b = none) (hx : b ∉ ex) : ∃ sl, h1.get? b = some { ob with slots := sl } := by
 by_cases hb : b ∈ fs
 ·exact u.slot b ob q n hb hx
 ·exact ⟨ob.slots, u.keep b ob q n hb hx⟩
theorem Un.kept (k : ∀ b u, h.get? b = some u → h'.get? b = some u) : Un fs ex H H h h' :=
 ⟨fun b ob q _ _ _ => k b ob q, fun b ob q _ _ _ => ⟨ob.slots, k b ob q⟩, fun _ _ _ n _ => n, fun b ob q _ => ⟨ob, k b ob q⟩, fun _ _ q => q, fun _ _ _ q => q, fun _ ps q => ⟨#[], by rw [q]; simp⟩⟩
theorem Un.refl : Un fs ex H H h h := Un.kept fun _ _ q => q
theorem Un.laid (k : ∀ b u, h.get? b = some u → h'.get? b = some u) (hp : h.objs.size ≤ a) (hn : H a = none) : Un fs ex H (upd H a o) h h' where
 keep := fun b u q _ _ _ => k b u q
 slot := fun b u q _ _ _ => ⟨u.slots, k b u q⟩
 free := fun b u q n _ => by rw [upd_ne (zV (yY (kJ q) hp))]; exact n
 there := fun b u q _ => ⟨u, k b u q⟩
 tups := fun b xs q => by rw [upd_ne (ne_of_none q hn)]; exact q
 frzs := fun b u xs q => by rw [upd_ne (ne_of_none q hn)]; exact q
 tbls := fun b ps q => ⟨#[], by rw [upd_ne (ne_of_none q hn), q]; simp⟩
theorem Un.write (mu : Mut (H x)) (he : e = x ∨ H e = some (.own x)) (k : ∀ b u, b ≠ e → h.get? b = some u → h'.get? b = some u) (heo : ∃ u, h'.get? e = some u) : Un fs ex H (upd H x o) h h' := by
 have hx : ∀ b, H b = none → b ≠ x := fun b n z => by subst z; rw [n] at mu; exact mu
 have hb : ∀ b, H b = none → b ≠ e := fun b n z => by
  subst z
  rcases he with r | r
  ·exact hx b n r
  ·rw [n] at r; cases r
 have hm : ∀ b u, H b = some u → ¬ Mut (some u) → b ≠ x := fun b u q nm z => by subst z; rw [q] at mu; exact nm mu
 refine ⟨fun b u q n _ _ => k b u (hb b n) q, fun b u q n _ _ => ⟨u.slots, k b u (hb b n) q⟩, fun b u q n _ => by rw [upd_ne (hx b n)]; exact n, fun b u q _ => ?_,
  fun b xs q => by rw [upd_ne (hm b _ q fun z => z)]; exact q, fun b u xs q => by rw [upd_ne (hm b _ q fun z => z)]; exact q, fun b ps q => ⟨#[], by rw [upd_ne (hm b _ q fun z => z), q]; simp⟩⟩
 by_cases hbe : b = e
 ·subst hbe; exact heo
 ·exact ⟨u, k b u hbe q⟩
end
def trk (h : Heap) (H : Hp) : List Addr := (List.range h.objs.size).filter fun a => (H a).isSome
def hidT (h : Heap) (H : Hp) : Heap := PySem.W.hideAll h (trk h H)
theorem hidT_size (h : Heap) (H : Hp) : (hidT h H).objs.size = h.objs.size := PySem.W.hideAll_size _ _
theorem hidT_get {h : Heap} {H : Hp} {b : Addr} {o : Obj} (e : h.get? b = some o) (n : H b = none) : (hidT h H).get? b = some o :=
 PySem.W.hideAll_get _ e fun hm => by
  have q : (H b).isSome = true := (kZa.mp hm).2
  rw [n] at q; simp at q
theorem of_hidT {h : Heap} {H : Hp} {b : Addr} {o : Obj} (e : (hidT h H).get? b = some o) : h.get? b = some o ∧ H b = none := by
 have e' : h.get? b = some o := PySem.W.of_hideAll (trk h H) e
 refine ⟨e', ?_⟩
 cases q : H b with
 | none => rfl
 | some x =>
  have hm : b ∈ trk h H := kZa.mpr ⟨jZb.mpr (kJ e'), by simp [q]⟩
  have z : (hidT h H).get? b = none := PySem.W.hideAll_none (trk h H) hm
  rw [z] at e; cases e
structure Mod (K : Fg) (mg : Str → Option Value) (base : Heap) : Prop where
 kin : K.In base
 glob : base.Ns mainGlobals mg
 blt : ∃ mb, base.Ns builtinsNs mb ∧ ∀ x : Str, x ≠ "__name__" → mb x = bootBuiltins x
 nolimit : base.NoLimit
set_option genInjectivity false in
set_option genInjectivity false in
structure Cx where
 prog : Program
 w : World
 K : Fg
 mg : Str → Option Value
 base : Heap
 A : Around
 N : List Str
 s₀ : Shared
 H₀ : Hp
 env : Env
 outer : List Env
 stack : List Env
 ex : List Addr
 fn : Str → Bool
 calm : Bool
 pn : List (Addr × Obj)
 xe : Value → Shared → Prop
def frs (l : List Env) : List Addr := l.filterMap (·.frame)
abbrev Cx.fs (X : Cx) : List Addr := frs X.outer
def Vis (sc : Scope) (x : Str) : Prop := sc.names.lookup x = some .local ∨ sc.names.lookup x = some .cell ∨ sc.names.lookup x = some .free
def Loc (sc : Scope) (x : Str) : Prop := sc.names.lookup x = some .local ∨ sc.names.lookup x = some .cell
def Look (env : Env) (h : Heap) (m : Str → Option Value) (x : Str) (u : Value) : Prop :=
 (env.kindOf x = some .local ∧ m x = some u) ∨ ((env.kindOf x = some .cell ∨ env.kindOf x = some .free) ∧ ∃ c, env.cells.lookup x = some c ∧ h.IsCell c (some u))
structure Cx.Ok (X : Cx) : Prop where
 mod : Mod X.K X.mg X.base
 kind : X.env.scope.kind = .function
 glob : X.env.globals = mainGlobals
 blt : X.env.builtins = builtinsNs
 above : X.s₀.heap.objs.size ≤ X.env.locals
 inj : ∀ x y c, X.env.cells.lookup x = some c → X.env.cells.lookup y = some c → x = y
 has : ∀ x, (X.env.kindOf x = some .cell ∨ X.env.kindOf x = some .free) → ∃ c, X.env.cells.lookup x = some c
 cab : ∀ x c, X.fn x = true → X.env.cells.lookup x = some c → X.s₀.heap.objs.size ≤ c
 hd : X.calm = true → X.A.handled = none
 frames : X.A.frames = some X.stack
 stk : X.stack = X.outer ∨ (X.stack = X.env :: X.outer ∧ X.env.frame = some X.env.locals)
 exf : ∀ b ∈ X.ex, b ≠ X.env.locals ∧ ∀ x c, X.env.cells.lookup x = some c → c ≠ b
 bs : ∀ b o, X.base.get? b = some o → X.s₀.heap.get? b = some o ∧ X.H₀ b = none
 bsz : X.base.objs.size ≤ X.s₀.heap.objs.size
 noex : ∀ b o, X.base.get? b = some o → b ∉ X.ex
 exfs : ∀ b ∈ X.ex, b ∉ X.fs
 funs : X.s₀.heap.FunFrames X.base X.outer
 frf : ∀ b ∈ X.fs, X.H₀ b = none
structure Inv (X : Cx) (pins : List (Addr × Obj)) (σ : List (Option V)) (H : Hp) (s : Shared) : Prop where
 ok : X.Ok
 os : s.os = X.s₀.os
 bare : AllBare s.gens
 base : Un X.fs X.ex X.H₀ H X.s₀.heap s.heap
 loc : ∃ m, s.heap.Ns X.env.locals m ∧ ∀ (i : Nat) (x : Str) (v : V), X.N[i]? = some x → σ[i]? = some (some v) → Vis X.env.scope x → ∃ u, RelV v u ∧ Look X.env s.heap m x u
 cell : ∀ x c, X.env.cells.lookup x = some c → ∃ v, s.heap.IsCell c v
 free : H X.env.locals = none
 freeC : ∀ x c, X.env.cells.lookup x = some c → H c = none
 pin : ∀ p ∈ X.pn ++ pins, s.heap.get? p.1 = some p.2 ∧ H p.1 = none ∧ p.1 ≠ X.env.locals ∧ p.1 ∉ X.fs ∧ ∀ v, p.2.data ≠ .cell v
 hok : HOk X.prog X.w H s.heap
 len : σ.length = X.N.length
section
variable {X : Cx} {pins : List (Addr × Obj)} {σ : List (Option V)} {H H' : Hp} {s : Shared} {h' : Heap}
theorem Cx.Ok.nofr (ok : X.Ok) {b : Addr} {o : Obj} (e : X.base.get? b = some o) : b ∉ X.fs := fun hb => by
 have := (ok.funs.mem hb).1
 rw [e] at this; cases this
theorem Inv.bs (I : Inv X pins σ H s) : ∀ b o, X.base.get? b = some o → s.heap.get? b = some o ∧ H b = none := fun b o e =>
 ⟨I.base.keep b o (I.ok.bs b o e).1 (I.ok.bs b o e).2 (I.ok.nofr e) (I.ok.noex b o e), I.base.free b o (I.ok.bs b o e).1 (I.ok.bs b o e).2 (I.ok.noex b o e)⟩
theorem Inv.bk (I : Inv X pins σ H s) : ∀ b o, X.base.get? b = some o → s.heap.get? b = some o := fun b o e => (I.bs b o e).1
theorem Inv.mod (I : Inv X pins σ H s) : Mod X.K X.mg X.base := I.ok.mod
theorem Inv.kIn (I : Inv X pins σ H s) : X.K.In s.heap := I.ok.mod.kin.keeps I.bk
theorem Inv.lt (I : Inv X pins σ H s) : X.env.locals < s.heap.objs.size := by obtain ⟨_, hn, _⟩ := I.loc; exact hn.lt
theorem Inv.sz (I : Inv X pins σ H s) : X.s₀.heap.objs.size ≤ s.heap.objs.size := jQe I.ok.above (kQf I.lt)
theorem Inv.nofs (I : Inv X pins σ H s) {a : Addr} (h : s.heap.objs.size ≤ a) : a ∉ X.fs := fun hb => by
 obtain ⟨_, o, ho, _⟩ := I.ok.funs.mem hb
 exact absurd (yY (kJ ho) (jQe I.sz h)) (jJc _)
theorem Inv.cne (I : Inv X pins σ H s) : ∀ x c, X.env.cells.lookup x = some c → c ≠ X.env.locals := fun x c e z => by
 obtain ⟨v, o, ho, hd⟩ := I.cell x c e
 obtain ⟨m, ⟨o', es, ep, ho', hd', _⟩, _⟩ := I.loc
 rw [z, ho'] at ho; cases ho; rw [hd'] at hd; cases hd
theorem Inv.funs (I : Inv X pins σ H s) : s.heap.FunFrames X.base X.outer := by
 have all : ∀ (l : List Env), (∀ b ∈ frs l, b ∈ X.fs) → X.s₀.heap.FunFrames X.base l → s.heap.FunFrames X.base l := by
  intro l
  induction l with
  | nil => intro _ _; trivial
  | cons env r ih =>
   intro hs hl
   obtain ⟨hk, ⟨L, o, hf, hn, ho, hd⟩, hr⟩ := hl
   have hL : L ∈ X.fs := hs L (by unfold frs; rw [kZc, hf]; exact xZ)
   obtain ⟨sl, e⟩ := I.base.slot L o ho (I.ok.frf L hL) hL fun z => I.ok.exfs L z hL
   exact ⟨hk, ⟨L, _, hf, hn, e, hd⟩, ih (fun b hb => hs b (by unfold frs; rw [kZc, hf]; exact zY _ hb)) hr⟩
 exact all X.outer (fun _ hb => hb) I.ok.funs
theorem Inv.stack (I : Inv X pins σ H s) : s.heap.FunFrames X.base X.stack := by
 rcases I.ok.stk with e | ⟨e, hf⟩
 ·rw [e]; exact I.funs
 ·rw [e]
  obtain ⟨m, hn, _⟩ := I.loc
  refine .cons (by rw [I.ok.kind]; decide) hf hn ?_ I.funs
  exact Heap.get?_none_of_le (jQe I.ok.bsz I.ok.above)
theorem Inv.stkSub (I : Inv X pins σ H s) : ∀ b ∈ frs X.stack, b ∈ X.env.locals :: X.fs := fun b hb => by
 rcases I.ok.stk with e | ⟨e, hf⟩
 ·rw [e] at hb; exact zY _ hb
 ·rw [e] at hb
  unfold frs at hb
  rw [kZc, hf] at hb
  exact hb
theorem Inv.stkFree (I : Inv X pins σ H s) : ∀ b ∈ frs X.stack, H b = none := fun b hb => by
 rcases wY.mp (I.stkSub b hb) with e | hb
 ·rw [e]; exact I.free
 ·obtain ⟨_, o, ho, _⟩ := I.ok.funs.mem hb
  exact I.base.free b o ho (I.ok.frf b hb) fun z => I.ok.exfs b z hb
theorem Inv.step {g' : Array GenState} {t' : Nat} {d' : Drawn} {ch : List Addr} (I : Inv X pins σ H s)
  (hch : ∀ b ∈ ch, (b ∈ X.ex ∨ X.s₀.heap.objs.size ≤ b) ∧ b ≠ X.env.locals ∧ (∀ x c, X.env.cells.lookup x = some c → c ≠ b) ∧ ∀ p ∈ X.pn ++ pins, p.1 ≠ b)
  (keep : ∀ b o, b ≠ X.env.locals → b ∉ X.fs → b ∉ ch → s.heap.get? b = some o → H b = none → h'.get? b = some o)
  (slot : ∀ b o, b ≠ X.env.locals → b ∈ X.fs → b ∉ ch → s.heap.get? b = some o → H b = none → ∃ sl, h'.get? b = some { o with slots := sl }) (free : ∀ b o, b ∉ ch → s.heap.get? b = some o → H b = none → H' b = none)
  (there : ∀ b o, b ∉ ch → s.heap.get? b = some o → ∃ o', h'.get? b = some o')
  (tups : ∀ b xs, H b = some (.tup xs) → H' b = some (.tup xs)) (frzs : ∀ b o u, H b = some (.frz o u) → H' b = some (.frz o u)) (tbls : ∀ b ps, H b = some (.tbl ps) → ∃ more, H' b = some (.tbl (ps ++ more)))
  (ns : ∀ m, s.heap.Ns X.env.locals m → h'.Ns X.env.locals m) (hok : HOk X.prog X.w H' h') (hg : AllBare g') :
  Inv X pins σ H' { s with heap := h', gens := g', drawn := d', toks := t' } := by
 have neL : ∀ b o, X.s₀.heap.get? b = some o → b ≠ X.env.locals := fun b o e => zV (yY (kJ e) I.ok.above)
 have neC : ∀ b o, X.s₀.heap.get? b = some o → b ∉ X.ex → b ∉ ch := fun b o e hx hb => by
  rcases (hch b hb).1 with z | z
  ·exact hx z
  ·exact absurd (yY (kJ e) z) (jJc _)
 have cellK : ∀ x c, X.env.cells.lookup x = some c → ∀ v, s.heap.IsCell c v → h'.IsCell c v := fun x c e v ⟨o, ho, hd⟩ => by
  have nch : c ∉ ch := fun z => (hch c z).2.2.1 x c e rfl
  by_cases hc : c ∈ X.fs
  ·obtain ⟨sl, q⟩ := slot c o (I.cne x c e) hc nch ho (I.freeC x c e)
   exact ⟨_, q, hd⟩
  ·exact ⟨o, keep c o (I.cne x c e) hc nch ho (I.freeC x c e), hd⟩
 refine ⟨I.ok, I.os, hg, ⟨fun b o e n hb hx => ?_, fun b o e n hb hx => ?_, fun b o e n hx => ?_, fun b o e hx => ?_, fun b xs e => tups b xs (I.base.tups b xs e), fun b o xs e => frzs b o xs (I.base.frzs b o xs e), fun b ps e => ?_⟩, ?_, fun x c e => ?_, ?_, fun x c e => ?_, fun p hp => ?_, hok, I.len⟩
 ·exact keep b o (neL b o e) hb (neC b o e hx) (I.base.keep b o e n hb hx) (I.base.free b o e n hx)
 ·obtain ⟨sl, e1⟩ := I.base.slot b o e n hb hx
  obtain ⟨sl', e2⟩ := slot b _ (neL b o e) hb (neC b o e hx) e1 (I.base.free b o e n hx)
  exact ⟨sl', e2⟩
 ·obtain ⟨o', e1⟩ := I.base.there b o e hx
  exact free b o' (neC b o e hx) e1 (I.base.free b o e n hx)
 ·obtain ⟨o', e1⟩ := I.base.there b o e hx
  exact there b o' (neC b o e hx) e1
 ·obtain ⟨m1, e1⟩ := I.base.tbls b ps e
  obtain ⟨m2, e2⟩ := tbls b _ e1
  exact ⟨m1 ++ m2, by rw [e2, Array.append_assoc]⟩
 ·obtain ⟨m, hn, hl⟩ := I.loc
  refine ⟨m, ns m hn, fun i x v e1 e2 e3 => ?_⟩
  obtain ⟨u, r, l⟩ := hl i x v e1 e2 e3
  refine ⟨u, r, ?_⟩
  rcases l with l | ⟨k, c, e, z⟩
  ·exact .inl l
  ·exact .inr ⟨k, c, e, cellK x c e _ z⟩
 ·obtain ⟨v, z⟩ := I.cell x c e
  exact ⟨v, cellK x c e v z⟩
 ·obtain ⟨m, ⟨o, _, _, ho, _⟩, _⟩ := I.loc
  exact free _ o (fun z => (hch _ z).2.1 rfl) ho I.free
 ·obtain ⟨v, o, ho, hd⟩ := I.cell x c e
  exact free c o (fun z => (hch c z).2.2.1 x c e rfl) ho (I.freeC x c e)
 ·obtain ⟨e, n, ne, nf, d⟩ := I.pin p hp
  have nch : p.1 ∉ ch := fun z => (hch p.1 z).2.2.2 p hp rfl
  exact ⟨keep p.1 p.2 ne nf nch e n, free p.1 p.2 nch e n, ne, nf, d⟩
theorem Inv.un {t' : Nat} (I : Inv X pins σ H s) (u : Un X.fs [] H H' s.heap h') (hok : HOk X.prog X.w H' h') : Inv X pins σ H' { s with heap := h', toks := t' } := by
 obtain ⟨m, ⟨o, es, ep, ho, r⟩, _⟩ := id I.loc
 obtain ⟨sl, hL⟩ := u.any ho I.free (by simp)
 exact I.step (g' := s.gens) (d' := s.drawn) (ch := []) (fun _ z => nomatch z) (fun b o _ hb _ e n => u.keep b o e n hb (by simp)) (fun b o _ hb _ e n => u.slot b o e n hb (by simp)) (fun b o _ e n => u.free b o e n (by simp)) (fun b o _ e => u.there b o e (by simp)) u.tups u.frzs u.tbls (fun m' hm => by
  obtain ⟨o', es', ep', ho', r'⟩ := hm
  rw [ho] at ho'; cases ho'
  exact ⟨_, es', ep', hL, r'⟩) hok I.bare
theorem Inv.call {g' : Array GenState} {t' : Nat} {d' : Drawn} {ch : List Addr} (I : Inv X pins σ H s) (u : Un (frs X.stack) ch H H' s.heap h') (hok : HOk X.prog X.w H' h') (hg : AllBare g')
  (hch : ∀ b ∈ ch, (b ∈ X.ex ∨ X.s₀.heap.objs.size ≤ b) ∧ b ≠ X.env.locals ∧ (∀ x c, X.env.cells.lookup x = some c → c ≠ b) ∧ ∀ p ∈ X.pn ++ pins, p.1 ≠ b) :
  Inv X pins σ H' { s with heap := h', gens := g', drawn := d', toks := t' } := by
 obtain ⟨m, ⟨o, es, ep, ho, r⟩, _⟩ := id I.loc
 obtain ⟨sl, hL⟩ := u.any ho I.free fun z => (hch _ z).2.1 rfl
 exact I.step (ch := ch) hch (fun b o hL hb hc e n => u.keep b o e n (fun z => (wY.mp (I.stkSub b z)).elim hL hb) hc) (fun b o _ _ hc e n => u.any e n hc) (fun b o hc e n => u.free b o e n hc) (fun b o hc e => u.there b o e hc) u.tups u.frzs u.tbls (fun m' hm => by
  obtain ⟨o', es', ep', ho', r'⟩ := hm
  rw [ho] at ho'; cases ho'
  exact ⟨_, es', ep', hL, r'⟩) hok hg
theorem Inv.turned {t' : Nat} {it : Addr} (I : Inv X pins σ H s) (k : ∀ b o, b ≠ it → s.heap.get? b = some o → h'.get? b = some o) (hn : H it = none) (hL : it ≠ X.env.locals)
  (h1 : it ∈ X.ex ∨ X.s₀.heap.objs.size ≤ it) (h2 : ∀ x c, X.env.cells.lookup x = some c → c ≠ it) (h3 : ∀ p ∈ X.pn ++ pins, p.1 ≠ it) : Inv X pins σ H { s with heap := h', toks := t' } := by
 have nit : ∀ b u, H b = some u → b ≠ it := fun b u e z => by rw [z, hn] at e; cases e
 refine I.step (g' := s.gens) (d' := s.drawn) (ch := [it]) (fun b hb => ?_) (fun b o _ _ hc e _ => k b o (fun z => hc (by simp [z])) e) (fun b o _ _ hc e _ => ⟨o.slots, k b o (fun z => hc (by simp [z])) e⟩) (fun _ _ _ _ n => n)
  (fun b o hc e => ⟨o, k b o (fun z => hc (by simp [z])) e⟩) (fun _ _ e => e) (fun _ _ _ e => e) (fun b ps e => ⟨#[], by rw [e]; simp⟩) (fun m hm => ?_) (fun b u e => ?_) I.bare
 ·have e : b = it := by simpa using hb
  subst e
  exact ⟨h1, hL, h2, h3⟩
 ·obtain ⟨o, es, ep, ho, r⟩ := hm
  exact ⟨o, es, ep, k _ o (Ne.symm hL) ho, r⟩
 ·refine (I.hok b u e).stay (fun c v hc q => k c v ?_ q) (fun _ q => q) fun _ _ q => q
  rcases hc with z | z
  ·rw [z]; exact nit b u e
  ·exact nit c _ z
theorem Inv.tok (I : Inv X pins σ H s) (t : Nat) : Inv X pins σ H { s with toks := t } := I.un (h' := s.heap) (t' := t) Un.refl I.hok
theorem Inv.kept {t' : Nat} (I : Inv X pins σ H s) (k : ∀ b u, s.heap.get? b = some u → h'.get? b = some u) : Inv X pins σ H { s with heap := h', toks := t' } := I.un (Un.kept k) (I.hok.kept k)
theorem Inv.laid {a : Addr} {o : HO} {t' : Nat} (I : Inv X pins σ H s) (k : ∀ b u, s.heap.get? b = some u → h'.get? b = some u) (hp : s.heap.objs.size ≤ a) (new : ObjOk X.prog X.w (upd H a o) h' a o) :
  Inv X pins σ (upd H a o) { s with heap := h', toks := t' } := I.un (Un.laid k hp (I.hok.fresh hp)) (I.hok.laid k hp new)
theorem Inv.write {x e : Addr} {o : HO} {t' : Nat} (I : Inv X pins σ H s) (mu : Mut (H x)) (he : e = x ∨ H e = some (.own x)) (k : ∀ b u, b ≠ e → s.heap.get? b = some u → h'.get? b = some u) (heo : ∃ u, h'.get? e = some u)
  (new : ObjOk X.prog X.w (upd H x o) h' x o) : Inv X pins σ (upd H x o) { s with heap := h', toks := t' } := I.un (Un.write mu he k heo) (I.hok.write mu he k heo new)
theorem Inv.pins_of {pins' : List (Addr × Obj)} (I : Inv X pins σ H s) (h : ∀ p ∈ pins', s.heap.get? p.1 = some p.2 ∧ H p.1 = none ∧ p.1 ≠ X.env.locals ∧ p.1 ∉ X.fs ∧ ∀ v, p.2.data ≠ .cell v) : Inv X pins' σ H s :=
 ⟨I.ok, I.os, I.bare, I.base, I.loc, I.cell, I.free, I.freeC, fun p hp => (yQ.mp hp).elim (fun z => I.pin p (jKe _ z)) (h p), I.hok, I.len⟩
theorem nodup_ix {N : List Str} (hN : N.Nodup) {i j : Nat} {x : Str} (a : N[i]? = some x) (b : N[j]? = some x) : i = j := by
 obtain ⟨h1, e1⟩ := kQ.mp a
 obtain ⟨h2, e2⟩ := kQ.mp b
 exact (List.getElem_inj hN).mp (e1.trans e2.symm)
theorem store_ok2 {M : Model} {A : Around} {E : Value → Shared → Prop} {i : Nat} {x : Str} {v : V} {u : Value} {Q : Unit → Shared → Prop} (I : Inv X pins σ H s) (hN : X.N.Nodup) (hi : X.N[i]? = some x) (hx : Loc X.env.scope x) (r : RelV v u)
  (h : ∀ s', Inv X pins (σ.set i (some v)) H s' → (∃ a, Heap.SameBut a s.heap s'.heap ∧ (a = X.env.locals ∨ X.env.cells.lookup x = some a)) → Q () s') (hf : autoParam (X.fn x = true ∨ X.env.scope.names.lookup x = some .local) L2.aFst._auto_1) : wpAny M A (storeName X.env x u) Q E s := by
 obtain ⟨m, hn, hl⟩ := id I.loc
 have hcls : (X.env.scope.kind == .class || (X.env.scope.kind == .module && X.env.locals != X.env.globals)) = false := by rw [I.ok.kind]; rfl
 have hiσ : i < σ.length := by rw [I.len]; exact (kQ.mp hi).1
 have cne := I.cne
 have tracked : ∀ {a : Addr} {h' : Heap}, (∃ o, s.heap.get? a = some o ∧ H a = none) → Heap.SameBut a s.heap h' → HOk X.prog X.w H h' := fun {a h'} ha hs b ob e => by
  obtain ⟨_, _, hfree⟩ := ha
  refine (I.hok b ob e).stay (fun c w' hc q => (hs.2 c ?_).trans q) (fun _ q => q) fun _ _ q => q
  rintro rfl
  rcases hc with rfl | hc
  ·rw [hfree] at e; cases e
  ·rw [hfree] at hc; cases hc
 rcases hx with hk | hk
 ·refine wpAny_storeName_local hk hn (fun h' hn' hs => ?_) hcls
  obtain ⟨oL, _, _, hoL, _⟩ := id hn
  refine h _ ⟨I.ok, I.os, I.bare, ⟨fun b o e n hb hx => ?_, fun b o e n hb hx => ?_, I.base.free, fun b o e hx => ?_, I.base.tups, I.base.frzs, I.base.tbls⟩, ⟨_, hn', fun j y v' e1 e2 e3 => ?_⟩, fun y c e => ?_, I.free, I.freeC, fun p hp => ?_, tracked ⟨oL, hoL, I.free⟩ hs, by simpa using I.len⟩ ⟨_, hs, .inl rfl⟩
  ·exact (hs.2 b (zV (yY (kJ e) I.ok.above))).trans (I.base.keep b o e n hb hx)
  ·obtain ⟨sl, e1⟩ := I.base.slot b o e n hb hx
   exact ⟨sl, (hs.2 b (zV (yY (kJ e) I.ok.above))).trans e1⟩
  ·obtain ⟨o', e1⟩ := I.base.there b o e hx
   exact ⟨o', (hs.2 b (zV (yY (kJ e) I.ok.above))).trans e1⟩
  ·by_cases hj : j = i
   ·subst hj
    rw [hi] at e1; cases e1
    rw [List.getElem?_set_self hiσ] at e2
    cases e2
    exact ⟨u, r, .inl ⟨hk, by simp⟩⟩
   ·rw [List.getElem?_set_ne (Ne.symm hj)] at e2
    obtain ⟨u', r', q⟩ := hl j y v' e1 e2 e3
    refine ⟨u', r', ?_⟩
    rcases q with ⟨k, e⟩ | ⟨k, c, e, z⟩
    ·refine .inl ⟨k, ?_⟩
     have : y ≠ x := fun e => hj (nodup_ix hN e1 (e ▸ hi))
     simp [this, e]
    ·exact .inr ⟨k, c, e, z.sameBut hs (cne y c e)⟩
  ·obtain ⟨w', z⟩ := I.cell y c e
   exact ⟨w', z.sameBut hs (cne y c e)⟩
  ·obtain ⟨e, n, ne, nf, d⟩ := I.pin p hp
   exact ⟨(hs.2 p.1 ne).trans e, n, ne, nf, d⟩
 ·have hfn : X.fn x = true := by
   rcases hf with z | z
   ·exact z
   ·rw [z] at hk; cases hk
  obtain ⟨c, hc⟩ := I.ok.has x (.inl hk)
  obtain ⟨w', z⟩ := I.cell x c hc
  refine wpAny_storeName_cell I.ok.kind hk hc z (fun h' hc' hs => ?_)
  obtain ⟨oc, hoc, hocd⟩ := id z
  refine h { s with heap := h' } ⟨I.ok, I.os, I.bare, ⟨fun b o e n hb hx => ?_, fun b o e n hb hx => ?_, I.base.free, fun b o e hx => ?_, I.base.tups, I.base.frzs, I.base.tbls⟩, ⟨m, hn.sameBut hs (Ne.symm (cne x c hc)), fun j y v' e1 e2 e3 => ?_⟩, fun y c' e => ?_, I.free, I.freeC, fun p hp => ?_, tracked ⟨oc, hoc, I.freeC x c hc⟩ hs, by simpa using I.len⟩ ⟨c, hs, .inr hc⟩
  ·exact (hs.2 b (zV (yY (kJ e) (I.ok.cab x c hfn hc)))).trans (I.base.keep b o e n hb hx)
  ·obtain ⟨sl, e1⟩ := I.base.slot b o e n hb hx
   exact ⟨sl, (hs.2 b (zV (yY (kJ e) (I.ok.cab x c hfn hc)))).trans e1⟩
  ·obtain ⟨o', e1⟩ := I.base.there b o e hx
   exact ⟨o', (hs.2 b (zV (yY (kJ e) (I.ok.cab x c hfn hc)))).trans e1⟩
  ·by_cases hj : j = i
   ·subst hj
    rw [hi] at e1; cases e1
    rw [List.getElem?_set_self hiσ] at e2
    cases e2
    exact ⟨u, r, .inr ⟨.inl hk, c, hc, hc'⟩⟩
   ·rw [List.getElem?_set_ne (Ne.symm hj)] at e2
    obtain ⟨u', r', q⟩ := hl j y v' e1 e2 e3
    refine ⟨u', r', ?_⟩
    rcases q with q | ⟨k, c', e, z'⟩
    ·exact .inl q
    ·refine .inr ⟨k, c', e, z'.sameBut hs ?_⟩
     rintro rfl
     exact hj (nodup_ix hN e1 (I.ok.inj _ _ _ e hc ▸ hi))
  ·by_cases hcc : c' = c
   ·subst hcc; exact ⟨_, hc'⟩
   ·obtain ⟨w2, z2⟩ := I.cell y c' e
    exact ⟨w2, z2.sameBut hs hcc⟩
  ·obtain ⟨e, n, ne, nf, d⟩ := I.pin p hp
   refine ⟨(hs.2 p.1 ?_).trans e, n, ne, nf, d⟩
   intro q
   rw [q, hoc] at e
   have q' : oc = p.2 := Option.some.inj e
   exact d w' (by rw [← q']; exact hocd)
theorem store_ok {M : Model} {A : Around} {E : Value → Shared → Prop} {i : Nat} {x : Str} {v : V} {u : Value} {Q : Unit → Shared → Prop} (I : Inv X pins σ H s) (hN : X.N.Nodup) (hi : X.N[i]? = some x) (hx : Loc X.env.scope x) (r : RelV v u)
  (h : ∀ s', Inv X pins (σ.set i (some v)) H s' → Q () s') (hf : autoParam (X.fn x = true ∨ X.env.scope.names.lookup x = some .local) L2.aFst._auto_1) : wpAny M A (storeName X.env x u) Q E s :=
 store_ok2 I hN hi hx r (fun s' I' _ => h s' I') hf
theorem Inv.call' {s' : Shared} {ch : List Addr} (I : Inv X pins σ H s) (ho : s'.os = s.os) (u : Un (frs X.stack) ch H H' s.heap s'.heap) (hok : HOk X.prog X.w H' s'.heap) (hg : AllBare s'.gens)
  (hch : ∀ b ∈ ch, (b ∈ X.ex ∨ X.s₀.heap.objs.size ≤ b) ∧ b ≠ X.env.locals ∧ (∀ x c, X.env.cells.lookup x = some c → c ≠ b) ∧ ∀ p ∈ X.pn ++ pins, p.1 ≠ b) : Inv X pins σ H' s' := by
 obtain ⟨h', g', d', t', o'⟩ := s'
 have e : o' = s.os := ho
 subst e
 exact I.call (g' := g') (t' := t') (d' := d') u hok hg hch
end
abbrev XK := Value → Option Addr → Hp → Prop
abbrev St := List (Option V)
abbrev VK := V → Hp → Prop
abbrev TE := St → Hp → VK → Prop
abbrev TT := St → Hp → (Bool → Hp → Prop) → Prop
abbrev TA := St → Hp → (List V → Hp → Prop) → Prop
set_option genInjectivity false in
set_option genInjectivity false in
structure Ends where
 nx : St → Hp → Prop
 rt : VK
 bk : St → Hp → Prop := fun _ _ => False
 ct : St → Hp → Prop := fun _ _ => False
abbrev TS := Ends → St → Hp → Prop
def EP (X : Cx) (pins : List (Addr × Obj)) (σ : St) (Q : VK) (u : Value) (s' : Shared) : Prop := ∃ v H', Inv X pins σ H' s' ∧ RelV v u ∧ Q v H'
def TP (X : Cx) (pins : List (Addr × Obj)) (σ : St) (Q : Bool → Hp → Prop) (b : Bool) (s' : Shared) : Prop := ∃ H', Inv X pins σ H' s' ∧ Q b H'
def AP (X : Cx) (pins : List (Addr × Obj)) (σ : St) (Q : List V → Hp → Prop) (us : List Value) (s' : Shared) : Prop := ∃ vs H', Inv X pins σ H' s' ∧ Vals vs us ∧ Q vs H'
def SP (X : Cx) (pins : List (Addr × Obj)) (D : Ends) (f : Flow) (s' : Shared) : Prop :=
 match f with
 | .next => ∃ σ' H', Inv X pins σ' H' s' ∧ D.nx σ' H'
 | .brk => ∃ σ' H', Inv X pins σ' H' s' ∧ D.bk σ' H'
 | .cont => ∃ σ' H', Inv X pins σ' H' s' ∧ D.ct σ' H'
 | .ret u => ∃ v σ' H', Inv X pins σ' H' s' ∧ RelV v u ∧ D.rt v H'
def PE (X : Cx) (e : Expr) (t : TE) : Prop :=
 ∀ (pins : List (Addr × Obj)) (s : Shared) (σ : St) (H : Hp) (Q : VK), Inv X pins σ H s → t σ H Q → wpAny (model X.prog X.w) X.A (eval e X.env) (EP X pins σ Q) X.xe s
def PT (X : Cx) (e : Expr) (t : TT) : Prop :=
 ∀ (pins : List (Addr × Obj)) (s : Shared) (σ : St) (H : Hp) (Q : Bool → Hp → Prop), Inv X pins σ H s → t σ H Q → wpAny (model X.prog X.w) X.A (isTrue e X.env (eval e X.env)) (TP X pins σ Q) X.xe s
def PW (X : Cx) (e : Expr) (t : TT) : Prop :=
 ∀ (whole : Sem Value) (pins : List (Addr × Obj)) (s : Shared) (σ : St) (H : Hp) (Q : Bool → Hp → Prop), Inv X pins σ H s → t σ H Q → wpAny (model X.prog X.w) X.A (isTrue e X.env whole) (TP X pins σ Q) X.xe s
theorem PW.pt {X : Cx} {e : Expr} {t : TT} (h : PW X e t) : PT X e t := h _
def PA (X : Cx) (es : List Expr) (t : TA) : Prop :=
 ∀ (pos : Pos) (pins : List (Addr × Obj)) (s : Shared) (σ : St) (H : Hp) (Q : List V → Hp → Prop), Inv X pins σ H s → t σ H Q → wpAny (model X.prog X.w) X.A (spliced (backTo pos (starEach es X.env))) (AP X pins σ Q) X.xe s
def PS (X : Cx) (st : Stmt) (t : TS) : Prop :=
 ∀ (pins : List (Addr × Obj)) (s : Shared) (σ : St) (H : Hp) (D : Ends), Inv X pins σ H s → t D σ H → wpAny (model X.prog X.w) X.A (exec st X.env) (SP X pins D) X.xe s
def PSs (X : Cx) (st : List Stmt) (t : TS) : Prop :=
 ∀ (pins : List (Addr × Obj)) (s : Shared) (σ : St) (H : Hp) (D : Ends), Inv X pins σ H s → t D σ H → wpAny (model X.prog X.w) X.A (execs st X.env) (SP X pins D) X.xe s
theorem thn {α : Type} {t : Sem α} {Q Q' : α → Shared → Prop} {M : Model} {A : Around} {E : Value → Shared → Prop} {s : Shared} (h : wpAny M A t Q E s) (hQ : ∀ a s, Q a s → Q' a s) : wpAny M A t Q' E s := wpAny_mono h hQ fun _ _ x => x
section
variable {X : Cx}
def tVar (i : Nat) : TE := fun σ H Q => ∃ v, σ[i]? = some (some v) ∧ Q v H
def tC (v : V) : TE := fun _ H Q => Q v H
theorem pe_var {i : Nat} {x : Str} {pos : Pos} (hN : X.N[i]? = some x) (hv : Vis X.env.scope x) (hd : autoParam ((x == ("__debug__" : Str)) = false) L2.aDec._auto_1) (hcd : autoParam ((x == ("__classdict__" : Str)) = false) L2.aDec._auto_1) : PE X (.Name x pos) (tVar i) := by
 intro pins s σ H Q I h
 obtain ⟨v, e, h⟩ := h
 obtain ⟨m, hn, hl⟩ := I.loc
 obtain ⟨u, r, l⟩ := hl i x v hN e hv
 have fin : EP X pins σ Q u s := ⟨v, H, I, r, h⟩
 rcases l with ⟨hk, hm⟩ | ⟨hk, c, hc, hcell⟩
 ·exact wpAny_Name (wpAny_loadName_local I.ok.kind hk hn hm fin) hd
 ·rcases hk with hk | hk
  ·exact wpAny_Name (wpAny_loadName_cell I.ok.kind hk hc hcell fin) hd
  ·exact wpAny_Name (wpAny_loadName_free I.ok.kind hk hc hcell fin hcd) hd
theorem pe_int {i j pos} : PE X (.Constant (.int i) j pos) (tC (.int i)) := fun _ _ _ H _ I h => wpAny_Constant_int ⟨.int i, H, I.tok _, ⟨_, rfl⟩, h⟩
theorem pe_bl {b j pos} : PE X (.Constant (.bool b) j pos) (tC (.bl b)) := fun _ _ _ H _ I h => Constant_bool ⟨.bl b, H, I, rfl, h⟩
theorem pe_non {j pos} : PE X (.Constant .none j pos) (tC .non) := fun _ _ _ H _ I h => Constant_none ⟨.non, H, I, rfl, h⟩
theorem pe_str {x j pos} : PE X (.Constant (.str x) j pos) (tC (.str x)) := fun _ _ _ H _ I h => Calls.Constant_str ⟨.str x, H, I.tok _, ⟨_, rfl⟩, h⟩
def Gl (X : Cx) (x : Str) : Prop := X.env.kindOf x = some .globalImplicit
theorem ld_glob {E : Value → Shared → Prop} {pins : List (Addr × Obj)} {s : Shared} {σ : St} {H : Hp} {x : Str} {u : Value} {pos : Pos} {Q : Value → Shared → Prop} (I : Inv X pins σ H s) (hg : Gl X x) (hm : X.mg x = some u) (h : Q u s)
  (hd : autoParam ((x == ("__debug__" : Str)) = false) L2.aDec._auto_1) : wpAny (model X.prog X.w) X.A (eval (.Name x pos) X.env) Q E s :=
 Calls.Name_function_global I.ok.kind hg (Calls.loadGlobal_global (by rw [I.ok.glob]; exact I.mod.glob.keeps I.bk) hm h) hd
theorem ld_blt {E : Value → Shared → Prop} {pins : List (Addr × Obj)} {s : Shared} {σ : St} {H : Hp} {x : Str} {u : Value} {pos : Pos} {Q : Value → Shared → Prop} (I : Inv X pins σ H s) (hg : Gl X x) (hm : X.mg x = none) (hv : bootBuiltins x = some u) (h : Q u s)
  (hn : autoParam (x ≠ "__name__") L2.aDec._auto_1) (hd : autoParam ((x == ("__debug__" : Str)) = false) L2.aDec._auto_1) : wpAny (model X.prog X.w) X.A (eval (.Name x pos) X.env) Q E s := by
 obtain ⟨mb, h1, h2⟩ := I.mod.blt
 exact Calls.Name_function_global I.ok.kind hg (Calls.loadGlobal_builtin (by rw [I.ok.glob]; exact I.mod.glob.keeps I.bk) hm (by rw [I.ok.blt]; exact h1.keeps I.bk) ((h2 x hn).trans hv) h) hd
theorem pe_bltn {x : Str} {v : V} {u : Value} {pos : Pos} (hg : Gl X x) (hm : X.mg x = none) (hv : bootBuiltins x = some u) (r : RelV v u) (hn : autoParam (x ≠ "__name__") L2.aDec._auto_1) (hd : autoParam ((x == ("__debug__" : Str)) = false) L2.aDec._auto_1) : PE X (.Name x pos) (tC v) :=
 fun _ _ _ H _ I h => ld_blt I hg hm hv ⟨v, H, I, r, h⟩ hn hd
variable {a b : Expr} {ta tb : TE} {pos : Pos}
def PC (X : Cx) (op : CmpOp) (a b : Expr) (t : TE) : Prop :=
 ∀ (pins : List (Addr × Obj)) (s : Shared) (σ : St) (H : Hp) (Q : VK), Inv X pins σ H s → t σ H Q →
  wpAny (model X.prog X.w) X.A (eval a X.env) (fun v s₁ => wpAny (model X.prog X.w) X.A (eval b X.env) (fun u s₂ => wpAny (model X.prog X.w) X.A (compareOp op v u) (EP X pins σ Q) X.xe s₂) X.xe s₁) X.xe s
def tB (t : TE) : TT := fun σ H Q => t σ H fun x H1 => ∃ c, x = .bl c ∧ Q c H1
theorem pt_cmp {op : CmpOp} {t : TE} (h : PC X op a b t) (h1 : behindInMarks op b = false := by first | exact nobehind _ (by decide) (by decide) | rfl) : PT X (.Compare a [op] [b] pos) (tB t) := by
 intro pins s σ H Q I hw
 refine wpAny_isTrue_Compare1 (thn (h pins s σ H _ I hw) fun v s1 h1 => thn h1 fun u s2 h2 => thn h2 fun c s3 hqP => ?_) h1
 obtain ⟨x, H1, I1, r1, q1⟩ := hqP
 obtain ⟨d, rfl, q⟩ := q1
 cases r1
 exact wpAny_truthy_bool ⟨H1, I1, q⟩
theorem pt_val {e : Expr} {t : TE} (h : PE X e t) (he : autoParam (∀ whole, isTrue e X.env whole = (do let v ← whole; standAt e.pos; holding [v] (truthy v))) L2.aIrf._auto_1) : PT X e (tB t) := by
 intro pins s σ H Q I hw
 refine isTrue_plain (thn (h pins s σ H _ I hw) fun v s1 hqP => ?_) (he _)
 obtain ⟨x, H1, I1, r1, q1⟩ := hqP
 obtain ⟨d, rfl, q⟩ := q1
 cases r1
 exact wpAny_truthy_bool ⟨H1, I1, q⟩
variable {tA tB' : TT} {rest : List Expr}
def tAnd (t u : TT) : TT := fun σ H Q => t σ H fun c H1 => if c = true then u σ H1 Q else Q false H1
def tOr (t u : TT) : TT := fun σ H Q => t σ H fun c H1 => if c = true then Q true H1 else u σ H1 Q
def tNot (t : TT) : TT := fun σ H Q => t σ H fun c H1 => Q (!c) H1
theorem pw_and1 (ha : PT X a tA) : PW X (.BoolOp .And [a] pos) tA := by
 intro wh pins s σ H Q I h
 refine isTrue_and (thn (ha pins s σ H Q I h) fun c s1 e => ?_)
 cases c with
 | true => exact isTrue_and_nil e
 | false => exact e
theorem pw_or1 (ha : PT X a tA) : PW X (.BoolOp .Or [a] pos) tA := by
 intro wh pins s σ H Q I h
 refine isTrue_or (thn (ha pins s σ H Q I h) fun c s1 e => ?_)
 cases c with
 | false => exact isTrue_or_nil e
 | true => exact e
theorem pw_and (ha : PT X a tA) (hb : PW X (.BoolOp .And (b :: rest) pos) tB') : PW X (.BoolOp .And (a :: b :: rest) pos) (tAnd tA tB') := by
 intro wh pins s σ H Q I h
 refine isTrue_and (thn (ha pins s σ H _ I h) fun c s1 hqP => ?_)
 obtain ⟨H1, I1, q1⟩ := hqP
 cases c with
 | true => exact hb wh pins s1 σ H1 Q I1 q1
 | false => exact ⟨H1, I1, q1⟩
theorem pw_or (ha : PT X a tA) (hb : PW X (.BoolOp .Or (b :: rest) pos) tB') : PW X (.BoolOp .Or (a :: b :: rest) pos) (tOr tA tB') := by
 intro wh pins s σ H Q I h
 refine isTrue_or (thn (ha pins s σ H _ I h) fun c s1 hqP => ?_)
 obtain ⟨H1, I1, q1⟩ := hqP
 cases c with
 | true => exact ⟨H1, I1, q1⟩
 | false => exact hb wh pins s1 σ H1 Q I1 q1
theorem pt_not (ha : PT X a tA) : PT X (.UnaryOp .Not a pos) (tNot tA) := by
 intro pins s σ H Q I h
 exact isTrue_not (ha pins s σ H (fun c H1 => Q (!c) H1) I h)
def tAndV (ta tb : TE) : TE := fun σ H Q => ta σ H fun x H1 => ∃ c, x = .bl c ∧ if c = true then tb σ H1 Q else Q (.bl false) H1
def tNotV (ta : TE) : TE := fun σ H Q => ta σ H fun x H1 => ∃ c, x = .bl c ∧ Q (.bl (!c)) H1
theorem pe_one {op} {t : TE} (h : PE X a t) : PE X (.BoolOp op [a] pos) t := fun pins s σ H Q I hw => BoolOp_one (h pins s σ H Q I hw)
theorem pe_and (ha : PE X a ta) (hb : PE X (.BoolOp .And (b :: rest) pos) tb) : PE X (.BoolOp .And (a :: b :: rest) pos) (tAndV ta tb) := by
 intro pins s σ H Q I h
 refine BoolOp_and (thn (ha pins s σ H _ I h) fun v s1 hqP => ?_)
 obtain ⟨x, H1, I1, r1, q1⟩ := hqP
 obtain ⟨c, rfl, q1⟩ := q1
 cases r1
 refine wpAny_truthy_bool ?_
 cases c with
 | true => exact hb pins s1 σ H1 Q I1 q1
 | false => exact ⟨.bl false, H1, I1, rfl, q1⟩
theorem pe_not (ha : PE X a ta) : PE X (.UnaryOp .Not a pos) (tNotV ta) := by
 intro pins s σ H Q I h
 refine UnaryOp_ (thn (ha pins s σ H _ I h) fun v s1 hqP => ?_)
 obtain ⟨x, H1, I1, r1, q1⟩ := hqP
 obtain ⟨c, rfl, q1⟩ := q1
 cases r1
 exact not_of (wpAny_truthy_bool ⟨.bl (!c), H1, I1, rfl, q1⟩)
def tIf (t : TT) (ta tb : TE) : TE := fun σ H Q => t σ H fun c H1 => if c = true then ta σ H1 Q else tb σ H1 Q
theorem pe_ifExp {c : Expr} (hc : PT X c tA) (ha : PE X a ta) (hb : PE X b tb) : PE X (.IfExp c a b pos) (tIf tA ta tb) := by
 intro pins s σ H Q I h
 refine wpAny_IfExp (thn (hc pins s σ H _ I h) fun d s1 hqP => ?_)
 obtain ⟨H1, I1, q1⟩ := hqP
 cases d with
 | true => exact ha pins s1 σ H1 Q I1 q1
 | false => exact hb pins s1 σ H1 Q I1 q1
end
def SqL (K : Fg) (H : Hp) (a : Addr) (xs : List V) : Prop :=
 Rd H a (.lst xs) ∨
  ∃ (o : Obj) (its : Array Value) (n : Nat), K.lookup a = some o ∧ o.cls = .type "list" ∧ o.dict = none ∧ o.data = .seq its n ∧ its.size ≤ sizeLine ∧ Vals xs its.toList
def SqT (K : Fg) (H : Hp) (a : Addr) (xs : List V) : Prop :=
 Rd H a (.tup xs) ∨
  ∃ (o : Obj) (its : Array Value) (n : Nat), K.lookup a = some o ∧ o.cls = .type "tuple" ∧ o.data = .seq its n ∧ its.size ≤ sizeLine ∧ Vals xs its.toList
def absV : Value → Option V
 | .none => some .non
 | .bool b => some (.bl b)
 | .int i _ => some (.int i)
 | .str x _ => some (.str x)
 | .bytes b _ => some (.byt b)
 | .float b _ => some (.flt b)
 | .ref a => some (.ref a)
 | .type n => some (.ty n)
 | _ => none
theorem RelV.abs {x : V} {u : Value} (r : RelV x u) : absV u = some x := by
 cases x with
 | non => cases r; rfl
 | bl _ => cases r; rfl
 | int _ => obtain ⟨t, rfl⟩ := r; rfl
 | str _ => obtain ⟨t, rfl⟩ := r; rfl
 | byt _ => obtain ⟨t, rfl⟩ := r; rfl
 | flt _ => obtain ⟨t, rfl⟩ := r; rfl
 | ref _ => cases r; rfl
 | ty _ => cases r; rfl
theorem RelV.inj {x y : V} {u : Value} (r : RelV x u) (q : RelV y u) : x = y := Option.some.inj (r.abs.symm.trans q.abs)
theorem Vals.inj {xs ys : List V} {us : List Value} (h : Vals xs us) (g : Vals ys us) : xs = ys := by
 induction h generalizing ys with
 | nil => cases g; rfl
 | cons r t ih =>
  cases g with
  | cons r' t' => rw [r.inj r', ih t']
section
variable {X : Cx} {pins : List (Addr × Obj)} {σ : St} {H : Hp} {s : Shared} {a : Addr} {xs ys : List V}
theorem Inv.list (I : Inv X pins σ H s) (h : SqL X.K H a xs) : ∃ its : List Value, Vals xs its ∧ PlainL s.heap a its.toArray ∧ xs.length ≤ sizeLine := by
 rcases h with h | ⟨o, its, n, hk, hc, hd, hs, hz, r⟩
 ·obtain ⟨z, its, n, r, e⟩ := h.ok I.hok
  exact ⟨its, r, ⟨_, n, e, rfl, rfl, rfl⟩, z⟩
 ·refine ⟨its.toList, r, ⟨o, n, I.kIn a o hk, hc, hd, by simpa using hs⟩, ?_⟩
  have e := r.length
  simp only [xV] at e
  omega
theorem Inv.tuple (I : Inv X pins σ H s) (h : SqT X.K H a xs) : ∃ its : List Value, Vals xs its ∧ IsTup s.heap a its.toArray ∧ xs.length ≤ sizeLine := by
 rcases h with h | ⟨o, its, n, hk, hc, hs, hz, r⟩
 ·obtain ⟨z, its, r, p⟩ := h.ok I.hok
  exact ⟨its, r, p, z⟩
 ·refine ⟨its.toList, r, ⟨o, I.kIn a o hk, hc, n, by simpa using hs⟩, ?_⟩
  have e := r.length
  simp only [xV] at e
  omega
theorem Inv.list_inj (I : Inv X pins σ H s) (h : SqL X.K H a xs) (h' : SqL X.K H a ys) : xs = ys := by
 obtain ⟨its, r, ⟨o, n, e, _, _, d⟩, _⟩ := I.list h
 obtain ⟨its', r', ⟨o', n', e', _, _, d'⟩, _⟩ := I.list h'
 rw [e] at e'; cases e'
 rw [d] at d'
 injection d' with d1 _
 have : its = its' := by simpa using congrArg Array.toList d1
 subst this
 exact r.inj r'
theorem Inv.tuple_inj (I : Inv X pins σ H s) (h : SqT X.K H a xs) (h' : SqT X.K H a ys) : xs = ys := by
 obtain ⟨its, r, ⟨o, e, _, n, d⟩, _⟩ := I.tuple h
 obtain ⟨its', r', ⟨o', e', _, n', d'⟩, _⟩ := I.tuple h'
 rw [e] at e'; cases e'
 rw [d] at d'
 injection d' with d1 _
 have : its = its' := by simpa using congrArg Array.toList d1
 subst this
 exact r.inj r'
end
abbrev Cx.wish (X : Cx) (E : Value → Shared → Prop) : Cx := { X with xe := E }
abbrev Cx.nox (X : Cx) : Cx := X.wish fun _ _ => False
theorem Cx.Ok.wish {X : Cx} (ok : X.Ok) (E : Value → Shared → Prop) : (X.wish E).Ok :=
 ⟨ok.mod, ok.kind, ok.glob, ok.blt, ok.above, ok.inj, ok.has, ok.cab, ok.hd, ok.frames, ok.stk, ok.exf, ok.bs, ok.bsz, ok.noex, ok.exfs, ok.funs, ok.frf⟩
theorem Cx.Ok.unwish {X : Cx} {E : Value → Shared → Prop} (ok : (X.wish E).Ok) : X.Ok :=
 ⟨ok.mod, ok.kind, ok.glob, ok.blt, ok.above, ok.inj, ok.has, ok.cab, ok.hd, ok.frames, ok.stk, ok.exf, ok.bs, ok.bsz, ok.noex, ok.exfs, ok.funs, ok.frf⟩
section
variable {X : Cx} {pins : List (Addr × Obj)} {σ : St} {H : Hp} {s : Shared} {E : Value → Shared → Prop}
theorem Inv.wish (I : Inv X pins σ H s) (E : Value → Shared → Prop) : Inv (X.wish E) pins σ H s := ⟨I.ok.wish E, I.os, I.bare, I.base, I.loc, I.cell, I.free, I.freeC, I.pin, I.hok, I.len⟩
theorem Inv.unwish (I : Inv (X.wish E) pins σ H s) : Inv X pins σ H s := ⟨I.ok.unwish, I.os, I.bare, I.base, I.loc, I.cell, I.free, I.freeC, I.pin, I.hok, I.len⟩
theorem SP.unwish {D : Ends} {f : Flow} {s' : Shared} (h : SP (X.wish E) pins D f s') : SP X pins D f s' := by
 cases f with
 | next => obtain ⟨σ', H', I, q⟩ := h; exact ⟨σ', H', I.unwish, q⟩
 | brk => obtain ⟨σ', H', I, q⟩ := h; exact ⟨σ', H', I.unwish, q⟩
 | cont => obtain ⟨σ', H', I, q⟩ := h; exact ⟨σ', H', I.unwish, q⟩
 | ret u => obtain ⟨v, σ', H', I, r, q⟩ := h; exact ⟨v, σ', H', I.unwish, r, q⟩
theorem PSs.nox {st : List Stmt} {t : TS} (h : PSs X.nox st t) : PSs X st t := fun pins s σ H D I hw =>
 wpAny_mono (h pins s σ H D (I.wish _) hw) (fun _ _ q => q.unwish) fun _ _ z => False.elim z
end
section
variable {X : Cx} {st : Stmt} {rest : List Stmt} {t u : TS} {e : Expr} {te : TE} {pos : Pos}
def tNext : TS := fun D σ H => D.nx σ H
def tSeq (t u : TS) : TS := fun D σ H => t { D with nx := u D } σ H
theorem pss_nil : PSs X [] tNext := fun _ _ σ H _ I h => wpAny_execs_nil ⟨σ, H, I, h⟩
theorem pss_cons (h1 : PS X st t) (h2 : PSs X rest u) : PSs X (st :: rest) (tSeq t u) := by
 intro pins s σ H D I h
 refine wpAny_execs_cons (thn (h1 pins s σ H { D with nx := u D } I h) fun f s1 q => ?_)
 cases f with
 | next =>
  obtain ⟨σ', H', I', q⟩ := q
  exact h2 pins s1 σ' H' D I' q
 | ret v => exact q
 | brk => exact q
 | cont => exact q
theorem pss_one (h1 : PS X st t) : PSs X [st] t := by
 intro pins s σ H D I h
 refine wpAny_execs_cons (thn (h1 pins s σ H D I h) fun f s1 q => ?_)
 cases f with
 | next => exact wpAny_execs_nil q
 | ret v => exact q
 | brk => exact q
 | cont => exact q
theorem Inv.quiet {pins : List (Addr × Obj)} {σ : St} {H : Hp} {s : Shared} (I : Inv X pins σ H s) : interactive X.env = false := by simp [interactive, I.ok.kind]
def tDrop (te : TE) : TS := fun D σ H => te σ H fun _ H1 => D.nx σ H1
theorem ps_expr (he : PE X e te) (hs : autoParam (swapsWith e none pos.line X.env = pure false) L2.aRfl._auto_1) : PS X (.Expr e pos) (tDrop te) := by
 intro pins s σ H D I h
 exact wpAny_Expr_any (thn (he pins s σ H _ I h) fun v s1 ⟨x, H1, I1, r1, q1⟩ => ⟨σ, H1, I1, q1⟩) I.quiet hs
def tRet (te : TE) : TS := fun D σ H => te σ H D.rt
theorem ps_ret (he : PE X e te) : PS X (.Return (some e) pos) (tRet te) := by
 intro pins s σ H D I h
 exact wpAny_Return_some (thn (he pins s σ H _ I h) fun v s1 ⟨x, H1, I1, r1, q1⟩ => ⟨x, σ, H1, I1, r1, q1⟩)
def tIfS (c : TT) (t u : TS) : TS := fun D σ H => c σ H fun b H1 => if b = true then t D σ H1 else u D σ H1
theorem ps_if {c : Expr} {a b : List Stmt} {tc : TT} (hc : PT X c tc) (ha : PSs X a t) (hb : PSs X b u) : PS X (.If c a b pos) (tIfS tc t u) := by
 intro pins s σ H D I h
 refine wpAny_If (thn (hc pins s σ H _ I h) fun d s1 hqP => ?_)
 obtain ⟨H1, I1, q1⟩ := hqP
 cases d with
 | true => exact ha pins s1 σ H1 D I1 q1
 | false => exact hb pins s1 σ H1 D I1 q1
end
abbrev TG := V → St → Hp → (St → Hp → Prop) → Prop
abbrev TGs := List V → St → Hp → (St → Hp → Prop) → Prop
def PG (X : Cx) (target : Expr) (t : TG) : Prop :=
 ∀ (pins : List (Addr × Obj)) (s : Shared) (σ : St) (H : Hp) (v : V) (u : Value) (Q : St → Hp → Prop), Inv X pins σ H s → RelV v u → t v σ H Q →
  wpAny (model X.prog X.w) X.A (assign target X.env u) (fun _ s' => ∃ σ' H', Inv X pins σ' H' s' ∧ Q σ' H') X.xe s
def PGs (X : Cx) (ts : List Expr) (t : TGs) : Prop :=
 ∀ (pins : List (Addr × Obj)) (s : Shared) (σ : St) (H : Hp) (vs : List V) (us : List Value) (Q : St → Hp → Prop), Inv X pins σ H s → Vals vs us → t vs σ H Q →
  wpAny (model X.prog X.w) X.A (assignInOrder ((assignEach ts X.env).map (·.2)) us) (fun _ s' => ∃ σ' H', Inv X pins σ' H' s' ∧ Q σ' H') X.xe s
abbrev TSet := V → V → V → Hp → (Hp → Prop) → Prop
def PSet (X : Cx) (t : TSet) : Prop :=
 ∀ (pins : List (Addr × Obj)) (s : Shared) (σ : St) (H : Hp) (o i v : V) (ov iv u : Value) (Q : Hp → Prop), Inv X pins σ H s → RelV o ov → RelV i iv → RelV v u → t o i v H Q →
  wpAny (model X.prog X.w) X.A (setItem ov iv u) (fun _ s' => ∃ H', Inv X pins σ H' s' ∧ Q H') X.xe s
section
variable {X : Cx} {pos : Pos}
def gName (i : Nat) : TG := fun v σ H Q => Q (σ.set i (some v)) H
theorem pg_name {i : Nat} {x : Str} (hN : X.N.Nodup) (hi : X.N[i]? = some x) (hx : Loc X.env.scope x) (hf : autoParam (X.fn x = true ∨ X.env.scope.names.lookup x = some .local) L2.aFst._auto_1) : PG X (.Name x pos) (gName i) := by
 intro pins s σ H v u Q I r h
 exact wpAny_assign_Name (store_ok I hN hi hx r (fun s' I' => ⟨_, H, I', h⟩) hf)
def gNil : TGs := fun vs σ H Q => vs = [] ∧ Q σ H
def gCons (t : TG) (u : TGs) : TGs := fun vs σ H Q => ∃ v r, vs = v :: r ∧ t v σ H fun σ' H' => u r σ' H' Q
theorem pgs_nil : PGs X [] gNil := by
 intro pins s σ H vs us Q I r h
 obtain ⟨e, h⟩ := h
 subst e
 cases r
 exact assignInOrder_nil ⟨σ, H, I, h⟩
theorem pgs_cons {e : Expr} {es : List Expr} {t : TG} {u : TGs} (h1 : PG X e t) (h2 : PGs X es u)
  (hs : autoParam ((assignEach (e :: es) X.env).map (·.2) = assign e X.env :: (assignEach es X.env).map (·.2)) L2.aRfl._auto_1) : PGs X (e :: es) (gCons t u) := by
 intro pins s σ H vs us Q I r h
 obtain ⟨v, vr, e1, h⟩ := h
 subst e1
 cases r with
 | cons r rr =>
  rw [hs]
  refine assignInOrder_cons (thn (h1 pins s σ H _ _ _ I r h) fun _ s1 hqP => ?_)
  obtain ⟨σ1, H1, I1, q1⟩ := hqP
  exact h2 pins s1 σ1 H1 _ _ Q I1 rr q1
def gTup (K : Fg) (n : Nat) (t : TGs) : TG := fun v σ H Q => ∃ a xs, v = .ref a ∧ SqT K H a xs ∧ xs.length = n ∧ t xs σ H Q
theorem pg_tup {es : List Expr} {k : Nat} {t : TGs} {n : Nat} (hc : X.calm = true) (h : PGs X es t)
  (hn : autoParam ((assignEach es X.env).length = n) L2.aRfl._auto_1) (hst : autoParam ((assignEach es X.env).findIdx? (·.1) = none) L2.aRfl._auto_1) : PG X (.Tuple es k pos) (gTup X.K n t) := by
 intro pins s σ H v u Q I r hw
 obtain ⟨a, xs, e1, hq, hl, hw⟩ := hw
 subst e1
 cases r
 obtain ⟨its, rv, ht, hz⟩ := I.tuple hq
 refine assign_Tuple_tuple (I.ok.hd hc) ht (by simp [hn, ← hl, rv.length]) hst fun h' hx => ?_
 have I1 : Inv X pins σ H { s with heap := h' } := I.kept (t' := s.toks) fun b o e => hx b o (zV (kJ e)) e
 exact h pins _ σ H xs _ Q I1 (by simpa using rv) hw
def gSub (to ti : TE) (t : TSet) : TG := fun v σ H Q => to σ H fun o H1 => ti σ H1 fun i H2 => t o i v H2 fun H3 => Q σ H3
theorem pg_sub {o i : Expr} {to ti : TE} {t : TSet} (ho : PE X o to) (hi : PE X i ti) (hs : PSet X t)
  (ha : ∀ v, assign (.Subscript o i pos) X.env v = (do
   let ov ← holding [v] (eval o X.env)
   let iv ← holding [v, ov] (eval i X.env)
   standAt pos
   holding [v, ov, iv] (setItem ov iv v)
   release [v, ov, iv] []) := by intro _; rfl) : PG X (.Subscript o i pos) (gSub to ti t) := by
 intro pins s σ H v u Q I r h
 rw [ha]
 refine jZ (wpAny_holding (thn (ho pins s σ H _ I h) fun ov s1 hqP => ?_))
 obtain ⟨x, H1, I1, r1, q1⟩ := hqP
 refine jZ (wpAny_holding (thn (hi pins s1 σ H1 _ I1 q1) fun iv s2 hqP => ?_))
 obtain ⟨y, H2, I2, r2, q2⟩ := hqP
 refine jZ (wpAny_standAt (jZ (wpAny_holding (thn (hs pins s2 σ H2 x y v ov iv u _ I2 r1 r2 r q2) fun _ s3 hqP => ?_))))
 obtain ⟨H3, I3, q3⟩ := hqP
 exact wpAny_release ⟨σ, H3, I3, q3⟩
def tAsg (te : TE) (g : TG) : TS := fun D σ H => te σ H fun x H1 => g x σ H1 D.nx
theorem ps_asg {tg e : Expr} {te : TE} {g : TG} (he : PE X e te) (hg : PG X tg g) (hs : autoParam (swapsWithSole [tg] e pos.line X.env = pure false) L2.aRfl._auto_1) (hw : autoParam (swappedStores [tg] e X.env = pure none) L2.aRfl._auto_1)
  (h1 : autoParam ((assignEach [tg] X.env).map (·.2) = [assign tg X.env]) L2.aRfl._auto_1) : PS X (.Assign [tg] e pos) (tAsg te g) := by
 intro pins s σ H D I h
 refine wpAny_Assign_stores (thn (he pins s σ H _ I h) fun v s1 hqP => ?_) hs hw
 obtain ⟨x, H1, I1, r1, q1⟩ := hqP
 rw [h1]
 exact thn (hg pins s1 σ H1 x v _ I1 r1 q1) fun _ s2 q => q
theorem ps_set {i : Nat} {x : Str} {e : Expr} {te : TE} {pos' : Pos} (hN : X.N.Nodup) (hi : X.N[i]? = some x) (hx : Loc X.env.scope x) (he : PE X e te) (hs : autoParam (swapsWith e (some (.Name x pos')) pos.line X.env = pure false) L2.aRfl._auto_1) (hf : autoParam (X.fn x = true ∨ X.env.scope.names.lookup x = some .local) L2.aFst._auto_1) :
  PS X (.Assign [.Name x pos'] e pos) (tAsg te (gName i)) := by
 intro pins s σ H D I h
 refine wpAny_Assign_Name (thn (he pins s σ H _ I h) fun v s1 hqP => ?_) hs
 obtain ⟨y, H1, I1, r1, q1⟩ := hqP
 exact store_ok I1 hN hi hx r1 (fun s2 I2 => ⟨_, H1, I2, q1⟩) hf
end
section
variable {X : Cx} {pos : Pos}
end
set_option genInjectivity false in
set_option genInjectivity false in
structure It where
 go : Nat → Hp → Prop
 yld : Nat → Hp → V → Hp → Prop
 stop : Nat → Hp → Prop
def FpOk (X : Cx) (pins : List (Addr × Obj)) (H : Hp) (b : Addr) : Prop :=
 H b = none ∧ b ≠ X.env.locals ∧ b ∉ X.fs ∧ (b ∈ X.ex ∨ X.s₀.heap.objs.size ≤ b) ∧ (∀ x c, X.env.cells.lookup x = some c → c ≠ b) ∧ ∀ p ∈ X.pn ++ pins, p.1 ≠ b
theorem Inv.fpOk {X : Cx} {pins : List (Addr × Obj)} {σ : St} {H H' : Hp} {s : Shared} {b : Addr} (I : Inv X pins σ H s) (hb : s.heap.objs.size ≤ b) (hn : H' b = none) : FpOk X pins H' b := by
 refine ⟨hn, Nat.ne_of_gt (yY I.lt hb), I.nofs hb, .inr (jQe I.sz hb), fun x c e z => ?_, fun p hp z => ?_⟩
 ·obtain ⟨v, q⟩ := I.cell x c e
  exact absurd (yY q.lt (by rw [z]; exact hb)) (jJc _)
 ·exact absurd (yY (kJ (I.pin p hp).1) (by rw [z]; exact hb)) (jJc _)
structure Turn (P : Program) (w : World) (K : Fg) (tg : Expr) (J : It) (fp : List Addr) (it : Addr) (tn : Nat → Heap → Prop) : Prop where
 mem : it ∈ fp
 obj : ∀ i h, tn i h → ∀ b ∈ fp, ∃ o, h.get? b = some o ∧ ∀ v, o.data ≠ .cell v
 keep : ∀ i h h', tn i h → (∀ b ∈ fp, ∀ o, h.get? b = some o → h'.get? b = some o) → tn i h'
 item : ∀ (X : Cx), X.prog = P → X.w = w → X.K = K → X.calm = true → ∀ (i : Nat) (pins : List (Addr × Obj)) (s : Shared) (σ : St) (H : Hp) (E : Value → Shared → Prop), Inv X pins σ H s → (∀ b ∈ fp, FpOk X pins H b) → tn i s.heap → J.go i H →
  wpAny (model P w) X.A (pyNext (.ref it)) (fun r s1 => ∃ u, r = some u ∧
   wpAny (model P w) X.A (letOwnedTupleGo tg (.ref it) u) (fun _ s2 => ∃ x H', Inv X pins σ H' s2 ∧ RelV x u ∧ J.yld i H x H' ∧ tn (i + 1) s2.heap ∧ ∀ b ∈ fp, H' b = none) E s1) E s
 done : ∀ (X : Cx), X.prog = P → X.w = w → X.K = K → X.calm = true → ∀ (i : Nat) (pins : List (Addr × Obj)) (s : Shared) (σ : St) (H : Hp) (E : Value → Shared → Prop), Inv X pins σ H s → (∀ b ∈ fp, FpOk X pins H b) → tn i s.heap → J.stop i H →
  wpAny (model P w) X.A (pyNext (.ref it)) (fun r s1 => r = none ∧ Inv X pins σ H s1) E s
 self : ∀ (A : Around) (i : Nat) (s : Shared) (Q : Value → Shared → Prop) (E : Value → Shared → Prop), tn i s.heap → Q (.ref it) s → wpAny (model P w) A (pyIter (.ref it)) Q E s
abbrev TI := St → Hp → (It → Hp → Prop) → Prop
def PIE (X : Cx) (pins : List (Addr × Obj)) (σ : St) (tg : Expr) (R : It → Hp → Prop) (itv : Value) (s2 : Shared) : Prop :=
 ∃ (it : Addr) (fp : List Addr) (tn : Nat → Heap → Prop) (J : It) (H' : Hp), itv = .ref it ∧ Inv X pins σ H' s2 ∧ Turn X.prog X.w X.K tg J fp it tn ∧ tn 0 s2.heap ∧ (∀ b ∈ fp, FpOk X pins H' b) ∧ R J H'
def PI (X : Cx) (tg iter : Expr) (wi : TI) : Prop :=
 ∀ (pins : List (Addr × Obj)) (s : Shared) (σ : St) (H : Hp) (R : It → Hp → Prop), Inv X pins σ H s → wi σ H R →
  wpAny (model X.prog X.w) X.A (eval iter X.env) (fun v s1 => wpAny (model X.prog X.w) X.A (pyIter v) (PIE X pins σ tg R) X.xe s1) X.xe s
theorem go_of {M : Model} {A : Around} {E : Value → Shared → Prop} {s : Shared} {tg : Expr} {it : Addr} {u : Value} {o : Obj} {n : String} {vs : Array Value} {Q : Unit → Shared → Prop} (ho : s.heap.get? it = some o) (hc : o.cls = .type n) (hd : o.data = .fields vs)
    (hn : ["enumerate", "zip", "dict_itemiterator", "dict_reverseitemiterator", "odict_iterator", "itertools.zip_longest", "itertools.pairwise"].contains n = false) (hQ : Q () s) : wpAny M A (letOwnedTupleGo tg (.ref it) u) Q E s := by
  unfold letOwnedTupleGo
  cases tg <;> first
    | exact kK hQ
    | (cases u <;> first
        | exact kK hQ
        | (refine jZ (wpAny_load ho ?_)
           rw [hc, hd]
           show wpAny M A (if (["enumerate", "zip", "dict_itemiterator", "dict_reverseitemiterator", "odict_iterator", "itertools.zip_longest", "itertools.pairwise"].contains n && vs[0]? == some (rawInt _)) = true then _ else _) Q E s
           rw [if_neg (by intro h; rw [hn, Bool.false_and] at h; cases h)]
           exact kK hQ))
def Itl (K : Fg) (a : Addr) : It :=
 ⟨fun i H => ∃ xs x, SqL K H a xs ∧ xs[i]? = some x, fun i H x H' => H' = H ∧ ∀ xs, SqL K H a xs → xs[i]? = some x, fun i H => ∃ xs, SqL K H a xs ∧ xs.length ≤ i⟩
def Itt (K : Fg) (a : Addr) : It :=
 ⟨fun i H => ∃ xs x, SqT K H a xs ∧ xs[i]? = some x, fun i H x H' => H' = H ∧ ∀ xs, SqT K H a xs → xs[i]? = some x, fun i H => ∃ xs, SqT K H a xs ∧ xs.length ≤ i⟩
def Itr (lo : Int) (n : Nat) : It := ⟨fun i _ => i < n, fun i H x H' => H' = H ∧ x = .int (lo + i), fun i _ => n ≤ i⟩
theorem turn_list {P : Program} {w : World} {K : Fg} {tg : Expr} (a it : Addr) : Turn P w K tg (Itl K a) [it] it (fun i h => h.IsListIter it a i) where
 mem := by simp
 obj := fun i h st b hb => by
  have e : b = it := by simpa using hb
  subst e
  obtain ⟨o, e, c, d⟩ := st
  exact ⟨o, e, fun v z => by rw [d] at z; cases z⟩
 keep := fun i h h' st k => st.at fun o e => k it (by simp) o e
 item := by
  intro X hP hw hK hc i pins s σ H E I hf st hg
  subst hP hw hK
  obtain ⟨xs, x, hq, hx⟩ := hg
  obtain ⟨its, rv, p, hz⟩ := I.list hq
  obtain ⟨u, hu, ru⟩ := rv.get hx
  obtain ⟨f0, f1, f2, f3, f4, f5⟩ := hf it (by simp)
  refine wpAny_pyNext_list_item st p.isList (x := u) (by simpa using hu) fun h' st' sb => ?_
  have I1 : Inv X pins σ H { s with heap := h' } := I.turned (t' := s.toks) (fun b o hb e => (sb.2 b hb).trans e) f0 f1 f3 f4 f5
  obtain ⟨o, e, c, d⟩ := id st'
  exact ⟨u, rfl, go_of (s := { s with heap := h' }) e c d (by decide) ⟨x, H, I1, ru, ⟨rfl, fun ys hy => by rw [I.list_inj hy hq]; exact hx⟩, st', fun b hb => (hf b hb).1⟩⟩
 done := by
  intro X hP hw hK hc i pins s σ H E I hf st hg
  subst hP hw hK
  obtain ⟨xs, hq, hx⟩ := hg
  obtain ⟨its, rv, p, hz⟩ := I.list hq
  obtain ⟨f0, f1, f2, f3, f4, f5⟩ := hf it (by simp)
  have hl := rv.length
  exact wpAny_pyNext_list_end (I.ok.hd hc) st p.isList (by simp; omega) fun h' eb => ⟨rfl, I.turned (t' := s.toks) (fun b o hb e => eb b o hb e) f0 f1 f3 f4 f5⟩
 self := fun _ _ _ _ _ st h => wpAny_pyIter_listiter st h
theorem turn_tuple {P : Program} {w : World} {K : Fg} {tg : Expr} (a it : Addr) : Turn P w K tg (Itt K a) [it] it (fun i h => h.IsTupleIter it a i) where
 mem := by simp
 obj := fun i h st b hb => by
  have e : b = it := by simpa using hb
  subst e
  obtain ⟨o, e, c, d⟩ := st
  exact ⟨o, e, fun v z => by rw [d] at z; cases z⟩
 keep := fun i h h' st k => st.at fun o e => k it (by simp) o e
 item := by
  intro X hP hw hK hc i pins s σ H E I hf st hg
  subst hP hw hK
  obtain ⟨xs, x, hq, hx⟩ := hg
  obtain ⟨its, rv, p, hz⟩ := I.tuple hq
  obtain ⟨u, hu, ru⟩ := rv.get hx
  obtain ⟨f0, f1, f2, f3, f4, f5⟩ := hf it (by simp)
  refine wpAny_pyNext_tuple_item st (show s.heap.IsTuple a its.toArray from p) (x := u) (by simpa using hu) fun h' st' sb => ?_
  have I1 : Inv X pins σ H { s with heap := h' } := I.turned (t' := s.toks) (fun b o hb e => (sb.2 b hb).trans e) f0 f1 f3 f4 f5
  obtain ⟨o, e, c, d⟩ := id st'
  exact ⟨u, rfl, go_of (s := { s with heap := h' }) e c d (by decide) ⟨x, H, I1, ru, ⟨rfl, fun ys hy => by rw [I.tuple_inj hy hq]; exact hx⟩, st', fun b hb => (hf b hb).1⟩⟩
 done := by
  intro X hP hw hK hc i pins s σ H E I hf st hg
  subst hP hw hK
  obtain ⟨xs, hq, hx⟩ := hg
  obtain ⟨its, rv, p, hz⟩ := I.tuple hq
  obtain ⟨f0, f1, f2, f3, f4, f5⟩ := hf it (by simp)
  have hl := rv.length
  exact wpAny_pyNext_tuple_end (I.ok.hd hc) st (show s.heap.IsTuple a its.toArray from p) (by simp; omega) fun h' eb => ⟨rfl, I.turned (t' := s.toks) (fun b o hb e => eb b o hb e) f0 f1 f3 f4 f5⟩
 self := fun _ _ _ _ _ st h => wpAny_pyIter_tupleiter st h
theorem turn_range {P : Program} {w : World} {K : Fg} {tg : Expr} (it : Addr) (lo : Int) (n : Nat) : Turn P w K tg (Itr lo n) [it] it (fun i h => IsRangeIter h it (lo + (i : Nat) * 1) ((n : Int) - (i : Nat)) 1) where
 mem := by simp
 obj := fun i h st b hb => by
  have e : b = it := by simpa using hb
  subst e
  exact ⟨_, st, fun v z => by
   have z' : Data.fields _ = Data.cell v := z
   cases z'⟩
 keep := fun i h h' st k => k it (by simp) _ st
 item := by
  intro X hP hw hK hc i pins s σ H E I hf st hg
  subst hP hw hK
  obtain ⟨f0, f1, f2, f3, f4, f5⟩ := hf it (by simp)
  have W := Walks.range (prog := X.prog) (w := X.w) (I.ok.hd hc) it lo 1 n
  refine W.item i s _ _ hg st fun v h' tk hv st' kk => ?_
  obtain ⟨t, rfl⟩ := hv
  have I1 : Inv X pins σ H { s with heap := h', toks := tk } := I.turned (fun b o hb e => kk b o (by simpa using hb) e) f0 f1 f3 f4 f5
  refine ⟨_, rfl, go_of (s := { s with heap := h', toks := tk }) (n := "range_iterator") st' rfl rfl (by decide) ⟨.int (lo + i), H, I1, ⟨t, ?_⟩, ⟨rfl, rfl⟩, st', fun b hb => (hf b hb).1⟩⟩
  rw [Int.mul_one]
 done := by
  intro X hP hw hK hc i pins s σ H E I hf st hg
  subst hP hw hK
  obtain ⟨f0, f1, f2, f3, f4, f5⟩ := hf it (by simp)
  exact wpAny_pyNext_range_end (I.ok.hd hc) st (by have : n ≤ i := hg; omega) fun h' eb => ⟨rfl, I.turned (t' := s.toks) (fun b o hb e => eb b o hb e) f0 f1 f3 f4 f5⟩
 self := fun _ _ _ _ _ st h => wpAny_pyIter_rangeiter st h
section
variable {X : Cx} {tg : Expr}
def iList (K : Fg) (tl : TE) : TI := fun σ H R => tl σ H fun x H1 => ∃ a, x = .ref a ∧ (∃ xs, SqL K H1 a xs) ∧ R (Itl K a) H1
def iTup (K : Fg) (tl : TE) : TI := fun σ H R => tl σ H fun x H1 => ∃ a, x = .ref a ∧ (∃ xs, SqT K H1 a xs) ∧ R (Itt K a) H1
theorem pi_list {l : Expr} {tl : TE} (hl : PE X l tl) : PI X tg l (iList X.K tl) := by
 intro pins s σ H R I h
 refine thn (hl pins s σ H _ I h) fun v s1 hqP => ?_
 obtain ⟨x, H1, I1, r1, q1⟩ := hqP
 obtain ⟨a, e, ⟨xs, hq⟩, q⟩ := q1
 subst e
 cases r1
 obtain ⟨its, rv, p, hz⟩ := I1.list hq
 refine wpAny_pyIter_list p.isList ?_
 refine ⟨s1.heap.objs.size, [s1.heap.objs.size], _, _, H1, rfl, I1.kept (t' := s1.toks) fun b o e => jK _ e, turn_list a _, ⟨_, zX _ rfl, rfl, rfl⟩, fun b hb => ?_, q⟩
 have e : b = s1.heap.objs.size := by simpa using hb
 subst e
 exact I1.fpOk (jX _) (I1.hok.fresh (jX _))
theorem pi_tup {l : Expr} {tl : TE} (hl : PE X l tl) : PI X tg l (iTup X.K tl) := by
 intro pins s σ H R I h
 refine thn (hl pins s σ H _ I h) fun v s1 hqP => ?_
 obtain ⟨x, H1, I1, r1, q1⟩ := hqP
 obtain ⟨a, e, ⟨xs, hq⟩, q⟩ := q1
 subst e
 cases r1
 obtain ⟨its, rv, p, hz⟩ := I1.tuple hq
 refine wpAny_pyIter_tuple (show s1.heap.IsTuple a its.toArray from p) ?_
 refine ⟨s1.heap.objs.size, [s1.heap.objs.size], _, _, H1, rfl, I1.kept (t' := s1.toks) fun b o e => jK _ e, turn_tuple a _, ⟨_, zX _ rfl, rfl, rfl⟩, fun b hb => ?_, q⟩
 have e : b = s1.heap.objs.size := by simpa using hb
 subst e
 exact I1.fpOk (jX _) (I1.hok.fresh (jX _))
theorem range_it {pins : List (Addr × Obj)} {σ : St} {H : Hp} {s : Shared} {R : It → Hp → Prop} {E : Value → Shared → Prop} {lo hi : Int} {t u v : Tok} {tk : Nat} (I : Inv X pins σ H s) (h1 : -(2 ^ 62) ≤ lo) (h2 : lo < 2 ^ 62) (h3 : -(2 ^ 62) ≤ hi) (h4 : hi < 2 ^ 62)
  (q : R (Itr lo (hi - lo).toNat) H) : wpAny (model X.prog X.w) X.A (pyIter (.ref s.heap.objs.size)) (PIE X pins σ tg R) E { s with heap := s.heap.push { cls := .type "range", data := .fields #[.int lo t, .int hi u, .int 1 v] }, toks := tk } := by
 refine wpAny_pyIter_range (IsRange.new ..) (small_one h1 h2 h3 h4) ?_
 have I1 : Inv X pins σ H { s with heap := s.heap.push { cls := .type "range", data := .fields #[.int lo t, .int hi u, .int 1 v] }, toks := tk } := I.kept fun b o e => jK _ e
 refine ⟨(s.heap.push { cls := .type "range", data := .fields #[.int lo t, .int hi u, .int 1 v] }).objs.size, [(s.heap.push { cls := .type "range", data := .fields #[.int lo t, .int hi u, .int 1 v] }).objs.size], _, _, H, rfl,
  I1.kept (t' := tk) fun b o e => jK _ e, turn_range _ lo (hi - lo).toNat, ?_, fun b hb => ?_, q⟩
 ·have e1 : lo + ((0 : Nat) : Int) * 1 = lo := by simp
  have e2 : (((hi - lo).toNat : Nat) : Int) - ((0 : Nat) : Int) = Builtin.Range.rangeSize lo hi 1 := by rw [rangeSize_one]; split <;> omega
  show IsRangeIter _ _ (lo + ((0 : Nat) : Int) * 1) ((((hi - lo).toNat : Nat) : Int) - ((0 : Nat) : Int)) 1
  rw [e1, e2]
  exact zX _ rfl
 ·have e : b = (s.heap.push { cls := .type "range", data := .fields #[.int lo t, .int hi u, .int 1 v] }).objs.size := by simpa using hb
  subst e
  exact I1.fpOk (jX _) (I1.hok.fresh (jX _))
def iRng1 (ta : TA) : TI := fun σ H R => ta σ H fun vs H1 => ∃ j : Int, vs = [.int j] ∧ -(2 ^ 62) ≤ j ∧ j < 2 ^ 62 ∧ R (Itr 0 j.toNat) H1
theorem pi_range1 {a : Expr} {ta : TA} {p pos : Pos} (hg : Gl X "range") (hm : X.mg "range" = none) (ha : PA X [a] ta) (hs : autoParam (starEach [a] X.env = [(false, eval a X.env)]) L2.aRfl._auto_1) : PI X tg (.Call (.Name "range" p) [a] [] pos) (iRng1 ta) := by
 intro pins s σ H R I h
 refine Call_ (ld_blt I hg hm boot_range (PyProof.Rows.callWith_type1 (thn (ha pos pins s σ H _ I h) fun us s1 hqP => ?_) hs rfl))
 obtain ⟨vs, H1, I1, r1, q1⟩ := hqP
 obtain ⟨j, e, q1, q2, q⟩ := q1
 subst e
 cases r1 with
 | cons r rr =>
  cases rr
  obtain ⟨t, rfl⟩ := r
  exact call_range_1 (range_it I1 (by omega) (by omega) q1 q2 (by simpa using q))
def tFor (wi : TI) (g : TG) (tb : TS) : TS := fun D σ H => wi σ H fun J H1 => ∃ W : Nat → Nat → St → Hp → Prop, (∃ m, W 0 m σ H1) ∧ ∀ i m σ H, W i m σ H →
 (J.stop i H ∧ D.nx σ H) ∨ (J.go i H ∧ ∃ N : St → Hp → Prop, (∀ σ' H', N σ' H' → ∃ m', m' < m ∧ W (i + 1) m' σ' H') ∧ ∀ x H', J.yld i H x H' → g x σ H' fun σ2 H2 => tb { D with nx := N, ct := N, bk := D.nx } σ2 H2)
def pinsAt (fp : List Addr) (h : Heap) : List (Addr × Obj) := fp.filterMap fun b => (h.get? b).map fun o => (b, o)
theorem mem_pinsAt {fp : List Addr} {h : Heap} {b : Addr} {o : Obj} (hb : b ∈ fp) (e : h.get? b = some o) : (b, o) ∈ pinsAt fp h := List.mem_filterMap.mpr ⟨b, hb, by rw [e]; rfl⟩
theorem of_pinsAt {fp : List Addr} {h : Heap} {p : Addr × Obj} (hp : p ∈ pinsAt fp h) : p.1 ∈ fp ∧ h.get? p.1 = some p.2 := by
 obtain ⟨b, hb, e⟩ := List.mem_filterMap.mp hp
 cases q : h.get? b with
 | none => rw [q] at e; cases e
 | some o =>
  rw [q] at e
  have e' : (b, o) = p := Option.some.inj e
  subst e'
  exact ⟨hb, q⟩
theorem Inv.pinned {pins : List (Addr × Obj)} {σ : St} {H : Hp} {s : Shared} {fp : List Addr} (I : Inv X pins σ H s) (hf : ∀ b ∈ fp, FpOk X pins H b) (ho : ∀ b ∈ fp, ∃ o, s.heap.get? b = some o ∧ ∀ v, o.data ≠ .cell v) : Inv X (pins ++ pinsAt fp s.heap) σ H s :=
 I.pins_of fun p hp => (yQ.mp hp).elim (fun z => I.pin p (zW _ z)) fun z => by
  obtain ⟨hb, e⟩ := of_pinsAt z
  obtain ⟨f0, f1, f2, _⟩ := hf p.1 hb
  obtain ⟨o, e', d⟩ := ho p.1 hb
  rw [e] at e'; cases e'
  exact ⟨e, f0, f1, f2, d⟩
theorem Inv.unpinned {pins pl : List (Addr × Obj)} {σ : St} {H : Hp} {s : Shared} (I : Inv X (pins ++ pl) σ H s) : Inv X pins σ H s := I.pins_of fun p hp => I.pin p (zW _ (jKe _ hp))
theorem ps_for {iter : Expr} {body : List Stmt} {wi : TI} {g : TG} {tb : TS} {pos : Pos} (hp : PassesOwn (model X.prog X.w) X.A X.env X.xe) (hc : X.calm = true) (hi : PI X tg iter wi) (hg : PG X tg g) (hb : PSs X body tb)
  (hs : autoParam (∀ x, foldedSetIterable iter X.env x = pure x) L2.aIrf._auto_1) : PS X (.For tg iter body [] pos) (tFor wi g tb) := by
 intro pins s σ H D I h
 refine wpAny_For (thn (hi pins s σ H _ I h) fun v s1 h1 => thn h1 fun itv s2 h2 => ?_) hs
 obtain ⟨it, fp, tn, J, H2, e, I2, T, st2, f2, W, ⟨m0, w0⟩, turn⟩ := h2
 subst e
 -- what stays true of the iterator's objects through the loop
 have stat : ∀ {H' : Hp}, (∀ b ∈ fp, H' b = none) → ∀ b ∈ fp, FpOk X pins H' b := fun hn b hb => ⟨hn b hb, (f2 b hb).2⟩
 refine codeAny_forLoop_any (fun n s' => ∃ i σ' H', Inv X pins σ' H' s' ∧ tn i s'.heap ∧ (∀ b ∈ fp, H' b = none) ∧ W i n σ' H') ?_ m0 ⟨0, σ, H2, I2, st2, fun b hb => (f2 b hb).1, w0⟩
 rintro n s3 ⟨i, σ3, H3, I3, st3, fr3, w3⟩
 rcases turn i n σ3 H3 w3 with ⟨stop, qn⟩ | ⟨go, N, hN, step⟩
 ·refine wpAny_passesOwn hp (thn (T.done X rfl rfl rfl hc i pins s3 σ3 H3 X.xe I3 (stat fr3) st3 stop) fun r s4 hqP => ?_)
  obtain ⟨hr, I4⟩ := hqP
  subst hr
  exact wpAny_execs_nil ⟨σ3, H3, I4, qn⟩
 ·refine wpAny_passesOwn hp (thn (T.item X rfl rfl rfl hc i pins s3 σ3 H3 X.xe I3 (stat fr3) st3 go) fun r s4 hqP => ?_)
  obtain ⟨u, hr, h4⟩ := hqP
  subst hr
  refine wpAny_passesOwn hp (thn h4 fun _ s5 hqP => ?_)
  obtain ⟨x, H5, I5, r5, y5, st5, fr5⟩ := hqP
  have I5' := I5.pinned (stat fr5) (T.obj _ _ st5)
  refine wpAny_passesOwn hp (thn (hg _ s5 σ3 H5 x u _ I5' r5 (step x H5 y5)) fun _ s6 hqP => ?_)
  obtain ⟨σ6, H6, I6, q6⟩ := hqP
  refine wpAny_passesOwn hp (thn (hb _ s6 σ6 H6 _ I6 q6) fun f s7 q7 => ?_)
  have again : ∀ {σ7 : St} {H7 : Hp}, Inv X (pins ++ pinsAt fp s5.heap) σ7 H7 s7 → N σ7 H7 → ∃ m, m < n ∧ ∃ i σ' H', Inv X pins σ' H' s7 ∧ tn i s7.heap ∧ (∀ b ∈ fp, H' b = none) ∧ W i m σ' H' := fun {σ7 H7} I7 n7 => by
   obtain ⟨m', hm, w7⟩ := hN σ7 H7 n7
   refine ⟨m', hm, i + 1, σ7, H7, I7.unpinned, T.keep _ _ _ st5 fun b hb o e => (I7.pin (b, o) (zW _ (zW _ (mem_pinsAt hb e)))).1, fun b hb => ?_, w7⟩
   obtain ⟨o, e, d⟩ := T.obj _ _ st5 b hb
   exact (I7.pin (b, o) (zW _ (zW _ (mem_pinsAt hb e)))).2.1
  cases f with
  | next => obtain ⟨σ7, H7, I7, n7⟩ := q7; exact again I7 n7
  | cont => obtain ⟨σ7, H7, I7, n7⟩ := q7; exact again I7 n7
  | brk => obtain ⟨σ7, H7, I7, q7⟩ := q7; exact ⟨σ7, H7, I7.unpinned, q7⟩
  | ret v => obtain ⟨x7, σ7, H7, I7, r7, q7⟩ := q7; exact ⟨x7, σ7, H7, I7.unpinned, r7, q7⟩
end
theorem for_list {K : Fg} {a : Addr} {xs : List V} {g : TG} {tb : TS} {D : Ends} {σ : St} {H : Hp} (Pv : Nat → St → Hp → Prop) (h0 : Pv 0 σ H) (hl : ∀ i σ H, i ≤ xs.length → Pv i σ H → SqL K H a xs)
  (hs : ∀ i x σ H, xs[i]? = some x → Pv i σ H → g x σ H fun σ2 H2 => tb { D with nx := Pv (i + 1), ct := Pv (i + 1), bk := D.nx } σ2 H2) (hd : ∀ σ H, Pv xs.length σ H → D.nx σ H) :
  ∃ W : Nat → Nat → St → Hp → Prop, (∃ m, W 0 m σ H) ∧ ∀ i m σ H, W i m σ H →
   ((Itl K a).stop i H ∧ D.nx σ H) ∨ ((Itl K a).go i H ∧ ∃ N : St → Hp → Prop, (∀ σ' H', N σ' H' → ∃ m', m' < m ∧ W (i + 1) m' σ' H') ∧ ∀ x H', (Itl K a).yld i H x H' → g x σ H' fun σ2 H2 => tb { D with nx := N, ct := N, bk := D.nx } σ2 H2) := by
 refine ⟨fun i m σ H => m = xs.length - i ∧ i ≤ xs.length ∧ Pv i σ H, ⟨xs.length, by simp, wV _, h0⟩, ?_⟩
 rintro i m σ H ⟨rfl, hi, p⟩
 have q := hl i σ H hi p
 by_cases hlt : i < xs.length
 ·refine .inr ⟨⟨xs, xs[i], q, by simp [hlt]⟩, Pv (i + 1), fun σ' H' p' => ⟨xs.length - (i + 1), by omega, rfl, hlt, p'⟩, fun x H' y => ?_⟩
  obtain ⟨e, y⟩ := y
  subst e
  exact hs i x σ _ (y xs q) p
 ·have e : i = xs.length := by omega
  subst e
  exact .inl ⟨⟨xs, q, jX _⟩, hd σ H p⟩
theorem for_tup {K : Fg} {a : Addr} {xs : List V} {g : TG} {tb : TS} {D : Ends} {σ : St} {H : Hp} (Pv : Nat → St → Hp → Prop) (h0 : Pv 0 σ H) (hl : ∀ i σ H, i ≤ xs.length → Pv i σ H → SqT K H a xs)
  (hs : ∀ i x σ H, xs[i]? = some x → Pv i σ H → g x σ H fun σ2 H2 => tb { D with nx := Pv (i + 1), ct := Pv (i + 1), bk := D.nx } σ2 H2) (hd : ∀ σ H, Pv xs.length σ H → D.nx σ H) :
  ∃ W : Nat → Nat → St → Hp → Prop, (∃ m, W 0 m σ H) ∧ ∀ i m σ H, W i m σ H →
   ((Itt K a).stop i H ∧ D.nx σ H) ∨ ((Itt K a).go i H ∧ ∃ N : St → Hp → Prop, (∀ σ' H', N σ' H' → ∃ m', m' < m ∧ W (i + 1) m' σ' H') ∧ ∀ x H', (Itt K a).yld i H x H' → g x σ H' fun σ2 H2 => tb { D with nx := N, ct := N, bk := D.nx } σ2 H2) := by
 refine ⟨fun i m σ H => m = xs.length - i ∧ i ≤ xs.length ∧ Pv i σ H, ⟨xs.length, by simp, wV _, h0⟩, ?_⟩
 rintro i m σ H ⟨rfl, hi, p⟩
 have q := hl i σ H hi p
 by_cases hlt : i < xs.length
 ·refine .inr ⟨⟨xs, xs[i], q, by simp [hlt]⟩, Pv (i + 1), fun σ' H' p' => ⟨xs.length - (i + 1), by omega, rfl, hlt, p'⟩, fun x H' y => ?_⟩
  obtain ⟨e, y⟩ := y
  subst e
  exact hs i x σ _ (y xs q) p
 ·have e : i = xs.length := by omega
  subst e
  exact .inl ⟨⟨xs, q, jX _⟩, hd σ H p⟩
theorem for_range {lo : Int} {n : Nat} {g : TG} {tb : TS} {D : Ends} {σ : St} {H : Hp} (Pv : Nat → St → Hp → Prop) (h0 : Pv 0 σ H)
  (hs : ∀ i σ H, i < n → Pv i σ H → g (.int (lo + i)) σ H fun σ2 H2 => tb { D with nx := Pv (i + 1), ct := Pv (i + 1), bk := D.nx } σ2 H2) (hd : ∀ σ H, Pv n σ H → D.nx σ H) :
  ∃ W : Nat → Nat → St → Hp → Prop, (∃ m, W 0 m σ H) ∧ ∀ i m σ H, W i m σ H →
   ((Itr lo n).stop i H ∧ D.nx σ H) ∨ ((Itr lo n).go i H ∧ ∃ N : St → Hp → Prop, (∀ σ' H', N σ' H' → ∃ m', m' < m ∧ W (i + 1) m' σ' H') ∧ ∀ x H', (Itr lo n).yld i H x H' → g x σ H' fun σ2 H2 => tb { D with nx := N, ct := N, bk := D.nx } σ2 H2) := by
 refine ⟨fun i m σ H => m = n - i ∧ i ≤ n ∧ Pv i σ H, ⟨n, by simp, wV _, h0⟩, ?_⟩
 rintro i m σ H ⟨rfl, hi, p⟩
 by_cases hlt : i < n
 ·refine .inr ⟨hlt, Pv (i + 1), fun σ' H' p' => ⟨n - (i + 1), by omega, rfl, hlt, p'⟩, fun x H' y => ?_⟩
  obtain ⟨e, y⟩ := y
  subst e y
  exact hs i σ _ hlt p
 ·have e : i = n := by omega
  subst e
  exact .inl ⟨jX _, hd σ H p⟩
abbrev R2 := V → V → Hp → VK → Prop
def OpR (X : Cx) (f : Value → Value → Sem Value) (r : R2) : Prop :=
 ∀ (pins : List (Addr × Obj)) (s : Shared) (σ : St) (H : Hp) (x y : V) (v u : Value) (Q : VK), Inv X pins σ H s → RelV x v → RelV y u → r x y H Q →
  wpAny (model X.prog X.w) X.A (f v u) (EP X pins σ Q) X.xe s
def UnR (X : Cx) (f : Value → Sem Value) (r : V → Hp → VK → Prop) : Prop :=
 ∀ (pins : List (Addr × Obj)) (s : Shared) (σ : St) (H : Hp) (x : V) (v : Value) (Q : VK), Inv X pins σ H s → RelV x v → r x H Q →
  wpAny (model X.prog X.w) X.A (f v) (EP X pins σ Q) X.xe s
def CallR (X : Cx) (f : Value) (r : List V → Hp → VK → Prop) : Prop :=
 ∀ (pins : List (Addr × Obj)) (s : Shared) (σ : St) (H : Hp) (xs : List V) (us : List Value) (Q : VK), Inv X pins σ H s → Vals xs us → r xs H Q →
  wpAny (model X.prog X.w) X.A (call f us) (EP X pins σ Q) X.xe s
def tOp (r : R2) (ta tb : TE) : TE := fun σ H Q => ta σ H fun x H1 => tb σ H1 fun y H2 => r x y H2 Q
def tUn (r : V → Hp → VK → Prop) (ta : TE) : TE := fun σ H Q => ta σ H fun x H1 => r x H1 Q
def rI (C : Int → Int → Prop) (g : Int → Int → V) : R2 := fun x y H Q => ∃ i j, x = .int i ∧ y = .int j ∧ C i j ∧ Q (g i j) H
def rI0 (g : Int → Int → V) : R2 := fun x y H Q => ∃ i j, x = .int i ∧ y = .int j ∧ Q (g i j) H
def rU (g : Int → V) : V → Hp → VK → Prop := fun x H Q => ∃ i, x = .int i ∧ Q (g i) H
section
variable {X : Cx} {a b c : Expr} {ta tb tc : TE} {pos : Pos}
theorem binT (ha : PE X a ta) (hb : PE X b tb) {pins : List (Addr × Obj)} {s : Shared} {σ : St} {H : Hp} {R : V → V → Hp → Prop} (I : Inv X pins σ H s)
  (h : ta σ H fun x H1 => tb σ H1 fun y H2 => R x y H2) {Q : Value → Shared → Prop} {f : Value → Value → Sem Value}
  (hf : ∀ v u s2 x y H2, Inv X pins σ H2 s2 → RelV x v → RelV y u → R x y H2 → wpAny (model X.prog X.w) X.A (f v u) Q X.xe s2) :
  wpAny (model X.prog X.w) X.A (eval a X.env) (fun v s₁ => wpAny (model X.prog X.w) X.A (eval b X.env) (fun u s₂ => wpAny (model X.prog X.w) X.A (f v u) Q X.xe s₂) X.xe s₁) X.xe s := by
 refine thn (ha pins s σ H _ I h) fun v s1 hqP => ?_
 obtain ⟨x, H1, I1, r1, q1⟩ := hqP
 refine thn (hb pins s1 σ H1 _ I1 q1) fun u s2 hqP => ?_
 obtain ⟨y, H2, I2, r2, q2⟩ := hqP
 exact hf v u s2 x y H2 I2 r1 r2 q2
theorem pe_op {op : Operator} {r : R2} (ho : OpR X (binaryOp op) r) (ha : PE X a ta) (hb : PE X b tb) : PE X (.BinOp a op b pos) (tOp r ta tb) := by
 intro pins s σ H Q I h
 exact wpAny_BinOp (binT ha hb I h fun v u s2 x y H2 I2 rx ry q => ho pins s2 σ H2 x y v u Q I2 rx ry q)
theorem pe_un {op : UnaryOp} {r : V → Hp → VK → Prop} (ho : UnR X (unaryOp op) r) (ha : PE X a ta) : PE X (.UnaryOp op a pos) (tUn r ta) := by
 intro pins s σ H Q I h
 exact UnaryOp_ (thn (ha pins s σ H _ I h) fun v s1 ⟨x, H1, I1, r1, q1⟩ => ho pins s1 σ H1 x v Q I1 r1 q1)
theorem opI {f : Value → Value → Sem Value} {C : Int → Int → Prop} {g : Int → Int → Int}
  (rule : ∀ (i j : Int) (t u : Tok) (s : Shared) (Q : Value → Shared → Prop) (E : Value → Shared → Prop), C i j → Q (.int (g i j) s.toks) { s with toks := s.toks + 1 } → wpAny (model X.prog X.w) X.A (f (.int i t) (.int j u)) Q E s) :
  OpR X f (rI C fun i j => .int (g i j)) := by
 intro pins s σ H x y v u Q I rx ry h
 obtain ⟨i, j, rfl, rfl, hc, q⟩ := h
 obtain ⟨t, rfl⟩ := rx
 obtain ⟨t', rfl⟩ := ry
 exact rule i j t t' s _ _ hc ⟨.int (g i j), H, I.tok _, ⟨_, rfl⟩, q⟩
theorem opI0 {f : Value → Value → Sem Value} {g : Int → Int → Int}
  (rule : ∀ (i j : Int) (t u : Tok) (s : Shared) (Q : Value → Shared → Prop) (E : Value → Shared → Prop), Q (.int (g i j) s.toks) { s with toks := s.toks + 1 } → wpAny (model X.prog X.w) X.A (f (.int i t) (.int j u)) Q E s) :
  OpR X f (rI0 fun i j => .int (g i j)) := by
 intro pins s σ H x y v u Q I rx ry h
 obtain ⟨i, j, rfl, rfl, q⟩ := h
 obtain ⟨t, rfl⟩ := rx
 obtain ⟨t', rfl⟩ := ry
 exact rule i j t t' s _ _ ⟨.int (g i j), H, I.tok _, ⟨_, rfl⟩, q⟩
theorem opB0 {f : Value → Value → Sem Value} {g : Int → Int → Bool}
  (rule : ∀ (i j : Int) (t u : Tok) (s : Shared) (Q : Value → Shared → Prop) (E : Value → Shared → Prop), Q (.bool (g i j)) s → wpAny (model X.prog X.w) X.A (f (.int i t) (.int j u)) Q E s) :
  OpR X f (rI0 fun i j => .bl (g i j)) := by
 intro pins s σ H x y v u Q I rx ry h
 obtain ⟨i, j, rfl, rfl, q⟩ := h
 obtain ⟨t, rfl⟩ := rx
 obtain ⟨t', rfl⟩ := ry
 exact rule i j t t' s _ _ ⟨.bl (g i j), H, I, rfl, q⟩
def CDiv (i j : Int) : Prop := 0 < j ∧ j < 1073741824
def CMul (i j : Int) : Prop := (-(2 ^ 64) < i ∧ i < 2 ^ 64) ∨ (-(2 ^ 64) < j ∧ j < 2 ^ 64)
theorem CMul.ok {i j : Int} (h : CMul i j) : IntMulOk i j := by
 rcases h with ⟨h1, h2⟩ | ⟨h1, h2⟩
 ·exact .of_left (intBits_le_64 h1 h2)
 ·exact .of_right (intBits_le_64 h1 h2)
theorem op_add : OpR X (binaryOp .Add) (rI0 fun i j => .int (i + j)) := opI0 fun _ _ _ _ _ _ _ q => add_int q
theorem op_sub : OpR X (binaryOp .Sub) (rI0 fun i j => .int (i - j)) := opI0 fun _ _ _ _ _ _ _ q => sub_int q
theorem op_mul : OpR X (binaryOp .Mult) (rI CMul fun i j => .int (i * j)) := opI fun _ _ _ _ _ _ _ hc q => mul_int q hc.ok
theorem op_fdiv : OpR X (binaryOp .FloorDiv) (rI CDiv fun i j => .int (i / j)) := opI fun i j _ _ _ _ _ hc q => by
 have h1 : (0 : Int) < j := hc.1
 have h2 : j < 1073741824 := hc.2
 exact floordiv_int (by omega) (by rw [Int.fdiv_eq_ediv_of_nonneg i (by omega)]; exact q) (.inl (PyProof.noPylong_small (by omega)))
theorem op_mod : OpR X (binaryOp .Mod) (rI (fun _ j => 0 < j) fun i j => .int (i % j)) := opI fun i j _ _ _ _ _ hc q => by
 have h1 : (0 : Int) < j := hc
 exact mod_int' (by omega) (by rw [Int.fmod_eq_emod_of_nonneg i (by omega)]; exact q)
theorem unI {f : Value → Sem Value} {g : Int → Int}
  (rule : ∀ (i : Int) (t : Tok) (s : Shared) (Q : Value → Shared → Prop) (E : Value → Shared → Prop), Q (.int (g i) s.toks) { s with toks := s.toks + 1 } → wpAny (model X.prog X.w) X.A (f (.int i t)) Q E s) :
  UnR X f (rU fun i => .int (g i)) := by
 intro pins s σ H x v Q I rx h
 obtain ⟨i, rfl, q⟩ := h
 obtain ⟨t, rfl⟩ := rx
 exact rule i t s _ _ ⟨.int (g i), H, I.tok _, ⟨_, rfl⟩, q⟩
theorem un_neg : UnR X (unaryOp .USub) (rU fun i => .int (-i)) := unI fun _ _ _ _ _ q => neg_int q
end
def scal : V → V → Bool
 | .non, .non => true | .non, .int _ => true | .int _, .non => true | .non, .bl _ => true | .bl _, .non => true | .non, .str _ => true | .str _, .non => true
 | .int _, .int _ => true | .bl _, .bl _ => true | .str _, .str _ => true | .byt _, .byt _ => true
 | .int _, .str _ => true | .str _, .int _ => true | .bl _, .str _ => true | .str _, .bl _ => true
 | _, _ => false
def rEq : R2 := fun x y H Q => scal x y = true ∧ Q (.bl (decide (x = y))) H
def rNe : R2 := fun x y H Q => scal x y = true ∧ Q (.bl (!decide (x = y))) H
theorem dec_int {i j : Int} : decide (V.int i = V.int j) = (i == j) := by
 rw [jQf]
 simp
theorem dec_bl {i j : Bool} : decide (V.bl i = V.bl j) = (i == j) := by
 rw [jQf]
 simp
theorem dec_str {i j : Str} : decide (V.str i = V.str j) = (i == j) := by
 rw [jQf]
 simp
theorem dec_byt {i j : Array UInt8} : decide (V.byt i = V.byt j) = (i.toList == j.toList) := by
 rw [jQf]
 cases i
 cases j
 simp
section
variable {X : Cx} {a b c : Expr} {ta tb tc : TE} {pos : Pos}
theorem fin_bl {pins : List (Addr × Obj)} {σ : St} {H : Hp} {s : Shared} {Q : VK} {k k' : Bool} (I : Inv X pins σ H s) (q : Q (.bl k) H) (e : k = k') : EP X pins σ Q (.bool k') s := by
 subst e
 exact ⟨.bl k, H, I, rfl, q⟩
theorem op_eq : OpR X (compareOp .Eq) rEq := by
 intro pins s σ H x y v u Q I rx ry h
 obtain ⟨hs, q⟩ := h
 cases x with
 | non =>
  cases rx
  cases y with
  | non => cases ry; exact PySem.EqNone.eq_none_none (fin_bl I q (by simp))
  | bl j => cases ry; exact PySem.EqNone.eq_none_bool (fin_bl I q (by simp))
  | int j => obtain ⟨t', rfl⟩ := ry; exact PySem.EqNone.eq_none_int (fin_bl I q (by simp))
  | str j => obtain ⟨t', rfl⟩ := ry; exact PySem.EqNone.eq_none_str (fin_bl I q (by simp))
  | _ => exact absurd (show false = true from hs) kZ
 | bl i =>
  cases rx
  cases y with
  | non => cases ry; exact PySem.EqNone.eq_bool_none (fin_bl I q (by simp))
  | bl j => cases ry; exact eq_bool (fin_bl I q dec_bl)
  | str j => obtain ⟨t', rfl⟩ := ry; exact PySem.EqMixed.eq_bool_str (fin_bl I q (by simp))
  | _ => exact absurd (show false = true from hs) kZ
 | int i =>
  obtain ⟨t, rfl⟩ := rx
  cases y with
  | non => cases ry; exact PySem.EqNone.eq_int_none (fin_bl I q (by simp))
  | int j => obtain ⟨t', rfl⟩ := ry; exact eq_int (fin_bl I q dec_int)
  | str j => obtain ⟨t', rfl⟩ := ry; exact PySem.EqMixed.eq_int_str (fin_bl I q (by simp))
  | _ => exact absurd (show false = true from hs) kZ
 | str i =>
  obtain ⟨t, rfl⟩ := rx
  cases y with
  | non => cases ry; exact PySem.EqNone.eq_str_none (fin_bl I q (by simp))
  | bl j => cases ry; exact PySem.EqMixed.eq_str_bool (fin_bl I q (by simp))
  | int j => obtain ⟨t', rfl⟩ := ry; exact PySem.EqMixed.eq_str_int (fin_bl I q (by simp))
  | str j => obtain ⟨t', rfl⟩ := ry; exact eq_str (fin_bl I q dec_str)
  | _ => exact absurd (show false = true from hs) kZ
 | byt i =>
  obtain ⟨t, rfl⟩ := rx
  cases y with
  | byt j => obtain ⟨t', rfl⟩ := ry; exact PySem.W.eq_bytes (fin_bl I q dec_byt)
  | _ => exact absurd (show false = true from hs) kZ
 | _ => cases y <;> exact absurd (show false = true from hs) kZ
theorem op_ne : OpR X (compareOp .NotEq) rNe := by
 intro pins s σ H x y v u Q I rx ry h
 obtain ⟨hs, q⟩ := h
 cases x with
 | non =>
  cases rx
  cases y with
  | non => cases ry; exact PySem.EqNone.ne_none_none (fin_bl I q (by simp))
  | bl j => cases ry; exact PySem.EqNone.ne_none_bool (fin_bl I q (by simp))
  | int j => obtain ⟨t', rfl⟩ := ry; exact PySem.EqNone.ne_none_int (fin_bl I q (by simp))
  | str j => obtain ⟨t', rfl⟩ := ry; exact PySem.EqNone.ne_none_str (fin_bl I q (by simp))
  | _ => exact absurd (show false = true from hs) kZ
 | bl i =>
  cases rx
  cases y with
  | non => cases ry; exact PySem.EqNone.ne_bool_none (fin_bl I q (by simp))
  | bl j => cases ry; exact ne_bool (fin_bl I q (congrArg not dec_bl))
  | str j => obtain ⟨t', rfl⟩ := ry; exact PySem.EqMixed.ne_bool_str (fin_bl I q (by simp))
  | _ => exact absurd (show false = true from hs) kZ
 | int i =>
  obtain ⟨t, rfl⟩ := rx
  cases y with
  | non => cases ry; exact PySem.EqNone.ne_int_none (fin_bl I q (by simp))
  | int j => obtain ⟨t', rfl⟩ := ry; exact ne_int (fin_bl I q (congrArg not dec_int))
  | str j => obtain ⟨t', rfl⟩ := ry; exact PySem.EqMixed.ne_int_str (fin_bl I q (by simp))
  | _ => exact absurd (show false = true from hs) kZ
 | str i =>
  obtain ⟨t, rfl⟩ := rx
  cases y with
  | non => cases ry; exact PySem.EqNone.ne_str_none (fin_bl I q (by simp))
  | bl j => cases ry; exact PySem.EqMixed.ne_str_bool (fin_bl I q (by simp))
  | int j => obtain ⟨t', rfl⟩ := ry; exact PySem.EqMixed.ne_str_int (fin_bl I q (by simp))
  | str j => obtain ⟨t', rfl⟩ := ry; exact ne_str (fin_bl I q (congrArg not dec_str))
  | _ => exact absurd (show false = true from hs) kZ
 | byt i =>
  obtain ⟨t, rfl⟩ := rx
  cases y with
  | byt j => obtain ⟨t', rfl⟩ := ry; exact PySem.W.ne_bytes (fin_bl I q (congrArg not dec_byt))
  | _ => exact absurd (show false = true from hs) kZ
 | _ => cases y <;> exact absurd (show false = true from hs) kZ
theorem op_lt : OpR X (compareOp .Lt) (rI0 fun i j => .bl (decide (i < j))) := opB0 fun _ _ _ _ _ _ _ q => lt_int q
theorem op_gt : OpR X (compareOp .Gt) (rI0 fun i j => .bl (decide (j < i))) := opB0 fun _ _ _ _ _ _ _ q => gt_int q
theorem op_ge : OpR X (compareOp .GtE) (rI0 fun i j => .bl (decide (j ≤ i))) := opB0 fun _ _ _ _ _ _ _ q => ge_int q
theorem op_isN : OpR X (compareOp .Is) (fun x y H Q => y = .non ∧ Q (.bl (decide (x = .non))) H) := by
 intro pins s σ H x y v u Q I rx ry h
 obtain ⟨rfl, q⟩ := h
 cases ry
 refine is_none_gen (fin_bl I q ?_)
 cases x <;> first
  | (cases rx; rfl)
  | (obtain ⟨t, rfl⟩ := rx; rfl)
theorem op_notN : OpR X (compareOp .IsNot) (fun x y H Q => y = .non ∧ Q (.bl (!decide (x = .non))) H) := by
 intro pins s σ H x y v u Q I rx ry h
 obtain ⟨rfl, q⟩ := h
 cases ry
 refine isnot_none_gen (fin_bl I q ?_)
 cases x <;> first
  | (cases rx; rfl)
  | (obtain ⟨t, rfl⟩ := rx; rfl)
theorem nomark (b : Expr) {op : CmpOp} (h : autoParam (op ≠ .In) L2.aDec._auto_1) (h2 : autoParam (op ≠ .NotIn) L2.aDec._auto_1) : behindInMarks op b = false := by
 have e1 : (op == CmpOp.In) = false := by cases op <;> first | rfl | exact absurd rfl h
 have e2 : (op == CmpOp.NotIn) = false := by cases op <;> first | rfl | exact absurd rfl h2
 cases b <;> simp [behindInMarks, e1, e2]
theorem pe_cmpR {op : CmpOp} {r : R2} (ho : OpR X (compareOp op) r) (ha : PE X a ta) (hb : PE X b tb) (hm : behindInMarks op b = false) : PE X (.Compare a [op] [b] pos) (tOp r ta tb) := by
 intro pins s σ H Q I h
 exact wpAny_Compare1 (binT ha hb I h fun v u s2 x y H2 I2 rx ry q => ho pins s2 σ H2 x y v u Q I2 rx ry q) hm
def tTest (t : TE) : TT := fun σ H Q => t σ H fun x H' => ∃ k, x = .bl k ∧ Q k H'
theorem pt_cmpR {op : CmpOp} {r : R2} (ho : OpR X (compareOp op) r) (ha : PE X a ta) (hb : PE X b tb) (hm : behindInMarks op b = false) : PT X (.Compare a [op] [b] pos) (tTest (tOp r ta tb)) := by
 intro pins s σ H Q I h
 refine wpAny_isTrue_Compare1 (thn (ha pins s σ H _ I h) fun v s1 ⟨x, H1, I1, r1, q1⟩ => thn (hb pins s1 σ H1 _ I1 q1) fun u s2 ⟨y, H2, I2, r2, q2⟩ =>
  thn (ho pins s2 σ H2 x y v u _ I2 r1 r2 q2) fun c s3 ⟨z, H3, I3, r3, k, e, q3⟩ => ?_) hm
 subst e
 cases r3
 exact wpAny_truthy_bool ⟨H3, I3, q3⟩
theorem line63 : (sizeLine : Nat) < 2 ^ 63 := by rw [sizeLine_eq]; decide
theorem vals1 {x : V} {us : List Value} (r : Vals [x] us) : ∃ u, us = [u] ∧ RelV x u := by
 cases r with
 | cons r1 r2 => cases r2; exact ⟨_, rfl, r1⟩
theorem vals2 {x y : V} {us : List Value} (r : Vals [x, y] us) : ∃ u w', us = [u, w'] ∧ RelV x u ∧ RelV y w' := by
 cases r with
 | cons r1 r2 =>
  cases r2 with
  | cons r3 r4 => cases r4; exact ⟨_, _, rfl, r1, r3⟩
theorem call_max2 (hc : X.calm = true) : CallR X (.builtin "max") (fun xs H Q => ∃ i j, xs = [.int i, .int j] ∧ Q (.int (if j > i then j else i)) H) := by
 intro pins s σ H xs us Q I r h
 obtain ⟨i, j, rfl, q⟩ := h
 obtain ⟨u, w', rfl, ⟨t, rfl⟩, ⟨t', rfl⟩⟩ := vals2 r
 refine max_two_ints (I.ok.hd hc) fun h' tk k => ⟨_, H, I.kept k, ?_, q⟩
 by_cases hj : j > i
 ·rw [if_pos hj, if_pos hj]; exact ⟨_, rfl⟩
 ·rw [if_neg hj, if_neg hj]; exact ⟨_, rfl⟩
theorem call_min2 (hc : X.calm = true) : CallR X (.builtin "min") (fun xs H Q => ∃ i j, xs = [.int i, .int j] ∧ Q (.int (if j < i then j else i)) H) := by
 intro pins s σ H xs us Q I r h
 obtain ⟨i, j, rfl, q⟩ := h
 obtain ⟨u, w', rfl, ⟨t, rfl⟩, ⟨t', rfl⟩⟩ := vals2 r
 refine min_two_ints (I.ok.hd hc) fun h' tk k => ⟨_, H, I.kept k, ?_, q⟩
 by_cases hj : j < i
 ·rw [if_pos hj, if_pos hj]; exact ⟨_, rfl⟩
 ·rw [if_neg hj, if_neg hj]; exact ⟨_, rfl⟩
theorem call_int1 : CallR X (.type "int") (fun xs H Q => (∃ i, xs = [.int i] ∧ Q (.int i) H) ∨ ∃ k, xs = [.bl k] ∧ Q (.int (if k then 1 else 0)) H) := by
 intro pins s σ H xs us Q I r h
 rcases h with ⟨i, rfl, q⟩ | ⟨k, rfl, q⟩
 ·obtain ⟨u, rfl, t, rfl⟩ := vals1 r
  exact call_int_int ⟨.int i, H, I, ⟨_, rfl⟩, q⟩
 ·obtain ⟨u, rfl, r1⟩ := vals1 r
  cases r1
  exact call_int_bool ⟨.int (if k then 1 else 0), H, I.tok _, ⟨_, rfl⟩, q⟩
theorem call_divmod : CallR X (.builtin "divmod") (fun xs H Q => ∃ i j, xs = [.int i, .int j] ∧ CDiv i j ∧ ∀ p, H p = none → Q (.ref p) (upd H p (.tup [.int (i / j), .int (i % j)]))) := by
 intro pins s σ H xs us Q I r h
 obtain ⟨i, j, rfl, ⟨h1, h2⟩, q⟩ := h
 obtain ⟨u, w', rfl, ⟨t, rfl⟩, ⟨t', rfl⟩⟩ := vals2 r
 refine divmod_int (by omega) ?_ (.inl (PyProof.noPylong_small (by omega)))
 rw [Int.fdiv_eq_ediv_of_nonneg i (by omega), Int.fmod_eq_emod_of_nonneg i (by omega)]
 have hn : H s.heap.objs.size = none := I.hok.fresh (jX _)
 refine ⟨.ref s.heap.objs.size, _, ?_, rfl, q _ hn⟩
 refine I.laid (fun b o e => jK _ e) (jX _) ⟨by simp only [yJ, kQc]; rw [sizeLine_eq]; decide, [.int (i / j) s.toks, .int (i % j) (s.toks + 1)], .cons ⟨_, rfl⟩ (.cons ⟨_, rfl⟩ .nil), ?_⟩
 exact ⟨_, zX s.heap rfl, rfl, 0, rfl⟩
end
section
variable {prog : Program} {w : World} {A : Around} {E : Value → Shared → Prop} {s : Shared} {K : Fg} {x dx C f : Addr} {mA : Str → Option Value} {name : Str} {v : Value}
end
section
variable {P : Program} {w : World} {H H' : Hp} {h h' : Heap} {a C dx : Addr} {fs fs' : List (Str × V)}
end
section
variable {X : Cx} {pins : List (Addr × Obj)} {σ : St} {H : Hp} {s : Shared} {a C dx : Addr} {fs : List (Str × V)} {f : Str} {v : V} {A : Around} {E : Value → Shared → Prop}
end
section
variable {X : Cx} {o e value : Expr} {f : Str} {pos pos' tpos : Pos} {ta tv : TE}
end
section
variable {X : Cx} {pins : List (Addr × Obj)} {σ : St} {H : Hp} {s : Shared} {A : Around} {E : Value → Shared → Prop} {Q : Value → Shared → Prop} {c : Value} {b : Bool}
end
structure Room (k : Nat) (A : Around) : Prop where
 hd : A.handled = none
 dp : A.depth + 3 * k + 5 < recursionLimit
 un : A.units + 16 * k + 200 < cLine
theorem Room.mono {j k : Nat} {A : Around} (r : Room k A) (h : j ≤ k) : Room j A := ⟨r.hd, by have := r.dp; omega, by have := r.un; omega⟩
theorem Room.deeper {k : Nat} {A : Around} (r : Room (k + 1) A) (env : Env) : Room k (A.deeper env) :=
 ⟨r.hd, by have := r.dp; show A.depth + 1 + 3 * k + 5 < _; omega, by have := r.un; show A.units + 3 + 16 * k + 200 < _; omega⟩
theorem Room.depth {k : Nat} {A : Around} (r : Room k A) : A.depth < recursionLimit := by have := r.dp; omega
def tNil : TA := fun _ H Q => Q [] H
def tCons (ta : TE) (tr : TA) : TA := fun σ H Q => ta σ H fun x H1 => tr σ H1 fun xs H2 => Q (x :: xs) H2
section
variable {X : Cx} {e : Expr} {es : List Expr} {te : TE} {t : TA} {pos : Pos}
theorem pa_nil : PA X [] tNil := fun _ _ _ _ H Q I h => Calls.spliced_nil ⟨[], H, I, .nil, h⟩
theorem pa_cons (ha : PE X e te) (hr : PA X es t) (hs : autoParam (starEach (e :: es) X.env = (false, eval e X.env) :: starEach es X.env) L2.aRfl._auto_1) : PA X (e :: es) (tCons te t) := by
 intro pos pins s σ H Q I h
 rw [hs]
 show wpAny _ _ (spliced ((false, eval e X.env) :: backTo pos (starEach es X.env))) _ _ s
 refine Calls.spliced_cons (thn (ha pins s σ H _ I h) fun u s1 hqP => ?_)
 obtain ⟨x, H1, I1, r1, q1⟩ := hqP
 exact thn (hr pos pins s1 σ H1 _ I1 q1) fun us s2 ⟨xs, H2, I2, r2, q2⟩ => ⟨x :: xs, H2, I2, .cons r1 r2, q2⟩
def tTup (t : TA) : TE := fun σ H Q => t σ H fun xs H1 => xs.length ≤ sizeLine ∧ ∀ p, H1 p = none → Q (.ref p) (upd H1 p (.tup xs))
def tLst (t : TA) : TE := fun σ H Q => t σ H fun xs H1 => xs.length ≤ sizeLine ∧ ∀ p, H1 p = none → Q (.ref p) (upd H1 p (.lst xs))
theorem pe_tup {x1} (h : PA X es t) : PE X (.Tuple es x1 pos) (tTup t) := by
 intro pins s σ H Q I hq
 refine wpAny_Tuple_spliced (thn (h pos pins s σ H _ I hq) fun us s1 ⟨xs, H1, I1, r, z, q⟩ => ⟨by rw [← r.length]; exact z, ?_⟩)
 have hf : H1 s1.heap.objs.size = none := I1.hok.fresh (jX _)
 refine ⟨.ref s1.heap.objs.size, upd H1 s1.heap.objs.size (.tup xs), I1.laid (t' := s1.toks) (fun b u e => jK _ e) (jX _) ?_, rfl, q _ hf⟩
 exact ⟨z, us, r, ⟨_, zX _ rfl, rfl, _, rfl⟩⟩
theorem pe_lst (h : PA X es t) : PE X (.List es pos) (tLst t) := by
 intro pins s σ H Q I hq
 refine wpAny_List_spliced (thn (h pos pins s σ H _ I hq) fun us s1 ⟨xs, H1, I1, r, z, q⟩ => ⟨by rw [← r.length]; exact z, ?_⟩)
 have hf : H1 s1.heap.objs.size = none := I1.hok.fresh (jX _)
 refine ⟨.ref s1.heap.objs.size, upd H1 s1.heap.objs.size (.lst xs), I1.laid (t' := s1.toks) (fun b u e => jK _ e) (jX _) ?_, rfl, q _ hf⟩
 exact ⟨z, us, 0, r, zX _ rfl⟩
end
abbrev Sp := List V → Hp → VK → XK → Prop
abbrev CXT := List Env → Hp → Shared → XK → Value → Shared → Prop
structure Env0 (P : Program) (w : World) (K : Fg) (mg : Str → Option Value) (base : Heap) (A : Around) (outer : List Env) (s : Shared) (H : Hp) : Prop where
 frames : A.frames = some outer
 mod : Mod K mg base
 bs : ∀ b o, base.get? b = some o → s.heap.get? b = some o ∧ H b = none
 bsz : base.objs.size ≤ s.heap.objs.size
 funs : s.heap.FunFrames base outer
 frf : ∀ b ∈ frs outer, H b = none
 hok : HOk P w H s.heap
 bare : AllBare s.gens
def CE (outer : List Env) (P : Program) (w : World) (H : Hp) (s : Shared) (Q : VK) (u : Value) (s' : Shared) : Prop :=
 ∃ v H', s'.os = s.os ∧ AllBare s'.gens ∧ Un (frs outer) [] H H' s.heap s'.heap ∧ HOk P w H' s'.heap ∧ RelV v u ∧ Q v H'
def CR (CX : CXT) (outer : List Env) (P : Program) (w : World) (H : Hp) (s : Shared) (Q : VK) (E : XK) (r : Result) (s' : Shared) : Prop :=
 match r with
 | .ok (.ret u) => CE outer P w H s Q u s'
 | .ok _ => False
 | .error e => CX outer H s E e s'
structure FnOk (P : Program) (w : World) (K : Fg) (mg : Str → Option Value) (base : Heap) (CX : CXT) (k : Nat) (f : Addr) (fd : FuncData) (ps : List Str) (sp : Sp) : Prop where
 len : ∀ vs H Q E, sp vs H Q E → vs.length = ps.length
 run : ∀ (A : Around) (outer : List Env) (s : Shared) (H : Hp) (args : Args) (us : List Value) (vs : List V) (Q : VK) (E : XK), Room k A → Env0 P w K mg base A outer s H → BindsTo s fd args (ps.zip us) → Vals vs us → sp vs H Q E →
  codeAny (model P w) A (.call (.ref f) args) (CR CX outer P w H s Q E) s
section
variable {X : Cx} {pins : List (Addr × Obj)} {σ : St} {H : Hp} {s s' : Shared}
theorem Inv.env0 (I : Inv X pins σ H s) : Env0 X.prog X.w X.K X.mg X.base X.A X.stack s H :=
 ⟨I.ok.frames, I.ok.mod, I.bs, jQe I.ok.bsz I.sz, I.stack, I.stkFree, I.hok, I.bare⟩
theorem Inv.after {Q : VK} {u : Value} (I : Inv X pins σ H s) (h : CE X.stack X.prog X.w H s Q u s') : EP X pins σ Q u s' := by
 obtain ⟨v, H', os, bare, un, hok, r, q⟩ := h
 obtain ⟨hh, g, d, t, os'⟩ := s'
 obtain rfl : os' = s.os := os
 exact ⟨v, H', I.call (h' := hh) (g' := g) (d' := d) (t' := t) (ch := []) un hok bare (fun b z => absurd z (by simp)), r, q⟩
end
def tCall (sp : Sp) (dvs : List V) (E : XK) (t : TA) : TE := fun σ H Q => t σ H fun vs H1 => sp (vs ++ dvs) H1 Q E
def Binds (K : Fg) (fd : FuncData) (ps : List Str) (ds : List Value) : Prop :=
 ∀ (s : Shared) (us : List Value), K.In s.heap → (us ++ ds).length = ps.length → BindsTo s fd ⟨us, []⟩ (ps.zip (us ++ ds))
theorem Binds.all {K : Fg} {fd : FuncData} {ps : List Str} (h : ∀ us : List Value, us.length = ps.length → bindArgs fd ⟨us, []⟩ = pure (ps.zip us)) : Binds K fd ps [] := fun s us _ hl => by
 rw [jJd] at hl ⊢
 exact .of_eq (h us hl)
def Passes (CX : CXT) (X : Cx) (E : XK) : Prop := ∀ (pins : List (Addr × Obj)) (σ : St) (H : Hp) (s : Shared) (e : Value) (s' : Shared), Inv X pins σ H s → CX X.stack H s E e s' → X.xe e s'
section
variable {X : Cx} {CX : CXT} {k : Nat} {f C : Addr} {fd : FuncData} {ps : List Str} {sp : Sp} {dvs : List V} {ds : List Value} {E : XK} {x m : Str} {p pos apos : Pos} {e o : Expr} {es : List Expr} {ta : TE} {t : TA}
theorem run_fn {pins : List (Addr × Obj)} {σ : St} {H : Hp} {s : Shared} {Q : VK} {us : List Value} {vs : List V} (F : FnOk X.prog X.w X.K X.mg X.base CX k f fd ps sp) (hr : Room k X.A) (hb : Binds X.K fd ps ds) (hd : Vals dvs ds) (hx : Passes CX X E)
  (I : Inv X pins σ H s) (r : Vals vs us) (h : sp (vs ++ dvs) H Q E) : wpAny (model X.prog X.w) X.A (call (.ref f) us) (EP X pins σ Q) X.xe s := by
 have r2 : Vals (vs ++ dvs) (us ++ ds) := r.append hd
 have hl : (us ++ ds).length = ps.length := by rw [← r2.length]; exact F.len _ _ _ _ h
 refine wpAny_call (codeAny_mono (F.run X.A X.stack s H ⟨us, []⟩ (us ++ ds) (vs ++ dvs) Q E hr I.env0 (hb s us I.kIn hl) r2 h) fun r s' hq => ?_)
 cases r with
 | error e => exact hx pins σ H s e s' I hq
 | ok fl =>
  cases fl with
  | ret u => exact I.after hq
  | next => exact False.elim hq
  | brk => exact False.elim hq
  | cont => exact False.elim hq
theorem pe_call (F : FnOk X.prog X.w X.K X.mg X.base CX k f fd ps sp) (hr : Room k X.A) (hg : Gl X x) (hm : X.mg x = some (.ref f)) (hk : PySem.W.keepIn X.K (.ref f) = true) (hb : Binds X.K fd ps ds) (hd : Vals dvs ds) (hx : Passes CX X E)
  (ha : PA X (e :: es) t) (hdb : autoParam ((x == ("__debug__" : Str)) = false) L2.aDec._auto_1) (he : autoParam (starEach (e :: es) X.env = (false, eval e X.env) :: starEach es X.env) L2.aRfl._auto_1) (hpl : autoParam ((backTo pos (starEach es X.env)).any (·.1) = false) L2.aRfl._auto_1) :
  PE X (.Call (.Name x p) (e :: es) [] pos) (tCall sp dvs E t) := by
 intro pins s σ H Q I h
 refine wpAny_Call_Name_kw (ld_glob I hg hm ?_ hdb)
 refine PySem.W.callWith_K (h₀ := X.base) I.ok.mod.kin hk (thn (ha pos pins s σ H _ I h) fun us s1 ⟨vs, H1, I1, r, q⟩ => ⟨I1.kIn, ?_⟩) he hpl
 exact run_fn F hr hb hd hx I1 r q
theorem pe_call0 (F : FnOk X.prog X.w X.K X.mg X.base CX k f fd ps sp) (hr : Room k X.A) (hg : Gl X x) (hm : X.mg x = some (.ref f)) (hk : PySem.W.keepIn X.K (.ref f) = true) (hb : Binds X.K fd ps ds) (hd : Vals dvs ds) (hx : Passes CX X E)
  (hdb : autoParam ((x == ("__debug__" : Str)) = false) L2.aDec._auto_1) : PE X (.Call (.Name x p) [] [] pos) (tCall sp dvs E tNil) := by
 intro pins s σ H Q I h
 refine wpAny_Call_Name_kw (ld_glob I hg hm ?_ hdb)
 exact PySem.W.callWith_K0 I.kIn hk (run_fn (us := []) F hr hb hd hx I .nil h)
end
section
variable {X : Cx} {CX : CXT} {k : Nat} {f C : Addr} {fd : FuncData} {ps ks : List Str} {sp : Sp} {E : XK} {x m : Str} {p pos apos kpos : Pos} {e o : Expr} {es : List Expr} {kws : List Keyword} {te ta : TE} {t tk : TA} {nm : Option Str}
variable {g : List Value → List Value → List Value} {gV : List V → List V → List V}
end
structure FnScope (N P : List Str) (sc : Scope) : Prop where
 kind : sc.kind = .function
 co : sc.isCoroutine = false
 gen : sc.isGenerator = false
 nd : N.Nodup
 pre : N.take P.length = P
 par : ∀ x ∈ P, sc.names.lookup x = some .local ∨ sc.names.lookup x = some .cell
 nofree : ∀ y ∈ sc.names, y.2 ≠ .free
theorem bindL_out {kindOf : Str → Option NameKind} {x : Str} : ∀ {binds : List (Str × Value)} {m : Str → Option Value}, (∀ v, (x, v) ∉ binds) → bindL kindOf binds m x = m x
 | [], _, _ => rfl
 | (n, v) :: r, m, h => by
  unfold bindL
  rw [bindL_out fun w hw => h w (zY _ hw)]
  split
  ·have : x ≠ n := by rintro rfl; exact h v xZ
   simp [this]
  ·rfl
theorem bindC_out {kindOf : Str → Option NameKind} {x : Str} : ∀ {binds : List (Str × Value)} {m : Str → Option Value}, (∀ v, (x, v) ∉ binds) → bindC kindOf binds m x = m x
 | [], _, _ => rfl
 | (n, v) :: r, m, h => by
  unfold bindC
  rw [bindC_out fun w hw => h w (zY _ hw)]
  split
  ·rfl
  ·have : x ≠ n := by rintro rfl; exact h v xZ
   simp [this]
theorem bindL_get {kindOf : Str → Option NameKind} {x : Str} {v : Value} : ∀ {P : List Str} {vs : List Value} {i : Nat} {m : Str → Option Value}, P.Nodup → P[i]? = some x → vs[i]? = some v → kindOf x = some .local →
  bindL kindOf (P.zip vs) m x = some v
 | [], _, _, _, _, h, _, _ => by simp at h
 | _ :: _, [], _, _, _, _, h, _ => by simp at h
 | p :: P, w :: vs, 0, m, nd, h1, h2, hk => by
  simp at h1 h2; subst h1; subst h2
  show bindL kindOf ((p, w) :: P.zip vs) m p = _
  unfold bindL
  rw [bindL_out fun v hv => (jZd.mp nd).1 (List.of_mem_zip hv).1, if_pos hk]
  simp
 | p :: P, w :: vs, i + 1, m, nd, h1, h2, hk => by
  show bindL kindOf ((p, w) :: P.zip vs) m x = _
  unfold bindL
  exact bindL_get (i := i) (jZd.mp nd).2 (by simpa using h1) (by simpa using h2) hk
theorem bindC_get {kindOf : Str → Option NameKind} {x : Str} {v : Value} : ∀ {P : List Str} {vs : List Value} {i : Nat} {m : Str → Option Value}, P.Nodup → P[i]? = some x → vs[i]? = some v → kindOf x ≠ some .local →
  bindC kindOf (P.zip vs) m x = some v
 | [], _, _, _, _, h, _, _ => by simp at h
 | _ :: _, [], _, _, _, _, h, _ => by simp at h
 | p :: P, w :: vs, 0, m, nd, h1, h2, hk => by
  simp at h1 h2; subst h1; subst h2
  show bindC kindOf ((p, w) :: P.zip vs) m p = _
  unfold bindC
  rw [bindC_out fun v hv => (jZd.mp nd).1 (List.of_mem_zip hv).1, if_neg hk]
  simp
 | p :: P, w :: vs, i + 1, m, nd, h1, h2, hk => by
  show bindC kindOf ((p, w) :: P.zip vs) m x = _
  unfold bindC
  exact bindC_get (i := i) (jZd.mp nd).2 (by simpa using h1) (by simpa using h2) hk
def start (N : List Str) (vs : List V) : St := vs.map some ++ List.replicate (N.length - vs.length) none
def cxOf (CX : CXT) (P : Program) (w : World) (K : Fg) (mg : Str → Option Value) (base : Heap) (N : List Str) (qual : Str) (scope : Scope) (f : Addr) (cd : Value) (A : Around) (outer : List Env) (s : Shared) (H : Hp) (E : XK) : Cx where
 prog := P
 w := w
 K := K
 mg := mg
 base := base
 A := A.deeper (envOfC qual scope s.heap.objs.size f cd)
 N := N
 s₀ := s
 H₀ := H
 env := envOfC qual scope s.heap.objs.size f cd
 outer := outer
 stack := envOfC qual scope s.heap.objs.size f cd :: outer
 ex := []
 calm := true
 fn := fun _ => true
 pn := []
 xe := fun e s' => wpAny (model P w) (A.deeper (envOfC qual scope s.heap.objs.size f cd)) (leaving (envOfC qual scope s.heap.objs.size f cd) e) (fun _ s'' => CX outer H s E e s'') (fun e' s'' => CX outer H s E e' s'') s'
theorem cell_has {sc : Scope} {n : Nat} {x : Str} (h : sc.names.lookup x = some .cell) : ∃ c, (cellsFrom n sc.names []).lookup x = some c := by
 have q := PySem.W.cellsFrom_some sc.names n [] (.inl h)
 exact kYb.mp q
theorem inv_start {CX : CXT} {P : Program} {w : World} {K : Fg} {mg : Str → Option Value} {base : Heap} {N ps : List Str} {qual : Str} {scope : Scope} {f : Addr} {cd : Value} {A : Around} {outer : List Env} {s s1 : Shared} {H : Hp} {E : XK} {us : List Value} {vs : List V}
  (S : FnScope N ps scope) (hd : A.handled = none) (e0 : Env0 P w K mg base A outer s H) (hl : vs.length = ps.length) (r : Vals vs us)
  (x : InCallC s s.heap.objs.size (bindL (envOfC qual scope s.heap.objs.size f cd).kindOf (ps.zip us) fun _ => none) (cellsFrom (s.heap.objs.size + 1) scope.names []) (bindC (envOfC qual scope s.heap.objs.size f cd).kindOf (ps.zip us) fun _ => none) s1) :
  Inv (cxOf CX P w K mg base N qual scope f cd A outer s H E) [] (start N vs) H s1 := by
 have hpl : ps.length ≤ N.length := by have := congrArg List.length S.pre; rw [xQ] at this; omega
 obtain ⟨h1, tk, rfl, hk⟩ := x.done
 have noA : ∀ b : Addr, b ∉ (cxOf CX P w K mg base N qual scope f cd A outer s H E).ex := fun b z => absurd (show b ∈ ([] : List Addr) from z) (by simp)
 refine ⟨⟨e0.mod, S.kind, rfl, rfl, jX _, fun y z c h1 h2 => ?_, fun y hy => ?_, fun y c _ h => ?_, fun _ => hd, Around.frames_deeper e0.frames, .inr ⟨rfl, rfl⟩, fun b z => absurd z (noA b), e0.bs, e0.bsz, fun b _ _ => noA b, fun b z => absurd z (noA b), e0.funs, e0.frf⟩,
  rfl, e0.bare, Un.kept hk, ⟨_, x.toInCall.ns, fun i y v h1 h2 h3 => ?_⟩, fun y c h => ⟨_, x.cell y c h⟩, e0.hok.fresh (jX _), fun y c h => ?_, fun p hp => absurd (show p ∈ ([] : List (Addr × Obj)) from hp) (by simp), e0.hok.kept hk, ?_⟩
 ·exact name_of_addr x.apart (PySem.mem_of_lookup h1) (PySem.mem_of_lookup h2)
 ·have hy : scope.names.lookup y = some .cell ∨ scope.names.lookup y = some .free := hy
  rcases hy with hy | hy
  ·exact cell_has hy
  ·exact absurd rfl (S.nofree _ (PySem.mem_of_lookup hy))
 ·exact kQf (x.above y c (PySem.mem_of_lookup h))
 ·have hi : i < vs.length := by
   unfold start at h2
   by_cases hi : i < vs.length
   ·exact hi
   ·rw [jZf (by simpa using hi)] at h2
    rw [List.getElem?_replicate] at h2
    split at h2 <;> cases h2
  have ha : vs[i]? = some v := by
   unfold start at h2
   rw [jJb (by simpa using hi), kY] at h2
   cases e : vs[i]? with
   | none => rw [e] at h2; cases h2
   | some a => rw [e] at h2; cases h2; rfl
  obtain ⟨u, hu, rv⟩ := r.get ha
  have hp : ps[i]? = some y := by
   rw [← S.pre, List.getElem?_take_of_lt (by omega)]; exact h1
  have ndP : ps.Nodup := by rw [← S.pre]; exact S.nd.sublist (List.take_sublist _ _)
  refine ⟨u, rv, ?_⟩
  rcases S.par y (zZ hp) with k | k
  ·exact .inl ⟨k, bindL_get ndP hp hu k⟩
  ·obtain ⟨c, e⟩ := cell_has (n := s.heap.objs.size + 1) k
   refine .inr ⟨.inl k, c, e, ?_⟩
   have q := x.cell y c e
   rw [bindC_get ndP hp hu (by show scope.names.lookup y ≠ _; rw [k]; decide)] at q
   exact q
 ·exact e0.hok.fresh (kQf (x.above y c (PySem.mem_of_lookup h)))
 ·unfold start
  show _ = N.length
  rw [jW, jQ, jYb]
  omega
theorem fn_of {CX : CXT} {P : Program} {w : World} {K : Fg} {mg : Str → Option Value} {base : Heap} {k : Nat} {f : Addr} {name qual : Str} {params : Arguments} {body : List Stmt} {scope : Scope} {dV kV doc pm cdv ct oc : Value} {an od : Option Addr}
  {osl : Array (Option Value)} {N ps : List Str} {sp : Sp} (lk : K.lookup f = some ⟨oc, od, .func (PySem.W.fnOf name qual params body scope dV kV doc pm an cdv ct), osl⟩) (hcd : PySem.W.codeIn K cdv qual = true) (S : FnScope N ps scope)
  (len : ∀ vs H Q E, sp vs H Q E → vs.length = ps.length)
  (hbody : ∀ (A : Around) (outer : List Env) (s : Shared) (H : Hp) (vs : List V) (Q : VK) (E : XK), Room k (A.deeper (envOfC qual scope s.heap.objs.size f cdv)) → sp vs H Q E →
   ∃ t, PSs (cxOf CX P w K mg base N qual scope f cdv A outer s H E) body t ∧ t { nx := fun _ H' => Q .non H', rt := Q } (start N vs) H) :
  FnOk P w K mg base CX (k + 1) f (PySem.W.fnOf name qual params body scope dV kV doc pm an cdv ct) ps sp := by
 refine ⟨len, fun A outer s H args us vs Q E hr e0 hb r hsp => ?_⟩
 have hl := len _ _ _ _ hsp
 have KX : K.In s.heap := e0.mod.kin.keeps fun b o e => (e0.bs b o e).1
 have lim : s.heap.NoLimit := e0.mod.nolimit.keeps fun b o e => (e0.bs b o e).1
 have hkind : ∀ y ∈ ps.zip us, scope.names.lookup y.1 = some .local ∨ (scope.names.lookup y.1 = some .cell ∧ ((cellsFrom (s.heap.objs.size + 1) scope.names []).lookup y.1).isSome = true) := fun ⟨n, v⟩ hy => by
  rcases S.par n (List.of_mem_zip hy).1 with q | q
  ·exact .inl q
  ·exact .inr ⟨q, PySem.W.cellsFrom_some _ _ _ (.inl q)⟩
 refine codeAny_call_function hr.depth (KX _ _ lk) rfl S.co S.gen rfl (PySem.W.codeRec_of KX hcd) (hb _ _ _ _ ?_)
 refine wpAny_newFunctionEnv_cells S.kind hkind fun env he s1 x => ?_
 subst he
 refine ⟨lim.keeps x.toInCall.keep, codeAny_func ?_⟩
 obtain ⟨t, ht, hq⟩ := hbody A outer s H vs Q E (hr.deeper _) hsp
 have I : Inv (cxOf CX P w K mg base N qual scope f cdv A outer s H E) [] (start N vs) H s1 := inv_start S hr.hd e0 hl r x
 refine wpAny_mono (ht [] s1 (start N vs) H _ I hq) (fun fl s' hs => ?_) fun e s' hs => hs
 have fin : ∀ {σ' : St} {H' : Hp} {v : V} {u : Value}, Inv (cxOf CX P w K mg base N qual scope f cdv A outer s H E) [] σ' H' s' → RelV v u → Q v H' → CE outer P w H s Q u s' :=
  fun {σ' H' v u} J rv q => ⟨v, H', J.os, J.bare, J.base, J.hok, rv, q⟩
 cases fl with
 | ret u =>
  obtain ⟨v, σ', H', J, rv, q⟩ := hs
  exact fin J rv q
 | next =>
  obtain ⟨σ', H', J, q⟩ := hs
  exact fin (v := V.non) (u := Value.none) J rfl q
 | brk =>
  obtain ⟨_, _, _, q⟩ := hs
  exact False.elim q
 | cont =>
  obtain ⟨_, _, _, q⟩ := hs
  exact False.elim q
section
variable {X : Cx} {x : Str} {p pos : Pos} {e : Expr} {es : List Expr} {t : TA} {id T : String} {r : List V → Hp → VK → Prop}
def tCB (r : List V → Hp → VK → Prop) (t : TA) : TE := fun σ H Q => t σ H fun vs H1 => r vs H1 Q
theorem pe_callB (hc : CallR X (.builtin id) r) (hg : Gl X x) (hm : X.mg x = none) (hv : bootBuiltins x = some (.builtin id)) (ha : PA X (e :: es) t) (hn : autoParam (x ≠ "__name__") L2.aDec._auto_1) (hdb : autoParam ((x == ("__debug__" : Str)) = false) L2.aDec._auto_1)
  (he : autoParam (starEach (e :: es) X.env = (false, eval e X.env) :: starEach es X.env) L2.aRfl._auto_1) (hpl : autoParam ((backTo pos (starEach es X.env)).any (·.1) = false) L2.aRfl._auto_1) : PE X (.Call (.Name x p) (e :: es) [] pos) (tCB r t) := by
 intro pins s σ H Q I h
 refine wpAny_Call_Name_kw (ld_blt I hg hm hv ?_ hn hdb)
 exact PyProof.Rows.callWith_builtin1 (thn (ha pos pins s σ H _ I h) fun us s1 ⟨vs, H1, I1, r1, q1⟩ => hc pins s1 σ H1 vs us Q I1 r1 q1) he hpl
theorem pe_callTy (hc : CallR X (.type T) r) (hg : Gl X x) (hm : X.mg x = none) (hv : bootBuiltins x = some (.type T)) (ha : PA X (e :: es) t) (hn : autoParam (x ≠ "__name__") L2.aDec._auto_1) (hdb : autoParam ((x == ("__debug__" : Str)) = false) L2.aDec._auto_1)
  (he : autoParam (starEach (e :: es) X.env = (false, eval e X.env) :: starEach es X.env) L2.aRfl._auto_1) (hpl : autoParam ((backTo pos (starEach es X.env)).any (·.1) = false) L2.aRfl._auto_1) : PE X (.Call (.Name x p) (e :: es) [] pos) (tCB r t) := by
 intro pins s σ H Q I h
 refine wpAny_Call_Name_kw (ld_blt I hg hm hv ?_ hn hdb)
 exact PyProof.Rows.callWith_type1 (thn (ha pos pins s σ H _ I h) fun us s1 ⟨vs, H1, I1, r1, q1⟩ => hc pins s1 σ H1 vs us Q I1 r1 q1) he hpl
end
end L2
namespace HT
open PySem PyProof.Rows
section
open PySem.SeqAt
open PySem.AutoSeq1 (wpAny_loadPart')
open PySem.MeetsSeq PySem.MeetsSeq2 PySem.MeetsSeq3
end
section
variable {prog : Program} {w : World} {A : Around} {E : Value → Shared → Prop} {s : Shared}
theorem cat_tup {t b : Addr} {vs ws : List Value} {Q : Value → Shared → Prop} (ht : IsTup s.heap t vs.toArray) (hb : IsTup s.heap b ws.toArray) (hv : vs ≠ [])
  (h1 : ws = [] → Q (.ref t) s) (h2 : ws ≠ [] → Q (.ref s.heap.objs.size) { s with heap := s.heap.push { cls := .type "tuple", data := .seq (vs ++ ws).toArray } })
  (hsz : vs.length + ws.length ≤ sizeLine) : wpAny (model prog w) A (binaryOp .Add (.ref t) (.ref b)) Q E s := by
 obtain ⟨⟨cls, dd, data, sl⟩, ho, hc, n, hd⟩ := id ht
 obtain ⟨⟨cls2, dd2, data2, sl2⟩, ho2, hc2, n2, hd2⟩ := id hb
 simp only at hc hd hc2 hd2
 subst hc hd hc2 hd2
 have e : vs.toArray ++ ws.toArray = (vs ++ ws).toArray := by simp
 by_cases hw : ws = []
 ·exact concat_meets ⟨_, ho, rfl⟩ ⟨_, ho2, rfl⟩ noFill_tuple_add seq_tuple_add PySem.F.slot_tuple_add PySem.F.entry_tuple_add (PySem.F.args_tuple_add_2 _ _)
   (tuple_addW1 t b vs.toArray ws.toArray n n2 dd dd2 sl sl2 (by simpa using hv) (by simp [hw])) ⟨ho, ho2, h1 hw⟩
 ·refine concat_meets ⟨_, ho, rfl⟩ ⟨_, ho2, rfl⟩ noFill_tuple_add seq_tuple_add PySem.F.slot_tuple_add PySem.F.entry_tuple_add (PySem.F.args_tuple_add_2 _ _)
   (tuple_addW2 t b vs.toArray ws.toArray n n2 dd dd2 sl sl2 (by simpa using hv) (by simpa using hw) (by rw [jY, jY]; exact hsz)) ⟨ho, ho2, ?_⟩
  rw [e]
  exact h2 hw
def sIx (n d : Nat) : Option Int → Nat
 | none => d
 | some v => if v < 0 then (v + (n : Int)).toNat else min v.toNat n
theorem sIx_none (n d : Nat) : sIx n d none = d := rfl
theorem sIx_le (n d : Nat) (hd : d ≤ n) (o : Option Int) : sIx n d o ≤ n := by
 cases o with
 | none => exact hd
 | some v =>
  show (if v < 0 then (v + (n : Int)).toNat else min v.toNat n) ≤ n
  by_cases hv : v < 0
  ·rw [if_pos hv]; omega
  ·rw [if_neg hv]; exact Nat.min_le_right _ _
theorem min_cast (v : Int) (n : Nat) (h : ¬ v < 0) : min v (n : Int) = ((min v.toNat n : Nat) : Int) := by
 obtain ⟨k, rfl⟩ := Int.eq_ofNat_of_zero_le (Int.not_lt.mp h)
 rw [kXe]
 rcases Nat.le_total k n with h | h
 ·rw [kQd h, Int.min_eq_left (Int.ofNat_le.mpr h)]
 ·rw [Nat.min_eq_right h, Int.min_eq_right (Int.ofNat_le.mpr h)]
theorem clip_eq (v : Int) (n d : Nat) : (if v < 0 then max (v + (n : Int)) 0 else min v (n : Int)) = ((sIx n d (some v) : Nat) : Int) := by
 show (if v < 0 then max (v + (n : Int)) 0 else min v (n : Int)) = (((if v < 0 then (v + (n : Int)).toNat else min v.toNat n) : Nat) : Int)
 by_cases hv : v < 0
 ·rw [if_pos hv, if_pos hv]; exact (Int.ofNat_toNat _).symm
 ·rw [if_neg hv, if_neg hv]; exact min_cast v n hv
theorem adjust_gen (lo hi : Option Int) (n : Nat) : Builtin.Slice.sliceAdjust lo hi 1 (n : Int) = (((sIx n 0 lo : Nat) : Int), ((sIx n n hi : Nat) : Int)) := by
 have h1 : ¬ ((1 : Int) < 0) := by omega
 unfold Builtin.Slice.sliceAdjust
 simp only [h1, if_false]
 refine Prod.ext ?_ ?_
 ·cases lo with
  | none => rfl
  | some v => exact clip_eq v n 0
 ·cases hi with
  | none => rfl
  | some v => exact clip_eq v n n
theorem places_gen (i j : Nat) : Builtin.Slice.slicePlaces (i : Int) (j : Int) 1 = j - i := by
 unfold Builtin.Slice.slicePlaces
 have h1 : (1 : Int) > 0 := by omega
 simp only [h1, if_true, Int.ediv_one]
 split <;> omega
theorem slicePart_ {v : Value} {o : Option Int} {Q : Option Int → Shared → Prop} (p : IsPart v o) (h : Q o s) : wpAny (model prog w) A (Builtin.Slice.slicePartIndex v) Q E s := by
 cases p with
 | none => exact slicePart_none h
 | int i t => exact slicePart_int h
theorem sliceApplied_gen {sl : Addr} {vl vu : Value} {lo hi : Option Int} {n : Nat} {Q : Int × Int × Nat → Shared → Prop} (hs : s.heap.IsSliceOf sl vl vu .none) (pl : IsPart vl lo) (pu : IsPart vu hi)
  (h : Q (((sIx n 0 lo : Nat) : Int), 1, sIx n n hi - sIx n 0 lo) s) : wpAny (model prog w) A (Builtin.Slice.sliceApplied (.ref sl) (pure (n : Int))) Q E s := by
 obtain ⟨os, hos, hcs, hds⟩ := id hs
 unfold Builtin.Slice.sliceApplied Builtin.Slice.sliceFields
 refine jZ (jZ (wpAny_field hos hds (x := vl) rfl (jZ (wpAny_field hos hds (x := vu) rfl (jZ (wpAny_field hos hds (x := .none) rfl (kK ?_)))))))
 refine jZ (slicePart_none ?_)
 show wpAny _ _ (if ((1 : Int) == 0) = true then _ else _) _ _ s
 rw [if_neg (by decide)]
 refine jZ (slicePart_ pl (jZ (slicePart_ pu (jZ (kK ?_)))))
 show wpAny _ _ (match Builtin.Slice.sliceAdjust lo hi 1 (n : Int) with | (lo, hi) => pure (lo, (1 : Int), Builtin.Slice.slicePlaces lo hi 1)) _ _ s
 rw [adjust_gen lo hi n]
 show wpAny _ _ (pure (((sIx n 0 lo : Nat) : Int), (1 : Int), Builtin.Slice.slicePlaces ((sIx n 0 lo : Nat) : Int) ((sIx n n hi : Nat) : Int) 1)) _ _ s
 rw [places_gen]
 exact kK h
theorem pick_gen (xs : Array Value) (i k : Nat) : ((List.range k).filterMap fun (m : Nat) => xs[((i : Int) + (m : Int) * 1).toNat]?).toArray = ((xs.toList.drop i).take k).toArray := by
 have e : (fun (m : Nat) => xs[((i : Int) + (m : Int) * 1).toNat]?) = fun m => xs[i + m]? := by
  funext m
  have : ((i : Int) + (m : Int) * 1).toNat = i + m := by omega
  rw [this]
 rw [e]
 have := pick_run xs i k
 rw [List.filterMap_map] at this
 have e2 : ((fun x => xs[x]?) ∘ fun x => i + x) = fun m => xs[i + m]? := rfl
 rw [e2] at this
 rw [this]
theorem getItem_tuple_cut {t sl : Addr} {items : Array Value} {vl vu : Value} {lo hi : Option Int} {Q : Value → Shared → Prop} (ht : IsTup s.heap t items) (hs : s.heap.IsSliceOf sl vl vu .none) (pl : IsPart vl lo) (pu : IsPart vu hi)
  (hw : ¬ (sIx items.size 0 lo = 0 ∧ sIx items.size items.size hi = items.size))
  (h : Q (.ref s.heap.objs.size) { s with heap := s.heap.push { cls := .type "tuple", data := .seq ((items.toList.drop (sIx items.size 0 lo)).take (sIx items.size items.size hi - sIx items.size 0 lo)).toArray } })
  (hsz : items.size ≤ sizeLine) : wpAny (model prog w) A (getItem (.ref t) (.ref sl)) Q E s := by
 have htake : sizeOk (.seq ((items.toList.drop (sIx items.size 0 lo)).take (sIx items.size items.size hi - sIx items.size 0 lo)).toArray) := by
  show ((items.toList.drop (sIx items.size 0 lo)).take (sIx items.size items.size hi - sIx items.size 0 lo)).toArray.size ≤ sizeLine
  rw [jY, xQ, jQc, xV]
  omega
 have hj : sIx items.size items.size hi ≤ items.size := sIx_le _ _ (jX _) hi
 obtain ⟨os, hos, hcs, hds⟩ := id hs
 have hTs : s.TypeIs (.ref sl) "slice" := ⟨os, hos, hcs⟩
 unfold getItem
 try with_reducible refine wpAny_holding ?_
 first | refine jZ (kK ?_) | skip
 refine jZ (wpAny_sequenceKey ht.typeIs (by decide) ?_)
 refine jZ (wpAny_callSpecial?_slot (name := Str.ofString "__getitem__") ht.typeIs PyProof.Rows.slot_tuple_getitem
  (wpAny_call_entry PyProof.Rows.slot_tuple_getitem ht.typeIs entry_tuple_getitem ?_ (args_tuple_getitem _ _)))
 show wpAny _ _ (Builtin.Tuple.tupleItemsOf (.ref t) >>= _) _ _ s
 refine jZ (tupleItemsOf_ ht ?_)
 refine jZ (wpAny_typeOf hTs ?_)
 rw [if_pos (by decide)]
 refine jZ (sliceApplied_gen hs pl pu ?_)
 have hno : ¬ ((((sIx items.size 0 lo : Nat) : Int) == 0 && (1 : Int) == 1 && (sIx items.size items.size hi - sIx items.size 0 lo) == items.size) = true) := by
  intro q
  rw [yW, yW] at q
  have q1 : ((sIx items.size 0 lo : Nat) : Int) = 0 := eq_of_beq q.1.1
  have q2 : sIx items.size items.size hi - sIx items.size 0 lo = items.size := eq_of_beq q.2
  exact hw ⟨by omega, by omega⟩
 show wpAny _ _ (if (((sIx items.size 0 lo : Nat) : Int) == 0 && (1 : Int) == 1 && (sIx items.size items.size hi - sIx items.size 0 lo) == items.size) = true then _ else _) _ _ s
 rw [if_neg hno, pick_gen]
 first
  | exact jZ (m := Builtin.Tuple.tupleExact _) (wpAny_newObj_type (kK ⟨_, rfl, kK h⟩) htake)
  | exact jZ (m := Builtin.Tuple.tupleExact _) (wpAny_newObj_type (jZ (kK (kK ⟨_, rfl, kK h⟩))) htake)
  | exact jZ (jZ (m := Builtin.Tuple.tupleExact _) (wpAny_newObj_type (kK (kK ⟨_, rfl, kK h⟩)) htake))
  | exact jZ (jZ (m := Builtin.Tuple.tupleExact _) (wpAny_newObj_type (kK ⟨_, rfl, kK h⟩) htake))
end
end HT
namespace L2
open PySem PySem.Spec PyProof.Rows
abbrev TO := St → Hp → (Option Int → Hp → Prop) → Prop
def PO (X : Cx) (e : Option Expr) (t : TO) : Prop :=
 ∀ (pins : List (Addr × Obj)) (s : Shared) (σ : St) (H : Hp) (Q : Option Int → Hp → Prop), Inv X pins σ H s → t σ H Q →
  wpAny (model X.prog X.w) X.A (evalPart e X.env) (fun u s' => ∃ o H', Inv X pins σ H' s' ∧ IsPart u o ∧ Q o H') X.xe s
def tNoPart : TO := fun _ H Q => Q none H
def tPart (t : TE) : TO := fun σ H Q => t σ H fun x H1 => ∃ i, x = .int i ∧ Q (some i) H1
theorem intsAre_of {ns : List Int} : ∀ {us : List Value}, Vals (ns.map V.int) us → IntsAre us ns := by
 induction ns with
 | nil => intro us r; rw [List.map_nil] at r; cases r; exact .nil
 | cons n ns ih =>
  intro us r
  rw [xK] at r
  cases r with
  | cons r1 r2 =>
   obtain ⟨t, e⟩ := r1
   subst e
   exact .cons n t (ih r2)
section
variable {X : Cx} {e : Expr} {te : TE} {lo hi : Option Expr} {tl th : TO} {pos p2 : Pos}
theorem po_none : PO X none tNoPart := by
 intro pins s σ H Q I h
 rw [evalPart_none]
 exact kK ⟨none, H, I, .none, h⟩
theorem po_some (h : PE X e te) : PO X (some e) (tPart te) := by
 intro pins s σ H Q I hw
 rw [evalPart_some]
 refine thn (h pins s σ H _ I hw) fun u s1 hqP => ?_
 obtain ⟨x, H1, I1, r1, q1⟩ := hqP
 obtain ⟨i, rfl, q⟩ := q1
 obtain ⟨t, rfl⟩ := r1
 exact ⟨some i, H1, I1, .int i t, q⟩
def SlR (X : Cx) (r : V → Option Int → Option Int → Hp → VK → Prop) : Prop :=
 ∀ (pins : List (Addr × Obj)) (s : Shared) (σ : St) (H : Hp) (x : V) (v vl vu : Value) (lo hi : Option Int) (sl : Addr) (Q : VK), Inv X pins σ H s → RelV x v → s.heap.IsSliceOf sl vl vu .none → IsPart vl lo → IsPart vu hi → r x lo hi H Q →
  ∃ T id, typeLookup (.type T) "__getitem__" = pure (some (.builtin id)) ∧ s.TypeIs v T ∧ wpAny (model X.prog X.w) X.A (getItem v (.ref sl)) (EP X pins σ Q) X.xe s
def tSl (r : V → Option Int → Option Int → Hp → VK → Prop) (te : TE) (tl th : TO) : TE := fun σ H Q => te σ H fun x H1 => tl σ H1 fun l H2 => th σ H2 fun u H3 => r x l u H3 Q
theorem pe_slice {r : V → Option Int → Option Int → Hp → VK → Prop} (hr : SlR X r) (he : PE X e te) (hl : PO X lo tl) (hu : PO X hi th) : PE X (.Subscript e (.Slice lo hi none p2) pos) (tSl r te tl th) := by
 intro pins s σ H Q I h
 refine Subscript_ (thn (he pins s σ H _ I h) fun v s1 hqP => ?_)
 obtain ⟨x, H1, I1, r1, q1⟩ := hqP
 refine wpAny_Slice (thn (hl pins s1 σ H1 _ I1 q1) fun vl s2 ⟨l, H2, I2, pl, q2⟩ => thn (hu pins s2 σ H2 _ I2 q2) fun vu s3 hqP => ?_)
 obtain ⟨u, H3, I3, pu, q3⟩ := hqP
 rw [evalPart_none]
 refine kK ?_
 have I4 : Inv X pins σ H3 { s3 with heap := s3.heap.push { cls := .type "slice", data := .fields #[vl, vu, .none] } } := I3.kept (t' := s3.toks) fun b ob q => jK _ q
 obtain ⟨T, id, hT, ht, hg⟩ := hr pins { s3 with heap := s3.heap.push { cls := .type "slice", data := .fields #[vl, vu, .none] } } σ H3 x v vl vu l u s3.heap.objs.size Q I4 r1 (Heap.IsSliceOf.new ..) pl pu q3
 show wpAny (model X.prog X.w) X.A (subscriptTail e (.Slice lo hi none p2) v (.ref s3.heap.objs.size)) (EP X pins σ Q) X.xe { s3 with heap := s3.heap.push { cls := .type "slice", data := .fields #[vl, vu, .none] } }
 exact tail_any (ops := [.ref s3.heap.objs.size, v]) ht hT hg (by with_unfolding_all rfl)
def cutV (xs : List V) (lo hi : Option Int) : List V := (xs.drop (HT.sIx xs.length 0 lo)).take (HT.sIx xs.length xs.length hi - HT.sIx xs.length 0 lo)
theorem cutV_length (xs : List V) (lo hi : Option Int) : (cutV xs lo hi).length ≤ xs.length := by
 unfold cutV
 rw [xQ, jQc]
 omega
def rSlT (K : Fg) : V → Option Int → Option Int → Hp → VK → Prop := fun x lo hi H Q => ∃ a xs, x = .ref a ∧ SqT K H a xs ∧
 ¬ (HT.sIx xs.length 0 lo = 0 ∧ HT.sIx xs.length xs.length hi = xs.length) ∧ ∀ p, H p = none → Q (.ref p) (upd H p (.tup (cutV xs lo hi)))
theorem sl_tup : SlR X (rSlT X.K) := by
 intro pins s σ H x v vl vu lo hi sl Q I rx hs pl pu h
 obtain ⟨a, xs, rfl, hx, hw, q⟩ := h
 cases rx
 obtain ⟨its, r, ht, hz⟩ := I.tuple hx
 have hlen : its.toArray.size = xs.length := by rw [jY]; exact r.length.symm
 refine ⟨"tuple", _, PyProof.Rows.slot_tuple_getitem.lookup, ht.typeIs, ?_⟩
 refine HT.getItem_tuple_cut ht hs pl pu (by rw [hlen]; exact hw) ?_ (by rw [hlen]; exact hz)
 rw [hlen]
 refine ⟨.ref s.heap.objs.size, _, I.laid (t' := s.toks) (o := .tup (cutV xs lo hi)) (fun b ob q => jK _ q) (jX _) ?_, rfl, q _ (I.hok.fresh (jX _))⟩
 exact ⟨jQe (cutV_length xs lo hi) hz, _, (r.drop (HT.sIx xs.length 0 lo)).take (HT.sIx xs.length xs.length hi - HT.sIx xs.length 0 lo), IsTup.new _ _⟩
def rCatT (K : Fg) : R2 := fun x y H Q => ∃ a b xs ys, x = .ref a ∧ y = .ref b ∧ SqT K H a xs ∧ SqT K H b ys ∧ xs ≠ [] ∧ xs.length + ys.length ≤ sizeLine ∧
 (ys = [] → Q (.ref a) H) ∧ (ys ≠ [] → ∀ p, H p = none → Q (.ref p) (upd H p (.tup (xs ++ ys))))
theorem Vals.nil_iff {xs : List V} {us : List Value} (r : Vals xs us) : us = [] ↔ xs = [] := by
 cases r with
 | nil => simp
 | cons _ _ => simp
theorem op_catT : OpR X (binaryOp .Add) (rCatT X.K) := by
 intro pins s σ H x y v u Q I rx ry h
 obtain ⟨a, b, xs, ys, rfl, rfl, ha, hb, hx, hz, q1, q2⟩ := h
 cases rx
 cases ry
 obtain ⟨its, r1, p1, _⟩ := I.tuple ha
 obtain ⟨its2, r2, p2, _⟩ := I.tuple hb
 refine HT.cat_tup p1 p2 (fun z => hx (r1.nil_iff.mp z)) (fun z => ⟨.ref a, H, I, rfl, q1 (r2.nil_iff.mp z)⟩) (fun z => ?_) (by rw [← r1.length, ← r2.length]; exact hz)
 refine ⟨.ref s.heap.objs.size, _, I.laid (t' := s.toks) (o := .tup (xs ++ ys)) (fun b ob q => jK _ q) (jX _) ?_, rfl, q2 (fun w => z (r2.nil_iff.mpr w)) _ (I.hok.fresh (jX _))⟩
 exact ⟨by rw [jW]; exact hz, _, r1.append r2, IsTup.new _ _⟩
end
def ixN (n : Nat) (i : Int) : Option Nat := if 0 ≤ i then (if i < n then some i.toNat else none) else if -(n : Int) ≤ i then some (i + n).toNat else none
def atI {α : Type} (xs : List α) (i : Int) : Option α := (ixN xs.length i).bind fun j => xs[j]?
theorem ixN_seq {n : Nat} {i : Int} {j : Nat} (h : ixN n i = some j) : seqIndex? i n = some j ∧ j < n ∧ -(n : Int) ≤ i ∧ i < n := by
 unfold ixN at h
 by_cases h0 : 0 ≤ i
 ·rw [if_pos h0] at h
  by_cases h1 : i < n
  ·rw [if_pos h1] at h
   have e : i.toNat = j := Option.some.inj h
   exact ⟨by rw [seqIndex_of h0 h1, e], by omega, by omega, h1⟩
  ·rw [if_neg h1] at h; cases h
 ·rw [if_neg h0] at h
  by_cases h1 : -(n : Int) ≤ i
  ·rw [if_pos h1] at h
   have e : (i + n).toNat = j := Option.some.inj h
   exact ⟨by rw [seqIndex_neg (by omega) h1, e], by omega, h1, by omega⟩
  ·rw [if_neg h1] at h; cases h
theorem atI_get {α : Type} {xs : List α} {i : Int} {v : α} (h : atI xs i = some v) : ∃ j, seqIndex? i xs.length = some j ∧ xs[j]? = some v ∧ j < xs.length ∧ -(xs.length : Int) ≤ i ∧ i < xs.length := by
 unfold atI at h
 cases e : ixN xs.length i with
 | none => rw [e] at h; cases h
 | some j =>
  rw [e] at h
  obtain ⟨h1, h2, h3, h4⟩ := ixN_seq e
  exact ⟨j, h1, h, h2, h3, h4⟩
theorem atI_nat {α : Type} {xs : List α} {j : Nat} {v : α} (h : xs[j]? = some v) : atI xs (j : Int) = some v := by
 have hj : j < xs.length := (kQ.mp h).1
 have e : ixN xs.length (j : Int) = some j := by
  unfold ixN
  rw [if_pos (by omega), if_pos (by omega)]; simp
 unfold atI; rw [e]; exact h
def PlainIx (b : Expr) : Prop := ∀ o i, subscripted b false o i = operate [o, i] (getItem o i)
def IxR (X : Cx) (r : R2) : Prop :=
 ∀ (value slice : Expr) (pins : List (Addr × Obj)) (s : Shared) (σ : St) (H : Hp) (x y : V) (v u : Value) (Q : VK), Inv X pins σ H s → RelV x v → RelV y u → r x y H Q →
  subscripted slice false v u = operate [v, u] (getItem v u) → wpAny (model X.prog X.w) X.A (subscriptTail value slice v u) (EP X pins σ Q) X.xe s
def MtR (X : Cx) (id : String) (r : V → List V → Hp → VK → Prop) : Prop :=
 ∀ (pins : List (Addr × Obj)) (s : Shared) (σ : St) (H : Hp) (x : V) (xs : List V) (v : Value) (us : List Value) (Q : VK), Inv X pins σ H s → RelV x v → Vals xs us → r x xs H Q →
  wpAny (model X.prog X.w) X.A (call (.builtin id) (v :: us)) (EP X pins σ Q) X.xe s
section
variable {X : Cx} {a b : Expr} {ta tb : TE} {pos : Pos}
theorem pe_ix {r : R2} (hr : IxR X r) (ha : PE X a ta) (hb : PE X b tb) (hs : PlainIx b) : PE X (.Subscript a b pos) (tOp r ta tb) := by
 intro pins s σ H Q I h
 exact Subscript_ (binT ha hb I h fun v u s2 x y H2 I2 rx ry q => hr a b pins s2 σ H2 x y v u Q I2 rx ry q (hs _ _))
def rIxL (K : Fg) : R2 := fun x y H Q => ∃ p xs i v, x = .ref p ∧ y = .int i ∧ SqL K H p xs ∧ atI xs i = some v ∧ Q v H
def rIxT (K : Fg) : R2 := fun x y H Q => ∃ p xs i v, x = .ref p ∧ y = .int i ∧ SqT K H p xs ∧ atI xs i = some v ∧ Q v H
theorem ix_list : IxR X (rIxL X.K) := by
 intro value slice pins s σ H x y v u Q I rx ry h hs
 obtain ⟨p, xs, i, z, rfl, rfl, hq, he, q⟩ := h
 cases rx
 obtain ⟨t, rfl⟩ := ry
 obtain ⟨its, r, pl, hz⟩ := I.list hq
 obtain ⟨j, h1, h2, h3, h4, h5⟩ := atI_get he
 obtain ⟨w, ew, rw'⟩ := r.get h2
 have hl := r.length
 have hn := line63
 have fin : EP X pins σ Q w s := ⟨z, H, I, rw', q⟩
 by_cases h0 : 0 ≤ i
 ·have hj : i.toNat = j := by
   rw [seqIndex_of h0 h5] at h1
   exact Option.some.inj h1
  exact item_listR pl.isList h0 (by omega) (by rw [hj]; simpa using ew) fin hs
 ·have hj : (i + (its.toArray.size : Int)).toNat = j := by
   rw [seqIndex_neg (by omega) h4] at h1
   rw [jY, ← hl]
   exact Option.some.inj h1
  exact subscriptTail_builtinR (x := w) pl.isList.typeIs slot_list_getitem.lookup
   (wpAny_getItem_list_neg (Q := fun r s' => r = w ∧ EP X pins σ Q r s') pl.isList (by omega) (by rw [jY] <;> omega) (by omega) (by rw [hj]; simpa using ew) ⟨rfl, fin⟩) hs
theorem ix_tup : IxR X (rIxT X.K) := by
 intro value slice pins s σ H x y v u Q I rx ry h hs
 obtain ⟨p, xs, i, z, rfl, rfl, hq, he, q⟩ := h
 cases rx
 obtain ⟨t, rfl⟩ := ry
 obtain ⟨its, r, pl, hz⟩ := I.tuple hq
 obtain ⟨j, h1, h2, h3, h4, h5⟩ := atI_get he
 obtain ⟨w, ew, rw'⟩ := r.get h2
 have hl := r.length
 have hn := line63
 have fin : EP X pins σ Q w s := ⟨z, H, I, rw', q⟩
 exact subscriptTail_builtinR (x := w) pl.typeIs slot_tuple_getitem.lookup
  (getItem_tuple (j := j) (Q := fun r s' => r = w ∧ EP X pins σ Q r s') pl (by omega) (by omega) (by rw [jY, ← hl]; exact h1) (by simpa using ew) ⟨rfl, fin⟩) hs
theorem mapSeq_set (its : List Value) (n j : Nat) (u : Value) : Obj.mapSeq (·.setIfInBounds j u) { cls := .type "list", data := .seq its.toArray n } = { cls := .type "list", data := .seq (its.set j u).toArray n } := by
 simp [Obj.mapSeq]
theorem Inv.lst {pins : List (Addr × Obj)} {σ : St} {H : Hp} {s : Shared} {p : Addr} {xs : List V} (I : Inv X pins σ H s) (h : H p = some (.lst xs)) :
  ∃ (its : List Value) (n : Nat), Vals xs its ∧ s.heap.get? p = some { cls := .type "list", data := .seq its.toArray n } ∧ xs.length ≤ sizeLine := by
 obtain ⟨z, its, n, r, e⟩ := I.hok p _ h
 exact ⟨its, n, r, e, z⟩
theorem Inv.lstUpd {pins : List (Addr × Obj)} {σ : St} {H : Hp} {s : Shared} {p : Addr} {xs ys : List V} {its its' : List Value} {n n' : Nat} {f : Obj → Obj} (I : Inv X pins σ H s) (h : H p = some (.lst xs))
  (ho : s.heap.get? p = some { cls := .type "list", data := .seq its.toArray n }) (hf : f { cls := .type "list", data := .seq its.toArray n } = { cls := .type "list", data := .seq its'.toArray n' }) (r : Vals ys its') (hz : ys.length ≤ sizeLine) (t : Nat) :
  Inv X pins σ (upd H p (.lst ys)) { s with heap := s.heap.update p f, toks := t } := by
 have e : (s.heap.update p f).get? p = some { cls := .type "list", data := .seq its'.toArray n' } := by
  rw [Heap.get?_update_self f ho (by rw [hf] <;> rfl), hf]
 refine I.write (x := p) (e := p) (by rw [h]; trivial) (.inl rfl) (fun b u hb q => (Heap.get?_update_other _ _ (Ne.symm hb)).trans q) ⟨_, e⟩ ?_
 exact ⟨hz, its', n', r, e⟩
def rSetL : V → V → V → Hp → (Hp → Prop) → Prop := fun o i v H Q => ∃ p xs k j, o = .ref p ∧ i = .int k ∧ H p = some (.lst xs) ∧ ixN xs.length k = some j ∧ Q (upd H p (.lst (xs.set j v)))
theorem set_list : PSet X rSetL := by
 intro pins s σ H o i v ov iv u Q I ro ri rv h
 obtain ⟨p, xs, k, j, rfl, rfl, hp, hj, q⟩ := h
 cases ro
 obtain ⟨t, rfl⟩ := ri
 obtain ⟨its, n, r, ho, hz⟩ := I.lst hp
 obtain ⟨h1, h2, h3, h4⟩ := ixN_seq hj
 have hl := r.length
 have hn := line63
 have I' : Inv X pins σ (upd H p (.lst (xs.set j v))) { s with heap := s.heap.update p (Obj.mapSeq (·.setIfInBounds j u)) } :=
  I.lstUpd hp ho (mapSeq_set its n j u) (r.set rv j) (by rw [jXa]; exact hz) s.toks
 by_cases h0 : 0 ≤ k
 ·have hk : k.toNat = j := by
   rw [seqIndex_of h0 h4] at h1
   exact Option.some.inj h1
  exact PySem.W.ki_setAt ho h0 (by omega) (by rw [jY, ← hl]; exact h4) (by rw [hk]; exact ⟨_, I', q⟩)
 ·have hk : (k + (its.toArray.size : Int)).toNat = j := by
   rw [seqIndex_neg (by omega) h3] at h1
   rw [jY, ← hl]
   exact Option.some.inj h1
  exact PySem.W.ki_setBack ho (by omega) (by rw [jY, ← hl]; exact h3) (by omega) (by rw [hk]; exact ⟨_, I', q⟩)
theorem slice_bound (i : Int) (n d : Nat) : max 0 (min (if i < 0 then i + (n : Int) else i) (n : Int)) = ((HT.sIx n d (some i) : Nat) : Int) := by
 rw [← HT.clip_eq]
 by_cases h : i < 0
 ·rw [if_pos h, if_pos h, Int.min_eq_left (by have := Int.add_le_add_right (Int.le_of_lt h) (n : Int); rwa [Int.zero_add] at this), Int.max_comm]
 ·rw [if_neg h, if_neg h, HT.min_cast i n h, Int.max_eq_right (jJf _)]
theorem slice_bounds (lo hi : Option Int) (n : Nat) : (sliceBounds lo hi none n).1 = ((HT.sIx n 0 lo : Nat) : Int) ∧ (sliceBounds lo hi none n).2.1 = ((HT.sIx n n hi : Nat) : Int) ∧ (sliceBounds lo hi none n).2.2 = 1 := by
 refine ⟨?_, ?_, rfl⟩
 ·cases lo with
  | none => rfl
  | some i => exact slice_bound i n 0
 ·cases hi with
  | none => rfl
  | some i => exact slice_bound i n n
theorem slicePick_cut (its : List Value) (lo hi : Option Int) : slicePick its.toArray lo hi none = ((its.drop (HT.sIx its.length 0 lo)).take (HT.sIx its.length its.length hi - HT.sIx its.length 0 lo)).toArray := by
 obtain ⟨h1, h2, h3⟩ := slice_bounds lo hi its.toArray.size
 unfold slicePick
 rw [h1, h2, h3]
 simp only [sliceRange_one, pick_run, jY] <;> rfl
def rSlL (K : Fg) : V → Option Int → Option Int → Hp → VK → Prop := fun x lo hi H Q => ∃ a xs, x = .ref a ∧ SqL K H a xs ∧ ∀ p, H p = none → Q (.ref p) (upd H p (.lst (cutV xs lo hi)))
theorem sl_list : SlR X (rSlL X.K) := by
 intro pins s σ H x v vl vu lo hi sl Q I rx hs pl pu h
 obtain ⟨a, xs, rfl, hx, q⟩ := h
 cases rx
 obtain ⟨its, r, ht, hz⟩ := I.list hx
 have hlen := r.length
 refine ⟨"list", _, slot_list_getitem.lookup, ht.isList.typeIs, ?_⟩
 refine wpAny_getItem_list_slice ht.isList hs pl pu .none (by simp) ?_ (by rw [jY] <;> omega)
 rw [slicePick_cut, ← hlen]
 refine ⟨.ref s.heap.objs.size, _, I.laid (t' := s.toks) (o := .lst (cutV xs lo hi)) (fun b ob q => jK _ q) (jX _) ?_, rfl, q _ (I.hok.fresh (jX _))⟩
 exact ⟨jQe (cutV_length xs lo hi) hz, _, 0, (r.drop (HT.sIx xs.length 0 lo)).take (HT.sIx xs.length xs.length hi - HT.sIx xs.length 0 lo), zX _ rfl⟩
def flatV : V → Bool
 | .non => true
 | .bl _ => true
 | .int _ => true
 | .str _ => true
 | _ => false
def eqV : V → V → Bool
 | .non, .non => true
 | .bl a, .bl b => a == b
 | .bl a, .int b => (if a then 1 else 0) == b
 | .int a, .bl b => a == (if b then 1 else 0)
 | .int a, .int b => a == b
 | .str a, .str b => a == b
 | _, _ => false
theorem eqAt_V {A : Around} {s : Shared} {y x : V} {u v : Value} (ry : RelV y u) (rx : RelV x v) (fy : flatV y = true) (fx : flatV x = true) : SeqAt.EqAt A s u v (eqV y x) := by
 cases y with
 | non =>
  cases ry
  cases x with
  | non => cases rx; exact SeqAt.EqAt.same _
  | bl b => cases rx; exact SeqAt.EqAt.none_bool b
  | int b => obtain ⟨t, rfl⟩ := rx; exact SeqAt.EqAt.none_int b t
  | str b => obtain ⟨t, rfl⟩ := rx; exact SeqAt.EqAt.none_str b t
  | _ => exact absurd (show false = true from fx) kZ
 | bl a =>
  cases ry
  cases x with
  | non => cases rx; exact SeqAt.EqAt.bool_none a
  | bl b => cases rx; exact SeqAt.EqAt.bool_bool a b
  | int b => obtain ⟨t, rfl⟩ := rx; exact SeqAt.EqAt.bool_int a b t
  | str b => obtain ⟨t, rfl⟩ := rx; exact SeqAt.EqAt.bool_str a b t
  | _ => exact absurd (show false = true from fx) kZ
 | int a =>
  obtain ⟨t', rfl⟩ := ry
  cases x with
  | non => cases rx; exact SeqAt.EqAt.int_none a t'
  | bl b => cases rx; exact SeqAt.EqAt.int_bool a t' b
  | int b => obtain ⟨t, rfl⟩ := rx; exact SeqAt.EqAt.int_int a t' b t
  | str b => obtain ⟨t, rfl⟩ := rx; exact SeqAt.EqAt.int_str a t' b t
  | _ => exact absurd (show false = true from fx) kZ
 | str a =>
  obtain ⟨t', rfl⟩ := ry
  cases x with
  | non => cases rx; exact SeqAt.EqAt.str_none a t'
  | bl b => cases rx; exact SeqAt.EqAt.str_bool a t' b
  | int b => obtain ⟨t, rfl⟩ := rx; exact SeqAt.EqAt.str_int a t' b t
  | str b => obtain ⟨t, rfl⟩ := rx; exact SeqAt.EqAt.str_str a t' b t
  | _ => exact absurd (show false = true from fx) kZ
 | _ => exact absurd (show false = true from fy) kZ
def eqU (x : V) (u : Value) : Bool := match u with
 | .none => eqV .non x
 | .bool b => eqV (.bl b) x
 | .int i _ => eqV (.int i) x
 | .str z _ => eqV (.str z) x
 | _ => false
theorem eqU_of {x y : V} {u : Value} (r : RelV y u) (f : flatV y = true) : eqU x u = eqV y x := by
 cases y with
 | non => cases r; rfl
 | bl b => cases r; rfl
 | int i => obtain ⟨t, rfl⟩ := r; rfl
 | str z => obtain ⟨t, rfl⟩ := r; rfl
 | _ => exact absurd (show false = true from f) kZ
theorem any_eqU {x : V} : ∀ {xs : List V} {us : List Value}, Vals xs us → xs.all flatV = true → us.any (eqU x) = xs.any fun y => eqV y x
 | _, _, .nil, _ => rfl
 | y :: xs, u :: us, .cons r t, f => by
  rw [List.all_cons, yW] at f
  rw [kYc, kYc, eqU_of r f.1, any_eqU t f.2]
theorem mem_eqAt {A : Around} {s : Shared} {x : V} {v : Value} (rx : RelV x v) (fx : flatV x = true) : ∀ {xs : List V} {us : List Value}, Vals xs us → xs.all flatV = true → ∀ u ∈ us, SeqAt.EqAt A s u v (eqU x u)
 | _, _, .nil, _ => fun u hu => by cases hu
 | y :: xs, u :: us, .cons r t, f => fun u' hu => by
  rw [List.all_cons, yW] at f
  rcases wY.mp hu with rfl | hu
  ·rw [eqU_of r f.1]; exact eqAt_V r rx f.1 fx
  ·exact mem_eqAt rx fx t f.2 u' hu
def inV (x : V) (xs : List V) : Bool := xs.any fun y => eqV y x
def rIn (K : Fg) (neg : Bool) : R2 := fun x y H Q => ∃ p xs, y = .ref p ∧ (SqL K H p xs ∨ SqT K H p xs) ∧ flatV x = true ∧ xs.all flatV = true ∧ Q (.bl (if neg then !inV x xs else inV x xs)) H
theorem op_in_seq : OpR X (compareOp .In) (rIn X.K false) := by
 intro pins s σ H x y v u Q I rx ry h
 obtain ⟨p, xs, rfl, hq, fx, fs, q⟩ := h
 cases ry
 rcases hq with hq | hq
 ·obtain ⟨its, r, pl, hz⟩ := I.list hq
  refine SeqAt.in_listAt (eqU x) pl.isList (fun w hw => mem_eqAt rx fx r fs w (by simpa using hw)) ⟨.bl _, H, I, rfl, ?_⟩
  rw [show its.toArray.any (eqU x) = its.any (eqU x) by simp, any_eqU r fs]
  exact q
 ·obtain ⟨its, r, pl, hz⟩ := I.tuple hq
  refine SeqAt.in_tupleAt (eqU x) pl (fun w hw => mem_eqAt rx fx r fs w (by simpa using hw)) ⟨.bl _, H, I, rfl, ?_⟩
  rw [show its.toArray.any (eqU x) = its.any (eqU x) by simp, any_eqU r fs]
  exact q
theorem op_notIn_seq : OpR X (compareOp .NotIn) (rIn X.K true) := by
 intro pins s σ H x y v u Q I rx ry h
 obtain ⟨p, xs, rfl, hq, fx, fs, q⟩ := h
 cases ry
 rcases hq with hq | hq
 ·obtain ⟨its, r, pl, hz⟩ := I.list hq
  refine SeqAt.notIn_listAt (eqU x) pl.isList (fun w hw => mem_eqAt rx fx r fs w (by simpa using hw)) ⟨.bl _, H, I, rfl, ?_⟩
  rw [show its.toArray.any (eqU x) = its.any (eqU x) by simp, any_eqU r fs]
  exact q
 ·obtain ⟨its, r, pl, hz⟩ := I.tuple hq
  refine SeqAt.notIn_tupleAt (eqU x) pl (fun w hw => mem_eqAt rx fx r fs w (by simpa using hw)) ⟨.bl _, H, I, rfl, ?_⟩
  rw [show its.toArray.any (eqU x) = its.any (eqU x) by simp, any_eqU r fs]
  exact q
theorem call_len_seq : CallR X (.builtin "len") (fun xs H Q => ∃ p ys, xs = [.ref p] ∧ (SqL X.K H p ys ∨ SqT X.K H p ys) ∧ Q (.int ys.length) H) := by
 intro pins s σ H xs us Q I r h
 obtain ⟨p, ys, rfl, hq, q⟩ := h
 obtain ⟨u, rfl, rx⟩ := vals1 r
 cases rx
 have hn := line63
 rcases hq with hq | hq
 ·obtain ⟨its, r', pl, hz⟩ := I.list hq
  have hlen := r'.length
  exact Calls.call_len_list pl.isList (by simp only [jY] <;> omega) ⟨.int ys.length, H, I.tok _, ⟨s.toks + 1, by rw [jY, hlen]⟩, q⟩
 ·obtain ⟨its, r', pl, hz⟩ := I.tuple hq
  have hlen := r'.length
  exact len_tuple pl (by simp only [jY] <;> omega) ⟨.int ys.length, H, I.tok _, ⟨s.toks + 1, by rw [jY, hlen]⟩, q⟩
theorem call_list_of : CallR X (.type "list") (fun xs H Q => ∃ p ys, xs = [.ref p] ∧ (SqL X.K H p ys ∨ SqT X.K H p ys) ∧ ∀ l, H l = none → Q (.ref l) (upd H l (.lst ys))) := by
 intro pins s σ H xs us Q I r h
 obtain ⟨p, ys, rfl, hq, q⟩ := h
 obtain ⟨u, rfl, rx⟩ := vals1 r
 cases rx
 have fin : ∀ (its : List Value), Vals ys its → ys.length ≤ sizeLine → ∀ (h' : Heap) (c' : Nat), (∀ b o', s.heap.get? b = some o' → h'.get? b = some o') →
   h'.get? s.heap.objs.size = some { cls := .type "list", dict := none, data := .seq its.toArray c', slots := #[] } → EP X pins σ Q (.ref s.heap.objs.size) { s with heap := h' } := fun its r' hz h' c' kp e =>
  ⟨.ref s.heap.objs.size, _, I.laid (t' := s.toks) kp (jX _) (show ObjOk X.prog X.w _ h' _ (.lst ys) from ⟨hz, its, c', r', e⟩), rfl, q _ (I.hok.fresh (jX _))⟩
 rcases hq with hq | hq
 ·obtain ⟨its, r', pl, hz⟩ := I.list hq
  have hlen := r'.length
  obtain ⟨o, ho, hc, n, hd⟩ := pl.isList
  exact call_list_seq p (.inl rfl) ho hc hd (fun h' c' kp e => fin its r' hz h' c' kp e) (by simp only [jY] <;> omega)
 ·obtain ⟨its, r', pl, hz⟩ := I.tuple hq
  have hlen := r'.length
  obtain ⟨o, ho, hc, n, hd⟩ := pl
  exact call_list_seq p (.inr rfl) ho hc hd (fun h' c' kp e => fin its r' hz h' c' kp e) (by simp only [jY] <;> omega)
theorem call_tuple_of : CallR X (.type "tuple") (fun xs H Q => ∃ p ys, xs = [.ref p] ∧ ((SqL X.K H p ys ∧ ∀ l, H l = none → Q (.ref l) (upd H l (.tup ys))) ∨ (SqT X.K H p ys ∧ Q (.ref p) H))) := by
 intro pins s σ H xs us Q I r h
 obtain ⟨p, ys, rfl, h⟩ := h
 obtain ⟨u, rfl, rx⟩ := vals1 r
 cases rx
 rcases h with ⟨hq, q⟩ | ⟨hq, q⟩
 ·obtain ⟨its, r', pl, hz⟩ := I.list hq
  have hlen := r'.length
  refine call_tuple_list pl.isList (fun h' kp => ?_) (by simp only [jY] <;> omega)
  have I1 : Inv X pins σ H { s with heap := h' } := I.kept (t' := s.toks) kp
  have I2 : Inv X pins σ (upd H h'.objs.size (.tup ys)) { s with heap := h'.push { cls := .type "tuple", data := .seq its.toArray } } :=
   I1.laid (t' := s.toks) (fun b o e => jK _ e) (jX _) (show ObjOk X.prog X.w _ _ _ (.tup ys) from ⟨hz, its, r', IsTup.new _ _⟩)
  exact ⟨.ref h'.objs.size, _, I2, rfl, q _ (I1.hok.fresh (jX _))⟩
 ·obtain ⟨its, r', pl, hz⟩ := I.tuple hq
  exact call_tuple_same pl ⟨.ref p, H, I, rfl, q⟩
def tyV (K : Fg) (T : String) (x : V) (H : Hp) : Prop := match x with
 | .str _ => T = "str"
 | .int _ => T = "int"
 | .ref p => (T = "list" ∧ ∃ xs, SqL K H p xs) ∨ (T = "tuple" ∧ ∃ o, K.lookup p = some o ∧ o.cls = .type "tuple" ∧ o.dict = none) ∨
   (T = "dict" ∧ ((∃ kvs, H p = some (.dK kvs)) ∨ ∃ kvs, H p = some (.dT kvs))) ∨ (T = "set" ∧ ∃ S n, H p = some (.set S n))
 | _ => False
theorem tyV_is {pins : List (Addr × Obj)} {σ : St} {H : Hp} {s : Shared} {T : String} {x : V} {v : Value} (I : Inv X pins σ H s) (r : RelV x v) (ty : tyV X.K T x H) :
  s.TypeIs v T ∧ ∀ a, v = .ref a → ∃ ob, s.heap.get? a = some ob ∧ ob.dict = none := by
 cases x with
 | str z =>
  obtain ⟨t, rfl⟩ := r
  cases (show T = "str" from ty)
  exact ⟨typeIs_str s z t, fun _ e => nomatch e⟩
 | int i =>
  obtain ⟨t, rfl⟩ := r
  cases (show T = "int" from ty)
  exact ⟨typeIs_int s i t, fun _ e => nomatch e⟩
 | ref p =>
  cases r
  rcases ty with ⟨rfl, xs, hq⟩ | ⟨rfl, o, hk, hc, hd⟩ | ⟨rfl, hk⟩ | ⟨rfl, S, n, hk⟩
  ·obtain ⟨its, _, pl, _⟩ := I.list hq
   refine ⟨pl.isList.typeIs, fun a e => ?_⟩
   cases e
   obtain ⟨o, n, e, c, hd, _⟩ := pl
   exact ⟨o, e, hd⟩
  ·refine ⟨⟨o, I.kIn p o hk, hc⟩, fun a e => ?_⟩
   cases e
   exact ⟨o, I.kIn _ o hk, hd⟩
  ·have z : ∃ o, s.heap.get? p = some o ∧ o.ExactDict := by
    rcases hk with ⟨kvs, hk⟩ | ⟨kvs, hk⟩
    ·obtain ⟨_, _, _, _, o, _, _, e, ex, _⟩ := I.hok p _ hk
     exact ⟨o, e, ex⟩
    ·obtain ⟨_, _, _, _, o, _, _, e, ex, _⟩ := I.hok p _ hk
     exact ⟨o, e, ex⟩
   obtain ⟨o, e, ex⟩ := z
   refine ⟨⟨o, e, ex.1⟩, fun a e2 => ?_⟩
   cases e2
   exact ⟨o, e, ex.2.1⟩
  ·obtain ⟨o, _, _, _, e, ex, _⟩ := I.hok p _ hk
   refine ⟨⟨o, e, ex.1⟩, fun a e2 => ?_⟩
   cases e2
   exact ⟨o, e, ex.2.1⟩
 | _ => exact False.elim ty
def tBM (K : Fg) (T : String) (r : V → List V → Hp → VK → Prop) (to : TE) (t : TA) : TE := fun σ H Q => to σ H fun x H1 => tyV K T x H1 ∧ t σ H1 fun xs H2 => r x xs H2 Q
variable {o e : Expr} {es : List Expr} {to : TE} {t : TA} {name : Str} {apos cpos : Pos} {T id : String} {r : V → List V → Hp → VK → Prop}
theorem pe_bm (pa : PlainAttrs T) (slot : Slot T name id) (hty : typeOf (.builtin id) = pure (.type "method_descriptor")) (hm : MtR X id r) (ho : PE X o to) (ha : PA X (e :: es) t)
  (hbase : autoParam (attributeBase o name X.env (eval o X.env) = eval o X.env) L2.aRfl._auto_1)
  (hfew : ((backTo cpos (starEach (e :: es) X.env)).all (fun x => !x.1) && (backToKw cpos (keywordEach [] X.env)).all (fun x => x.1.isSome)
   && decide ((e :: es).length + ([] : List Keyword).length + (if ([] : List Keyword).isEmpty then 0 else 1) < 30)) = true := by rfl)
  (hline : autoParam ((apos.endLine == cpos.line) = true) L2.aRfl._auto_1) (hs : autoParam (starEach (e :: es) X.env = (false, eval e X.env) :: starEach es X.env) L2.aRfl._auto_1) (hplain : autoParam ((backTo cpos (starEach es X.env)).any (·.1) = false) L2.aRfl._auto_1) :
  PE X (.Call (.Attribute o name apos) (e :: es) [] cpos) (tBM X.K T r to t) := by
 intro pins s σ H Q I h
 refine wpAny_Call_method_late hbase hfew hline rfl (thn (ho pins s σ H _ I h) fun v s1 hqP => ?_)
 obtain ⟨x, H1, I1, r1, ty, q1⟩ := hqP
 obtain ⟨h1, h2⟩ := tyV_is I1 r1 ty
 refine ⟨T, id, pa, slot, hty, h1, h2, ?_⟩
 have hA := ha cpos pins s1 σ H1 _ I1 q1
 rw [hs] at hA ⊢
 refine Calls.callWith_builtin (by show (false || (backTo cpos (starEach es X.env)).any (·.1)) = false; rw [hplain] <;> rfl) (Calls.evalArgs_plain ?_)
 exact thn hA fun us s2 ⟨vs, H2, I2, r2, q2⟩ => hm pins s2 σ H2 x vs v us Q I2 r1 r2 q2
/- xs.append(e), list.index on a module's tuple .. are MtR facts of 06m -/
end
def MtM (X : Cx) (id : String) (r : V → List V → Hp → VK → Prop) : Prop :=
 ∀ (pins : List (Addr × Obj)) (s : Shared) (σ : St) (H : Hp) (x : V) (xs : List V) (v : Value) (us : List Value) (Q : VK), Inv X pins σ H s → RelV x v → Vals xs us → r x xs H Q →
  wpAny (model X.prog X.w) X.A (call (.builtin id) (v :: us)) (EP X pins σ Q) X.xe s
theorem Vals.one {x : V} {us : List Value} (h : Vals [x] us) : ∃ u, us = [u] ∧ RelV x u := by
 cases h with
 | cons r t => cases t; exact ⟨_, rfl, r⟩
theorem Vals.two {x y : V} {us : List Value} (h : Vals [x, y] us) : ∃ u v, us = [u, v] ∧ RelV x u ∧ RelV y v := by
 cases h with
 | cons r t =>
  cases t with
  | cons q t => cases t; exact ⟨_, _, rfl, r, q⟩
theorem Vals.rep {xs : List V} {us : List Value} (h : Vals xs us) : ∀ k : Nat, Vals (List.replicate k xs).flatten (List.replicate k us).flatten
 | 0 => .nil
 | k + 1 => by
  rw [jXb, jXb, jKa, jKa]
  exact Vals.append h (Vals.rep h k)
theorem foldl_rep (its : List Value) : ∀ (k : Nat) (acc : List Value),
  List.foldl (fun x1 x2 => x1 ++ x2) acc.toArray (List.replicate k its.toArray) = (acc ++ (List.replicate k its).flatten).toArray
 | 0, acc => by simp
 | k + 1, acc => by
  have e : acc.toArray ++ its.toArray = (acc ++ its).toArray := by simp
  have e2 : (acc ++ its) ++ (List.replicate k its).flatten = acc ++ (List.replicate (k + 1) its).flatten := by
   rw [jXb, jKa, jJ]
  rw [← e2, ← foldl_rep its k (acc ++ its), ← e, jXb, List.foldl_cons]
section
variable {X : Cx} {pins : List (Addr × Obj)} {σ : St} {H : Hp} {s : Shared} {l b : Addr} {xs ys zs : List V}
theorem Inv.lset {its its' : List Value} {n : Nat} {f : Array Value → Array Value} {t' : Nat} (I : Inv X pins σ H s) (hH : H l = some (.lst xs))
  (e : s.heap.get? l = some { cls := .type "list", data := .seq its.toArray n }) (hf : f its.toArray = its'.toArray) (hv : Vals ys its') (hz : ys.length ≤ sizeLine) :
  Inv X pins σ (upd H l (.lst ys)) { s with heap := s.heap.update l (Obj.mapSeq f), toks := t' } := by
 have q := PySem.IsL.update e f
 rw [hf] at q
 refine I.write (x := l) (e := l) (by rw [hH]; exact trivial) (.inl rfl) (fun b' u hb hu => (Heap.get?_update_other s.heap (Obj.mapSeq f) (Ne.symm hb)).trans hu) ⟨_, q⟩ ?_
 exact ⟨hz, its', _, hv, q⟩
theorem Inv.lnew {its : List Value} {t' : Nat} (I : Inv X pins σ H s) (hv : Vals ys its) (hz : ys.length ≤ sizeLine) :
  Inv X pins σ (upd H s.heap.objs.size (.lst ys)) { s with heap := s.heap.push { cls := .type "list", data := .seq its.toArray }, toks := t' } :=
 I.laid (fun _ _ q => jK _ q) (jX _) ⟨hz, its, 0, hv, zX _ rfl⟩
theorem Inv.fresh (I : Inv X pins σ H s) : H s.heap.objs.size = none := I.hok.fresh (jX _)
theorem Inv.lstM (I : Inv X pins σ H s) (hH : H l = some (.lst xs)) : xs.length ≤ sizeLine ∧ ∃ (its : List Value) (n : Nat), Vals xs its ∧ xs.length = its.length ∧ s.heap.get? l = some { cls := .type "list", data := .seq its.toArray n } := by
 obtain ⟨z, its, n, r, e⟩ := I.hok l _ hH
 exact ⟨z, its, n, r, r.length, e⟩
theorem notLongL {n : Nat} (h : n ≤ sizeLine) : Builtin.List.listTooLong n = false := by
 unfold Builtin.List.listTooLong
 exact yX (by omega)
end
section
variable {X : Cx}
def rAppend : V → List V → Hp → VK → Prop := fun x vs H Q => ∃ l xs y, x = .ref l ∧ vs = [y] ∧ H l = some (.lst xs) ∧ xs.length < sizeLine ∧ Q .non (upd H l (.lst (xs ++ [y])))
theorem mt_append : MtM X "list.append" rAppend := by
 intro pins s σ H x vs v us Q I rx rv h
 obtain ⟨l, xs, y, rfl, rfl, hH, hz, q⟩ := h
 cases rx
 obtain ⟨u, rfl, ru⟩ := rv.one
 obtain ⟨z, its, n, r, hl, e⟩ := I.lstM hH
 refine call_meets F.slot_list_append ⟨_, e, rfl⟩ F.entry_list_append (F.args_list_append_2 _ _) (PySem.list_append l its.toArray n u (by rw [jY]; omega)) ⟨e, ?_⟩
 refine ⟨.non, _, I.lset (its' := its ++ [u]) hH e (by simp) (r.append (.cons ru .nil)) ?_, rfl, q⟩
 rw [jW, List.length_singleton]
 omega
def rRep : R2 := fun x y H Q => ∃ l k xs, x = .ref l ∧ y = .int k ∧ H l = some (.lst xs) ∧ -(2 ^ 63) ≤ k ∧ k < 2 ^ 63 ∧ xs.length * k.toNat ≤ sizeLine ∧
 ∀ p, H p = none → Q (.ref p) (upd H p (.lst (List.replicate k.toNat xs).flatten))
theorem len_rep {α : Type} (xs : List α) (k : Nat) : (List.replicate k xs).flatten.length = k * xs.length := by
 induction k with
 | zero => simp
 | succ k ih => rw [jXb, jKa, jW, ih, Nat.succ_mul, Nat.add_comm]
theorem op_rep : OpR X (binaryOp .Mult) rRep := by
 intro pins s σ H x y v u Q I rx ry h
 obtain ⟨l, k, xs, rfl, rfl, hH, h1, h2, hz, q⟩ := h
 cases rx
 obtain ⟨t, rfl⟩ := ry
 obtain ⟨z, its, n, r, hl, e⟩ := I.lstM hH
 have hlen : its.toArray.size * k.toNat ≤ sizeLine := by rw [jY, ← hl]; exact hz
 have hcap : ¬ its.toArray.size * k.toNat > (2 ^ 63 - 1) / 8 := by
  have : (sizeLine : Nat) ≤ (2 ^ 63 - 1) / 8 := by decide
  omega
 have hfit : ¬ (!Builtin.List.listFitsIndex k) = true := by
  rw [fitsIndex_both h1 h2]
  exact kZ
 have hlong : ¬ Builtin.List.listTooLong (its.toArray.size * k.toNat) = true := by
  rw [notLongL hlen]
  exact kZ
 have hnew : List.foldl (fun x1 x2 => x1 ++ x2) #[] (List.replicate (if its.toArray.isEmpty = true then 0 else k.toNat) its.toArray) = (List.replicate k.toNat its).flatten.toArray := by
  have f0 : ∀ m : Nat, List.foldl (fun x1 x2 => x1 ++ x2) #[] (List.replicate m its.toArray) = (List.replicate m its).flatten.toArray := fun m => by
   have := foldl_rep its m []
   rw [List.nil_append] at this
   exact this
  rw [f0]
  cases its with
  | nil => simp
  | cons a r' => rw [if_neg (by simp)]
 refine wpAny_binaryOp_repeat_ref (T := "list") (U := "int") (by decide) ⟨_, e, rfl⟩ (fun s' => typeIs_int s' k t) noFill_list_mul F.fills_int_mul F.slot_int_rmul repeat_list F.slot_int_index.lookup
  (call_meets F.slot_int_rmul (typeIs_int s k t) F.entry_int_rmul (F.args_int_rmul_2 _ _) (int___rmul___int_list k t l its.toArray n)
   ⟨e, rfl, ⟨_, e, rfl⟩, call_meets F.slot_list_mul ⟨_, e, rfl⟩ F.entry_list_mul (F.args_list_mul_2 _ _) (AutoListH.list___mul___list_int_3 l its.toArray n k t hfit hcap hlong) ⟨e, ?_⟩⟩)
 rw [hnew]
 exact ⟨.ref _, _, I.lnew (t' := s.toks) (r.rep k.toNat) (by rw [len_rep, Nat.mul_comm]; exact hz), rfl, q _ I.fresh⟩
end
section
variable {prog : Program} {w : World} {A : Around} {E : Value → Shared → Prop} {s : Shared}
end
section
variable {X : Cx}
end
end L2
namespace Att
open PySem PySem.W PySem.Calls PyProof.Rows
theorem ints_of_wellAll {P : Params} {h : Heap} : ∀ (ns : List Int) (vs : List Value), WellAll P h vs (ns.map WData.int) → IntsAre vs ns := by
 intro ns
 induction ns with
 | nil =>
  intro vs w
  rw [List.map_nil] at w
  cases w
  exact .nil
 | cons n ns ih =>
  intro vs w
  rw [xK] at w
  cases w with
  | cons a b =>
   cases a
   exact .cons _ _ (ih _ b)
theorem script_of {l : OpenLaw} {n : Nat} (hn : l.most = some n) {P : Params} {h : Heap} {args : List WData} {vals : List Value}
  (hpre : l.row.toRowW.claim.pre args = true) (hwl : WellAll P h vals args) :
  ∃ a vs ns, vals = [Value.ref a] ∧ args = [WData.list (ns.map WData.int)] ∧ h.get? a = some { cls := .type "list", data := .seq vs.toArray } ∧ IntsAre vs ns ∧ ns.length ≤ n := by
 have hsh : WShape.hasAll [] args [.list .int] = true := (pre_splitW hpre).1
 have hc : l.pre.holds [] { args := args } = true := (pre_splitW hpre).2
 obtain ⟨d, r, rfl, h1, h2⟩ := hasAllW_cons hsh
 obtain rfl := hasAllW_nil h2
 obtain ⟨xs, rfl, h3⟩ := hasW_list h1
 obtain ⟨ns, rfl⟩ := items_int h3
 have hlen : ns.length ≤ n := by
  unfold OpenLaw.pre at hc
  have h4 : (WTm.not (.lt (.lit (.int (n : Int))) (.len (.arg 0)))).holds [] { args := [.list (ns.map .int)] } = true := by
   have h4 := (holds_andW hc).1
   rw [hn] at h4
   exact h4
  have h5 := condW_of h4 (w_not (w_lt w_lit (w_len_list (w_arg rfl))))
  rw [jQ] at h5
  refine Nat.le_of_not_lt fun q => ?_
  have q' : (n : Int) < ((ns.length : Nat) : Int) := by omega
  first
   | (rw [yZ q'] at h5; exact absurd h5 (by decide))
   | (simp at h5; omega)
 cases hwl with
 | cons w1 w2 =>
  cases w2
  cases w1 with
  | list ho hall => exact ⟨_, _, ns, rfl, rfl, ho, ints_of_wellAll ns _ hall, hlen⟩
theorem post_true (l : OpenLaw) (args : List WData) : l.row.toRowW.claim.post args (.bool true) args = true :=
 postW_of (r := l.row.toRowW) (X := (true == true))
  (show WShape.has [] (.bool true) .bool = true by first | rfl | decide | simp [WShape.has, WShape.arms, WShape.armsAll])
  (show (WTm.eq .res (.lit (.bool true))).value [] { args := args, res := some (.bool true), after := args } = some (.bool (true == true)) from w_eq_bool (w_res rfl) w_lit) rfl
section
variable {prog : Program} {w : World} {A : Around} {E : Value → Shared → Prop} {s : Shared} {K : Frag}
end
end Att
namespace L2
open PySem PySem.Spec PyProof.Rows
theorem vals_ints : ∀ {vs : List Value} {ns : List Int}, IntsAre vs ns → Vals (ns.map V.int) vs
 | _, _, .nil => .nil
 | _, _, .cons n t h => .cons ⟨t, rfl⟩ (vals_ints h)
def Only (H : Hp) : Prop := ∀ b, H b = none ∨ ∃ o xs, H b = some (.frz o (.lst xs))
theorem law_call {P : Program} {w : World} {K : Fg} {mg mb : Str → Option Value} {CX : CXT} {k : Nat} {fa a : Addr} {fd : FuncData} {x : Str} {sp : Sp} {s₁ : Shared} {vs : List Value} {ns : List Int}
  (KX : K.In s₁.heap) (hns : s₁.heap.Ns mainGlobals mg) (hb : s₁.heap.Ns builtinsNs mb) (hbb : ∀ x : Str, x ≠ "__name__" → mb x = bootBuiltins x) (hlim : s₁.heap.NoLimit) (hg : s₁.gens = #[])
  (ha : s₁.heap.get? a = some { cls := .type "list", data := .seq vs.toArray }) (hi : IntsAre vs ns) (hl : ns.length ≤ sizeLine) (hr : Room k callerA)
  (F : ∀ base : Heap, K.In base → base.Ns mainGlobals mg → FnOk P w K mg base CX k fa fd [x] sp) (hbind : ∀ (s : Shared) (u : Value), BindsTo s fd ⟨[u], []⟩ [(x, u)])
  (hsp : ∀ H : Hp, Only H → SqL K H a (ns.map V.int) → sp [.ref a] H (fun v _ => v = .bl true) fun _ _ _ => False)
  (hCX : ∀ H e s', CX [] H s₁ (fun _ _ _ => False) e s' → False) :
  codeAny (model P w) callerA (.call (.ref fa) ⟨[.ref a], []⟩) (fun r s' => r = .ok (.ret (.bool true)) ∧ OldK s₁.heap s'.heap ∧ s'.os = s₁.os ∧ AllBare s'.gens) s₁ := by
 have rv := vals_ints hi
 have lenV := hi.length
 -- from an abstract heap in which nothing but the script may be tracked
 have core : ∀ H : Hp, Only H → SqL K H a (ns.map V.int) → HOk P w H s₁.heap → (∀ b, H b ≠ none → b = a) → (H a ≠ none → K.lookup a = none) →
   codeAny (model P w) callerA (.call (.ref fa) ⟨[.ref a], []⟩) (fun r s' => r = .ok (.ret (.bool true)) ∧ OldK s₁.heap s'.heap ∧ s'.os = s₁.os ∧ AllBare s'.gens) s₁ := by
  intro H hO hS hok hA hK
  have base_of : ∀ {b : Addr} {o : Obj}, s₁.heap.get? b = some o → H b = none → (hidT s₁.heap H).get? b = some o := fun e n => hidT_get e n
  have noA : ∀ {b : Addr} {o : Obj} {es : Array DictEntry} {ep : Nat}, s₁.heap.get? b = some o → o.data = .dict es ep → H b = none := fun {b o es ep} e d => by
   cases q : H b with
   | none => rfl
   | some u =>
    have e' : b = a := hA b (by rw [q]; simp)
    subst e'
    rw [ha] at e; cases e
    have d' : Data.seq vs.toArray _ = Data.dict es ep := d
    cases d'
  have nsK : ∀ {b : Addr} {m : Str → Option Value}, s₁.heap.Ns b m → (hidT s₁.heap H).Ns b m := fun {b m} ⟨o, es, ep, e, d, r⟩ => ⟨o, es, ep, base_of e (noA e d), d, r⟩
  have hKb : K.In (hidT s₁.heap H) := fun b o e => base_of (KX b o e) (by
   cases q : H b with
   | none => rfl
   | some u =>
    have e' : b = a := hA b (by rw [q]; simp)
    subst e'
    rw [hK (by rw [q]; simp)] at e; cases e)
  have hM : Mod K mg (hidT s₁.heap H) := ⟨hKb, nsK hns, ⟨mb, nsK hb, hbb⟩, let ⟨mc, h1, h2⟩ := hlim; ⟨mc, nsK h1, h2⟩⟩
  have e0 : Env0 P w K mg (hidT s₁.heap H) callerA [] s₁ H := ⟨rfl, hM, fun b o e => of_hidT e, kYe (hidT_size _ _), trivial, fun b hb => absurd (show b ∈ ([] : List Addr) from hb) (by simp), hok, .of_eq hg⟩
  refine codeAny_mono ((F _ hKb (nsK hns)).run callerA [] s₁ H ⟨[.ref a], []⟩ [.ref a] [.ref a] _ _ hr e0 (hbind s₁ (.ref a)) (.cons rfl .nil) (hsp H hO hS)) fun r s' h => ?_
  cases r with
  | error e => exact (hCX H e s' h).elim
  | ok fl =>
   cases fl with
   | next => exact False.elim h
   | brk => exact False.elim h
   | cont => exact False.elim h
   | ret u =>
    obtain ⟨v, H', os, bare, un, hok', r', q⟩ := h
    have q' : v = .bl true := q
    subst q'
    obtain rfl : u = Value.bool true := r'
    refine ⟨rfl, OldK.of_keep fun b o e => ?_, os, bare⟩
    cases q : H b with
    | none => exact un.keep b o e q (by intro z; exact absurd (show b ∈ ([] : List Addr) from z) (by simp)) (by simp)
    | some u =>
     rcases hO b with z | ⟨ob, xs, z⟩
     ·rw [q] at z; cases z
     ·have z2 := un.frzs b ob _ z
      obtain ⟨e1, _⟩ := hok b _ z
      obtain ⟨e2, _⟩ := hok' b _ z2
      rw [e] at e1; cases e1
      exact e2
 cases hk : K.lookup a with
 | some o =>
  -- the script is one of the module's own objects
  have e := KX a o hk
  rw [ha] at e
  cases e
  refine core (fun _ => none) (fun _ => .inl rfl) (.inr ⟨_, vs.toArray, _, hk, rfl, rfl, rfl, by rw [jY, lenV]; exact hl, by simpa using rv⟩) (fun b u z => by have z' : (none : Option HO) = some u := z; cases z') (fun b z => absurd rfl z) fun z => absurd rfl z
 | none =>
  refine core (fun b => if b = a then some (.frz { cls := .type "list", data := .seq vs.toArray } (.lst (ns.map V.int))) else none) (fun b => ?_) (.inl (.inr ⟨{ cls := .type "list", data := .seq vs.toArray }, if_pos rfl⟩)) (fun b u z => ?_) (fun b z => ?_) fun _ => hk
  ·by_cases hb : b = a
   ·exact .inr ⟨_, _, if_pos hb⟩
   ·exact .inl (if_neg hb)
  ·by_cases hb : b = a
   ·have z' := (if_pos hb).symm.trans z
    cases z'
    subst hb
    exact ⟨ha, by rw [jQ]; exact hl, vs, _, rv, ha⟩
   ·have z' := (if_neg hb).symm.trans z
    cases z'
  ·by_cases hb : b = a
   ·exact hb
   ·exact absurd (if_neg hb) z
abbrev KOf {K : Fg} {h : Heap} (_ : K.In h) : Fg := K
end L2
/- THE LAST THEOREM (shape; LID, My.* are yours):
   My.Adr: a structure of the addresses that your layer names (classes, functions); My.Txt K t: a structure (Prop) of the equations over K;
   My.txt_mk : {K} {implicit addresses ..} (e1 : nsIn K mainGlobals "law" = some (some (.ref f))) (e2 : K.lookup f = some ⟨oc, od, .func (fnOf "law" "law" params body scope dV kV doc pm an cdv ct), sl⟩) (e3 : codeIn K cdv "law" = true) .. : ∃ t, My.Txt K t
set_option maxRecDepth 100000 in
set_option maxHeartbeats 0 in
theorem PySem.Challenge.cw_LID_holds : PySem.Challenge.rw_LID.Holds := by
 w_on; o_law; k_head; (case hw => w_witness2)
 k_fill
 refine L2.walk_of (l := PySem.Challenge.rw_LID) (n := 63) (k := 40) (x := "script") (CX := fun w => ..) (sp := fun _ => My.sp_law) rfl (by decide) rfl ⟨rfl, by decide, by decide⟩ (fun w h Y => PySem.W.kIn_of Y) ?F ?S ?C
 case F =>
  intro w mg fa h KX G hmg
  have T : ∃ t, My.Txt (L2.KOf KX) t := by
   dsimp only [L2.KOf]                          -- K must stand as «<heap const> w.params» for k_is
   refine' My.txt_mk ?e1 ?e2 ?e3 ..
   (case e1 => PySem.W.k_is)                    -- in the order: a name -> its address -> its object -> its parts
   (case e2 => PySem.W.k_is)
   ..
  obtain ⟨t, T⟩ := T
  have e0 := hmg.symm.trans (PySem.W.mg_of KX G T.law)
  cases e0                                       -- fa is the law's own address
  exact ⟨_, fun s u => .of_eq rfl, fun base kb nb => My.law_fn T kb nb⟩     -- if «.of_eq rfl» comes too early: refine' ⟨_, ?b, fun base kb nb => My.law_fn T kb nb⟩; exact fun s u => .of_eq rfl
 case S => exact fun w H a ns hl hO hS => ..
 case C => exact ..
(the tactic k_is has no namespace: write k_is) -/
namespace L2
open PySem PySem.Spec PyProof.Rows
def defArgs (s : Stmt) : Arguments := match s with
 | .FunctionDef _ a _ _ _ _ _ _ _ _ => a
 | _ => { posonlyargs := [], args := [], vararg := none, kwonlyargs := [], kw_defaults := [], kwarg := none, defaults := [] }
def defBody (s : Stmt) : List Stmt := match s with
 | .FunctionDef _ _ b _ _ _ _ _ _ _ => b
 | _ => []
def defScope (s : Stmt) : Scope := match s with
 | .FunctionDef _ _ _ _ _ _ sc _ _ _ => sc
 | _ => { kind := .function, names := [], isGenerator := false, isCoroutine := false }
abbrev CX0 : CXT := fun _ _ _ _ _ _ => False
abbrev E0 : XK := fun _ _ _ => False
theorem pass0 {X : Cx} : Passes CX0 X E0 := fun _ _ _ _ _ _ _ h => h.elim
structure Fun (K : Fg) (x qual : Str) (st : Stmt) (f : Addr) (fd : FuncData) : Prop where
 ex : ∃ (oc : Value) (od : Option Addr) (kV doc pm : Value) (an : Option Addr) (cdv ct : Value) (osl : Array (Option Value)),
  fd = PySem.W.fnOf x qual (defArgs st) (defBody st) (defScope st) .none kV doc pm an cdv ct ∧ K.lookup f = some ⟨oc, od, .func fd, osl⟩ ∧ PySem.W.codeIn K cdv qual = true
 kp : PySem.W.keepIn K (.ref f) = true
section
variable {P : Program} {w : World} {K : Fg} {mg : Str → Option Value} {base : Heap}
theorem Fun.ok {x qual : Str} {st : Stmt} {f : Addr} {fd : FuncData} {N ps : List Str} {k : Nat} {sp : Sp} (F : Fun K x qual st f fd) (S : FnScope N ps (defScope st)) (len : ∀ vs H Q E, sp vs H Q E → vs.length = ps.length)
  (hbody : ∀ (cdv : Value) (A : Around) (outer : List Env) (s : Shared) (H : Hp) (vs : List V) (Q : VK) (E : XK), Room k (A.deeper (envOfC qual (defScope st) s.heap.objs.size f cdv)) → sp vs H Q E →
   ∃ t, PSs (cxOf CX0 P w K mg base N qual (defScope st) f cdv A outer s H E).nox (defBody st) t ∧ t { nx := fun _ H' => Q .non H', rt := Q } (start N vs) H) : FnOk P w K mg base CX0 (k + 1) f fd ps sp := by
 obtain ⟨oc, od, kV, doc, pm, an, cdv, ct, osl, rfl, lk, hcd⟩ := F.ex
 refine fn_of lk hcd S len fun A outer s H vs Q E hr hsp => ?_
 obtain ⟨t, h, q⟩ := hbody cdv A outer s H vs Q E hr hsp
 exact ⟨t, h.nox, q⟩
theorem Fun.binds {x qual : Str} {st : Stmt} {f : Addr} {fd : FuncData} {ps : List Str} (F : Fun K x qual st f fd)
  (h : ∀ (kV doc pm : Value) (an : Option Addr) (cdv ct : Value) (us : List Value), us.length = ps.length → bindArgs (PySem.W.fnOf x qual (defArgs st) (defBody st) (defScope st) .none kV doc pm an cdv ct) ⟨us, []⟩ = pure (ps.zip us)) : Binds K fd ps [] := by
 obtain ⟨oc, od, kV, doc, pm, an, cdv, ct, osl, rfl, lk, hcd⟩ := F.ex
 exact .all (h kV doc pm an cdv ct)
theorem fun_mk {x qual : Str} {st : Stmt} {f : Addr} {oc : Value} {od an : Option Addr} {osl : Array (Option Value)} {kV doc pm cdv ct : Value} (l : K.lookup f = some ⟨oc, od, .func (PySem.W.fnOf x qual (defArgs st) (defBody st) (defScope st) .none kV doc pm an cdv ct), osl⟩)
  (c : PySem.W.codeIn K cdv qual = true) (k : PySem.W.keepIn K (.ref f) = true) : Fun K x qual st f (PySem.W.fnOf x qual (defArgs st) (defBody st) (defScope st) .none kV doc pm an cdv ct) := ⟨⟨oc, od, kV, doc, pm, an, cdv, ct, osl, rfl, l, c⟩, k⟩
end
section
variable {X : Cx}
theorem pv (i : Nat) {x : Str} {pos : Pos} (hN : autoParam (X.N[i]? = some x) L2.aRfl._auto_1) (hv : Vis X.env.scope x := by first | exact Or.inl rfl | exact Or.inr (Or.inl rfl) | exact Or.inr (Or.inr rfl)) (hd : autoParam ((x == ("__debug__" : Str)) = false) L2.aDec._auto_1)
  (hcd : autoParam ((x == ("__classdict__" : Str)) = false) L2.aDec._auto_1) : PE X (.Name x pos) (tVar i) := pe_var hN hv hd hcd
end
theorem iteF {A B : Prop} (h : B) : if false = true then A else B := by
 rw [if_neg kZ]
 exact h
theorem iteT {A B : Prop} (h : A) : if true = true then A else B := by
 rw [if_pos rfl]
 exact h
theorem ite2 {c A B : Prop} [Decidable c] (h1 : c → A) (h2 : ¬ c → B) : if c then A else B := by
 by_cases h : c
 ·rw [if_pos h]
  exact h1 h
 ·rw [if_neg h]
  exact h2 h
def Same (H H' : Hp) : Prop := ∀ b o, H b = some o → H' b = some o
theorem Same.refl (H : Hp) : Same H H := fun _ _ h => h
theorem Same.trans {H H1 H2 : Hp} (a : Same H H1) (b : Same H1 H2) : Same H H2 := fun c o h => b c o (a c o h)
theorem Same.seq {K : Fg} {H H' : Hp} {a : Addr} {xs : List V} (e : Same H H') (h : SqL K H a xs) : SqL K H' a xs := by
 rcases h with (h | ⟨o, h⟩) | h
 ·exact .inl (.inl (e _ _ h))
 ·exact .inl (.inr ⟨o, e _ _ h⟩)
 ·exact .inr h
theorem compLoop_any {prog : Program} {w : World} {A : Around} {R : Result → Shared → Prop} {s : Shared} {elt target iter : Expr} {ifs : List Expr} {scope : Scope} {pos : Pos} {it acc : Value} {env : Env} (I : Nat → Shared → Prop)
  (turn : ∀ n s, I n s → wpAny (model prog w) A (pyNext it) (fun r s1 => match r with
   | none => R (.ok .next) s1
   | some v => wpAny (model prog w) A (letOwnedTupleGo target it v) (fun _ s1' => wpAny (model prog w) A (assign target env v) (fun _ s2 =>
     wpAny (model prog w) A (forIn ifs true fun c r => if r = true then do let ok ← isTrue c env (eval c env); pure (ForInStep.yield ok) else pure (ForInStep.yield r)) (fun ok s3 =>
      if ok = true then wpAny (model prog w) A (eval elt env) (fun x s4 =>
       wpAny (model prog w) A (call (.builtin "list.append") [acc, x]) (fun _ s5 => ∃ m, m < n ∧ I m s5) (fun _ _ => False) s4) (fun _ _ => False) s3
      else ∃ m, m < n ∧ I m s3) (fun _ _ => False) s2) (fun _ _ => False) s1') (fun _ _ => False) s1) (fun _ _ => False) s)
  (n : Nat) (h : I n s) :
  codeAny (model prog w) A (.compLoop (.ListComp elt [⟨target, iter, ifs, 0⟩] scope pos) 0 it acc env) R s := by
 refine codeAny_loop rfl I (fun n s hI => ?_) n h
 show wpAny _ A ((compTurn (.ListComp elt [⟨target, iter, ifs, 0⟩] scope pos) 0 it acc env).onRaise (fun x => do noteFrame x env; theTreesLotGoes x)) _ _ s
 refine wpAny_noted ?_
 rw [compTurn_list]
 refine jZ (wpAny_standAt (jZ (wpAny_mono (turn n s hI) (fun r s1 h1 => ?_) fun _ _ h' => h'.elim)))
 cases r with
 | none => exact kK h1
 | some v =>
  refine jZ (wpAny_mono h1 (fun _ s1' h1' => ?_) fun _ _ h' => h'.elim)
  refine jZ (wpAny_mono h1' (fun _ s2 h2 => jZ (wpAny_mono h2 (fun ok s3 h3 => ?_) fun _ _ h' => h'.elim)) fun _ _ h' => h'.elim)
  cases ok with
  | false => exact kK ⟨rfl, h3⟩
  | true =>
   exact jZ (jZ (wpAny_mono h3 (fun x s4 h4 => jZ (wpAny_mono h4 (fun _ s5 h5 => kK (kK ⟨rfl, h5⟩)) fun _ _ h' => h'.elim)) fun _ _ h' => h'.elim))
def freeOk (sc : Scope) : List (Str × NameKind) → Bool
 | [] => true
 | (n, k) :: r => (k != .free || sc.names.lookup n == some .cell || sc.names.lookup n == some .free) && freeOk sc r
def cellsIn (env : Env) : List (Str × NameKind) → List (Str × Addr) → List (Str × Addr)
 | [], cs => cs
 | (n, k) :: r, cs => cellsIn env r (if k = .free then (n, (env.cells.lookup n).getD 0) :: cs else cs)
theorem cellsIn_sub {env : Env} : ∀ (l : List (Str × NameKind)) (cs : List (Str × Addr)), (∀ n, (n, NameKind.free) ∈ l → ∃ c, env.cells.lookup n = some c) → (∀ x c, cs.lookup x = some c → env.cells.lookup x = some c) →
  ∀ x c, (cellsIn env l cs).lookup x = some c → env.cells.lookup x = some c
 | [], cs, _, h => h
 | (n, k) :: r, cs, hl, h => by
  refine cellsIn_sub r _ (fun m hm => hl m (zY _ hm)) fun x c e => ?_
  by_cases hk : k = .free
  ·rw [if_pos hk] at e
   subst hk
   obtain ⟨c', hc⟩ := hl n xZ
   rw [jXe] at e
   cases hx : x == n with
   | true =>
    rw [hx] at e
    have : x = n := by simpa using hx
    subst this
    rw [hc] at e
    simp at e
    rw [hc, e]
   | false => rw [hx] at e; exact h x c e
  ·rw [if_neg hk] at e
   exact h x c e
theorem cellsIn_has {env : Env} : ∀ (l : List (Str × NameKind)) (cs : List (Str × Addr)) (x : Str), ((cs.lookup x).isSome = true ∨ (x, NameKind.free) ∈ l) → ((cellsIn env l cs).lookup x).isSome = true
 | [], cs, x, h => by
  rcases h with h | h
  ·exact h
  ·exact nomatch h
 | (n, k) :: r, cs, x, h => by
  refine cellsIn_has r _ x ?_
  rcases h with h | h
  ·left
   split
   ·rw [jXe]
    split
    ·rfl
    ·exact h
   ·exact h
  ·rcases wY.mp h with e | e
   ·cases e
    left
    rw [if_pos rfl, jXe]
    simp
   ·exact .inr e
theorem closureFor_cells {scope : Scope} {env : Env} (h : ∀ n, (n, NameKind.free) ∈ scope.names → ∃ c, env.cells.lookup n = some c) : closureFor scope env = pure (cellsIn env scope.names []) := by
 unfold closureFor
 suffices ∀ (l : List (Str × NameKind)) (cs : List (Str × Addr)), (∀ n, (n, NameKind.free) ∈ l → ∃ c, env.cells.lookup n = some c) → (forIn l cs fun x r =>
   if (x.2 == NameKind.free) = true then do let a ← cellOf env x.1; pure (ForInStep.yield ((x.1, a) :: r)) else pure (ForInStep.yield r) : Sem _) = pure (cellsIn env l cs) by
  have := this scope.names [] h
  simp only at this ⊢
  rw [this]
  rfl
 intro l
 induction l with
 | nil => intro cs _; rfl
 | cons p r ih =>
  intro cs hl
  obtain ⟨n, k⟩ := p
  rw [List.forIn_cons]
  by_cases hk : k = .free
  ·subst hk
   obtain ⟨c, hc⟩ := hl n xZ
   have e : cellOf env n = pure c := by unfold cellOf; rw [hc]
   have hb : (NameKind.free == NameKind.free) = true := rfl
   simp only [hb, if_true, e, cellsIn, hc, Option.getD_some]
   exact ih _ fun m hm => hl m (zY _ hm)
  ·have hb : (k == NameKind.free) = false := by simpa using hk
   simp only [hb, wX, if_false, cellsIn, if_neg hk]
   exact ih _ fun m hm => hl m (zY _ hm)
theorem freeOk_mem {sc : Scope} : ∀ {l : List (Str × NameKind)}, freeOk sc l = true → ∀ n, (n, NameKind.free) ∈ l → sc.names.lookup n = some .cell ∨ sc.names.lookup n = some .free
 | [], _, n, h => nomatch h
 | (m, k) :: r, h, n, hm => by
  simp only [freeOk, yW] at h
  rcases wY.mp hm with e | e
  ·cases e
   have h1 := h.1
   have hb : (NameKind.free != NameKind.free) = false := rfl
   rw [hb] at h1
   simp only [Bool.false_or, jZe, beq_iff_eq] at h1
   exact h1
  ·exact freeOk_mem h.2 n e
theorem relabel_lookup {env : Env} : ∀ {names : List (Str × NameKind)} {x : Str} {k : NameKind}, (names.map fun (n, k) => if (k == NameKind.free && env.scope.kind == .function && env.kindOf n == some .cell) then (n, NameKind.cell) else (n, k)).lookup x = some k →
  ∃ k0, names.lookup x = some k0 ∧ (k = k0 ∨ (k = .cell ∧ k0 = .free))
 | [], _, _, h => by simp at h
 | (n, k0) :: r, x, k, h => by
  rw [xK] at h
  by_cases hc : (k0 == NameKind.free && env.scope.kind == .function && env.kindOf n == some .cell) = true
  ·simp only [hc, if_true, jXe] at h
   rw [jXe]
   cases hx : x == n with
   | true =>
    rw [hx] at h
    refine ⟨k0, rfl, .inr ⟨(Option.some.inj h).symm, ?_⟩⟩
    simp only [yW, beq_iff_eq] at hc
    exact hc.1.1
   | false => rw [hx] at h; exact relabel_lookup h
  ·simp only [hc, wX, if_false, jXe] at h
   rw [jXe]
   cases hx : x == n with
   | true => rw [hx] at h; exact ⟨k0, rfl, .inl (Option.some.inj h).symm⟩
   | false => rw [hx] at h; exact relabel_lookup h
theorem lookup_mem {α : Type} : ∀ {l : List (Str × α)} {x : Str} {k : α}, l.lookup x = some k → (x, k) ∈ l
 | [], _, _, h => by simp at h
 | (n, k0) :: r, x, k, h => by
  rw [jXe] at h
  cases hx : x == n with
  | true =>
   rw [hx] at h
   have e1 : x = n := by simpa using hx
   have e2 : k0 = k := Option.some.inj h
   subst e1 e2
   exact xZ
  | false => rw [hx] at h; exact zY _ (lookup_mem h)
def capSt (cp : List (Option Nat)) (σ : St) : St := cp.map fun (o : Option Nat) => match o with
 | none => none
 | some j => match σ[(j : Nat)]? with
  | some v => v
  | none => none
def capOk (X : Cx) (scope : Scope) : List Str → List (Option Nat) → Bool
 | [], [] => true
 | x :: N, o :: cp => (match o with | none => true | some j => X.N[j]? == some x && scope.names.lookup x == some .free) && capOk X scope N cp
 | _, _ => false
theorem capOk_len {X : Cx} {scope : Scope} : ∀ {N : List Str} {cp : List (Option Nat)}, capOk X scope N cp = true → cp.length = N.length
 | [], [], _ => rfl
 | _ :: N, _ :: cp, h => by
  simp only [capOk, yW] at h
  simp [capOk_len h.2]
 | [], _ :: _, h => by simp [capOk] at h
 | _ :: _, [], h => by simp [capOk] at h
theorem capOk_get {X : Cx} {scope : Scope} : ∀ {N : List Str} {cp : List (Option Nat)} {i : Nat} {x : Str} {v : V} {σ : St}, capOk X scope N cp = true → N[i]? = some x → (capSt cp σ)[i]? = some (some v) →
  ∃ j : Nat, X.N[j]? = some x ∧ σ[j]? = some (some v) ∧ scope.names.lookup x = some .free
 | [], [], i, x, v, σ, _, h, _ => by simp at h
 | y :: N, o :: cp, 0, x, v, σ, h, e, e2 => by
  simp only [capOk, yW] at h
  have e' : y = x := by simpa using e
  subst e'
  cases o with
  | none => simp [capSt] at e2
  | some j =>
   have h1 := h.1
   simp only [yW, beq_iff_eq] at h1
   refine ⟨j, h1.1, ?_, h1.2⟩
   simp only [capSt, xK, List.getElem?_cons_zero, Option.some.injEq] at e2
   cases q : σ[j]? with
   | none => rw [q] at e2; cases e2
   | some z => rw [q] at e2; exact congrArg some e2
 | y :: N, o :: cp, i + 1, x, v, σ, h, e, e2 => by
  simp only [capOk, yW] at h
  exact capOk_get (i := i) h.2 (by simpa using e) (by simpa [capSt] using e2)
 | [], _ :: _, _, _, _, _, h, _, _ => by simp [capOk] at h
 | _ :: _, [], _, _, _, _, h, _, _ => by simp [capOk] at h
def cxBlock (X : Cx) (N : List Str) (scope : Scope) (fp : List Addr) (H : Hp) (s : Shared) : Cx :=
 { X with N := N, s₀ := s, H₀ := H, env := compEnvC scope (cellsIn X.env scope.names []) s.heap.objs.size X.env, outer := X.stack, stack := X.stack, ex := fp, fn := fun _ => false, pn := [], xe := fun _ _ => False }
section
variable {X : Cx}
theorem noCell_mem {l : List (Str × NameKind)} (h : (l.all fun p => p.2 != .cell) = true) : ∀ y ∈ l, y.2 ≠ .cell := fun y hy => by
 have := jZc.mp h y hy
 simpa using this
theorem cxBlock_ok {pins : List (Addr × Obj)} {σ : St} {H : Hp} {s : Shared} {N : List Str} {scope : Scope} {fp : List Addr} (I : Inv X pins σ H s) (hf : ∀ b ∈ fp, FpOk X pins H b) (hlt : ∀ b ∈ fp, b < s.heap.objs.size) (hk : scope.kind = .function)
  (hcell : (scope.names.all fun p => p.2 != .cell) = true) (hfree : freeOk X.env.scope scope.names = true) : (cxBlock X N scope fp H s).Ok := by
 have has : ∀ n, (n, NameKind.free) ∈ scope.names → ∃ c, X.env.cells.lookup n = some c := fun n hn => I.ok.has n (freeOk_mem hfree n hn)
 have sub : ∀ x c, (cellsIn X.env scope.names []).lookup x = some c → X.env.cells.lookup x = some c := cellsIn_sub _ _ has fun x c e => by simp at e
 have fs : ∀ b ∈ fp, b ∉ frs X.stack := fun b hb z => by
  obtain ⟨_, f1, f2, _⟩ := hf b hb
  rcases wY.mp (I.stkSub b z) with e | e
  ·exact f1 e
  ·exact f2 e
 refine ⟨I.ok.mod, hk, I.ok.glob, I.ok.blt, jX _, fun x y c h1 h2 => I.ok.inj x y c (sub x c h1) (sub y c h2), fun x hx => ?_, (fun x c h => nomatch h), I.ok.hd, I.ok.frames, .inl rfl, fun b hb => ⟨zV (hlt b hb), fun x c e => (hf b hb).2.2.2.2.1 x c (sub x c e)⟩,
  I.bs, jQe I.ok.bsz I.sz, fun b o e hb => ?_, fs, I.stack, I.stkFree⟩
 ·have hx' : (scope.names.map fun (n, k) => if (k == NameKind.free && X.env.scope.kind == .function && X.env.kindOf n == some .cell) then (n, NameKind.cell) else (n, k)).lookup x = some .cell ∨
    (scope.names.map fun (n, k) => if (k == NameKind.free && X.env.scope.kind == .function && X.env.kindOf n == some .cell) then (n, NameKind.cell) else (n, k)).lookup x = some .free := hx
  have fr : (x, NameKind.free) ∈ scope.names := by
   rcases hx' with e | e
   ·obtain ⟨k0, e0, z | z⟩ := relabel_lookup e
    ·subst z
     exact absurd rfl (noCell_mem hcell _ (lookup_mem e0))
    ·obtain ⟨_, z⟩ := z
     subst z
     exact lookup_mem e0
   ·obtain ⟨k0, e0, z | z⟩ := relabel_lookup e
    ·subst z
     exact lookup_mem e0
    ·exact nomatch z.1
  exact kYb.mp (cellsIn_has _ _ x (.inr fr))
 ·obtain ⟨_, _, _, f3, _⟩ := hf b hb
  rcases f3 with z | z
  ·exact I.ok.noex b o e z
  ·exact absurd (yY (kJ (I.ok.bs b o e).1) z) (jJc _)
theorem block_inv {pins : List (Addr × Obj)} {σ : St} {H : Hp} {s : Shared} {N : List Str} {scope : Scope} {fp : List Addr} {cp : List (Option Nat)} {h' : Heap} {m : Str → Option Value} {t' : Nat} (I : Inv X pins σ H s) (hf : ∀ b ∈ fp, FpOk X pins H b) (hlt : ∀ b ∈ fp, b < s.heap.objs.size) (hk : scope.kind = .function)
  (hcell : (scope.names.all fun p => p.2 != .cell) = true) (hfree : freeOk X.env.scope scope.names = true) (hcap : capOk X scope N cp = true)
  (hns : h'.Ns s.heap.objs.size m) (hx : ∀ b o, s.heap.get? b = some o → h'.get? b = some o) : Inv (cxBlock X N scope fp H s) [] (capSt cp σ) H { s with heap := h', toks := t' } := by
 have has : ∀ n, (n, NameKind.free) ∈ scope.names → ∃ c, X.env.cells.lookup n = some c := fun n hn => I.ok.has n (freeOk_mem hfree n hn)
 have sub : ∀ x c, (cellsIn X.env scope.names []).lookup x = some c → X.env.cells.lookup x = some c := cellsIn_sub _ _ has fun x c e => by simp at e
 refine ⟨cxBlock_ok I hf hlt hk hcell hfree, rfl, I.bare, ⟨fun b o e n _ _ => hx b o e, fun b o e n _ _ => ⟨o.slots, hx b o e⟩, fun b o e n _ => n, fun b o e _ => ⟨o, hx b o e⟩, fun b xs e => e, fun b o xs e => e, fun b ps e => ⟨#[], by rw [Array.append_empty]; exact e⟩⟩, ⟨m, hns, fun i x v e1 e2 e3 => ?_⟩, fun x c e => ?_, I.hok.fresh (jX _), fun x c e => I.freeC x c (sub x c e), (fun p hp => nomatch hp), I.hok.kept hx, ?_⟩
 ·obtain ⟨j, h1, h2, h3⟩ := capOk_get hcap e1 e2
  obtain ⟨m', _, hl⟩ := I.loc
  have hkx := freeOk_mem hfree x (lookup_mem h3)
  obtain ⟨u, r, l⟩ := hl j x v h1 h2 (.inr hkx)
  rcases l with ⟨l, _⟩ | ⟨_, c, hc, hcell'⟩
  ·rcases hkx with z | z
   ·exact nomatch (Option.some.inj (l.symm.trans z))
   ·exact nomatch (Option.some.inj (l.symm.trans z))
  ·obtain ⟨c', hc'⟩ := kYb.mp (cellsIn_has (env := X.env) scope.names [] x (.inr (lookup_mem h3)))
   have ec := sub x c' hc'
   rw [hc] at ec
   cases ec
   refine ⟨u, r, .inr ⟨?_, c, hc', ?_⟩⟩
   ·rcases e3 with z | z | z
    ·obtain ⟨k0, e0, y | y⟩ := relabel_lookup (show (scope.names.map fun (n, k) => if (k == NameKind.free && X.env.scope.kind == .function && X.env.kindOf n == some .cell) then (n, NameKind.cell) else (n, k)).lookup x = some .local from z)
     ·rw [h3] at e0; cases e0; cases y
     ·exact nomatch y.1
    ·exact .inl z
    ·exact .inr z
   ·obtain ⟨o, ho, hd⟩ := hcell'
    exact ⟨o, hx c o ho, hd⟩
 ·obtain ⟨v, o, ho, hd⟩ := I.cell x c (sub x c e)
  exact ⟨v, o, hx c o ho, hd⟩
 ·show (capSt cp σ).length = N.length
  unfold capSt
  rw [jQ]
  exact capOk_len hcap
theorem block_after {pins : List (Addr × Obj)} {σ σ' : St} {H H' : Hp} {s s' : Shared} {N : List Str} {scope : Scope} {fp : List Addr} {pins' : List (Addr × Obj)} (I : Inv X pins σ H s) (hf : ∀ b ∈ fp, FpOk X pins H b)
  (J : Inv (cxBlock X N scope fp H s) pins' σ' H' s') : Inv X pins σ H' s' :=
 I.call' (ch := fp) J.os J.base J.hok J.bare fun b hb => ⟨(hf b hb).2.2.2.1, (hf b hb).2.1, (hf b hb).2.2.2.2.1, (hf b hb).2.2.2.2.2⟩
def PF (X : Cx) (ifs : List Expr) (t : TT) : Prop :=
 ∀ (pins : List (Addr × Obj)) (s : Shared) (σ : St) (H : Hp) (Q : Bool → Hp → Prop), Inv X pins σ H s → t σ H Q →
  wpAny (model X.prog X.w) X.A (forIn ifs true fun c r => if r = true then do let ok ← isTrue c X.env (eval c X.env); pure (ForInStep.yield ok) else pure (ForInStep.yield r)) (TP X pins σ Q) X.xe s
def tYes : TT := fun _ H Q => Q true H
theorem pf_nil : PF X [] tYes := fun _ _ _ H _ I h => wpAny_tests_nil ⟨H, I, h⟩
theorem pf_one {c : Expr} {t : TT} (hc : PT X c t) : PF X [c] t := fun pins s σ H Q I h => wpAny_tests_one (hc pins s σ H Q I h)
def LcW (J : It) (D : Addr) (τ0 : St) (H : Hp) (g : TG) (tt : TT) (te : TE) (Q : Addr → Hp → Prop) : Prop := ∃ W : Nat → Nat → St → List V → Hp → Prop, (∃ m, W 0 m τ0 [] (upd H D (.lst []))) ∧ ∀ i m τ ys H, W i m τ ys H →
 H D = some (.lst ys) ∧ ((J.stop i H ∧ Q D H) ∨ (J.go i H ∧ ys.length < sizeLine ∧ ∃ (N1 : St → V → Hp → Prop) (N2 : St → Hp → Prop), (∀ τ v H, N1 τ v H → ∃ m', m' < m ∧ W (i + 1) m' τ (ys ++ [v]) (upd H D (.lst (ys ++ [v])))) ∧ (∀ τ H, N2 τ H → ∃ m', m' < m ∧ W (i + 1) m' τ ys H) ∧
  ∀ x H', J.yld i H x H' → g x τ H' fun σ2 H2 => tt σ2 H2 fun ok H3 => if ok = true then te σ2 H3 fun v H4 => H4 D = some (.lst ys) ∧ N1 σ2 v H4 else N2 σ2 H3))
def tLC (cp : List (Option Nat)) (wi : TI) (g : TG) (tt : TT) (te : TE) (σ : St) (H : Hp) (Q : Addr → Hp → Prop) : Prop := wi σ H fun J H1 => ∀ D, H1 D = none → LcW J D (capSt cp σ) H1 g tt te Q
theorem lc_block {elt iter target : Expr} {ifs : List Expr} {scope : Scope} {pos : Pos} {N : List Str} {cp : List (Option Nat)} {g : TG} {tt : TT} {te : TE} {pins : List (Addr × Obj)} {σ : St} {H : Hp} {s : Shared} {E : Value → Shared → Prop} {Q : Addr → Hp → Prop}
  {it : Addr} {fp : List Addr} {tn : Nat → Heap → Prop} {J : It} {RR : Value → Addr → Result → Shared → Prop} (hc : X.calm = true) (hk : scope.kind = .function) (hcell : (scope.names.all fun p => p.2 != .cell) = true) (hfree : freeOk X.env.scope scope.names = true) (hcap : capOk X scope N cp = true)
  (hg : ∀ fp H s, PG (cxBlock X N scope fp H s) target g) (ht : ∀ fp H s, PF (cxBlock X N scope fp H s) ifs tt) (he : ∀ fp H s, PE (cxBlock X N scope fp H s) elt te)
  (I : Inv X pins σ H s) (T : Turn X.prog X.w X.K target J fp it tn) (st : tn 0 s.heap) (hf : ∀ b ∈ fp, FpOk X pins H b)
  (h : ∀ D, H D = none → LcW J D (capSt cp σ) H g tt te Q)
  (hRR : ∀ D C s' H' m, Inv X pins σ H' s' → FpOk X pins H' C → s'.heap.Ns C m → Q D H' → RR (.ref D) C (.ok .next) s') :
  wpAny (model X.prog X.w) X.A (newList []) (fun acc s3 => wpAny (model X.prog X.w) X.A (newFunctionEnv scope X.env.globals (cellsIn X.env scope.names []) [] X.env.qual none .none (some X.env)) (fun cenv s4 =>
   codeAny (model X.prog X.w) X.A (.compStart (.ListComp elt [⟨target, iter, ifs, 0⟩] scope pos) 0 (.ref it) acc { cenv with scope := relabel scope X.env }) (RR acc cenv.locals) s4) E s3) E s := by
 have hlt : ∀ b ∈ fp, b < s.heap.objs.size := fun b hb => by
  obtain ⟨o, e, _⟩ := T.obj _ _ st b hb
  exact kJ e
 refine wpAny_newObj_type (wpAny_newFunctionEnv (noCell_mem hcell) (by intro y hy; simp at hy) (fun h1 hns1 hsb1 => ?_) hk)
 dsimp only at hns1 hsb1 ⊢
 have hD : H s.heap.objs.size = none := I.hok.fresh (jX _)
 have I3 : Inv X pins σ (upd H s.heap.objs.size (.lst [])) { s with heap := s.heap.push { cls := .type "list", dict := none, data := .seq ([] : List Value).toArray } } :=
  I.laid (t' := s.toks) (fun b u e => jK _ e) (jX _) ⟨wV _, [], 0, .nil, zX _ rfl⟩
 have hf3 : ∀ b ∈ fp, FpOk X pins (upd H s.heap.objs.size (.lst [])) b := fun b hb => ⟨by rw [upd_ne (zV (hlt b hb))]; exact (hf b hb).1, (hf b hb).2⟩
 have hlt3 : ∀ b ∈ fp, b < (s.heap.push { cls := .type "list", dict := none, data := .seq ([] : List Value).toArray }).objs.size := fun b hb => by rw [Heap.size_push]; exact kXf (hlt b hb)
 generalize hH2 : s.heap.push { cls := .type "list", dict := none, data := .seq ([] : List Value).toArray } = H2 at hns1 hsb1 I3 hlt3 ⊢
 generalize hs3 : ({ s with heap := H2 } : Shared) = s3 at I3
 have hs3h : s3.heap = H2 := by rw [← hs3]
 have ext1 : ∀ b o, s3.heap.get? b = some o → h1.get? b = some o := fun b o e => by
  rw [hs3h] at e
  exact hsb1.extBut b o (zV (kJ e)) (jK _ e)
 have J0 : Inv (cxBlock X N scope fp (upd H s.heap.objs.size (.lst [])) s3) [] (capSt cp σ) (upd H s.heap.objs.size (.lst [])) { s3 with heap := h1, toks := s.toks + ([] : List (Str × Value)).length } :=
  block_inv I3 hf3 (by rw [hs3h]; exact hlt3) hk hcell hfree hcap (by rw [hs3h]; exact hns1) ext1
 have st1 : tn 0 h1 := T.keep _ _ _ st fun b hb o e => ext1 b o (by rw [hs3h, ← hH2]; exact jK _ e)
 obtain ⟨W, ⟨m0, w0⟩, turn⟩ := h s.heap.objs.size hD
 have stat : ∀ {H' : Hp}, (∀ b ∈ fp, H' b = none) → ∀ b ∈ fp, FpOk (cxBlock X N scope fp (upd H s.heap.objs.size (.lst [])) s3) [] H' b := fun {H'} hn b hb =>
  ⟨hn b hb, (J0.ok.exf b hb).1, J0.ok.exfs b hb, .inl hb, (J0.ok.exf b hb).2, fun p hp => nomatch hp⟩
 have loop : codeAny (model X.prog X.w) X.A (.compLoop (.ListComp elt [⟨target, iter, ifs, 0⟩] scope pos) 0 (.ref it) (.ref s.heap.objs.size) (compEnvC scope (cellsIn X.env scope.names []) H2.objs.size X.env))
   (RR (.ref s.heap.objs.size) H2.objs.size) { s3 with heap := h1, toks := s.toks + ([] : List (Str × Value)).length } := by
  have eEnv : compEnvC scope (cellsIn X.env scope.names []) H2.objs.size X.env = (cxBlock X N scope fp (upd H s.heap.objs.size (.lst [])) s3).env := by
   rw [← hs3h]; rfl
  rw [eEnv]
  refine compLoop_any (fun n s' => ∃ i τ ys H', Inv (cxBlock X N scope fp (upd H s.heap.objs.size (.lst [])) s3) [] τ H' s' ∧ tn i s'.heap ∧ (∀ b ∈ fp, H' b = none) ∧ W i n τ ys H') ?_ m0 ⟨0, capSt cp σ, [], _, J0, st1, fun b hb => (hf3 b hb).1, w0⟩
  rintro n s4 ⟨i, τ, ys, H4, I4, st4, fr4, w4⟩
  obtain ⟨hD4, hh⟩ := turn i n τ ys H4 w4
  rcases hh with ⟨stop, qn⟩ | ⟨go, hlen, N1, N2, hN1, hN2, step⟩
  ·refine thn (T.done (cxBlock X N scope fp (upd H s.heap.objs.size (.lst [])) s3) rfl rfl rfl hc i [] s4 τ H4 _ I4 (stat fr4) st4 stop) fun r s5 hqP => ?_
   obtain ⟨hr, I5⟩ := hqP
   subst hr
   obtain ⟨m, hm, _⟩ := I5.loc
   have e5 : H2.objs.size = (cxBlock X N scope fp (upd H s.heap.objs.size (.lst [])) s3).env.locals := by rw [← eEnv]; rfl
   refine hRR _ _ s5 H4 m (block_after I3 hf3 I5) ?_ (by rw [e5]; exact hm) qn
   exact I3.fpOk (by rw [hs3h]; exact jX _) (by rw [e5]; exact I5.free)
  ·refine thn (T.item (cxBlock X N scope fp (upd H s.heap.objs.size (.lst [])) s3) rfl rfl rfl hc i [] s4 τ H4 _ I4 (stat fr4) st4 go) fun r s5 hqP => ?_
   obtain ⟨u, hr, h5⟩ := hqP
   subst hr
   refine thn h5 fun _ s6 hqP => ?_
   obtain ⟨x, H6, I6, r6, y6, st6, fr6⟩ := hqP
   have I6' := I6.pinned (stat fr6) (T.obj _ _ st6)
   refine thn (hg fp _ _ _ s6 τ H6 x u _ I6' r6 (step x H6 y6)) fun _ s7 hqP => ?_
   obtain ⟨σ7, H7, I7, q7⟩ := hqP
   refine thn (ht fp _ _ _ s7 σ7 H7 _ I7 q7) fun ok s8 hqP => ?_
   obtain ⟨H8, I8, q8⟩ := hqP
   have back : ∀ {σ' : St} {H' : Hp} {s' : Shared}, Inv (cxBlock X N scope fp (upd H s.heap.objs.size (.lst [])) s3) ([] ++ pinsAt fp s6.heap) σ' H' s' → Inv (cxBlock X N scope fp (upd H s.heap.objs.size (.lst [])) s3) [] σ' H' s' ∧ tn (i + 1) s'.heap ∧ ∀ b ∈ fp, H' b = none := fun {σ' H' s'} I' => by
    refine ⟨I'.unpinned, T.keep _ _ _ st6 fun b hb o e => (I'.pin (b, o) (zW _ (zW _ (mem_pinsAt hb e)))).1, fun b hb => ?_⟩
    obtain ⟨o, e, d⟩ := T.obj _ _ st6 b hb
    exact (I'.pin (b, o) (zW _ (zW _ (mem_pinsAt hb e)))).2.1
   cases ok with
   | false =>
    rw [if_neg kZ] at q8 ⊢
    obtain ⟨m', hm, w8⟩ := hN2 _ _ q8
    obtain ⟨b1, b2, b3⟩ := back I8
    exact ⟨m', hm, i + 1, σ7, ys, H8, b1, b2, b3, w8⟩
   | true =>
    rw [if_pos rfl] at q8 ⊢
    refine thn (he fp _ _ _ s8 σ7 H8 _ I8 q8) fun y s9 hqP => ?_
    obtain ⟨v, H9, I9, r9, hD9, n9⟩ := hqP
    obtain ⟨m', hm, w9⟩ := hN1 _ _ _ n9
    refine thn (mt_append _ s9 σ7 H9 (.ref s.heap.objs.size) [v] (.ref s.heap.objs.size) [y] (fun _ H' => H' = upd H9 s.heap.objs.size (.lst (ys ++ [v]))) I9 rfl (.cons r9 .nil) ⟨_, ys, v, rfl, rfl, hD9, hlen, rfl⟩) fun _ s10 hqP => ?_
    obtain ⟨_, H10, I10, _, e10⟩ := hqP
    subst e10
    obtain ⟨b1, b2, b3⟩ := back I10
    exact ⟨m', hm, i + 1, σ7, _, _, b1, b2, b3, w9⟩
 have e3 : ({ s with heap := h1, toks := s.toks + ([] : List (Str × Value)).length } : Shared) = { s3 with heap := h1, toks := s.toks + ([] : List (Str × Value)).length } := by rw [← hs3]
 rw [e3]
 exact codeAny_compStart_list loop (T.self _ 0 _ _ _ st1 loop)
theorem pe_lc {elt iter target : Expr} {ifs : List Expr} {scope : Scope} {pos : Pos} (N : List Str) (cp : List (Option Nat)) {wi : TI} {g : TG} {tt : TT} {te : TE} (hc : X.calm = true) (hi : PI X target iter wi)
  (hg : ∀ fp H s, PG (cxBlock X N scope fp H s) target g) (ht : ∀ fp H s, PF (cxBlock X N scope fp H s) ifs tt) (he : ∀ fp H s, PE (cxBlock X N scope fp H s) elt te)
  (hk : autoParam (scope.kind = .function) L2.aRfl._auto_1) (hcell : autoParam ((scope.names.all fun p => p.2 != .cell) = true) L2.aRfl._auto_1) (hfree : autoParam (freeOk X.env.scope scope.names = true) L2.aRfl._auto_1) (hcap : autoParam (capOk X scope N cp = true) L2.aRfl._auto_1)
  (hnames : autoParam ((scope.names.all fun p => p.2 != .local || scope.names.lookup p.1 == some .local) = true) L2.aRfl._auto_1) (hs : autoParam (∀ x, foldedSetIterable iter X.env x = pure x) L2.aIrf._auto_1) :
  PE X (.ListComp elt [⟨target, iter, ifs, 0⟩] scope pos) (fun σ H Q => tLC cp wi g tt te σ H fun D H' => Q (.ref D) H') := by
 intro pins s σ H Q I h
 rw [eval_ListComp]
 have has : ∀ n, (n, NameKind.free) ∈ scope.names → ∃ c, X.env.cells.lookup n = some c := fun n hn => I.ok.has n (freeOk_mem hfree n hn)
 refine wpAny_comprehension_free (use := none) rfl hs (closureFor_cells has) hk (fun x hx hl => ?_) (thn (hi pins s σ H _ I h) fun xv s1 h1 => thn h1 fun itv s2 h2 => ?_)
 ·have := jZc.mp hnames x hx
  simp only [jZe, bne_iff_ne, beq_iff_eq] at this
  exact this.resolve_left fun z => z hl
 ·obtain ⟨it, fp, tn, J, H2, e, I2, T, st2, f2, hW⟩ := h2
  subst e
  refine lc_block (N := N) (cp := cp) hc hk hcell hfree hcap hg ht he I2 T st2 f2 hW fun D C s' H' m I' fC hm q => ⟨m, hm, fun h' hsb => ?_⟩
  exact ⟨.ref D, H', I'.turned (t' := s'.toks) (fun b o hb e => hsb.extBut b o hb e) fC.1 fC.2.1 fC.2.2.2.1 fC.2.2.2.2.1 fC.2.2.2.2.2, rfl, q⟩
theorem ps_setC {i : Nat} {x : Str} {px : Pos} {elt iter target : Expr} {ifs : List Expr} {scope : Scope} {pos spos : Pos} (N : List Str) (cp : List (Option Nat)) {wi : TI} {g : TG} {tt : TT} {te : TE} (hc : X.calm = true) (hN : X.N.Nodup) (hi' : X.N[i]? = some x) (hx : Loc X.env.scope x) (hi : PI X target iter wi)
  (hg : ∀ fp H s, PG (cxBlock X N scope fp H s) target g) (ht : ∀ fp H s, PF (cxBlock X N scope fp H s) ifs tt) (he : ∀ fp H s, PE (cxBlock X N scope fp H s) elt te)
  (hsw : autoParam (swapsWith (.ListComp elt [⟨target, iter, ifs, 0⟩] scope pos) (some (.Name x px)) spos.line X.env = pure true) L2.aRfl._auto_1)
  (hk : autoParam (scope.kind = .function) L2.aRfl._auto_1) (hcell : autoParam ((scope.names.all fun p => p.2 != .cell) = true) L2.aRfl._auto_1) (hfree : autoParam (freeOk X.env.scope scope.names = true) L2.aRfl._auto_1) (hcap : autoParam (capOk X scope N cp = true) L2.aRfl._auto_1)
  (hnames : autoParam ((scope.names.all fun p => p.2 != .local || scope.names.lookup p.1 == some .local) = true) L2.aRfl._auto_1) (hs : autoParam (∀ x, foldedSetIterable iter X.env x = pure x) L2.aIrf._auto_1)
  (hf : autoParam (X.fn x = true ∨ X.env.scope.names.lookup x = some .local) L2.aFst._auto_1) :
  PS X (.Assign [.Name x px] (.ListComp elt [⟨target, iter, ifs, 0⟩] scope pos) spos) (fun D σ H => tLC cp wi g tt te σ H fun a H' => D.nx (σ.set i (some (.ref a))) H') := by
 intro pins s σ H D I h
 have has : ∀ n, (n, NameKind.free) ∈ scope.names → ∃ c, X.env.cells.lookup n = some c := fun n hn => I.ok.has n (freeOk_mem hfree n hn)
 rw [exec_Assign_Name_used _ _ _ _ hsw]
 refine jZ (wpAny_standAt (jZ ?_))
 show wpAny _ _ (do let _ ← comprehension (.ListComp elt [⟨target, iter, ifs, 0⟩] scope pos) scope X.env _ (newList []) false (eval iter X.env) (some (assign (.Name x px) X.env))) _ _ s
 refine jZ (wpAny_mono (wpAny_comprehension_free (use := some (assign (.Name x px) X.env)) (Q := fun _ s' => SP X pins D .next s') rfl hs (closureFor_cells has) hk (fun x hx hl => ?_)
  (thn (hi pins s σ H _ I h) fun xv s1 h1 => thn h1 fun itv s2 h2 => ?_)) (fun _ s' hq => kK (kK hq)) fun _ _ e => e)
 ·have := jZc.mp hnames x hx
  simp only [jZe, bne_iff_ne, beq_iff_eq] at this
  exact this.resolve_left fun z => z hl
 ·obtain ⟨it, fp, tn, J, H2, e, I2, T, st2, f2, hW⟩ := h2
  subst e
  refine lc_block (N := N) (cp := cp) hc hk hcell hfree hcap hg ht he I2 T st2 f2 hW fun D' C s' H' m I' fC hm q => ?_
  show wpAny _ _ (assign (.Name x px) X.env (.ref D')) _ _ _
  refine wpAny_assign_Name (store_ok2 I' hN hi' hx (v := .ref D') rfl (fun s'' I'' hsb => ?_) hf)
  obtain ⟨a, hsb, ha⟩ := hsb
  have hCa : C ≠ a := by
   rcases ha with e | e
   ·rw [e]; exact fC.2.1
   ·exact fun z => fC.2.2.2.2.1 x a e z.symm
  refine ⟨m, hm.sameBut hsb hCa, fun h' hsb' => ?_⟩
  exact ⟨_, H', I''.turned (t' := s''.toks) (fun b o hb e => hsb'.extBut b o hb e) fC.1 fC.2.1 fC.2.2.2.1 fC.2.2.2.2.1 fC.2.2.2.2.2, q⟩
end
section
variable {P : Program} {w : World} {A : Around} {E : Value → Shared → Prop} {s : Shared}
end
section
variable {P : Program} {w : World} {A : Around} {E : Value → Shared → Prop} {s : Shared} {z u o i1 i2 l1 l2 : Addr} {st1 st2 : Nat → Heap → Prop} {src1 src2 : List Value → Heap → Prop} {k1 k2 : Nat} {xs ys : List Value} {a b : Value}
end
section
variable {X : Cx} {pins : List (Addr × Obj)} {σ : St} {H : Hp} {s : Shared}
end
section
variable {X : Cx}
end
section
variable {X : Cx}
def isiV (K : Fg) (H : Hp) : V → String → Bool → Prop
 | .int _, T, b => (T = "int" ∧ b = true) ∨ (T = "bool" ∧ b = false) ∨ (T = "tuple" ∧ b = false)
 | .bl _, T, b => (T = "int" ∧ b = true) ∨ (T = "bool" ∧ b = true) ∨ (T = "tuple" ∧ b = false)
 | .ref a, T, b => (∃ xs, SqT K H a xs) ∧ ((T = "tuple" ∧ b = true) ∨ (T = "int" ∧ b = false) ∨ (T = "bool" ∧ b = false))
 | _, _, _ => False
theorem call_isi : CallR X (.builtin "isinstance") (fun xs H Q => ∃ x T b, xs = [x, .ty T] ∧ isiV X.K H x T b ∧ Q (.bl b) H) := by
 intro pins s σ H xs us Q I rv h
 obtain ⟨x, T, b, rfl, hi, q⟩ := h
 obtain ⟨u, v, rfl, ru, rT⟩ := rv.two
 cases rT
 have fin : ∀ (tk : Nat), EP X pins σ Q (.bool b) { s with toks := tk } := fun tk => ⟨.bl b, H, I.tok tk, rfl, q⟩
 cases x with
 | int n =>
  obtain ⟨t, rfl⟩ := ru
  rcases hi with ⟨rfl, rfl⟩ | ⟨rfl, rfl⟩ | ⟨rfl, rfl⟩
  ·exact IsiPair.int_int (fin s.toks)
  ·exact IsiPair.int_bool (fin _)
  ·exact IsiPair.int_tuple (fin _)
 | bl n =>
  cases ru
  rcases hi with ⟨rfl, rfl⟩ | ⟨rfl, rfl⟩ | ⟨rfl, rfl⟩
  ·exact IsiPair.bool_int (fin s.toks)
  ·exact IsiPair.bool_bool (fin s.toks)
  ·exact IsiPair.bool_tuple (fin _)
 | ref a =>
  cases ru
  obtain ⟨⟨xs, hq⟩, hi⟩ := hi
  obtain ⟨its, r, ⟨o, e, c, _⟩, _⟩ := I.tuple hq
  rcases hi with ⟨rfl, rfl⟩ | ⟨rfl, rfl⟩ | ⟨rfl, rfl⟩
  ·exact IsiPair.tuple_tuple e c (fin s.toks)
  ·exact IsiPair.tuple_int e c (fin _)
  ·exact IsiPair.tuple_bool e c (fin _)
 | non => exact hi.elim
 | str _ => exact hi.elim
 | byt _ => exact hi.elim
 | flt _ => exact hi.elim
 | ty _ => exact hi.elim
theorem call_sumI (hc : X.calm = true) : CallR X (.builtin "sum") (fun xs H Q => ∃ (a : Addr) (ns : List Int), xs = [.ref a] ∧ SqL X.K H a (ns.map V.int) ∧ Q (.int ns.sum) H) := by
 intro pins s σ H xs us Q I rv h
 obtain ⟨a, ns, rfl, hq, q⟩ := h
 obtain ⟨u, rfl, ru⟩ := rv.one
 cases ru
 obtain ⟨its, r, p, hz⟩ := I.list hq
 have hi : IntsAre its.toArray.toList ns := intsAre_of r
 have hall : AllInts its.toArray := hi.allInts
 obtain ⟨xs, hx⟩ := hall.items
 have hl' : s.heap.IsList a (intItems xs) := hx ▸ p.isList
 refine sum_intListG (I.ok.hd hc) hl' fun h' tk t' hk => ?_
 have e1 : ns = xs.toList.map (·.1) := by
  rw [← nums_intItems, ← hx]
  exact (show numsOf its.toArray.toList = ns from hi.numsOf).symm
 have e2 : preSum (numAt xs) xs.size = ns.sum := by
  rw [preSum_eq, jXc (by simp), e1]
 rw [e2]
 exact ⟨.int ns.sum, H, I.kept hk, ⟨_, rfl⟩, q⟩
end
inductive D where
 | non | bl (b : Bool) | int (i : Int) | tup (xs : List D) | lst (xs : List D)
inductive HasD (K : Fg) (H : Hp) : V → D → Prop
 | non : HasD K H .non .non
 | bl (b) : HasD K H (.bl b) (.bl b)
 | int (i) : HasD K H (.int i) (.int i)
 | tup {a vs xs} : SqT K H a vs → vs.length = xs.length → (∀ (i : Nat) v x, vs[i]? = some v → xs[i]? = some x → HasD K H v x) → HasD K H (.ref a) (.tup xs)
 | lst {a vs xs} : SqL K H a vs → vs.length = xs.length → (∀ (i : Nat) v x, vs[i]? = some v → xs[i]? = some x → HasD K H v x) → HasD K H (.ref a) (.lst xs)
inductive Alike : Nat → D → D → Prop
 | non {n} : Alike n .non .non
 | bl {n} (a b) : Alike n (.bl a) (.bl b)
 | int {n} (a b) : Alike n (.int a) (.int b)
 | tup {n xs ys} : (∀ (i : Nat) x y, xs[i]? = some x → ys[i]? = some y → Alike n x y) → Alike (n + 1) (.tup xs) (.tup ys)
 | lst {n xs ys} : (∀ (i : Nat) x y, xs[i]? = some x → ys[i]? = some y → Alike n x y) → Alike (n + 1) (.lst xs) (.lst ys)
section
variable {X : Cx} {pins : List (Addr × Obj)} {σ : St} {H : Hp} {s : Shared}
theorem ext_all {α : Type} {xs ys : List α} (hl : xs.length = ys.length) (h : ∀ (i : Nat) x y, xs[i]? = some x → ys[i]? = some y → x = y) : xs = ys := by
 refine jKb fun i => ?_
 by_cases hi : i < xs.length
 ·rw [gE hi, gE (by omega : i < ys.length)]
  exact congrArg some (h i _ _ (gE hi) (gE (by omega)))
 ·rw [jYc (by omega), jYc (by omega)]
theorem Inv.noTL {a : Addr} {xs ys : List V} (I : Inv X pins σ H s) (h : SqT X.K H a xs) (h' : SqL X.K H a ys) : False := by
 obtain ⟨_, _, ⟨o, e, c, _⟩, _⟩ := I.tuple h
 obtain ⟨_, _, p, _⟩ := I.list h'
 obtain ⟨o', e', c', _⟩ := p.isList
 rw [e] at e'; cases e'
 rw [c] at c'
 injection c' with z
 exact absurd z (by decide)
theorem hasD_inj (I : Inv X pins σ H s) {x : V} {d : D} (h : HasD X.K H x d) : ∀ e, HasD X.K H x e → d = e := by
 induction h with
 | non => intro e h; cases h; rfl
 | bl b => intro e h; cases h; rfl
 | int i => intro e h; cases h; rfl
 | tup hq hl hs ih =>
  intro e h
  cases h with
  | tup hq' hl' hs' =>
   obtain rfl := I.tuple_inj hq hq'
   refine congrArg D.tup (ext_all (hl.symm.trans hl') fun i x y ex ey => ?_)
   have hi : i < _ := (kQ.mp ex).1
   rw [← hl] at hi
   exact ih i _ x (gE hi) ex y (hs' i _ y (gE hi) ey)
  | lst hq' hl' hs' => exact (I.noTL hq hq').elim
 | lst hq hl hs ih =>
  intro e h
  cases h with
  | lst hq' hl' hs' =>
   obtain rfl := I.list_inj hq hq'
   refine congrArg D.lst (ext_all (hl.symm.trans hl') fun i x y ex ey => ?_)
   have hi : i < _ := (kQ.mp ex).1
   rw [← hl] at hi
   exact ih i _ x (gE hi) ex y (hs' i _ y (gE hi) ey)
  | tup hq' hl' hs' => exact (I.noTL hq' hq).elim
theorem allRange {n : Nat} {e : Nat → Bool} : (List.range n).all e = true ↔ ∀ i, i < n → e i = true := by simp [jZc]
open PySem.SeqAt Classical in
theorem eqAt_D {n : Nat} {d e : D} (h : Alike n d e) : ∀ {A : Around} {x y : V} {u v : Value}, A.units + n < cLine → Inv X pins σ H s → RelV x u → RelV y v → HasD X.K H x d → HasD X.K H y e →
  ∃ b : Bool, (b = true ↔ d = e) ∧ EqAt A s u v b ∧ (∀ a c, u = .ref a → v = .ref c → RcAt A s u v b ∧ RcNeAt A s u v (!b)) := by
 induction h with
 | non =>
  intro A x y u v hu I ru rv hd he
  cases hd
  cases he
  cases ru
  cases rv
  exact ⟨true, by simp, EqAt.same _, fun a c e _ => nomatch e⟩
 | bl a b =>
  intro A x y u v hu I ru rv hd he
  cases hd
  cases he
  cases ru
  cases rv
  exact ⟨a == b, by simp, EqAt.bool_bool a b, fun a c e _ => nomatch e⟩
 | int a b =>
  intro A x y u v hu I ru rv hd he
  cases hd
  cases he
  obtain ⟨t, rfl⟩ := ru
  obtain ⟨t', rfl⟩ := rv
  exact ⟨a == b, by simp, EqAt.int_int a t b t', fun a c e _ => nomatch e⟩
 | @tup m xs ys hs ih =>
  intro A x y u v hu I ru rv hd he
  have hd' := hd
  have he' := he
  cases hd with
  | @tup p vs _ hq hl hv =>
  cases he with
  | @tup q ws _ hq' hl' hv' =>
  cases ru
  cases rv
  obtain ⟨its, r, pt, _⟩ := I.tuple hq
  obtain ⟨its', r', pt', _⟩ := I.tuple hq'
  have l1 := r.length
  have l2 := r'.length
  have key : ∀ j (h1 : j < its.toArray.size) (h2 : j < its'.toArray.size), EqAt A.in1 s its.toArray[j] its'.toArray[j] (decide (xs[j]? = ys[j]?)) := fun j h1 h2 => by
   rw [jY] at h1 h2
   have j1 : j < vs.length := by omega
   have j2 : j < ws.length := by omega
   have j3 : j < xs.length := by omega
   have j4 : j < ys.length := by omega
   obtain ⟨u1, e1, ru1⟩ := r.get (gE j1)
   obtain ⟨u2, e2, ru2⟩ := r'.get (gE j2)
   obtain ⟨b, hb, eq, _⟩ := ih j _ _ (gE j3) (gE j4) (A := A.in1) (by show A.units + 1 + m < cLine; omega) I ru1 ru2 (hv j _ _ (gE j1) (gE j3)) (hv' j _ _ (gE j2) (gE j4))
   have z1 : its.toArray[j] = u1 := by rw [gE (by omega)] at e1; simpa using e1
   have z2 : its'.toArray[j] = u2 := by rw [gE (by omega)] at e2; simpa using e2
   rw [z1, z2]
   have : (decide (xs[j]? = ys[j]?)) = b := by
    rw [jQf, decide_eq_true_iff, hb, gE j3, gE j4]
    exact ⟨fun z => Option.some.inj z, fun z => congrArg some z⟩
   rw [this]
   exact eq
  have hb : ((List.range (min its.toArray.size its'.toArray.size)).all (fun j => decide (xs[j]? = ys[j]?)) && its.toArray.size == its'.toArray.size) = true ↔ D.tup xs = D.tup ys := by
   rw [yW, allRange, jY, jY, beq_iff_eq]
   constructor
   ·rintro ⟨z1, z2⟩
    refine congrArg D.tup (ext_all (by omega) fun i x y ex ey => ?_)
    have hi := (kQ.mp ex).1
    have := zQ (z1 i (by omega))
    rw [ex, ey] at this
    exact Option.some.inj this
   ·intro z
    injection z with z
    subst z
    exact ⟨fun i _ => yZ rfl, by omega⟩
  refine ⟨_, hb, ?_, fun a c _ _ => ⟨RcAt.tuples pt pt' (by omega) key, RcNeAt.tuples pt pt' (by omega) key⟩⟩
  by_cases hpq : p = q
  ·subst hpq
   rw [hb.mpr (hasD_inj I hd' _ he')]
   exact EqAt.same _
  ·exact EqAt.of_refs hpq (RcAt.tuples pt pt' (by omega) key)
 | @lst m xs ys hs ih =>
  intro A x y u v hu I ru rv hd he
  have hd' := hd
  have he' := he
  cases hd with
  | @lst p vs _ hq hl hv =>
  cases he with
  | @lst q ws _ hq' hl' hv' =>
  cases ru
  cases rv
  obtain ⟨its, r, pt, _⟩ := I.list hq
  obtain ⟨its', r', pt', _⟩ := I.list hq'
  have l1 := r.length
  have l2 := r'.length
  have key : ∀ j (h1 : j < its.toArray.size) (h2 : j < its'.toArray.size), EqAt A.in1 s its.toArray[j] its'.toArray[j] (decide (xs[j]? = ys[j]?)) := fun j h1 h2 => by
   rw [jY] at h1 h2
   have j1 : j < vs.length := by omega
   have j2 : j < ws.length := by omega
   have j3 : j < xs.length := by omega
   have j4 : j < ys.length := by omega
   obtain ⟨u1, e1, ru1⟩ := r.get (gE j1)
   obtain ⟨u2, e2, ru2⟩ := r'.get (gE j2)
   obtain ⟨b, hb, eq, _⟩ := ih j _ _ (gE j3) (gE j4) (A := A.in1) (by show A.units + 1 + m < cLine; omega) I ru1 ru2 (hv j _ _ (gE j1) (gE j3)) (hv' j _ _ (gE j2) (gE j4))
   have z1 : its.toArray[j] = u1 := by rw [gE (by omega)] at e1; simpa using e1
   have z2 : its'.toArray[j] = u2 := by rw [gE (by omega)] at e2; simpa using e2
   rw [z1, z2]
   have : (decide (xs[j]? = ys[j]?)) = b := by
    rw [jQf, decide_eq_true_iff, hb, gE j3, gE j4]
    exact ⟨fun z => Option.some.inj z, fun z => congrArg some z⟩
   rw [this]
   exact eq
  by_cases hsz : its.toArray.size = its'.toArray.size
  ·have hb : ((List.range its.toArray.size).all (fun j => decide (xs[j]? = ys[j]?))) = true ↔ D.lst xs = D.lst ys := by
    rw [jY, jY] at hsz
    rw [allRange, jY]
    constructor
    ·intro z1
     refine congrArg D.lst (ext_all (by omega) fun i x y ex ey => ?_)
     have hi := (kQ.mp ex).1
     have := zQ (z1 i (by omega))
     rw [ex, ey] at this
     exact Option.some.inj this
    ·intro z
     injection z with z
     subst z
     exact fun i _ => yZ rfl
   refine ⟨_, hb, ?_, fun a c _ _ => ⟨RcAt.lists pt.isList pt'.isList hsz (by omega) key, RcNeAt.lists pt.isList pt'.isList hsz (by omega) key⟩⟩
   by_cases hpq : p = q
   ·subst hpq
    rw [hb.mpr (hasD_inj I hd' _ he')]
    exact EqAt.same _
   ·exact EqAt.of_refs hpq (RcAt.lists pt.isList pt'.isList hsz (by omega) key)
  ·have hne : (its.toArray.size != its'.toArray.size) = true := by simpa using hsz
   have hb : false = true ↔ D.lst xs = D.lst ys := by
    rw [jY, jY] at hsz
    constructor
    ·intro z; cases z
    ·intro z
     injection z with z
     subst z
     omega
   refine ⟨false, hb, ?_, fun a c _ _ => ⟨RcAt.lists_lengths pt.isList pt'.isList hne (by omega), RcNeAt.lists_lengths pt.isList pt'.isList hne (by omega)⟩⟩
   by_cases hpq : p = q
   ·subst hpq
    obtain rfl := I.list_inj hq hq'
    rw [jY, jY] at hsz
    omega
   ·exact EqAt.of_refs hpq (RcAt.lists_lengths pt.isList pt'.isList hne (by omega))
theorem op_neD {n : Nat} (hu : X.A.units + n < cLine) : OpR X (compareOp .NotEq) (fun x y H Q => ∃ a b d e, x = .ref a ∧ y = .ref b ∧ HasD X.K H x d ∧ HasD X.K H y e ∧ Alike n d e ∧ ∀ c : Bool, (c = true ↔ d = e) → Q (.bl (!c)) H) := by
 intro pins s σ H x y v u Q I rx ry h
 obtain ⟨a, b, d, e, rfl, rfl, h1, h2, al, q⟩ := h
 cases rx
 cases ry
 obtain ⟨c, hc, _, hr⟩ := eqAt_D al (A := X.A) (x := .ref a) (y := .ref b) (u := .ref a) (v := .ref b) hu I rfl rfl h1 h2
 exact (hr a b rfl rfl).2 _ _ _ _ ⟨.bl (!c), H, I, rfl, q c hc⟩
end
def Fn (K : Fg) (mg : Str → Option Value) (x : Str) (st : Stmt) : Prop := ∃ f fd, Fun K x x st f fd ∧ mg x = some (.ref f)
theorem fn_mk {K : Fg} {h : Heap} {mg : Str → Option Value} {x : Str} {st : Stmt} {f : Addr} {oc : Value} {od an : Option Addr} {osl : Array (Option Value)} {kV doc pm cdv ct : Value} (X : K.In h) (G : h.Ns mainGlobals mg)
  (a : PySem.W.nsIn K mainGlobals x = some (some (.ref f))) (l : K.lookup f = some ⟨oc, od, .func (PySem.W.fnOf x x (defArgs st) (defBody st) (defScope st) .none kV doc pm an cdv ct), osl⟩) (c : PySem.W.codeIn K cdv x = true) (k : PySem.W.keepIn K (.ref f) = true) : Fn K mg x st :=
 ⟨f, _, fun_mk l c k, PySem.W.mg_of X G a⟩
structure Cal (P : Program) (w : World) (K : Fg) (mg : Str → Option Value) (base : Heap) (k : Nat) (x : Str) (ps : List Str) (sp : Sp) : Prop where
 ex : ∃ f fd, FnOk P w K mg base CX0 k f fd ps sp ∧ mg x = some (.ref f) ∧ PySem.W.keepIn K (.ref f) = true ∧ Binds K fd ps []
theorem cal_of {P : Program} {w : World} {K : Fg} {mg : Str → Option Value} {base : Heap} {k : Nat} {x : Str} {st : Stmt} {N ps : List Str} {sp : Sp} (F : Fn K mg x st) (S : FnScope N ps (defScope st))
  (hb : ∀ (kV doc pm : Value) (an : Option Addr) (cdv ct : Value) (us : List Value), us.length = ps.length → bindArgs (PySem.W.fnOf x x (defArgs st) (defBody st) (defScope st) .none kV doc pm an cdv ct) ⟨us, []⟩ = pure (ps.zip us)) (len : ∀ vs H Q E, sp vs H Q E → vs.length = ps.length)
  (hbody : ∀ (f : Addr) (cdv : Value) (A : Around) (outer : List Env) (s : Shared) (H : Hp) (vs : List V) (Q : VK) (E : XK), Room k (A.deeper (envOfC x (defScope st) s.heap.objs.size f cdv)) → sp vs H Q E →
   ∃ t, PSs (cxOf CX0 P w K mg base N x (defScope st) f cdv A outer s H E).nox (defBody st) t ∧ t { nx := fun _ H' => Q .non H', rt := Q } (start N vs) H) : Cal P w K mg base (k + 1) x ps sp := by
 obtain ⟨f, fd, F, m⟩ := F
 exact ⟨f, fd, F.ok S len (hbody f), m, F.kp, F.binds hb⟩
section
variable {X : Cx}
theorem pe_fn {k : Nat} {x : Str} {ps : List Str} {sp : Sp} {e : Expr} {es : List Expr} {t : TA} {p pos : Pos} (C : Cal X.prog X.w X.K X.mg X.base k x ps sp) (hr : Room k X.A) (ha : PA X (e :: es) t) (hg : autoParam (Gl X x) L2.aRfl._auto_1)
  (hdb : autoParam ((x == ("__debug__" : Str)) = false) L2.aDec._auto_1) (he : autoParam (starEach (e :: es) X.env = (false, eval e X.env) :: starEach es X.env) L2.aRfl._auto_1) (hpl : autoParam ((backTo pos (starEach es X.env)).any (·.1) = false) L2.aRfl._auto_1) :
  PE X (.Call (.Name x p) (e :: es) [] pos) (tCall sp [] E0 t) := by
 obtain ⟨f, fd, F, m, kp, b⟩ := C.ex
 exact pe_call F hr hg m kp b .nil pass0 ha hdb he hpl
theorem pe_ty {x : Str} {T : String} {pos : Pos} (hm : X.mg x = none) (hv : bootBuiltins x = some (.type T)) (hg : autoParam (Gl X x) L2.aRfl._auto_1) (hn : autoParam (x ≠ "__name__") L2.aDec._auto_1) (hd : autoParam ((x == ("__debug__" : Str)) = false) L2.aDec._auto_1) : PE X (.Name x pos) (tC (.ty T)) :=
 pe_bltn hg hm hv (v := .ty T) rfl hn hd
end
def gPair (K : Fg) (i j : Nat) : TG := gTup K 2 (gCons (gName i) (gCons (gName j) gNil))
theorem pg_pair {X : Cx} {K : Fg} {i j : Nat} {x y : Str} {px py pos : Pos} {k : Nat} (hK : X.K = K) (hc : X.calm = true) (hN : X.N.Nodup) (hi : X.N[i]? = some x) (hj : X.N[j]? = some y) (hx : X.env.scope.names.lookup x = some .local) (hy : X.env.scope.names.lookup y = some .local) :
  PG X (.Tuple [.Name x px, .Name y py] k pos) (gPair K i j) := by
 subst hK
 exact pg_tup hc (pgs_cons (pg_name hN hi (.inl hx) (.inr hx)) (pgs_cons (pg_name hN hj (.inl hy) (.inr hy)) pgs_nil))
theorem bt_len : bootBuiltins "len" = some (.builtin "len") := by decide +kernel
theorem bt_sum : bootBuiltins "sum" = some (.builtin "sum") := by decide +kernel
theorem bt_isinstance : bootBuiltins "isinstance" = some (.builtin "isinstance") := by decide +kernel
theorem bt_min : bootBuiltins "min" = some (.builtin "min") := by decide +kernel
theorem bt_max : bootBuiltins "max" = some (.builtin "max") := by decide +kernel
theorem bt_sorted : bootBuiltins "sorted" = some (.builtin "sorted") := by decide +kernel
theorem bt_int : bootBuiltins "int" = some (.type "int") := by decide +kernel
theorem bt_bool : bootBuiltins "bool" = some (.type "bool") := by decide +kernel
theorem bt_tuple : bootBuiltins "tuple" = some (.type "tuple") := by decide +kernel
theorem bt_list : bootBuiltins "list" = some (.type "list") := by decide +kernel
theorem same_new' {H : Hp} {p : Addr} (h : H p = none) (o : HO) : Same H (upd H p o) := fun b u q => by rw [upd_ne (ne_of_none q h)]; exact q
theorem Same.tup {K : Fg} {H H' : Hp} {a : Addr} {xs : List V} (e : Same H H') (h : SqT K H a xs) : SqT K H' a xs := by
 rcases h with (h | ⟨o, h⟩) | h
 ·exact .inl (.inl (e _ _ h))
 ·exact .inl (.inr ⟨o, e _ _ h⟩)
 ·exact .inr h
theorem sqT_new {K : Fg} {H : Hp} {a : Addr} {xs : List V} (h : H a = some (.tup xs)) : SqT K H a xs := .inl (.inl h)
theorem sqL_new {K : Fg} {H : Hp} {a : Addr} {xs : List V} (h : H a = some (.lst xs)) : SqL K H a xs := .inl (.inl h)
theorem lc_any {J : It} {n : Nat} {τ0 : St} {g : TG} {tt : TT} {te : TE} {H : Hp} {Q : Addr → Hp → Prop} {D : Addr} (Pv : Nat → St → List V → Hp → Prop)
  (h0 : Pv 0 τ0 [] (upd H D (.lst []))) (hD : ∀ i τ ys H, i ≤ n → Pv i τ ys H → H D = some (.lst ys) ∧ ys.length < sizeLine) (go : ∀ i τ ys H, i < n → Pv i τ ys H → J.go i H) (stop : ∀ τ ys H, Pv n τ ys H → J.stop n H)
  (hs : ∀ i τ ys H x H', i < n → Pv i τ ys H → J.yld i H x H' → g x τ H' fun σ2 H2 => tt σ2 H2 fun ok H3 => if ok = true then te σ2 H3 fun v H4 => H4 D = some (.lst ys) ∧ Pv (i + 1) σ2 (ys ++ [v]) (upd H4 D (.lst (ys ++ [v]))) else Pv (i + 1) σ2 ys H3)
  (hd : ∀ τ ys H, Pv n τ ys H → Q D H) :
  LcW J D τ0 H g tt te Q := by
 refine ⟨fun i m τ ys H => m = n - i ∧ i ≤ n ∧ Pv i τ ys H, ⟨n, by simp, wV _, h0⟩, ?_⟩
 rintro i m τ ys H ⟨rfl, hi, p⟩
 obtain ⟨z1, z2⟩ := hD i τ ys H hi p
 refine ⟨z1, ?_⟩
 by_cases hlt : i < n
 ·refine .inr ⟨go i τ ys H hlt p, z2, fun τ v H => Pv (i + 1) τ (ys ++ [v]) (upd H D (.lst (ys ++ [v]))), fun τ H => Pv (i + 1) τ ys H, fun τ v H q => ⟨n - (i + 1), by omega, rfl, hlt, q⟩, fun τ H q => ⟨n - (i + 1), by omega, rfl, hlt, q⟩, fun x H' y => hs i τ ys H x H' hlt p y⟩
 ·have e : i = n := by omega
  subst e
  exact .inl ⟨stop τ ys H p, hd τ ys H p⟩
theorem Vals.of_get : ∀ {xs : List V} {us : List Value}, xs.length = us.length → (∀ (i : Nat) x u, xs[i]? = some x → us[i]? = some u → RelV x u) → Vals xs us
 | [], [], _, _ => .nil
 | x :: xs, u :: us, hl, h => .cons (h 0 x u rfl rfl) (Vals.of_get (by simpa using hl) fun i y v e1 e2 => h (i + 1) y v (by simpa using e1) (by simpa using e2))
 | [], _ :: _, hl, _ => by simp at hl
 | _ :: _, [], hl, _ => by simp at hl
section
variable {X : Cx}
def insV (xs : List V) (k : Nat) (y : V) : List V := xs.take k ++ y :: xs.drop k
theorem Vals.ins {xs : List V} {us : List Value} {y : V} {u : Value} (r : Vals xs us) (ry : RelV y u) (k : Nat) : Vals (insV xs k y) (us.take k ++ u :: us.drop k) :=
 (Vals.take k r).append (.cons ry (Vals.drop k r))
theorem mt_insert : MtM X "list.insert" (fun x vs H Q => ∃ l xs k y, x = .ref l ∧ vs = [.int k, y] ∧ H l = some (.lst xs) ∧ 0 ≤ k ∧ k ≤ (xs.length : Int) ∧ xs.length < sizeLine ∧ Q .non (upd H l (.lst (insV xs k.toNat y)))) := by
 intro pins s σ H x vs v us Q I rx rv h
 obtain ⟨l, xs, k, y, rfl, rfl, hH, h0, h1, hz, q⟩ := h
 cases rx
 obtain ⟨u1, u2, rfl, ⟨t, rfl⟩, ru⟩ := rv.two
 obtain ⟨z, its, n, r, hl, e⟩ := I.lstM hH
 have fit : ¬ (!Builtin.List.listFitsIndex k) = true := by
  have : Builtin.List.listFitsIndex k = true := by
   unfold Builtin.List.listFitsIndex
   have : (sizeLine : Nat) = 16777216 := by decide
   simp only [yW, decide_eq_true_eq]
   constructor <;> omega
  rw [this]; simp
 refine call_meets F.slot_list_insert ⟨_, e, rfl⟩ F.entry_list_insert (F.args_list_insert_3 _ _ _) (PySem.AutoListH.list_insert_list_int_val_1 l its.toArray n k t u2 fit (by rw [jY]; omega)) ⟨e, ?_⟩
 refine ⟨.non, _, I.lset (its' := its.take k.toNat ++ u2 :: its.drop k.toNat) hH e ?_ (Vals.ins r ru k.toNat) ?_, rfl, q⟩
 ·have e1 : (if k < 0 then (k + ((its.toArray.size : Nat) : Int)).toNat else min k.toNat its.toArray.size) = k.toNat := by
   rw [if_neg (by omega), jY]; omega
  simp only [e1]
  apply Array.toList_inj.mp
  simp
  rw [jXc (by simp)]
 ·unfold insV
  rw [jW, yJ, xQ, jQc]
  omega
theorem pe_range {e : Expr} {ta : TA} {p pos : Pos} (hm : X.mg "range" = none) (ha : PA X [e] ta) (hg : autoParam (Gl X "range") L2.aRfl._auto_1) (hs : autoParam (starEach [e] X.env = [(false, eval e X.env)]) L2.aRfl._auto_1) :
  PE X (.Call (.Name "range" p) [e] [] pos) (fun σ H Q => ta σ H fun vs H1 => ∃ n : Int, vs = [.int n] ∧ ∀ r, H1 r = none → Q (.ref r) (upd H1 r (.rng 0 n))) := by
 intro pins s σ H Q I h
 refine Call_ (ld_blt I hg hm boot_range (PyProof.Rows.callWith_type1 (thn (ha pos pins s σ H _ I h) fun us s1 hqP => ?_) hs rfl))
 obtain ⟨vs, H1, I1, r1, q1⟩ := hqP
 obtain ⟨n, e, q⟩ := q1
 subst e
 obtain ⟨u, rfl, t, rfl⟩ := r1.one
 refine call_range_1 ⟨.ref s1.heap.objs.size, upd H1 s1.heap.objs.size (.rng 0 n), I1.laid (fun b u e => jK _ e) (jX _) ⟨_, _, _, zX _ rfl⟩, rfl, q _ (I1.hok.fresh (jX _))⟩
theorem call_list_rng (hc : X.calm = true) : CallR X (.type "list") (fun xs H Q => ∃ (r : Addr) (n : Int), xs = [.ref r] ∧ H r = some (.rng 0 n) ∧ 0 ≤ n ∧ n ≤ 1000000 ∧ ∀ l, H l = none → Q (.ref l) (upd H l (.lst ((List.range n.toNat).map fun i => V.int (i : Nat))))) := by
 intro pins s σ H xs us Q I rv h
 obtain ⟨r, n, rfl, hr, h0, h1, q⟩ := h
 obtain ⟨u, rfl, ru⟩ := rv.one
 cases ru
 obtain ⟨t, u, v, e⟩ := I.hok r _ hr
 have hz : (sizeLine : Nat) = 16777216 := by decide
 refine call_list_range (n := n.toNat) (I.ok.hd hc) e (small_one (by omega) (by omega) (by omega) (by omega)) (by rw [rangeSize_one]; split <;> omega) (by omega) fun h' tk acc' c' hk hS hI => ?_
 refine ⟨.ref s.heap.objs.size, upd H s.heap.objs.size (.lst ((List.range n.toNat).map fun i => V.int (i : Nat))), I.laid hk (jX _) ?_, rfl, q _ (I.hok.fresh (jX _))⟩
 refine ⟨by rw [jQ, jQa]; omega, acc'.toList, c', Vals.of_get (by rw [jQ, jQa, xV, hI.1]) fun i x u e1 e2 => ?_, by simpa using hS⟩
 obtain ⟨t', rfl⟩ := hI.2 i u (by simpa using e2)
 rw [kY] at e1
 obtain ⟨j, ej, rfl⟩ := wZ.mp e1
 have hj := kQ.mp ej
 obtain ⟨hj1, hj2⟩ := hj
 rw [List.getElem_range] at hj2
 subst hj2
 exact ⟨t', by simp⟩
theorem ix_listK {K : Fg} (hK : X.K = K) : IxR X (rIxL K) := by subst hK; exact ix_list
theorem ix_tupK {K : Fg} (hK : X.K = K) : IxR X (rIxT K) := by subst hK; exact ix_tup
theorem call_len_seqK {K : Fg} (hK : X.K = K) : CallR X (.builtin "len") (fun xs H Q => ∃ p ys, xs = [.ref p] ∧ (SqL K H p ys ∨ SqT K H p ys) ∧ Q (.int ys.length) H) := by subst hK; exact call_len_seq
theorem op_notIn_seqK {K : Fg} (hK : X.K = K) : OpR X (compareOp .NotIn) (rIn K true) := by subst hK; exact op_notIn_seq
end
end L2
namespace Nb
open PySem L2
structure Mg (mg : Str → Option Value) : Prop where
 len : mg "len" = none
 min : mg "min" = none
 max : mg "max" = none
 sum : mg "sum" = none
 all : mg "all" = none
 any : mg "any" = none
 abs : mg "abs" = none
 isinstance : mg "isinstance" = none
 sorted : mg "sorted" = none
 range_ : mg "range" = none
 zip_ : mg "zip" = none
 tuple_ : mg "tuple" = none
 list_ : mg "list" = none
 int_ : mg "int" = none
 bool_ : mg "bool" = none
 dict_ : mg "dict" = none
 enumerate_ : mg "enumerate" = none
 reversed_ : mg "reversed" = none
 ValueError_ : mg "ValueError" = none
 set_ : mg "set" = none
 str_ : mg "str" = none
theorem SqT_upd {K : Fg} {H : Hp} {D a : Addr} {ys zs xs : List V} (hD : H D = some (.lst ys)) (h : SqT K H a xs) : SqT K (upd H D (.lst zs)) a xs := by
 rcases h with (h | ⟨o, h⟩) | h
 ·exact .inl (.inl (by rw [upd_ne (ne_of h hD (by intro z; cases z))]; exact h))
 ·exact .inl (.inr ⟨o, by rw [upd_ne (ne_of h hD (by intro z; cases z))]; exact h⟩)
 ·exact .inr h
def RowAt (K : Fg) (H : Hp) (t : Addr) (r : List Int × Int) : Prop := ∃ p, SqT K H t [.ref p, .int r.2] ∧ SqT K H p (r.1.map V.int)
theorem RowAt.same {K : Fg} {H H' : Hp} {t : Addr} {r : List Int × Int} (e : Same H H') (h : RowAt K H t r) : RowAt K H' t r := by obtain ⟨p, h1, h2⟩ := h; exact ⟨p, e.tup h1, e.tup h2⟩
theorem RowAt.upd {K : Fg} {H : Hp} {D t : Addr} {ys zs : List V} {r : List Int × Int} (hD : H D = some (.lst ys)) (h : RowAt K H t r) : RowAt K (upd H D (.lst zs)) t r := by obtain ⟨p, h1, h2⟩ := h; exact ⟨p, SqT_upd hD h1, SqT_upd hD h2⟩
def RowsAre (K : Fg) (H : Hp) : List V → List (List Int × Int) → Prop := Paired fun v r => ∃ t, v = .ref t ∧ RowAt K H t r
theorem RowsAre.imp {K : Fg} {H H' : Hp} {vs : List V} {rs : List (List Int × Int)} (f : ∀ t r, RowAt K H t r → RowAt K H' t r) (h : RowsAre K H vs rs) : RowsAre K H' vs rs := by
 induction h with
 | nil => exact .nil
 | cons r t ih => obtain ⟨a, e, z⟩ := r; exact .cons ⟨a, e, f _ _ z⟩ ih
theorem RowsAre.snoc {K : Fg} {H : Hp} {vs : List V} {rs : List (List Int × Int)} {t : Addr} {r : List Int × Int} (h : RowsAre K H vs rs) (z : RowAt K H t r) : RowsAre K H (vs ++ [.ref t]) (rs ++ [r]) := by
 induction h with
 | nil => exact .cons ⟨t, rfl, z⟩ .nil
 | cons q t ih => exact .cons q ih
theorem RowsAre.get {K : Fg} {H : Hp} {vs : List V} {rs : List (List Int × Int)} (h : RowsAre K H vs rs) : ∀ {i : Nat} {v : V}, vs[i]? = some v → ∃ t r, v = .ref t ∧ rs[i]? = some r ∧ RowAt K H t r := by
 induction h with
 | nil => intro i v e; simp at e
 | cons q t ih =>
  intro i v e
  cases i with
  | zero => obtain ⟨a, e1, z⟩ := q; simp at e; subst e; exact ⟨a, _, e1, rfl, z⟩
  | succ i => obtain ⟨a, r, e1, e2, z⟩ := ih (i := i) (v := v) (by simpa using e); exact ⟨a, r, e1, by simpa using e2, z⟩
theorem RowsAre.length {K : Fg} {H : Hp} {vs : List V} {rs : List (List Int × Int)} (h : RowsAre K H vs rs) : vs.length = rs.length := Paired.length h
def ProbAt (K : Fg) (H : Hp) (t : Addr) (rs : List (List Int × Int)) (cs : List Int) : Prop := ∃ l c vs, SqT K H t [.ref l, .ref c] ∧ SqL K H l vs ∧ RowsAre K H vs rs ∧ SqT K H c (cs.map V.int)
theorem ProbAt.same {K : Fg} {H H' : Hp} {t : Addr} {rs : List (List Int × Int)} {cs : List Int} (e : Same H H') (h : ProbAt K H t rs cs) : ProbAt K H' t rs cs := by
 obtain ⟨l, c, vs, h1, h2, h3, h4⟩ := h; exact ⟨l, c, vs, e.tup h1, e.seq h2, h3.imp fun _ _ z => z.same e, e.tup h4⟩
theorem at0 {x y : V} : atI [x, y] 0 = some x := by rfl
theorem at1 {x y : V} : atI [x, y] 1 = some y := by rfl
theorem takeS {α : Type} {l : List α} {i : Nat} {x : α} (h : l[i]? = some x) : l.take (i + 1) = l.take i ++ [x] := by rw [List.take_succ, h]; rfl
theorem getMapI {ns : List Int} {i : Nat} {v : V} (h : (ns.map V.int)[i]? = some v) : ∃ n, ns[i]? = some n ∧ v = .int n := by
 rw [kY] at h
 cases e : ns[i]? with
 | none => rw [e] at h; cases h
 | some n => rw [e] at h; exact ⟨n, rfl, (Option.some.inj h).symm⟩
def rowD (r : List Int × Int) : D := .tup [.tup (r.1.map .int), .int r.2]
theorem intsD {K : Fg} {H : Hp} {a : Addr} {ns : List Int} (h : SqT K H a (ns.map V.int)) : HasD K H (.ref a) (.tup (ns.map .int)) := by
 refine .tup h (by rw [jQ, jQ]) fun i v x e1 e2 => ?_
 obtain ⟨n, en, rfl⟩ := getMapI e1
 rw [kY, en] at e2
 cases e2
 exact .int n
theorem pairD {K : Fg} {H : Hp} {a : Addr} {v w : V} {d e : D} (h : SqT K H a [v, w]) (h1 : HasD K H v d) (h2 : HasD K H w e) : HasD K H (.ref a) (.tup [d, e]) := by
 refine .tup h rfl fun i v x e1 e2 => ?_
 match i with
 | 0 => simp at e1 e2; subst e1 e2; exact h1
 | 1 => simp at e1 e2; subst e1 e2; exact h2
 | i + 2 => simp at e1
theorem RowAt.hasD {K : Fg} {H : Hp} {t : Addr} {r : List Int × Int} (h : RowAt K H t r) : HasD K H (.ref t) (rowD r) := by
 obtain ⟨p, h1, h2⟩ := h
 exact pairD h1 (intsD h2) (.int _)
theorem RowsAre.hasD {K : Fg} {H : Hp} {l : Addr} {vs : List V} {rs : List (List Int × Int)} (hl : SqL K H l vs) (h : RowsAre K H vs rs) : HasD K H (.ref l) (.lst (rs.map rowD)) := by
 refine .lst hl (by rw [jQ]; exact h.length) fun i v x e1 e2 => ?_
 obtain ⟨t, r, rfl, er, hr⟩ := h.get e1
 rw [kY, er] at e2
 cases e2
 exact hr.hasD
theorem alikeInts {n : Nat} (ns ms : List Int) : Alike (n + 1) (.tup (ns.map .int)) (.tup (ms.map .int)) := by
 refine .tup fun i x y e1 e2 => ?_
 rw [kY] at e1 e2
 obtain ⟨a, _, rfl⟩ := wZ.mp e1
 obtain ⟨b, _, rfl⟩ := wZ.mp e2
 exact .int a b
theorem alikePair {n : Nat} {a b c d : D} (h1 : Alike n a c) (h2 : Alike n b d) : Alike (n + 1) (.tup [a, b]) (.tup [c, d]) := by
 refine .tup fun i x y e1 e2 => ?_
 match i with
 | 0 => simp at e1 e2; subst e1 e2; exact h1
 | 1 => simp at e1 e2; subst e1 e2; exact h2
 | i + 2 => simp at e1
theorem alikeRow {n : Nat} (r r' : List Int × Int) : Alike (n + 2) (rowD r) (rowD r') := alikePair (alikeInts _ _) (.int _ _)
theorem alikeRows {n : Nat} (rs rs' : List (List Int × Int)) : Alike (n + 3) (.lst (rs.map rowD)) (.lst (rs'.map rowD)) := by
 refine .lst fun i x y e1 e2 => ?_
 rw [kY] at e1 e2
 obtain ⟨a, _, rfl⟩ := wZ.mp e1
 obtain ⟨b, _, rfl⟩ := wZ.mp e2
 exact alikeRow a b
theorem ixNat {n k : Nat} (h : k < n) : ixN n (k : Int) = some k := by
 unfold ixN
 rw [if_pos (by omega), if_pos (by omega)]
 simp
theorem lstD {K : Fg} {H : Hp} {a : Addr} {ns : List Int} (h : SqL K H a (ns.map V.int)) : HasD K H (.ref a) (.lst (ns.map .int)) := by
 refine .lst h (by rw [jQ, jQ]) fun i v x e1 e2 => ?_
 obtain ⟨n, en, rfl⟩ := getMapI e1
 rw [kY, en] at e2
 cases e2
 exact .int n
theorem alikeLst {n : Nat} (ns ms : List Int) : Alike (n + 1) (.lst (ns.map .int)) (.lst (ms.map .int)) := by
 refine .lst fun i x y e1 e2 => ?_
 rw [kY] at e1 e2
 obtain ⟨a, _, rfl⟩ := wZ.mp e1
 obtain ⟨b, _, rfl⟩ := wZ.mp e2
 exact .int a b
end Nb
namespace L2
open PySem PySem.Spec PyProof.Rows
section
variable (P : Program) (w : World)
end
section
variable {P : Program} {w : World} {H H' : Hp} {h h' : Heap} {a : Addr} {o : HO}
end
section
variable {P : Program} {w : World} {H : Hp} {h h' : Heap} {x e : Addr} {o' : HO}
end
section
variable {fs fs' ex ex' : List Addr} {H H1 H2 : Hp} {h h1 h2 h' : Heap} {a x e : Addr} {o : HO}
end
section
variable {X : Cx} {pins : List (Addr × Obj)} {σ : List (Option V)} {H H' : Hp} {s : Shared} {h' : Heap}
end
section
variable {X : Cx}
variable {a b : Expr} {ta tb : TE} {pos : Pos}
variable {tA tB' : TT} {rest : List Expr}
end
section
variable {X : Cx} {pins : List (Addr × Obj)} {σ : St} {H : Hp} {s : Shared} {a : Addr} {xs ys : List V}
end
section
variable {X : Cx} {pins : List (Addr × Obj)} {σ : St} {H : Hp} {s : Shared} {E : Value → Shared → Prop}
end
section
variable {X : Cx} {st : Stmt} {rest : List Stmt} {t u : TS} {e : Expr} {te : TE} {pos : Pos}
end
section
variable {X : Cx} {pos : Pos}
end
section
variable {X : Cx} {pos : Pos}
end
section
variable {X : Cx} {tg : Expr}
end
section
variable {X : Cx} {a b c : Expr} {ta tb tc : TE} {pos : Pos}
end
section
variable {X : Cx} {a b c : Expr} {ta tb tc : TE} {pos : Pos}
end
section
variable {prog : Program} {w : World} {A : Around} {E : Value → Shared → Prop} {s : Shared} {K : Fg} {x dx C f : Addr} {mA : Str → Option Value} {name : Str} {v : Value}
end
section
variable {P : Program} {w : World} {H H' : Hp} {h h' : Heap} {a C dx : Addr} {fs fs' : List (Str × V)}
end
section
variable {X : Cx} {pins : List (Addr × Obj)} {σ : St} {H : Hp} {s : Shared} {a C dx : Addr} {fs : List (Str × V)} {f : Str} {v : V} {A : Around} {E : Value → Shared → Prop}
end
section
variable {X : Cx} {o e value : Expr} {f : Str} {pos pos' tpos : Pos} {ta tv : TE}
end
section
variable {X : Cx} {pins : List (Addr × Obj)} {σ : St} {H : Hp} {s : Shared} {A : Around} {E : Value → Shared → Prop} {Q : Value → Shared → Prop} {c : Value} {b : Bool}
end
section
variable {X : Cx} {e : Expr} {es : List Expr} {te : TE} {t : TA} {pos : Pos}
end
section
variable {X : Cx} {pins : List (Addr × Obj)} {σ : St} {H : Hp} {s s' : Shared}
end
section
variable {X : Cx} {CX : CXT} {k : Nat} {f C : Addr} {fd : FuncData} {ps : List Str} {sp : Sp} {dvs : List V} {ds : List Value} {E : XK} {x m : Str} {p pos apos : Pos} {e o : Expr} {es : List Expr} {ta : TE} {t : TA}
end
section
variable {X : Cx} {CX : CXT} {k : Nat} {f C : Addr} {fd : FuncData} {ps ks : List Str} {sp : Sp} {E : XK} {x m : Str} {p pos apos kpos : Pos} {e o : Expr} {es : List Expr} {kws : List Keyword} {te ta : TE} {t tk : TA} {nm : Option Str}
variable {g : List Value → List Value → List Value} {gV : List V → List V → List V}
end
section
variable {X : Cx} {x : Str} {p pos : Pos} {e : Expr} {es : List Expr} {t : TA} {id T : String} {r : List V → Hp → VK → Prop}
end
section
variable {κ : Type} [DecidableEq κ]
def valV (kvs : List (κ × V)) (k : κ) : Option V := (kvs.find? fun kv => decide (kv.1 = k)).map (·.2)
def putK (kvs : List (κ × V)) (k : κ) (v : V) : List (κ × V) :=
 if (kvs.any fun kv => decide (kv.1 = k)) = true then kvs.map (fun kv => if kv.1 = k then (kv.1, v) else kv) else kvs ++ [(k, v)]
theorem valV_pos {p : κ × V} {r : List (κ × V)} {k : κ} (e : p.1 = k) : valV (p :: r) k = some p.2 := by simp [valV, jJe, e]
theorem valV_neg {p : κ × V} {r : List (κ × V)} {k : κ} (e : ¬ p.1 = k) : valV (p :: r) k = valV r k := by simp [valV, jJe, e]
theorem valV_any (k : κ) : ∀ kvs : List (κ × V), (kvs.any fun kv => decide (kv.1 = k)) = (valV kvs k).isSome
 | [] => rfl
 | p :: r => by
  rw [kYc]
  by_cases e : p.1 = k
  ·simp only [valV_pos e, yZ e, Bool.true_or, Option.isSome_some]
  ·rw [valV_neg e, yX e, Bool.false_or]; exact valV_any k r
theorem length_putK (kvs : List (κ × V)) (k : κ) (v : V) : (putK kvs k v).length ≤ kvs.length + 1 := by
 unfold putK
 split
 ·rw [jQ]; omega
 ·rw [jW, yJ, kQc]; omega
theorem RelO.isSome_eq {o : Option V} {u : Option Value} (r : RelO o u) : o.isSome = u.isSome := by
 cases o with
 | none => cases u with
  | none => rfl
  | some _ => exact (show False from r).elim
 | some _ => cases u with
  | none => exact (show False from r).elim
  | some _ => rfl
theorem KV.val {kvs : List (κ × V)} {vs : List (κ × Value)} (r : KV kvs vs) (k : κ) : RelO (valV kvs k) (valueAt vs k) := by
 unfold KV at r
 induction r with
 | nil => exact True.intro
 | @cons p q ps qs h t ih =>
  obtain ⟨h1, h2⟩ := h
  by_cases e : p.1 = k
  ·have e' : q.1 = k := h1.symm.trans e
   have b : valueAt (q :: qs) k = some q.2 := by simp [valueAt, jJe, e']
   rw [valV_pos e, b]; exact h2
  ·have e' : ¬ q.1 = k := fun z => e (h1.trans z)
   have b : valueAt (q :: qs) k = valueAt qs k := by simp [valueAt, jJe, e']
   rw [valV_neg e, b]; exact ih
theorem KV.any {kvs : List (κ × V)} {vs : List (κ × Value)} (r : KV kvs vs) (k : κ) : (kvs.any fun kv => decide (kv.1 = k)) = vs.any fun kv => decide (kv.1 = k) := by
 unfold KV at r
 induction r with
 | nil => rfl
 | cons h t ih => rw [kYc, kYc, ih, h.1]
theorem KV.repl {kvs : List (κ × V)} {vs : List (κ × Value)} (r : KV kvs vs) (k : κ) {y : V} {u : Value} (ry : RelV y u) :
  KV (kvs.map fun kv => if kv.1 = k then (kv.1, y) else kv) (vs.map fun kv => if kv.1 = k then (kv.1, u) else kv) := by
 unfold KV at r ⊢
 induction r with
 | nil => exact .nil
 | @cons p q ps qs h t ih =>
  rw [xK, xK]
  refine .cons ?_ ih
  obtain ⟨h1, h2⟩ := h
  by_cases e : p.1 = k
  ·rw [if_pos e, if_pos (h1.symm.trans e)]; exact ⟨h1, ry⟩
  ·rw [if_neg e, if_neg (fun z => e (h1.trans z))]; exact ⟨h1, h2⟩
theorem KV.put {kvs : List (κ × V)} {vs : List (κ × Value)} (r : KV kvs vs) (k : κ) {y : V} {u : Value} (ry : RelV y u) : KV (putK kvs k y) (stored vs k u) := by
 unfold putK stored
 rw [r.any k]
 by_cases e : (vs.any fun kv => decide (kv.1 = k)) = true
 ·rw [if_pos e, if_pos e]; exact r.repl k ry
 ·rw [if_neg e, if_neg e]; exact Paired.snoc r ⟨rfl, ry⟩
theorem KV.length {kvs : List (κ × V)} {vs : List (κ × Value)} (r : KV kvs vs) : kvs.length = vs.length := Paired.length r
end
theorem kV_is {P : Program} {w : World} {k : Key} {u : Value} (r : RelV (kV k) u) : (mixKind P w).is k u = true := by
 cases k with
 | inl i => obtain ⟨t, e⟩ := (show ∃ t, u = Value.int i t from r); subst e; exact mixKind_int P w i t
 | inr x => obtain ⟨t, e⟩ := (show ∃ t, u = Value.str x t from r); subst e; exact mixKind_str P w x t
theorem items_are {P : Program} {w : World} : ∀ {ks : List Key} {us : List Value}, Vals (ks.map kV) us → ItemsAre (mixKind P w) ks us
 | [], _, r => by rw [List.map_nil] at r; cases r; exact .nil
 | k :: ks, _, r => by
  rw [xK] at r
  cases r with
  | cons h t => exact .cons (kV_is h) (items_are t)
abbrev KT (H : Hp) : List (List Key × V) → List (List Key × Addr × Value) → Prop := Paired fun p q => p.1 = q.1 ∧ H q.2.1 = some (.tup (p.1.map kV)) ∧ RelV p.2 q.2.2
theorem KT.val {H : Hp} {kvs : List (List Key × V)} {xs : List (List Key × Addr × Value)} (r : KT H kvs xs) (k : List Key) : RelO (valV kvs k) ((atKey xs k).map (·.2)) := by
 induction r with
 | nil => exact True.intro
 | @cons p q ps qs h t ih =>
  obtain ⟨h1, _, h2⟩ := h
  by_cases e : p.1 = k
  ·have e' : q.1 = k := h1.symm.trans e
   have b : atKey (q :: qs) k = some q.2 := by simp [atKey, jJe, e']
   rw [valV_pos e, b]; exact h2
  ·have e' : ¬ q.1 = k := fun z => e (h1.trans z)
   have b : atKey (q :: qs) k = atKey qs k := by simp [atKey, jJe, e']
   rw [valV_neg e, b]; exact ih
theorem KT.repl {H : Hp} {kvs : List (List Key × V)} {xs : List (List Key × Addr × Value)} (r : KT H kvs xs) (k : List Key) {y : V} {u : Value} (ry : RelV y u) :
  KT H (kvs.map fun kv => if kv.1 = k then (kv.1, y) else kv) (xs.map (putAt k u)) := by
 induction r with
 | nil => exact .nil
 | @cons p q ps qs h t ih =>
  rw [xK, xK]
  refine .cons ?_ ih
  obtain ⟨h1, h2, h3⟩ := h
  unfold putAt
  by_cases e : p.1 = k
  ·rw [if_pos e, if_pos (h1.symm.trans e)]; exact ⟨h1, h2, ry⟩
  ·rw [if_neg e, if_neg (fun z => e (h1.trans z))]; exact ⟨h1, h2, h3⟩
theorem KT.put {H : Hp} {kvs : List (List Key × V)} {xs : List (List Key × Addr × Value)} (r : KT H kvs xs) (k : List Key) {b : Addr} {y : V} {u : Value} (hb : H b = some (.tup (k.map kV))) (ry : RelV y u) :
  KT H (putK kvs k y) (storedH xs k b u) := by
 have e : (kvs.any fun kv => decide (kv.1 = k)) = (atKey xs k).isSome := by
  rw [valV_any, (r.val k).isSome_eq, Option.isSome_map]
 unfold putK storedH
 rw [e]
 by_cases q : (atKey xs k).isSome = true
 ·rw [if_pos q, if_pos q]; exact r.repl k ry
 ·rw [if_neg q, if_neg q]; exact Paired.snoc r ⟨rfl, hb, ry⟩
theorem KT.keeps {H H' : Hp} {kvs : List (List Key × V)} {xs : List (List Key × Addr × Value)} (r : KT H kvs xs) (ht : ∀ b ys, H b = some (.tup ys) → H' b = some (.tup ys)) : KT H' kvs xs :=
 Paired.mapP r fun _ _ z => ⟨z.1, ht _ _ z.2.1, z.2.2⟩
section
variable {P : Program} {w : World} {H : Hp} {h : Heap} {a : Addr}
theorem rd_of {u : HO} (ok : HOk P w H h) (e : Rd H a u) : ObjOk P w H h a u := e.ok ok
theorem dk_rd {kvs : List (Key × V)} (ok : HOk P w H h) (e : Rd H a (.dK kvs)) : kvs.length ≤ sizeLine ∧ (a == sysModules) = false ∧ ∃ vs, KV kvs vs ∧ h.DictOf (mixKind P w) a vs :=
 show ObjOk P w H h a (.dK kvs) from rd_of ok e
theorem dk_of {kvs : List (Key × V)} (ok : HOk P w H h) (e : H a = some (.dK kvs)) : kvs.length ≤ sizeLine ∧ (a == sysModules) = false ∧ ∃ vs, KV kvs vs ∧ h.DictOf (mixKind P w) a vs := dk_rd ok (.inl e)
theorem key_of {ks : List Key} (ok : HOk P w H h) (e : H a = some (.tup (ks.map kV))) : (tupleKind (mixKind P w)).is h ks a := by
 obtain ⟨_, its, r, o, h1, h2, n, h3⟩ := (show ObjOk P w H h a (.tup (ks.map kV)) from ok a _ e)
 exact ⟨o, its.toArray, n, h1, h2, h3, by simpa using items_are r⟩
theorem dt_rd {kvs : List (List Key × V)} (ok : HOk P w H h) (e : Rd H a (.dT kvs)) : kvs.length ≤ sizeLine ∧ (a == sysModules) = false ∧
  ∃ xs, KT H kvs xs ∧ h.DictOfH (tupleKind (mixKind P w)) a xs := by
 obtain ⟨z, y, xs, r, o, es, ep, h1, h2, h3, h4, h5⟩ := (show ObjOk P w H h a (.dT kvs) from rd_of ok e)
 refine ⟨z, y, xs, r, o, es, ep, h1, h2, h3, h4, fun x hx => ?_, h5⟩
 have all : ∀ {l : List (List Key × V)} {m : List (List Key × Addr × Value)}, KT H l m → ∀ x ∈ m, (tupleKind (mixKind P w)).is h x.1 x.2.1 := by
  intro l m q
  induction q with
  | nil => intro x hx; exact nomatch hx
  | @cons p q ps qs hq t ih =>
   intro x hx
   rcases wY.mp hx with e | hx
   ·subst e
    exact key_of ok (by rw [← hq.1]; exact hq.2.1)
   ·exact ih x hx
 exact all r x hx
theorem dt_of {kvs : List (List Key × V)} (ok : HOk P w H h) (e : H a = some (.dT kvs)) : kvs.length ≤ sizeLine ∧ (a == sysModules) = false ∧
  ∃ xs, KT H kvs xs ∧ h.DictOfH (tupleKind (mixKind P w)) a xs := dt_rd ok (.inl e)
end
def DGet (H : Hp) (a : Addr) (y : V) (r : Option V) : Prop :=
 (∃ kvs k, Rd H a (.dK kvs) ∧ y = kV k ∧ r = valV kvs k) ∨ ∃ kvs k b, Rd H a (.dT kvs) ∧ y = .ref b ∧ H b = some (.tup (k.map kV)) ∧ r = valV kvs k
def DPut (H : Hp) (a : Addr) (y v : V) (H' : Hp) : Prop :=
 (∃ kvs k, H a = some (.dK kvs) ∧ y = kV k ∧ kvs.length < sizeLine ∧ H' = upd H a (.dK (putK kvs k v))) ∨
 ∃ kvs k b, H a = some (.dT kvs) ∧ y = .ref b ∧ H b = some (.tup (k.map kV)) ∧ kvs.length < sizeLine ∧ H' = upd H a (.dT (putK kvs k v))
theorem DGet.k {H : Hp} {a : Addr} {kvs : List (Key × V)} {k : Key} (e : H a = some (.dK kvs)) : DGet H a (kV k) (valV kvs k) := .inl ⟨kvs, k, .inl e, rfl, rfl⟩
theorem DPut.k {H : Hp} {a : Addr} {kvs : List (Key × V)} {k : Key} {v : V} (e : H a = some (.dK kvs)) (hl : kvs.length < sizeLine) : DPut H a (kV k) v (upd H a (.dK (putK kvs k v))) := .inl ⟨kvs, k, e, rfl, hl, rfl⟩
section
variable {X : Cx} {pins : List (Addr × Obj)} {σ : St} {H : Hp} {s : Shared} {a : Addr} {y v : V} {u r : Value} {o : Option V} {A : Around} {E : Value → Shared → Prop}
theorem Inv.big (I : Inv X pins σ H s) : sysModules < s.heap.objs.size := by
 have h : mainGlobals < s.heap.objs.size := (I.mod.glob.keeps I.bk).lt
 exact Nat.lt_trans (by decide) h
theorem d_in {Q : Value → Shared → Prop} (hu : A.units + 1 < cLine) (I : Inv X pins σ H s) (g : DGet H a y o) (ry : RelV y u) (h : ∀ s', Inv X pins σ H s' → Q (.bool o.isSome) s') :
  wpAny (model X.prog X.w) A (compareOp .In u (.ref a)) Q E s := by
 rcases g with ⟨kvs, k, e, ey, l⟩ | ⟨kvs, k, b, e, ey, eb, l⟩
 ·subst ey
  obtain ⟨z, hd, vs, rel, dd⟩ := dk_rd I.hok e
  refine wpAny_in_of (kV_is ry) hd dd.mapOf ?_
  rw [← (rel.val k).isSome_eq, ← l]
  exact h _ (I.tok _)
 ·subst ey
  cases (show u = Value.ref b from ry)
  obtain ⟨z, hd, xs, rel, dd⟩ := dt_rd I.hok e
  refine wpAny_in_heap (tupleKind_room_in1 hu) (key_of I.hok eb) hd dd ?_
  have q := (rel.val k).isSome_eq
  rw [Option.isSome_map] at q
  rw [← q, ← l]
  exact h _ (I.tok _)
theorem d_write {h' : Heap} {t' : Nat} {ob : HO} (I : Inv X pins σ H s) (mu : Mut (H a)) (hs : Heap.SameBut a s.heap h') (he : ∃ q, h'.get? a = some q) (new : ObjOk X.prog X.w (upd H a ob) h' a ob) :
  Inv X pins σ (upd H a ob) { s with heap := h', toks := t' } :=
 I.write (x := a) (e := a) mu (.inl rfl) (fun b q hb z => (hs.2 b hb).trans z) he new
theorem dk_new {P : Program} {w : World} {H' : Hp} {h' : Heap} {kvs : List (Key × V)} {vs : List (Key × Value)} (z : kvs.length ≤ sizeLine) (hd : (a == sysModules) = false) (rel : KV kvs vs) (dd : h'.DictOf (mixKind P w) a vs) :
  ObjOk P w H' h' a (.dK kvs) := ⟨z, hd, vs, rel, dd⟩
theorem d_setItem {H' : Hp} {Q : Unit → Shared → Prop} (hu : A.units + 1 < cLine) (I : Inv X pins σ H s) (g : DPut H a y v H') (ry : RelV y u) (rv : RelV v r) (h : ∀ s', Inv X pins σ H' s' → Q () s') :
  wpAny (model X.prog X.w) A (setItem (.ref a) u r) Q E s := by
 rcases g with ⟨kvs, k, e, ey, l, eH⟩ | ⟨kvs, k, b, e, ey, eb, l, eH⟩
 ·subst ey eH
  obtain ⟨z, hd, vs, rel, dd⟩ := dk_of I.hok e
  have hz : vs.length ≤ sizeLine := by rw [← rel.length]; exact z
  have hl : (putK kvs k v).length ≤ sizeLine := by have := length_putK kvs k v; omega
  refine wpAny_setItem_pairs (hsz := hz) (kV_is ry) dd fun h' dd' hs => h _ ?_
  have he : ∃ q, h'.get? a = some q := let ⟨q, _, _, hq, _⟩ := dd'; ⟨q, hq⟩
  exact d_write I (by rw [e]; exact True.intro) hs he (dk_new hl hd (rel.put k rv) dd')
 ·subst ey eH
  cases (show u = Value.ref b from ry)
  obtain ⟨z, hd, xs, rel, dd⟩ := dt_of I.hok e
  have hz : xs.length ≤ sizeLine := by rw [← Paired.length rel]; exact z
  have hl : (putK kvs k v).length ≤ sizeLine := by have := length_putK kvs k v; omega
  refine wpAny_setItem_heap (hsz := hz) (tupleKind_room_in1 hu) (key_of I.hok eb) dd fun h' dd' hs => h _ ?_
  obtain ⟨q, es, ep, hq, h2, h3, h4, _, h5⟩ := dd'
  refine d_write I (by rw [e]; exact True.intro) hs ⟨q, hq⟩ ⟨hl, hd, _, (rel.put k eb rv).keeps fun c ys ec => ?_, q, es, ep, hq, h2, h3, h4, h5⟩
  rw [upd_ne (ne_of ec e (fun z => nomatch z))]
  exact ec
end
section
variable {X : Cx} {pins : List (Addr × Obj)} {σ : St} {H : Hp} {s : Shared} {a : Addr} {kvs : List (Key × V)} {k : Key} {u : Value} {A : Around} {E : Value → Shared → Prop}
end
def tDIn (ty td : TE) : TE := fun σ H Q => ty σ H fun y H1 => td σ H1 fun x H2 => ∃ a o, x = .ref a ∧ DGet H2 a y o ∧ Q (.bl o.isSome) H2
def sDPut (td ty tv : TE) : TS := fun D σ H => tv σ H fun v H1 => td σ H1 fun x H2 => ty σ H2 fun y H3 => ∃ a H4, x = .ref a ∧ DPut H3 a y v H4 ∧ D.nx σ H4
section
variable {X : Cx} {o i e value : Expr} {pos pos' tpos : Pos} {td ty tv : TE}
theorem pc_din (hu : X.A.units + 1 < cLine) (hi : PE X i ty) (ho : PE X o td) : PC X .In i o (tDIn ty td) := by
 intro pins s σ H Q I h
 refine thn (hi pins s σ H _ I h) fun iv s1 ⟨y, H1, I1, ry, q1⟩ => thn (ho pins s1 σ H1 _ I1 q1) fun u s2 hqP => ?_
 obtain ⟨x, H2, I2, rx, a, ov, ex, g, q2⟩ := hqP
 subst ex
 obtain rfl : u = Value.ref a := rx
 exact d_in hu I2 g ry fun s3 I3 => ⟨.bl ov.isSome, H2, I3, rfl, q2⟩
theorem ps_dput (hu : X.A.units + 1 < cLine) (ho : PE X o td) (hi : PE X i ty) (hv : PE X value tv) (hs : swapsWith value (some (.Subscript o i pos')) pos.line X.env = pure false) :
  PS X (.Assign [.Subscript o i pos'] value pos) (sDPut td ty tv) := by
 intro pins s σ H D I h
 refine wpAny_Assign_Subscript (thn (hv pins s σ H _ I h) fun r s1 ⟨v, H1, I1, rv, q1⟩ => thn (ho pins s1 σ H1 _ I1 q1) fun u s2 ⟨x, H2, I2, rx, q2⟩ => thn (hi pins s2 σ H2 _ I2 q2) fun iv s3 hqP => ?_) hs
 obtain ⟨y, H3, I3, ry, a, H4, ex, g, q3⟩ := hqP
 subst ex
 obtain rfl : u = Value.ref a := rx
 exact d_setItem hu I3 g ry rv fun s4 I4 => ⟨σ, H4, I4, q3⟩
end
theorem dk_empty {P : Program} {w : World} {H : Hp} (h : Heap) (hb : sysModules < h.objs.size) : ObjOk P w H (h.push { cls := .type "dict", data := .dict #[] }) h.objs.size (.dK []) :=
 ⟨wV _, beq_eq_false_iff_ne.mpr (Ne.symm (zV hb)), [], .nil, Heap.DictOf.new h⟩
section
variable {X : Cx} {pos : Pos}
end
def tPairs : List (TE × TE) → St → Hp → (List (V × V) → Hp → Prop) → Prop
 | [], _, H, Q => Q [] H
 | (tk, tv) :: r, σ, H, Q => tk σ H fun x H1 => tv σ H1 fun y H2 => tPairs r σ H2 fun ps H3 => Q ((x, y) :: ps) H3
abbrev VV : List (V × V) → List (Value × Value) → Prop := Paired fun p q => RelV p.1 q.1 ∧ RelV p.2 q.2
def PPs (X : Cx) (pos : Pos) (keys : List (Option Expr)) (values : List Expr) (trs : List (TE × TE)) : Prop :=
 ∀ (pins : List (Addr × Obj)) (s : Shared) (σ : St) (H : Hp) (Q : List (V × V) → Hp → Prop), Inv X pins σ H s → tPairs trs σ H Q →
  wpAny (model X.prog X.w) X.A (evalPairs (pairTrees keys values X.env pos)) (fun vs s' => ∃ ps H', Inv X pins σ H' s' ∧ VV ps vs ∧ Q ps H') X.xe s
theorem pps_nil {X : Cx} {pos : Pos} : PPs X pos [] [] [] := fun pins s σ H Q I h => pairTrees_nil_walk ⟨[], H, I, .nil, h⟩
theorem pps_cons {X : Cx} {pos : Pos} {k v : Expr} {ks : List (Option Expr)} {vs : List Expr} {tk tv : TE} {trs : List (TE × TE)} (hk : PE X k tk) (hv : PE X v tv) (hr : PPs X pos ks vs trs) :
  PPs X pos (some k :: ks) (v :: vs) ((tk, tv) :: trs) := fun pins s σ H Q I h =>
 pairTrees_cons_walk (thn (hk pins s σ H _ I h) fun u s1 ⟨x, H1, I1, rx, q1⟩ => thn (hv pins s1 σ H1 _ I1 q1) fun w2 s2 ⟨y, H2, I2, ry, q2⟩ =>
  thn (hr pins s2 σ H2 _ I2 q2) fun ws s3 ⟨ps, H3, I3, rel, q3⟩ => ⟨(x, y) :: ps, H3, I3, .cons ⟨rx, ry⟩ rel, q3⟩)
def mergeK (kvs more : List (Key × V)) : List (Key × V) := more.foldl (fun acc kv => putK acc kv.1 kv.2) kvs
theorem KV.merge : ∀ {more : List (Key × V)} {rs : List (Key × Value)} {kvs : List (Key × V)} {vs : List (Key × Value)}, KV more rs → KV kvs vs → KV (mergeK kvs more) (merged vs rs) := by
 intro more rs kvs vs r
 unfold KV at r
 induction r generalizing kvs vs with
 | nil => intro q; exact q
 | @cons p q ps qs h t ih =>
  intro r0
  have e : KV (putK kvs p.1 p.2) (stored vs q.1 q.2) := by
   have := r0.put p.1 h.2
   rw [← h.1]; exact this
  exact ih e
theorem length_mergeK : ∀ (more kvs : List (Key × V)), (mergeK kvs more).length ≤ kvs.length + more.length
 | [], kvs => by show kvs.length ≤ kvs.length + 0; omega
 | p :: r, kvs => by
  have h1 := length_mergeK r (putK kvs p.1 p.2)
  have h2 := length_putK kvs p.1 p.2
  show (mergeK (putK kvs p.1 p.2) r).length ≤ _
  rw [yJ]; omega
theorem carries_of {P : Program} {w : World} : ∀ {kvs : List (Key × V)} {ws : List (Value × Value)}, VV (kvs.map fun kv => (kV kv.1, kv.2)) ws → ∃ rs, Carries (mixKind P w) ws rs ∧ KV kvs rs
 | [], _, r => by rw [List.map_nil] at r; cases r; exact ⟨[], True.intro, .nil⟩
 | p :: kvs, _, r => by
  rw [xK] at r
  cases r with
  | @cons a b as bs h t =>
   obtain ⟨rs, c, q⟩ := carries_of (P := P) (w := w) t
   obtain ⟨b1, b2⟩ := b
   exact ⟨(p.1, b2) :: rs, ⟨kV_is h.1, rfl, c⟩, .cons ⟨rfl, h.2⟩ q⟩
def tDisp (trs : List (TE × TE)) : TE := fun σ H Q => ∀ p, H p = none → tPairs trs σ (upd H p (.dK [])) fun ps H2 => H2 p = some (.dK []) ∧ ∃ kvs : List (Key × V), ps = kvs.map (fun kv => (kV kv.1, kv.2)) ∧ kvs.length ≤ 15 ∧ Q (.ref p) (upd H2 p (.dK (mergeK [] kvs)))
theorem pe_disp {X : Cx} {pos : Pos} {keys : List (Option Expr)} {values : List Expr} {trs : List (TE × TE)} (h : PPs X pos keys values trs) (hall : keys.all (·.isSome) = true) (hl : keys.length = values.length) (h0 : keys ≠ [])
  (h15 : keys.length ≤ 15) : PE X (.Dict keys values pos) (tDisp trs) := by
 intro pins s σ H Q I q
 have hn := I.hok.fresh (jX s.heap.objs.size)
 have I1 := I.laid (a := s.heap.objs.size) (o := .dK []) (h' := s.heap.push { cls := .type "dict", data := .dict #[] }) (t' := s.toks) (fun _ _ q => jK _ q) (jX _) (dk_empty s.heap I.big)
 refine wpAny_Dict_walk (knd := mixKind X.prog X.w) hall hl h0 h15 (thn (h pins _ σ _ _ I1 (q _ hn)) fun ws s2 hqP => ?_)
 obtain ⟨ps, H2, I2, rel, e, kvs, ep, lk, q2⟩ := hqP
 subst ep
 obtain ⟨rs, c, rk⟩ := carries_of (P := X.prog) (w := X.w) rel
 obtain ⟨z, hd, vs0, r0, dd⟩ := dk_of I2.hok e
 cases r0
 refine ⟨rs, c, dd, fun h' dd' hs => ⟨.ref s.heap.objs.size, _, ?_, rfl, q2⟩⟩
 have hz : (mergeK [] kvs).length ≤ sizeLine := by
  have h1 := length_mergeK kvs []
  rw [kQc] at h1
  rw [sizeLine_eq]; omega
 have he : ∃ q, h'.get? s.heap.objs.size = some q := let ⟨q, _, _, hq, _⟩ := dd'; ⟨q, hq⟩
 exact d_write I2 (by rw [e]; exact True.intro) hs he (dk_new hz hd (rk.merge .nil) dd')
section
variable {X : Cx} {pins : List (Addr × Obj)} {σ : St} {H : Hp} {s : Shared} {a : Addr} {y d : V} {u r : Value} {o : Option V} {A : Around} {E : Value → Shared → Prop}
end
section
variable {X : Cx} {o e f : Expr} {apos cpos : Pos} {td ty tx : TE}
end
section
variable {X : Cx} {pins : List (Addr × Obj)} {σ : St} {H : Hp} {s : Shared} {a : Addr} {kvs : List (Key × V)} {A : Around} {E : Value → Shared → Prop}
end
section
variable {X : Cx} {pins : List (Addr × Obj)} {σ : St} {H : Hp} {s : Shared} {a : Addr} {y : V} {u : Value} {A : Around} {E : Value → Shared → Prop}
end
end L2
namespace Att
open PySem PySem.W PySem.Calls PyProof.Rows
section
variable {prog : Program} {w : World} {A : Around} {E : Value → Shared → Prop} {s : Shared} {K : Frag}
end
end Att
namespace L2
open PySem PySem.Spec PyProof.Rows
section
variable {P : Program} {w : World} {K : Fg} {mg : Str → Option Value} {base : Heap}
end
section
variable {X : Cx}
end
section
variable {κ : Type} [DecidableEq κ]
end
section
variable {prog : Program} {w : World} {A : Around} {E : Value → Shared → Prop}
end
section
variable {X : Cx}
def PairsAre (K : Fg) (H : Hp) : List V → List (Int × V) → Prop := Paired fun v p => ∃ t, v = .ref t ∧ SqT K H t [.int p.1, p.2]
theorem PairsAre.length {K : Fg} {H : Hp} {vs : List V} {ps : List (Int × V)} (h : PairsAre K H vs ps) : vs.length = ps.length := Paired.length h
end
section
variable {P : Program} {w : World} {A : Around} {E : Value → Shared → Prop} {s : Shared} {e it l : Addr} {st : Nat → Heap → Prop} {src : List Value → Heap → Prop} {i : Nat} {xs : List Value} {old : Value}
end
section
variable {X : Cx}
end
section
variable {prog : Program} {w : World} {A : Around} {E : Value → Shared → Prop} {s : Shared}
end
section
variable {X : Cx}
end
section
variable {P : Program} {w : World} {A : Around} {E : Value → Shared → Prop} {s : Shared}
end
section
variable {P : Program} {w : World} {A : Around} {E : Value → Shared → Prop} {s : Shared} {z u o i1 i2 l1 l2 : Addr} {st1 st2 : Nat → Heap → Prop} {src1 src2 : List Value → Heap → Prop} {k1 k2 : Nat} {xs ys : List Value}
end
section
variable {X : Cx} {pins : List (Addr × Obj)} {σ : St} {H : Hp} {s : Shared} {m1 m2 : Bool} {z u o i1 i2 a b : Addr} {i : Nat} {xs ys : List V} {E : Value → Shared → Prop} {A : Around}
end
section
variable {X : Cx}
end
def Itr3 (lo c : Int) (n : Nat) : It := ⟨fun i _ => i < n, fun i H x H' => H' = H ∧ x = .int (lo + (i : Nat) * c), fun i _ => n ≤ i⟩
theorem turn_range3 {P : Program} {w : World} {K : Fg} {tg : Expr} (it : Addr) (lo c : Int) (n : Nat) : Turn P w K tg (Itr3 lo c n) [it] it (fun i h => IsRangeIter h it (lo + (i : Nat) * c) ((n : Int) - (i : Nat)) c) where
 mem := by simp
 obj := fun i h st b hb => by
  have e : b = it := by simpa using hb
  subst e
  exact ⟨_, st, fun v z => by
   have z' : Data.fields _ = Data.cell v := z
   cases z'⟩
 keep := fun i h h' st k => k it (by simp) _ st
 item := by
  intro X hP hw hK hc i pins s σ H E I hf st hg
  subst hP hw hK
  obtain ⟨f0, f1, f2, f3, f4, f5⟩ := hf it (by simp)
  have W := Walks.range (prog := X.prog) (w := X.w) (I.ok.hd hc) it lo c n
  refine W.item i s _ _ hg st fun v h' tk hv st' kk => ?_
  obtain ⟨t, rfl⟩ := hv
  have I1 : Inv X pins σ H { s with heap := h', toks := tk } := I.turned (fun b o hb e => kk b o (by simpa using hb) e) f0 f1 f3 f4 f5
  exact ⟨_, rfl, go_of (s := { s with heap := h', toks := tk }) (n := "range_iterator") st' rfl rfl (by decide) ⟨.int (lo + (i : Nat) * c), H, I1, ⟨t, rfl⟩, ⟨rfl, rfl⟩, st', fun b hb => (hf b hb).1⟩⟩
 done := by
  intro X hP hw hK hc i pins s σ H E I hf st hg
  subst hP hw hK
  obtain ⟨f0, f1, f2, f3, f4, f5⟩ := hf it (by simp)
  exact wpAny_pyNext_range_end (I.ok.hd hc) st (by have : n ≤ i := hg; omega) fun h' eb => ⟨rfl, I.turned (t' := s.toks) (fun b o hb e => eb b o hb e) f0 f1 f3 f4 f5⟩
 self := fun _ _ _ _ _ st h => wpAny_pyIter_rangeiter st h
theorem size_nonneg (a b c : Int) (hc : c ≠ 0) : 0 ≤ Builtin.Range.rangeSize a b c := by
 unfold Builtin.Range.rangeSize
 split
 ·split
  ·have := Int.ediv_nonneg (a := b - a - 1) (b := c) (by omega) (by omega); omega
  ·exact kYa 0
 ·split
  ·have := Int.ediv_nonneg (a := a - b - 1) (b := -c) (by omega) (by omega); omega
  ·exact kYa 0
section
variable {X : Cx} {tg : Expr}
def iRng3 (ta : TA) : TI := fun σ H R => ta σ H fun vs H1 => ∃ i j c : Int, vs = [.int i, .int j, .int c] ∧ (c ≠ 0 ∧ c.natAbs < 1073741824 ∧ Builtin.Range.small i j c = true) ∧ R (Itr3 i c (Builtin.Range.rangeSize i j c).toNat) H1
theorem pi_range3 {a b c : Expr} {ta : TA} {p pos : Pos} (hg : Gl X "range") (hm : X.mg "range" = none) (ha : PA X [a, b, c] ta) (hs : autoParam (starEach [a, b, c] X.env = [(false, eval a X.env), (false, eval b X.env), (false, eval c X.env)]) L2.aRfl._auto_1) (hs2 : autoParam (starEach [b, c] X.env = [(false, eval b X.env), (false, eval c X.env)]) L2.aRfl._auto_1) :
  PI X tg (.Call (.Name "range" p) [a, b, c] [] pos) (iRng3 ta) := by
 intro pins s σ H R I h
 refine Call_ (ld_blt I hg hm boot_range (PyProof.Rows.callWith_type1 (thn (ha pos pins s σ H _ I h) fun us s1 hqP => ?_) (by rw [hs, hs2]) (by rw [hs2]; rfl)))
 obtain ⟨vs, H1, I1, r1, q1⟩ := hqP
 obtain ⟨i, j, k, e, ⟨h1, h2, h3⟩, q⟩ := q1
 subst e
 cases r1 with
 | cons r rr =>
  cases rr with
  | cons r' rr =>
   cases rr with
   | cons r'' rr =>
    cases rr
    obtain ⟨t, rfl⟩ := r
    obtain ⟨t', rfl⟩ := r'
    obtain ⟨t'', rfl⟩ := r''
    refine call_range_3 h1 ?_ (.inl (PyProof.noPylong_small h2))
    refine wpAny_pyIter_range (IsRange.new ..) h3 ?_
    have I2 : Inv X pins σ H1 { s1 with heap := s1.heap.push { cls := .type "range", data := .fields #[.int i t, .int j t', .int k t''] }, toks := s1.toks } := I1.kept fun b o e => jK _ e
    refine ⟨(s1.heap.push { cls := .type "range", data := .fields #[.int i t, .int j t', .int k t''] }).objs.size, [(s1.heap.push { cls := .type "range", data := .fields #[.int i t, .int j t', .int k t''] }).objs.size], _, _, H1, rfl,
     I2.kept (t' := s1.toks) fun b o e => jK _ e, turn_range3 _ i k (Builtin.Range.rangeSize i j k).toNat, ?_, fun b hb => ?_, q⟩
    ·have e1 : i + ((0 : Nat) : Int) * k = i := by simp
     have e2 : (((Builtin.Range.rangeSize i j k).toNat : Nat) : Int) - ((0 : Nat) : Int) = Builtin.Range.rangeSize i j k := by have := size_nonneg i j k h1; omega
     show IsRangeIter _ _ (i + ((0 : Nat) : Int) * k) ((((Builtin.Range.rangeSize i j k).toNat : Nat) : Int) - ((0 : Nat) : Int)) k
     rw [e1, e2]
     exact zX _ rfl
    ·have e : b = (s1.heap.push { cls := .type "range", data := .fields #[.int i t, .int j t', .int k t''] }).objs.size := by simpa using hb
     subst e
     exact I2.fpOk (jX _) (I2.hok.fresh (jX _))
end
theorem for_range3 {lo c : Int} {n : Nat} {g : TG} {tb : TS} {D : Ends} {σ : St} {H : Hp} (Pv : Nat → St → Hp → Prop) (h0 : Pv 0 σ H)
  (hs : ∀ i σ H, i < n → Pv i σ H → g (.int (lo + (i : Nat) * c)) σ H fun σ2 H2 => tb { D with nx := Pv (i + 1), ct := Pv (i + 1), bk := D.nx } σ2 H2) (hd : ∀ σ H, Pv n σ H → D.nx σ H) :
  ∃ W : Nat → Nat → St → Hp → Prop, (∃ m, W 0 m σ H) ∧ ∀ i m σ H, W i m σ H →
   ((Itr3 lo c n).stop i H ∧ D.nx σ H) ∨ ((Itr3 lo c n).go i H ∧ ∃ N : St → Hp → Prop, (∀ σ' H', N σ' H' → ∃ m', m' < m ∧ W (i + 1) m' σ' H') ∧ ∀ x H', (Itr3 lo c n).yld i H x H' → g x σ H' fun σ2 H2 => tb { D with nx := N, ct := N, bk := D.nx } σ2 H2) := by
 refine ⟨fun i m σ H => m = n - i ∧ i ≤ n ∧ Pv i σ H, ⟨n, by simp, wV _, h0⟩, ?_⟩
 rintro i m σ H ⟨rfl, hi, p⟩
 by_cases hlt : i < n
 ·refine .inr ⟨hlt, Pv (i + 1), fun σ' H' p' => ⟨n - (i + 1), by omega, rfl, hlt, p'⟩, fun x H' y => ?_⟩
  obtain ⟨e, y⟩ := y
  subst e y
  exact hs i σ _ hlt p
 ·have e : i = n := by omega
  subst e
  exact .inl ⟨jX _, hd σ H p⟩
end L2
namespace L2
open PySem PySem.Spec PyProof.Rows PySem.W
theorem op_mulI {X : Cx} : OpR X (binaryOp .Mult) (rI IntMulOk fun i j => .int (i * j)) := opI fun _ _ _ _ _ _ _ hc q => mul_int q hc
inductive IsT : String → Prop
 | int : IsT "int"
 | bool : IsT "bool"
 | tuple : IsT "tuple"
 | list : IsT "list"
 | str : IsT "str"
def isiW (K : Fg) (H : Hp) : V → String → Bool → Prop
 | .non, _, b => b = false
 | .int _, T, b => b = decide (T = "int")
 | .bl _, T, b => b = decide (T = "int" ∨ T = "bool")
 | .str _, T, b => b = decide (T = "str")
 | .ref a, T, b => ((∃ xs, SqT K H a xs) ∧ b = decide (T = "tuple")) ∨ ((∃ xs, SqL K H a xs) ∧ b = decide (T = "list"))
 | _, _, _ => False
theorem call_isiW {X : Cx} : CallR X (.builtin "isinstance") (fun xs H Q => ∃ x T b, xs = [x, .ty T] ∧ IsT T ∧ isiW X.K H x T b ∧ Q (.bl b) H) := by
 intro pins s σ H xs us Q I rv h
 obtain ⟨x, T, b, rfl, hT, hi, q⟩ := h
 obtain ⟨u, v, rfl, ru, rT⟩ := rv.two
 cases rT
 have fin : ∀ (tk : Nat), EP X pins σ Q (.bool b) { s with toks := tk } := fun tk => ⟨.bl b, H, I.tok tk, rfl, q⟩
 cases x with
 | int n =>
  obtain ⟨t, rfl⟩ := ru
  cases hT <;> (subst hi)
  ·exact IsiPair.int_int (fin s.toks)
  ·exact IsiPair.int_bool (fin _)
  ·exact IsiPair.int_tuple (fin _)
  ·exact IsiPair.int_list (fin _)
  ·exact IsiPair.int_str (fin _)
 | bl n =>
  cases ru
  cases hT <;> (subst hi)
  ·exact IsiPair.bool_int (fin s.toks)
  ·exact IsiPair.bool_bool (fin s.toks)
  ·exact IsiPair.bool_tuple (fin _)
  ·exact IsiPair.bool_list (fin _)
  ·exact IsiPair.bool_str (fin _)
 | str n =>
  obtain ⟨t, rfl⟩ := ru
  cases hT <;> (subst hi)
  ·exact IsiPair.str_int (fin _)
  ·exact IsiPair.str_bool (fin _)
  ·exact IsiPair.str_tuple (fin _)
  ·exact IsiPair.str_list (fin _)
  ·exact IsiPair.str_str (fin s.toks)
 | non =>
  cases ru
  cases hT <;> (subst hi)
  ·exact IsiPair.NoneType_int (fin _)
  ·exact IsiPair.NoneType_bool (fin _)
  ·exact IsiPair.NoneType_tuple (fin _)
  ·exact IsiPair.NoneType_list (fin _)
  ·exact IsiPair.NoneType_str (fin _)
 | ref a =>
  cases ru
  rcases hi with ⟨⟨xs, hq⟩, hi⟩ | ⟨⟨xs, hq⟩, hi⟩
  ·obtain ⟨its, r, ⟨o, e, c, _⟩, _⟩ := I.tuple hq
   cases hT <;> (subst hi)
   ·exact IsiPair.tuple_int e c (fin _)
   ·exact IsiPair.tuple_bool e c (fin _)
   ·exact IsiPair.tuple_tuple e c (fin s.toks)
   ·exact IsiPair.tuple_list e c (fin _)
   ·exact IsiPair.tuple_str e c (fin _)
  ·obtain ⟨its, r, pl, _⟩ := I.list hq
   obtain ⟨o, e, c, _⟩ := pl.isList
   cases hT <;> (subst hi)
   ·exact IsiPair.list_int e c (fin _)
   ·exact IsiPair.list_bool e c (fin _)
   ·exact IsiPair.list_tuple e c (fin _)
   ·exact IsiPair.list_list e c (fin s.toks)
   ·exact IsiPair.list_str e c (fin _)
 | byt _ => exact hi.elim
 | flt _ => exact hi.elim
 | ty _ => exact hi.elim
theorem call_isiWK {X : Cx} {K : Fg} (hK : X.K = K) : CallR X (.builtin "isinstance") (fun xs H Q => ∃ x T b, xs = [x, .ty T] ∧ IsT T ∧ isiW K H x T b ∧ Q (.bl b) H) := by subst hK; exact call_isiW
theorem bits_script {ns : List Int} (h : WData.layableAll [WData.list (ns.map WData.int)] = true) : ∀ n ∈ ns, Builtin.Int.intBits n ≤ 2 ^ 20 := by
 intro n hn
 have h0 := layableW_arg h _ (kX.mpr rfl)
 obtain ⟨h1, h2, h3⟩ := layableW_iff.mp h0
 simp only [WData.canLay] at h1
 simp only [WData.weight] at h3
 obtain ⟨_, _, c⟩ := items_part (d := WData.int n) (wJ.mpr ⟨n, hn, rfl⟩) h1
 have h4 : (WData.int n).weight ≤ 2 ^ 20 := jQe c h3
 simpa only [WData.weight, Builtin.Int.intBits] using h4
open Att in
theorem walk_ofB {l : PySem.W.OpenLaw} {n k : Nat} {q : Program} {loose : List Str} {XP : (Str → Option Value) → Heap → Prop} {YP : World → Heap → Prop} {d : DefRec} {K : Params → Fg} {CX : World → CXT} {sp : World → Sp} {x : Str}
  (hn : l.most = some n) (hn2 : n ≤ sizeLine) (hdf : d.params.defaults = []) (hr : Room k callerA)
  (hY : ∀ (w : World) (h : Heap), YP w h → (K w.params).In h)
  (F : ∀ (w : World) (mg : Str → Option Value) (fa : Addr) (h : Heap), (K w.params).In h → h.Ns mainGlobals mg → mg d.name = some (.ref fa) →
   ∃ fd : FuncData, (∀ (s : Shared) (u : Value), BindsTo s fd ⟨[u], []⟩ [(x, u)]) ∧
    ∀ base : Heap, (K w.params).In base → base.Ns mainGlobals mg → FnOk l.prog w (K w.params) mg base (CX w) k fa fd [x] (sp w))
  (hsp : ∀ (w : World) (H : Hp) (a : Addr) (ns : List Int), ns.length ≤ n → (∀ m ∈ ns, Builtin.Int.intBits m ≤ 2 ^ 20) → SqL (K w.params) H a (ns.map V.int) → sp w [.ref a] H (fun v _ => v = .bl true) fun _ _ _ => False)
  (hCX : ∀ (w : World) (H : Hp) (s : Shared) (e : Value) (s' : Shared), CX w [] H s (fun _ _ _ => False) e s' → False) :
  PySem.W.WalkO q loose XP YP l.row.toRowW d [] (fun f vs => PySem.call f vs) := by
 intro w s₀ s₁ mg mb G Y fa o pm cd doc dV kV ho hd hcd hD hmg hg args vals as hpre hlay hrd hwl hlo
 obtain rfl : dV = .none := Dflts.none hD hdf
 obtain rfl : kV = .none := Dflts.noKw hD
 obtain ⟨a, vs, ns, rfl, rfl, hobj, hints, hlen⟩ := script_of hn hpre hwl
 have KX := hY w _ Y
 obtain ⟨fd, hb, hF⟩ := F w mg fa _ KX G.T.g hmg
 refine enter_call (codeAny_mono (law_call KX G.T.g G.T.b G.T.builtins G.T.nolimit hg hobj hints (jQe hlen hn2) hr hF hb (fun H hO hS => hsp w H a ns hlen (bits_script hlay) hS) fun H e s' => hCX w H s₁ e s') fun r s' hq => ?_)
 obtain ⟨rfl, h2, h3, h4⟩ := hq
 exact ⟨.inl ⟨.bool true, .bool true, [], rfl, fun _ => rfl, .bool true, post_true l _, fun _ => ⟨List.Pairwise.nil, fun _ hm => (nomatch hm)⟩⟩, h2, h3, h4⟩
section
variable {prog : Program} {w : World} {A : Around} {R : Result → Shared → Prop} {I : Addr} {fp wr : List Addr} {n : Nat} {P : Nat → Value → Prop} {St : Nat → Heap → Prop}
end
section
variable {prog : Program} {w : World} {A : Around} {E : Value → Shared → Prop} {s : Shared} {l : Addr} {xs : Array (Int × Tok)}
end
section
variable {X : Cx}
end
end L2
namespace L2
open PySem PySem.Spec PySem.Calls PyProof.Rows PySem.W
section
variable {P : Program} {w : World} {K : Fg} {mg : Str → Option Value} {base : Heap} {N : List Str} {qual : Str} {scope : Scope} {f : Addr} {cd : Value} {A : Around} {outer : List Env} {s₀ : Shared} {H₀ : Hp} {E : XK} {C : Addr}
 {pins : List (Addr × Obj)} {σ : St} {H : Hp} {s : Shared}
end
end L2
namespace L2
open PySem PySem.Spec PySem.Calls PyProof.Rows PySem.W
section
variable {X : Cx} {pins : List (Addr × Obj)} {σ : St} {H H' : Hp} {s : Shared} {e : Addr}
end
section
variable {X : Cx} {k : Nat} {f C D : Addr} {fd : FuncData} {ps : List Str} {sp : Sp} {g x n c : Str} {p np pc pn cpos epos hpos apos pos : Pos} {a : Expr} {es : List Expr} {t : TA} {i j : Nat}
end
end L2
namespace L2
open PySem PySem.Spec PySem.Calls PyProof.Rows PySem.W
section
variable {prog : Program} {w : World} {A : Around} {E : Value → Shared → Prop} {h : Heap} {g : Array GenState} {d : Drawn} {t : Nat} {os : OsState} {a C : Addr} {o : Obj} {K : Frag}
open Builtin Builtin.ObjectAttr Builtin.Getset_descriptor in
end
end L2
namespace L2
open PySem PySem.Spec PySem.Calls PyProof.Rows PySem.W
section
variable {X : Cx}
end
def Big (i : Int) : Prop := i.natAbs < 2 ^ 4000
section
variable {X : Cx}
theorem op_fdivG : OpR X (binaryOp .FloorDiv) (rI (fun _ j => j ≠ 0 ∧ Big j) fun i j => .int (i.fdiv j)) := opI fun i j _ _ _ _ _ hc q => floordiv_int hc.1 q (.inl (PyProof.noPylong_of_log2 (yY ((Nat.log2_lt (by have := hc.1; omega)).mpr hc.2) (by decide))))
end
section
variable {P : Program} {w : World} {K : Fg} {mg : Str → Option Value} {base : Heap} {N : List Str} {qual : Str} {scope : Scope} {f : Addr} {cd : Value} {A : Around} {outer : List Env} {s₀ : Shared} {H₀ : Hp} {E : XK} {C : Addr}
end
section
variable {X : Cx} {tg : Expr}
end
end L2
namespace L2
open PySem PySem.Spec PySem.Calls PyProof.Rows PySem.W
section
variable {X : Cx}
end
def rCatG (K : Fg) : R2 := fun x y H Q => ∃ a b xs ys, x = .ref a ∧ y = .ref b ∧ SqT K H a xs ∧ SqT K H b ys ∧ ys ≠ [] ∧ xs.length + ys.length ≤ sizeLine ∧ ∀ (p : Addr) (H' : Hp), Same H H' → SqT K H' p (xs ++ ys) → Q (.ref p) H'
theorem op_catG {X : Cx} : OpR X (binaryOp .Add) (rCatG X.K) := by
 intro pins s σ H x y v u Q I rx ry h
 obtain ⟨a, b, xs, ys, rfl, rfl, ha, hb, hy, hz, q⟩ := h
 by_cases hx : xs = []
 ·subst hx
  cases rx
  cases ry
  obtain ⟨its, r1, p1, _⟩ := I.tuple ha
  obtain ⟨its2, r2, p2, _⟩ := I.tuple hb
  have e0 : its = [] := r1.nil_iff.mpr rfl
  subst e0
  obtain ⟨⟨c1, d1, da1, sl1⟩, ho, hc, n, hd⟩ := id p1
  obtain ⟨⟨c2, d2, da2, sl2⟩, ho2, hc2, n2, hd2⟩ := id p2
  simp only at hc hd hc2 hd2
  subst hc hd hc2 hd2
  exact concat_meets ⟨_, ho, rfl⟩ ⟨_, ho2, rfl⟩ noFill_tuple_add seq_tuple_add PySem.F.slot_tuple_add PySem.F.entry_tuple_add (PySem.F.args_tuple_add_2 _ _) (tuple_addW0 a b ([] : List Value).toArray its2.toArray n n2 d1 d2 sl1 sl2 (by simp)) ⟨ho, ho2, ⟨.ref b, H, I, rfl, q b H (Same.refl H) hb⟩⟩
 ·exact op_catT pins s σ H (.ref a) (.ref b) v u Q I rx ry ⟨a, b, xs, ys, rfl, rfl, ha, hb, hx, hz, fun z => absurd z hy, fun _ p hp => q p _ (same_new' hp _) (sqT_new upd_same)⟩
end L2
namespace L2
open PySem PySem.W PyProof.Rows
def kGood {α : Type} (f : Nat → Nat → Bool) (n : Nat) : KasT α → (α → Prop) → Prop
 | .ret a, Q => Q a
 | .ask i j k, Q => i < n ∧ j < n ∧ kGood f n (k (f i j)) Q
theorem kGood.bind {α β : Type} {f : Nat → Nat → Bool} {n : Nat} {g : α → KasT β} {Q : β → Prop} : ∀ (t : KasT α), kGood f n t (fun a => kGood f n (g a) Q) → kGood f n (t.bind g) Q
 | .ret a, h => h
 | .ask i j k, h => ⟨h.1, h.2.1, kGood.bind (k (f i j)) h.2.2⟩
theorem kGood.mono {α : Type} {f : Nat → Nat → Bool} {n : Nat} {Q Q' : α → Prop} (hq : ∀ a, Q a → Q' a) : ∀ (t : KasT α), kGood f n t Q → kGood f n t Q'
 | .ret a, h => hq a h
 | .ask i j k, h => ⟨h.1, h.2.1, kGood.mono hq (k (f i j)) h.2.2⟩
theorem kGood.wp {α : Type} {f : Nat → Nat → Bool} {n : Nat} {cmp : Nat → Nat → (Bool → Shared → Prop) → Shared → Prop} {s : Shared} (hc : ∀ i j C, i < n → j < n → C (f i j) s → cmp i j C s) {Q : α → Prop} {R : α → Shared → Prop} (hR : ∀ a, Q a → R a s) :
  ∀ (t : KasT α), kGood f n t Q → t.kasWp cmp R s
 | .ret a, h => hR a h
 | .ask i j k, h => hc i j _ h.1 h.2.1 (kGood.wp hc hR (k (f i j)) h.2.2)
theorem mono_adj {g : Nat → Int} {m : Nat} (h : ∀ i, i + 1 < m → g i ≤ g (i + 1)) : ∀ j i, i ≤ j → j < m → g i ≤ g j
 | 0, i, hi, _ => by rw [Nat.le_zero.mp hi]; exact kYa _
 | j + 1, i, hi, hj => by
  by_cases e : i = j + 1
  ·rw [e]; exact kYa _
  ·exact Int.le_trans (mono_adj h j i (by omega) (by omega)) (h j hj)
section
variable {r : Nat → Int} {n : Nat}
def rk (r : Nat → Int) (p : Array Nat) (i : Nat) : Int := r (p.getD i 0)
def lessR (r : Nat → Int) (i j : Nat) : Bool := decide (r i < r j)
def PermN (n : Nat) (p : Array Nat) : Prop := p.Perm (List.toArray (List.range n))
theorem gD {p q : Array Nat} {i j : Nat} (h : p[i]? = q[j]?) : p.getD i 0 = q.getD j 0 := by rw [jXd, jXd, h]
theorem rk_eq {p q : Array Nat} {i j : Nat} (h : p[i]? = q[j]?) : rk r p i = rk r q j := congrArg r (gD h)
theorem PermN.size {p : Array Nat} (h : PermN n p) : p.size = n := by have := h.size_eq; simpa using this
theorem PermN.lt {p : Array Nat} (h : PermN n p) (hn : 0 < n) (i : Nat) : p.getD i 0 < n := by
 rw [jXd]
 cases e : p[i]? with
 | none => exact hn
 | some v =>
  have hm : v ∈ p := Array.mem_of_getElem? e
  have := h.mem_iff.mp hm
  simpa using this
theorem PermN.rev {p : Array Nat} (h : PermN n p) (i j : Nat) : PermN n (kas_rev p i j) := (mirror_perm p i j _).trans h
theorem rk_rev {p : Array Nat} {i j : Nat} (hj : j ≤ p.size) (k : Nat) : rk r (kas_rev p i j) k = if i ≤ k ∧ k < j then rk r p (i + j - 1 - k) else rk r p k := by
 have e := getElem?_mirror_all (i := i) hj k
 by_cases c : i ≤ k ∧ k < j
 ·rw [if_pos c] at e ⊢; exact rk_eq e
 ·rw [if_neg c] at e ⊢; exact rk_eq e
theorem asc_good {p : Array Nat} (hp : PermN n p) (hn : 0 < n) : ∀ (f a : Nat), kGood (lessR r) n (kas_asc p f a) fun m => a ≤ m ∧ m ≤ a + f ∧ (∀ i, a ≤ i → i < m → rk r p (i - 1) ≤ rk r p i) ∧ (m < a + f → rk r p m < rk r p (m - 1))
 | 0, a => ⟨jX _, jX _, fun i h1 h2 => by omega, fun h => by omega⟩
 | f + 1, a => by
  refine ⟨hp.lt hn _, hp.lt hn _, ?_⟩
  by_cases c : rk r p a < rk r p (a - 1)
  ·rw [show lessR r (p.getD a 0) (p.getD (a - 1) 0) = true from yZ c]; dsimp only; rw [if_pos rfl]
   exact ⟨jX _, by omega, fun i h1 h2 => by omega, fun _ => c⟩
  ·rw [show lessR r (p.getD a 0) (p.getD (a - 1) 0) = false from yX c]; dsimp only; rw [if_neg kZ]
   refine kGood.mono (fun m h => ?_) _ (asc_good hp hn f (a + 1))
   obtain ⟨h1, h2, h3, h4⟩ := h
   refine ⟨by omega, by omega, fun i i1 i2 => ?_, fun z => h4 (by omega)⟩
   by_cases e : i = a
   ·subst e; omega
   ·exact h3 i (by omega) i2
def Falls (r : Nat → Int) (p : Array Nat) (m : Nat) : Prop := ∀ i, 1 ≤ i → i < m → rk r p i ≤ rk r p (i - 1)
def Flat (r : Nat → Int) (p : Array Nat) (m q : Nat) : Prop := q + 1 ≤ m ∧ ∀ i, m - (q + 1) ≤ i → i < m → rk r p i = rk r p (m - 1)
theorem rev_flat {p : Array Nat} (hp : PermN n p) {m q : Nat} (hm : m ≤ n) (h : Flat r p m q) (k : Nat) : rk r (kas_rev p (m - (q + 1)) m) k = rk r p k := by
 rw [rk_rev (by rw [hp.size]; exact hm)]
 have h0 := h.1
 by_cases c : m - (q + 1) ≤ k ∧ k < m
 ·rw [if_pos c, h.2 k c.1 c.2, h.2 _ (by omega) (by omega)]
 ·rw [if_neg c]
theorem desc_good (hn : 0 < n) : ∀ (f : Nat) (p : Array Nat) (a q : Nat), PermN n p → a + f ≤ n → 1 ≤ a → Falls r p a → Flat r p a q → kGood (lessR r) n (kas_desc f p a q) fun x => PermN n x.1 ∧ a ≤ x.2.1 ∧ x.2.1 ≤ a + f ∧ Falls r x.1 x.2.1 ∧ Flat r x.1 x.2.1 x.2.2
 | 0, p, a, q, hp, _, _, h1, h2 => ⟨hp, jX _, jX _, h1, h2⟩
 | f + 1, p, a, q, hp, hf, ha, h1, h2 => by
  refine ⟨hp.lt hn _, hp.lt hn _, ?_⟩
  have flat0 : ∀ p' : Array Nat, Flat r p' (a + 1) 0 := fun p' => ⟨by omega, fun i i1 i2 => by rw [show i = a by omega]; rfl⟩
  by_cases c : rk r p a < rk r p (a - 1)
  ·rw [show lessR r (p.getD a 0) (p.getD (a - 1) 0) = true from yZ c]; dsimp only; rw [if_pos rfl]
   by_cases hq : q > 0
   ·rw [if_pos hq]
    have e := rev_flat hp (by omega) h2
    refine kGood.mono (fun x h => ⟨h.1, by have := h.2.1; omega, by have := h.2.2.1; omega, h.2.2.2⟩) _ (desc_good hn f _ (a + 1) 0 (hp.rev _ _) (by omega) (by omega) (fun i i1 i2 => ?_) (flat0 _))
    rw [e, e]
    by_cases ei : i = a
    ·subst ei; omega
    ·exact h1 i i1 (by omega)
   ·rw [if_neg hq]
    refine kGood.mono (fun x h => ⟨h.1, by have := h.2.1; omega, by have := h.2.2.1; omega, h.2.2.2⟩) _ (desc_good hn f _ (a + 1) 0 hp (by omega) (by omega) (fun i i1 i2 => ?_) (flat0 _))
    by_cases ei : i = a
    ·subst ei; omega
    ·exact h1 i i1 (by omega)
  ·rw [show lessR r (p.getD a 0) (p.getD (a - 1) 0) = false from yX c]; dsimp only; rw [if_neg kZ]
   refine ⟨hp.lt hn _, hp.lt hn _, ?_⟩
   by_cases d : rk r p (a - 1) < rk r p a
   ·rw [show lessR r (p.getD (a - 1) 0) (p.getD a 0) = true from yZ d]; dsimp only; rw [if_pos rfl]
    exact ⟨hp, jX _, Nat.le_add_right _ _, h1, h2⟩
   ·rw [show lessR r (p.getD (a - 1) 0) (p.getD a 0) = false from yX d]; dsimp only; rw [if_neg kZ]
    refine kGood.mono (fun x h => ⟨h.1, by have := h.2.1; omega, by have := h.2.2.1; omega, h.2.2.2⟩) _ (desc_good hn f _ (a + 1) (q + 1) hp (by omega) (by omega) (fun i i1 i2 => ?_) ⟨by have := h2.1; omega, fun i i1 i2 => ?_⟩)
    ·by_cases ei : i = a
     ·subst ei; omega
     ·exact h1 i i1 (by omega)
    ·have := h2.1
     show rk r p i = rk r p a
     by_cases ei : i = a
     ·rw [ei]
     ·rw [h2.2 i (by omega) (by omega)]; omega
def Rises (r : Nat → Int) (p : Array Nat) (m : Nat) : Prop := ∀ i j, i ≤ j → j < m → rk r p i ≤ rk r p j
theorem rises_of {p : Array Nat} {m : Nat} (h : ∀ i, 1 ≤ i → i < m → rk r p (i - 1) ≤ rk r p i) : Rises r p m := fun i j => mono_adj (fun i hi => h (i + 1) (by omega) hi) j i
theorem tail3_good (hn : 0 < n) {p : Array Nat} {m : Nat} (hp : PermN n p) (h1 : 1 ≤ m) (hm : m ≤ n) (h : Falls r p m) : kGood (lessR r) n (kas_tail3 m n p) fun x => PermN n x.2 ∧ 1 ≤ x.1 ∧ x.1 ≤ n ∧ Rises r x.2 x.1 := by
 refine kGood.bind _ (kGood.mono (fun k hk => ?_) _ (asc_good (hp.rev 0 m) hn (n - m) m))
 obtain ⟨k1, k2, k3, _⟩ := hk
 refine ⟨hp.rev _ _, by show 1 ≤ k; omega, by show k ≤ n; omega, rises_of fun i i1 i2 => ?_⟩
 by_cases c : i < m
 ·have hs : m ≤ p.size := by rw [hp.size]; exact hm
  rw [rk_rev hs, rk_rev hs, if_pos ⟨by omega, by omega⟩, if_pos ⟨by omega, c⟩]
  have := h (0 + m - 1 - (i - 1)) (by omega) (by omega)
  rw [show 0 + m - 1 - (i - 1) - 1 = 0 + m - 1 - i by omega] at this
  exact this
 ·exact k3 i (by omega) i2
theorem descPart_good (hn : 0 < n) {p : Array Nat} {m : Nat} (hp : PermN n p) (h1 : 1 ≤ m) (hm : m < n) (h : Falls r p (m + 1)) : kGood (lessR r) n (kas_descPart m n p) fun x => PermN n x.2 ∧ 1 ≤ x.1 ∧ x.1 ≤ n ∧ Rises r x.2 x.1 := by
 refine kGood.bind _ (kGood.mono (fun x hx => ?_) _ (desc_good hn (n - (m + 1)) p (m + 1) 0 hp (by omega) (by omega) h ⟨by omega, fun i i1 i2 => by rw [show i = m by omega]; rfl⟩))
 obtain ⟨x1, x2, x3, x4, x5⟩ := hx
 by_cases c : x.2.2 > 0
 ·rw [if_pos c]
  have e := rev_flat x1 (by omega) x5
  exact tail3_good hn (x1.rev _ _) (by omega) (by omega) fun i i1 i2 => by rw [e, e]; exact x4 i i1 i2
 ·rw [if_neg c]
  exact tail3_good hn x1 (by omega) (by omega) x4
theorem count_good (hn : 0 < n) {p : Array Nat} (hp : PermN n p) : kGood (lessR r) n (kas_count n p) fun x => PermN n x.2 ∧ 1 ≤ x.1 ∧ x.1 ≤ n ∧ Rises r x.2 x.1 := by
 refine kGood.bind _ (kGood.mono (fun m hm => ?_) _ (asc_good hp hn (n - 1) 1))
 obtain ⟨m1, m2, m3, m4⟩ := hm
 have up : Rises r p m := rises_of m3
 by_cases c : (m == n) = true
 ·rw [if_pos c]
  exact ⟨hp, m1, by show m ≤ n; omega, up⟩
 ·rw [if_neg c]
  have c' : m ≠ n := fun z => c (by rw [z]; exact beq_self_eq_true n)
  have dn := m4 (by omega)
  by_cases c1 : m > 1
  ·rw [if_pos c1]
   refine ⟨hp.lt hn _, hp.lt hn _, ?_⟩
   by_cases d : rk r p 0 < rk r p (m - 1)
   ·rw [show lessR r (p.getD 0 0) (p.getD (m - 1) 0) = true from yZ d]; dsimp only; rw [if_pos rfl]
    exact ⟨hp, m1, by show m ≤ n; omega, up⟩
   ·rw [show lessR r (p.getD 0 0) (p.getD (m - 1) 0) = false from yX d]; dsimp only; rw [if_neg kZ]
    have fl : Flat r p m (m - 1) := ⟨by omega, fun i i1 i2 => by
     have a1 := up 0 i (by omega) i2
     have a2 := up i (m - 1) (by omega) (by omega)
     omega⟩
    have e := rev_flat hp (by omega) fl
    rw [show m - (m - 1 + 1) = 0 by omega] at e
    refine descPart_good hn (hp.rev _ _) m1 (by omega) fun i i1 i2 => ?_
    rw [e, e]
    by_cases ei : i = m
    ·subst ei; omega
    ·rw [fl.2 i (by omega) (by omega), fl.2 (i - 1) (by omega) (by omega)]; exact kYa _
  ·rw [if_neg c1]
   refine descPart_good hn hp m1 (by omega) fun i i1 i2 => ?_
   have : i = m := by omega
   subst this; omega
theorem place_good (hn : 0 < n) {p : Array Nat} (hp : PermN n p) {k : Nat} (up : Rises r p k) : ∀ (f a b : Nat), a ≤ b → b ≤ k → b - a ≤ f → (∀ i, i < a → rk r p i ≤ rk r p k) → (∀ i, b ≤ i → i < k → rk r p k ≤ rk r p i) →
  kGood (lessR r) n (kas_place p k f a b) fun l => l ≤ k ∧ (∀ i, i < l → rk r p i ≤ rk r p k) ∧ ∀ i, l ≤ i → i < k → rk r p k ≤ rk r p i
 | 0, a, b, h1, h2, h3, h4, h5 => ⟨by omega, h4, fun i i1 i2 => h5 i (by omega) i2⟩
 | f + 1, a, b, h1, h2, h3, h4, h5 => by
  unfold kas_place
  by_cases c : a ≥ b
  ·rw [if_pos c]
   exact ⟨by omega, h4, fun i i1 i2 => h5 i (by omega) i2⟩
  ·rw [if_neg c]
   refine ⟨hp.lt hn _, hp.lt hn _, ?_⟩
   by_cases d : rk r p k < rk r p ((a + b) / 2)
   ·rw [show lessR r (p.getD k 0) (p.getD ((a + b) / 2) 0) = true from yZ d]; dsimp only; rw [if_pos rfl]
    refine place_good hn hp up f a ((a + b) / 2) (by omega) (by omega) (by omega) h4 fun i i1 i2 => ?_
    have := up ((a + b) / 2) i i1 i2
    omega
   ·rw [show lessR r (p.getD k 0) (p.getD ((a + b) / 2) 0) = false from yX d]; dsimp only; rw [if_neg kZ]
    refine place_good hn hp up f ((a + b) / 2 + 1) b (by omega) (by omega) (by omega) (fun i hi => ?_) h5
    have := up i ((a + b) / 2) (by omega) (by omega)
    omega
theorem bin_good (hn : 0 < n) : ∀ (f : Nat) (p : Array Nat) (k : Nat), PermN n p → k + f = n → Rises r p k → kGood (lessR r) n (kas_bin f p k) fun x => PermN n x ∧ Rises r x n
 | 0, p, k, hp, hk, up => ⟨hp, (show k = n by omega) ▸ up⟩
 | f + 1, p, k, hp, hk, up => by
  unfold kas_bin
  refine kGood.bind _ (kGood.mono (fun l hl => ?_) _ (place_good hn hp up k 0 k (wV _) (jX _) (by omega) (fun i hi => by omega) (fun i i1 i2 => by omega)))
  obtain ⟨l1, l2, l3⟩ := hl
  refine bin_good hn f _ (k + 1) ((bubble_perm _ _ _).trans hp) (by omega) ?_
  have eb : ∀ i, rk r (bubble p k (k - l)) i = if i = l then rk r p k else if l < i ∧ i ≤ k then rk r p (i - 1) else rk r p i := fun i => by
   have e := getElem?_bubble (xs := p) (src := k) (by rw [hp.size]; omega) (k - l) (by omega) i
   rw [show k - (k - l) = l by omega] at e
   by_cases c1 : i = l
   ·rw [if_pos c1] at e ⊢; exact rk_eq e
   ·rw [if_neg c1] at e ⊢
    by_cases c2 : l < i ∧ i ≤ k
    ·rw [if_pos c2] at e ⊢; exact rk_eq e
    ·rw [if_neg c2] at e ⊢; exact rk_eq e
  intro i j hij hj
  rw [eb, eb]
  by_cases a1 : i = l
  ·rw [if_pos a1]
   by_cases b1 : j = l
   ·rw [if_pos b1]; exact kYa _
   ·rw [if_neg b1, if_pos ⟨by omega, by omega⟩]
    exact l3 (j - 1) (by omega) (by omega)
  ·rw [if_neg a1]
   by_cases a2 : l < i ∧ i ≤ k
   ·rw [if_pos a2, if_neg (by omega), if_pos ⟨by omega, by omega⟩]
    exact up (i - 1) (j - 1) (by omega) (by omega)
   ·rw [if_neg a2]
    by_cases b1 : j = l
    ·rw [if_pos b1]; exact l2 i (by omega)
    ·rw [if_neg b1]
     by_cases b2 : l < j ∧ j ≤ k
     ·rw [if_pos b2]; exact up i (j - 1) (by omega) (by omega)
     ·rw [if_neg b2]; exact up i j hij (by omega)
theorem sort_good (hn : 0 < n) : kGood (lessR r) n (kas_sort n) fun x => PermN n x ∧ Rises r x n := by
 refine kGood.bind _ (kGood.mono (fun x hx => ?_) _ (count_good hn (p := List.toArray (List.range n)) (Array.Perm.refl _)))
 obtain ⟨x1, x2, x3, x4⟩ := hx
 by_cases c : x.1 < n
 ·rw [if_pos c, show max x.1 1 = x.1 by omega]
  exact bin_good hn _ _ _ x1 (by omega) x4
 ·rw [if_neg c]
  have e : x.1 = n := by omega
  rw [e] at x4
  exact ⟨x1, x4⟩
end
end L2
namespace L2
open PySem PySem.Spec PySem.W PyProof.Rows
open PySem.SeqAt
theorem cons_lt {a b : Int} {as bs : List Int} : decide (a :: as < b :: bs) = if a = b then decide (as < bs) else decide (a < b) := by
 rw [jQf]
 by_cases e : a = b
 ·subst e
  rw [if_pos rfl, decide_eq_true_iff, decide_eq_true_iff, List.cons_lt_cons_iff]
  constructor
  ·rintro (h | ⟨_, h⟩)
   ·omega
   ·exact h
  ·intro h; exact .inr ⟨rfl, h⟩
 ·rw [if_neg e, decide_eq_true_iff, decide_eq_true_iff, List.cons_lt_cons_iff]
  constructor
  ·rintro (h | ⟨h, _⟩)
   ·exact h
   ·exact absurd h e
  ·intro h; exact .inl h
theorem tuple_ltAt (l b : Addr) (items items2 : Array Value) (n n2 : Nat) (dd dd2 : Option Addr) (sl sl2 : Array (Option Value)) (ns ms : List Int) (i1 : IntsAre items.toList ns) (i2 : IntsAre items2.toList ms) :
  Meets (Builtin.«tuple.__lt__» ⟨[.ref l, .ref b], []⟩)
   (fun A R s => s.heap.get? l = some { cls := .type "tuple", dict := dd, data := .seq items n, slots := sl } ∧ s.heap.get? b = some { cls := .type "tuple", dict := dd2, data := .seq items2 n2, slots := sl2 } ∧
    R (.ok (.ret (.bool (decide (ns < ms))))) s) :=
 .of_wp fun prog w A R s h => by
  obtain ⟨hp, g, d, tk, os⟩ := s; obtain ⟨hl, hb, h⟩ := h
  have f2 := AutoSeq1.sub_tuple_tuple
  wp_walk using wpAny_loadPart' hl, wpAny_loadPart' hb, wpAny_forIn_list _ (fun rest b s' => b.1 = none ∧ s' = ⟨hp, g, d, tk, os⟩ ∧ ∃ ys xs ns' ms' c, rest = List.zip ys xs ∧ IntsAre ys ns' ∧ IntsAre xs ms' ∧ ys.length + c = items.size ∧ xs.length + c = items2.size ∧
   R (.ok (.ret (.bool (decide (ns' < ms'))))) ⟨hp, g, d, tk, os⟩) _
  case turn =>
   rintro ⟨y, x⟩ rest b s' ⟨hb', rfl, ys, xs, ns', ms', c, hz, j1, j2, k1, k2, hR⟩
   cases j1 with
   | nil => cases hz
   | cons a t j1 =>
    cases j2 with
    | nil => cases hz
    | cons a' t' j2 =>
     rw [List.zip_cons_cons] at hz
     injection hz with hz1 hz2
     injection hz1 with hy hx
     subst hy hx
     rw [cons_lt] at hR
     rw [yJ] at k1 k2
     refine jZ (EqAt.int_int a t a' t' prog w _ _ ?_)
     by_cases e : a = a'
     ·subst e
      rw [if_pos rfl] at hR
      rw [beq_self_eq_true]
      wp_walk
      exact ⟨rfl, rfl, _, _, _, _, c + 1, hz2, j1, j2, by omega, by omega, hR⟩
     ·rw [if_neg e] at hR
      rw [show (a == a') = false from by simpa using e]
      wp_walk using (show wpAny (model prog w) _ (richCompare .Lt (.int a t) (.int a' t')) _ _ _ from lt_int ?_)
      exact ⟨_, rfl, hR⟩
  case fin =>
   rintro ⟨b1, b2⟩ s' ⟨hb', rfl, ys, xs, ns', ms', c, hz, j1, j2, k1, k2, hR⟩
   simp only at hb'
   subst hb'
   wp_walk
   refine ⟨_, rfl, ?_⟩
   have e : decide (ns' < ms') = decide (items.size < items2.size) := by
    cases j1 with
    | nil =>
     cases j2 with
     | nil => rw [← k1, ← k2, yX (jJc _)]; rfl
     | cons a t j2 =>
      rw [yJ] at k2
      rw [kQc] at k1
      rw [yZ (show items.size < items2.size by omega)]
      exact yZ (List.nil_lt_cons _ _)
    | cons a t j1 =>
     cases j2 with
     | nil =>
      rw [yJ] at k1
      rw [kQc] at k2
      rw [yX (show ¬ items.size < items2.size by omega)]
      exact yX (List.not_lt_nil _)
     | cons a' t' j2 => rw [List.zip_cons_cons] at hz; cases hz
   rw [e] at hR
   exact hR
  case h =>
   exact ⟨rfl, rfl, _, _, _, _, 0, rfl, i1, i2, by simp, by simp, h⟩
section
variable {prog : Program} {w : World} {A : Around} {E : Value → Shared → Prop} {s : Shared}
theorem lt_tups {l b : Addr} {items items2 : Array Value} {ns ms : List Int} {Q : Value → Shared → Prop} (hl : s.heap.IsTuple l items) (hb : s.heap.IsTuple b items2) (i1 : IntsAre items.toList ns) (i2 : IntsAre items2.toList ms) (hu : A.units < cLine)
  (h : Q (.bool (decide (ns < ms))) s) : wpAny (model prog w) A (compareOp .Lt (.ref l) (.ref b)) Q E s := by
 obtain ⟨⟨cls, dd, data, sl⟩, ho, hc, n, hd⟩ := id hl
 obtain ⟨⟨cls2, dd2, data2, sl2⟩, ho2, hc2, n2, hd2⟩ := id hb
 simp only at hc hd hc2 hd2
 subst hc hd hc2 hd2
 exact richCompare_meets_room (op := .Lt) ⟨_, ho, rfl⟩ ⟨_, ho2, rfl⟩ F.slot_tuple_lt F.entry_tuple_lt (F.args_tuple_lt_2 _ _) (tuple_ltAt l b items items2 n n2 dd dd2 sl sl2 ns ms i1 i2)
  ⟨ho, ho2, show Value.bool (decide (ns < ms)) ≠ Value.notImplemented ∧ Q (.bool (decide (ns < ms))) s from ⟨(fun x => nomatch x), h⟩⟩ hu
theorem IntsAre_inj {vs : List Value} {ns ms : List Int} (h : IntsAre vs ns) (g : IntsAre vs ms) : ns = ms := by
 induction h generalizing ms with
 | nil => cases g; rfl
 | cons n t h ih =>
  cases g with
  | cons _ _ h' => rw [ih h']
theorem IntsAre_get : ∀ {vs : List Value} {ns : List Int}, IntsAre vs ns → ∀ (j : Nat) (h : j < vs.length), ∃ n t, ns[j]? = some n ∧ vs[j] = .int n t
 | _, _, .nil, j, h => by simp at h
 | _, _, .cons n t h', 0, h => ⟨n, t, rfl, rfl⟩
 | _, _, .cons n t h', j + 1, h => by
  obtain ⟨m, u, e1, e2⟩ := IntsAre_get h' j (by simpa using h)
  exact ⟨m, u, by simpa using e1, by simpa using e2⟩
theorem IntsAre_len : ∀ {vs : List Value} {ns : List Int}, IntsAre vs ns → vs.length = ns.length
 | _, _, .nil => rfl
 | _, _, .cons n t h => by rw [yJ, yJ, IntsAre_len h]
theorem eq_tups {l b : Addr} {items items2 : Array Value} {ns ms : List Int} (hl : s.heap.IsTuple l items) (hb : s.heap.IsTuple b items2) (i1 : IntsAre items.toList ns) (i2 : IntsAre items2.toList ms) (hu : A.units < cLine) :
  EqAt A s (.ref l) (.ref b) (decide (ns = ms)) := by
 by_cases e : l = b
 ·subst e
  obtain ⟨o, ho, _, n, hd⟩ := hl
  obtain ⟨o2, ho2, _, n2, hd2⟩ := hb
  rw [ho] at ho2
  cases ho2
  rw [hd] at hd2
  injection hd2 with hd2
  subst hd2
  rw [yZ (IntsAre_inj i1 i2)]
  exact EqAt.same _
 ·have l1 := IntsAre_len i1
  have l2 := IntsAre_len i2
  rw [xV] at l1 l2
  have key := RcAt.tuples (A := A) (s := s) (e := fun j => decide (ns[j]? = ms[j]?)) hl hb hu fun j h1 h2 => by
   obtain ⟨x, t, ex, vx⟩ := IntsAre_get i1 j (by rw [xV]; exact h1)
   obtain ⟨y, u, ey, vy⟩ := IntsAre_get i2 j (by rw [xV]; exact h2)
   rw [jKf] at vx vy
   rw [vx, vy, ex, ey]
   have : decide (some x = some y) = (x == y) := by
    rw [jQf, decide_eq_true_iff, beq_iff_eq]
    exact ⟨fun h => Option.some.inj h, fun h => congrArg some h⟩
   rw [this]
   exact EqAt.int_int x t y u
  have eq : ((List.range (min items.size items2.size)).all (fun j => decide (ns[j]? = ms[j]?)) && items.size == items2.size) = decide (ns = ms) := by
   rw [jQf, decide_eq_true_iff, yW, jZc, beq_iff_eq]
   constructor
   ·rintro ⟨h1, h2⟩
    refine jKb fun j => ?_
    by_cases hj : j < ns.length
    ·exact zQ (h1 j (jZb.mpr (by omega)))
    ·rw [jYc (by omega), jYc (by omega)]
   ·rintro rfl
    exact ⟨fun j _ => yZ rfl, by omega⟩
  rw [eq] at key
  exact EqAt.of_refs e key
end
abbrev Row := List Int × Int
def rowLt (r q : Row) : Bool := if r.1 = q.1 then decide (r.2 < q.2) else decide (r.1 < q.1)
theorem rowLt_iff {r q : Row} : rowLt r q = true ↔ r.1 < q.1 ∨ (r.1 = q.1 ∧ r.2 < q.2) := by
 unfold rowLt
 by_cases e : r.1 = q.1
 ·rw [if_pos e, decide_eq_true_iff]
  constructor
  ·intro h; exact .inr ⟨e, h⟩
  ·rintro (h | ⟨_, h⟩)
   ·rw [e] at h; exact absurd h (List.lt_irrefl _)
   ·exact h
 ·rw [if_neg e, decide_eq_true_iff]
  constructor
  ·intro h; exact .inl h
  ·rintro (h | ⟨h, _⟩)
   ·exact h
   ·exact absurd h e
theorem rowLt_irrefl (r : Row) : rowLt r r = false := by
 rw [← Bool.not_eq_true, rowLt_iff]
 rintro (h | ⟨_, h⟩)
 ·exact absurd h (List.lt_irrefl _)
 ·omega
theorem rowLt_trans {a b c : Row} (h1 : rowLt a b = true) (h2 : rowLt b c = true) : rowLt a c = true := by
 rw [rowLt_iff] at *
 rcases h1 with h1 | ⟨e1, h1⟩ <;> rcases h2 with h2 | ⟨e2, h2⟩
 ·exact .inl (List.lt_trans h1 h2)
 ·exact .inl (e2 ▸ h1)
 ·exact .inl (e1 ▸ h2)
 ·exact .inr ⟨e1.trans e2, by omega⟩
theorem rowLt_total {a b : Row} (h1 : rowLt a b = false) (h2 : rowLt b a = false) : a = b := by
 rw [← Bool.not_eq_true, rowLt_iff] at h1 h2
 have e : a.1 = b.1 := List.le_antisymm (List.not_lt.mp fun z => h2 (.inl z)) (List.not_lt.mp fun z => h1 (.inl z))
 have e2 : a.2 = b.2 := by
  have : ¬ a.2 < b.2 := fun z => h1 (.inr ⟨e, z⟩)
  have : ¬ b.2 < a.2 := fun z => h2 (.inr ⟨e.symm, z⟩)
  omega
 exact Prod.ext e e2
def rankIn (S : List Row) (x : Row) : Int := ((S.countP fun y => rowLt y x : Nat) : Int)
theorem count_lt {p q : Row → Bool} {x : Row} : ∀ {S : List Row}, (∀ y, p y = true → q y = true) → x ∈ S → p x = false → q x = true → S.countP p < S.countP q
 | y :: S, h, hx, h1, h2 => by
  rw [List.countP_cons, List.countP_cons]
  have le : S.countP p ≤ S.countP q := List.countP_mono_left fun z _ => h z
  rcases wY.mp hx with e | hx
  ·subst e
   rw [h1, h2]
   simp
   omega
  ·have := count_lt h hx h1 h2
   have : (if p y = true then 1 else 0) ≤ (if q y = true then 1 else 0) := by
    by_cases e : p y = true
    ·rw [if_pos e, if_pos (h y e)]; exact jX _
    ·rw [if_neg e]; exact wV _
   omega
theorem rank_lt {S : List Row} {x y : Row} (hx : x ∈ S) (hy : y ∈ S) : decide (rankIn S x < rankIn S y) = rowLt x y := by
 have up : ∀ {a b : Row}, a ∈ S → rowLt a b = true → rankIn S a < rankIn S b := fun {a b} ha h => by
  have := count_lt (p := fun y => rowLt y a) (q := fun y => rowLt y b) (fun z hz => rowLt_trans hz h) ha (rowLt_irrefl a) h
  unfold rankIn
  omega
 cases e : rowLt x y with
 | true => exact yZ (up hx e)
 | false =>
  refine yX fun z => ?_
  cases e2 : rowLt y x with
  | true => have := up hy e2; omega
  | false => rw [rowLt_total e e2] at z; omega
def RowIn (h : Heap) (v : Value) (r : Row) : Prop := ∃ (a b : Addr) (its : Array Value) (t : Tok), v = .ref a ∧ h.IsTuple a #[.ref b, .int r.2 t] ∧ h.IsTuple b its ∧ IntsAre its.toList r.1
theorem IsTuple_ext {h h' : Heap} (k : ∀ b o, h.get? b = some o → h'.get? b = some o) {a : Addr} {its : Array Value} (z : h.IsTuple a its) : h'.IsTuple a its := by obtain ⟨o, e, r⟩ := z; exact ⟨o, k _ _ e, r⟩
theorem RowIn.ext {h h' : Heap} (k : ∀ b o, h.get? b = some o → h'.get? b = some o) {v : Value} {r : Row} (z : RowIn h v r) : RowIn h' v r := by
 obtain ⟨a, b, its, t, e, z1, z2, z3⟩ := z; exact ⟨a, b, its, t, e, IsTuple_ext k z1, IsTuple_ext k z2, z3⟩
section
variable {prog : Program} {w : World} {A : Around} {E : Value → Shared → Prop} {s : Shared}
theorem key_lt {x y : Value} {r q : Row} {Q : Bool → Shared → Prop} (hx : RowIn s.heap x r) (hy : RowIn s.heap y q) (hu : A.units + 1 < cLine) (h : Q (rowLt r q) s) : wpAny (model prog w) A (keyLt' (tuples' false) x y) Q E s := by
 obtain ⟨a, b, its, t, rfl, x1, x2, x3⟩ := hx
 obtain ⟨a', b', its', t', rfl, y1, y2, y3⟩ := hy
 obtain ⟨o, ho, _, n, hd⟩ := x1
 obtain ⟨o', ho', _, n', hd'⟩ := y1
 refine kat_lt ho hd ho' hd' (kat_cons (eq_tups x2 y2 x3 y3 (by omega) _ _ _ _ ?_))
 unfold rowLt at h
 by_cases e : r.1 = q.1
 ·rw [if_pos e] at h
  rw [yZ e]
  refine kat_yes (kat_cons (EqAt.int_int _ _ _ _ _ _ _ _ ?_))
  by_cases e2 : r.2 = q.2
  ·rw [show (r.2 == q.2) = true by simpa using e2]
   refine kat_yes (kat_nil ?_)
   rw [e2, yX (Int.lt_irrefl _)] at h
   exact h
  ·rw [show (r.2 == q.2) = false by simpa using e2]
   exact kat_no (kat_one _ _ (lt_int h))
 ·rw [if_neg e] at h
  rw [yX e]
  exact kat_no (kat_one _ _ (lt_tups x2 y2 x3 y3 (by omega) h))
theorem rows_tups {h : Heap} : ∀ {vs : List Value} {rs : List Row}, Paired (RowIn h) vs rs → ∃ fs, KatTups h vs fs ∧ fs.length = vs.length ∧ ∀ f ∈ fs, ∃ b its, f = .ref b ∧ h.IsTuple b its
 | _, _, .nil => ⟨[], trivial, rfl, fun f hf => nomatch hf⟩
 | _, _, .cons z r => by
  obtain ⟨a, b, its, t, rfl, ⟨o, ho, hc, n, hd⟩, z2, z3⟩ := z
  obtain ⟨fs, k, l, p⟩ := rows_tups r
  refine ⟨.ref b :: fs, .cons ho hc hd rfl k, by rw [yJ, yJ, l], fun f hf => ?_⟩
  rcases wY.mp hf with e | hf
  ·exact ⟨b, its, e, z2⟩
  ·exact p f hf
theorem key_kind {vs : List Value} {rs : List Row} {Q : SortKind → Shared → Prop} (hr : Paired (RowIn s.heap) vs rs) (h1 : 0 < vs.length) (h : Q (tuples' false) s) : wpAny (model prog w) A (keyKind' vs.toArray) Q E s := by
 obtain ⟨fs, k, l, p⟩ := rows_tups hr
 refine kat_kind (T := .type "tuple") k (by omega) (fun v hv => ?_) (by decide) h
 obtain ⟨b, its, rfl, o, ho, hc, _⟩ := p v hv
 rw [← hc]
 exact (Looks.ld ho).andThen .now
end
end L2
namespace L2
open PySem PySem.Spec PySem.W PyProof.Rows
open PySem.SeqAt
theorem Paired.getR {α β : Type} {R : α → β → Prop} {xs : List α} {ys : List β} (h : Paired R xs ys) : ∀ {i : Nat} {x : α}, xs[i]? = some x → ∃ y, ys[i]? = some y ∧ R x y := by
 induction h with
 | nil => intro i x e; simp at e
 | cons r t ih =>
  intro i x e
  cases i with
  | zero => simp at e; subst e; exact ⟨_, rfl, r⟩
  | succ i => obtain ⟨y, e1, e2⟩ := ih (i := i) (by simpa using e); exact ⟨y, by simpa using e1, e2⟩
theorem Paired.pick {α β : Type} {R : α → β → Prop} {xs : List α} {ys : List β} (h : Paired R xs ys) (a : α) (b : β) : ∀ (is : List Nat), (∀ i ∈ is, i < xs.length) → Paired R (is.map fun i => xs.getD i a) (is.map fun i => ys.getD i b)
 | [], _ => .nil
 | i :: is, hi => by
  have hlt := hi i xZ
  obtain ⟨y, e1, e2⟩ := Paired.getR h (gE hlt)
  have f1 : xs.getD i a = xs[i] := by rw [yV, gE hlt]; rfl
  have f2 : ys.getD i b = y := by rw [yV, e1]; rfl
  refine .cons ?_ (Paired.pick h a b is fun j hj => hi j (zY _ hj))
  show R (xs.getD i a) (ys.getD i b)
  rw [f1, f2]; exact e2
theorem range_get {α : Type} (l : List α) (d : α) : (List.range l.length).map (fun i => l.getD i d) = l := by
 refine jKb fun i => ?_
 rw [kY]
 by_cases hi : i < l.length
 ·rw [kQe hi, gE hi]
  show some (l.getD i d) = _
  rw [yV, gE hi]; rfl
 ·rw [jYc (by rw [jQa]; omega), jYc (by omega)]; rfl
theorem order_rows {rs : List Row} {p : Array Nat} (hp : PermN rs.length p) (up : Rises (fun i => rankIn rs (rs.getD i ([], 0))) p rs.length) :
  (p.toList.map fun i => rs.getD i ([], 0)).Perm rs ∧ (p.toList.map fun i => rs.getD i ([], 0)).Pairwise fun x y => rowLt y x = false := by
 have pl : p.toList.Perm (List.range rs.length) := by simpa using jYa.mp hp
 have sz := hp.size
 have gm : ∀ i, i < rs.length → rs.getD i ([], 0) ∈ rs := fun i hi => by
  rw [yV, gE hi]; exact jKd hi
 constructor
 ·have := pl.map (fun i => rs.getD i ([], 0))
  rw [range_get] at this
  exact this
 ·rw [List.pairwise_map, jYe]
  intro i j hi hj hij
  rw [xV] at hi hj
  have u := up i j (kQf hij) (by omega)
  have ei : p.getD i 0 = p.toList[i] := by rw [jXd, Array.getElem?_eq_getElem hi]; rfl
  have ej : p.getD j 0 = p.toList[j] := by rw [jXd, Array.getElem?_eq_getElem hj]; rfl
  unfold rk at u
  rw [ei, ej] at u
  dsimp only at u
  have li : p.toList[i] < rs.length := jZb.mp (pl.mem_iff.mp (jKd _))
  have lj : p.toList[j] < rs.length := jZb.mp (pl.mem_iff.mp (jKd _))
  rw [← rank_lt (S := rs) (gm _ lj) (gm _ li)]
  exact yX (by omega)
section
variable {prog : Program} {w : World} {A : Around} {E : Value → Shared → Prop} {s : Shared}
theorem runs_rows {vs : List Value} {rs : List Row} {Q : SortSt → Shared → Prop} (hr : Paired (RowIn s.heap) vs rs) (h2 : 2 ≤ vs.length) (h64 : vs.length < 64) (hu : A.units + 1 < cLine)
  (h : ∀ (st' : SortSt) (p : Array Nat), PermN vs.length p → (arrOf st').map (·.2) = List.toArray (p.toList.map fun i => vs.getD i Value.none) → failedOf st' = none →
   (p.toList.map fun i => rs.getD i ([], 0)).Perm rs → (p.toList.map fun i => rs.getD i ([], 0)).Pairwise (fun x y => rowLt y x = false) → Q st' s) :
  wpAny (model prog w) A ((sortRuns').run (SortSt.mk' (tuples' false) (vs.toArray.zip vs.toArray) #[] 7 none)) (fun r s' => Q r.2 s') E s := by
 have ln : vs.length = rs.length := Paired.length hr
 refine kat_run (G := fun p s' => s' = s ∧ PermN vs.length p ∧ Rises (fun i => rankIn rs (rs.getD i ([], 0))) p vs.length) rfl h2 h64 (fun p st' s' h1 h2 h3 h4 => ?_) ?_
 ·obtain ⟨rfl, g1, g2⟩ := h4
  rw [ln] at g2
  have o := order_rows (ln ▸ g1) g2
  exact h st' p g1 (kat_snds rfl h2) h3 o.1 o.2
 ·refine kGood.wp (f := lessR fun i => rankIn rs (rs.getD i ([], 0))) (n := vs.length) (fun i j C hi hj hC => ?_) (fun p hp => ⟨rfl, hp⟩) _ (sort_good (by omega))
  obtain ⟨r, er, zr⟩ := Paired.getR hr (gE hi)
  obtain ⟨q, eq, zq⟩ := Paired.getR hr (gE hj)
  have f1 : vs.getD i Value.none = vs[i] := by rw [yV, gE hi]; rfl
  have f2 : vs.getD j Value.none = vs[j] := by rw [yV, gE hj]; rfl
  have g1 : rs.getD i ([], 0) = r := by rw [yV, er]; rfl
  have g2 : rs.getD j ([], 0) = q := by rw [yV, eq]; rfl
  unfold kas_ask
  rw [f1, f2]
  refine key_lt zr zq hu ?_
  rw [← rank_lt (S := rs) (zZ er) (zZ eq)]
  have hC' : C (decide (rankIn rs (rs.getD i ([], 0)) < rankIn rs (rs.getD j ([], 0)))) s := hC
  rw [g1, g2] at hC'
  exact hC'
theorem sort_rows {a : Addr} {vs : List Value} {rs : List Row} {n : Nat} {P : PySem.Fin → Shared → Prop} (ho : s.heap.get? a = some (seqObj "list" vs.toArray n)) {h₀ : Heap} (ext : ∀ b o, h₀.get? b = some o → b ≠ a ∧ s.heap.get? b = some o) (hr : Paired (RowIn h₀) vs rs)
  (h64 : vs.length < 64) (hu : A.units + 1 < cLine)
  (h : ∀ (p : List Nat), (∀ i ∈ p, i < vs.length) → (p.map fun i => rs.getD i ([], 0)).Perm rs → (p.map fun i => rs.getD i ([], 0)).Pairwise (fun x y => rowLt y x = false) →
   P (.done (.ret .none)) { s with heap := sortedHeap s.heap a vs (List.toArray (p.map fun i => vs.getD i Value.none)) }) :
  wpAny (model prog w) A (Builtin.«list.sort» ⟨[.ref a], []⟩) P E s := by
 have ln : vs.length = rs.length := Paired.length hr
 have ha : a < s.heap.objs.size := kJ ho
 obtain ⟨e1, ho1⟩ : ∃ e1, (s.heap.update a (Obj.mapSeq fun _ => #[])).get? a = some (seqObj "list" #[] e1) := ⟨_, get?_update_seq ho (fun _ => #[])⟩
 have keep : ∀ b o, h₀.get? b = some o → (((s.heap.update a (Obj.mapSeq fun _ => #[])).push (seqObj "tuple" vs.toArray 0)).push (seqObj "list" #[] 0)).get? b = some o := fun b o e => by
  obtain ⟨n1, e1⟩ := ext b o e
  refine jK _ (jK _ ?_)
  rw [Heap.get?_update_ne _ _ _ _ n1]; exact e1
 have ho6 : (((s.heap.update a (Obj.mapSeq fun _ => #[])).push (seqObj "tuple" vs.toArray 0)).push (seqObj "list" #[] 0)).get? a = some (seqObj "list" #[] e1) := jK _ (jK _ ho1)
 have fin : ∀ (st' : SortSt) (out : List Value), (arrOf st').map (·.2) = List.toArray out → failedOf st' = none → out.length = vs.length → P (.done (.ret .none)) { s with heap := sortedHeap s.heap a vs (List.toArray out) } →
   wpAny (model prog w) A (do
    let sorted := (arrOf st').map (·.2)
    let touched := (← seqEpoch a) != e1
    Builtin.List.listUpdate (.ref a) fun _ => sorted
    if let some e := failedOf st' then rule "list.sort.comparison-raised"; throw e
    if touched then rule "list.sort.modified"; raiseError "ValueError" "list modified during sort"
    ret .none) P E { s with heap := ((s.heap.update a (Obj.mapSeq fun _ => #[])).push (seqObj "tuple" vs.toArray 0)).push (seqObj "list" #[] 0) } := fun st' out h1 h2 h3 h4 => by
  dsimp only
  rw [h1]
  refine jZ (seqEpoch_at ho6 rfl ?_)
  refine jZ (listUpdate_at ho6 rfl ?_ (hsz2 := by rw [jY, sizeLine_eq]; omega))
  rw [h2]
  simp only [bne_self_eq_false, wX, if_false]
  exact kK h4
 rw [list_sort_plain]
 refine jZ (listItems_at ho rfl ?_)
 refine jZ (listUpdate_at ho rfl ?_)
 refine jZ (seqEpoch_at ho1 rfl ?_)
 refine jZ (wpAny_newTuple ?_)
 refine jZ (wpAny_newList ?_)
 refine wpAny_holding ?_
 show wpAny (model prog w) A _ P E { s with heap := ((s.heap.update a (Obj.mapSeq fun _ => #[])).push (seqObj "tuple" vs.toArray 0)).push (seqObj "list" #[] 0) }
 dsimp only
 have hsz : vs.toArray.size = vs.length := by simp
 by_cases h2 : vs.toArray.size < 2
 ·rw [if_pos h2, if_pos h2]
  refine jZ (kK ?_)
  rw [StateT.run_pure]
  refine jZ (kK ?_)
  have one : (List.range vs.length).map (fun i => rs.getD i ([], 0)) = rs := by rw [ln]; exact range_get _ _
  have o := h (List.range vs.length) (fun i hi => jZb.mp hi) (by rw [one]) (by
   rw [one, jYe]
   intro i j hi hj hij
   omega)
  rw [range_get] at o
  refine fin (SortSt.mk' general' (vs.toArray.zip vs.toArray) #[] 7 none) vs ?_ rfl rfl o
  show (vs.toArray.zip vs.toArray).map (·.2) = _
  apply Array.toList_inj.mp
  simp
  exact List.map_snd_zip (jX _)
 ·rw [if_neg h2, if_neg h2]
  have hr' : Paired (RowIn (((s.heap.update a (Obj.mapSeq fun _ => #[])).push (seqObj "tuple" vs.toArray 0)).push (seqObj "list" #[] 0))) vs rs := Paired.imp' (fun _ _ z => RowIn.ext keep z) hr
  refine jZ (key_kind (s := { s with heap := ((s.heap.update a (Obj.mapSeq fun _ => #[])).push (seqObj "tuple" vs.toArray 0)).push (seqObj "list" #[] 0) }) hr' (by omega) ?_)
  refine jZ (wpAny_mono (runs_rows (s := { s with heap := ((s.heap.update a (Obj.mapSeq fun _ => #[])).push (seqObj "tuple" vs.toArray 0)).push (seqObj "list" #[] 0) })
   (Q := fun st' s' => s' = { s with heap := ((s.heap.update a (Obj.mapSeq fun _ => #[])).push (seqObj "tuple" vs.toArray 0)).push (seqObj "list" #[] 0) } ∧ ∃ p : Array Nat, PermN vs.length p ∧ (arrOf st').map (·.2) = List.toArray (p.toList.map fun i => vs.getD i Value.none) ∧ failedOf st' = none ∧
    (p.toList.map fun i => rs.getD i ([], 0)).Perm rs ∧ (p.toList.map fun i => rs.getD i ([], 0)).Pairwise (fun x y => rowLt y x = false))
   hr' (by omega) h64 hu fun st' p h1 h2 h3 h4 h5 => ⟨rfl, p, h1, h2, h3, h4, h5⟩) ?_ fun _ _ e => e)
  rintro ⟨⟨⟩, st'⟩ s' ⟨rfl, p, g1, g2, g3, g4, g5⟩
  have pl : p.toList.Perm (List.range vs.length) := by simpa using jYa.mp g1
  refine fin st' _ g2 g3 (by rw [jQ, xV, g1.size]) (h p.toList (fun i hi => jZb.mp (pl.mem_iff.mp hi)) g4 g5)
theorem sorted_rows {l : Addr} {vs : List Value} {rs : List Row} {Q : Value → Shared → Prop} (hl : s.heap.IsList l vs.toArray) (hr : Paired (RowIn s.heap) vs rs) (h64 : vs.length < 64) (hu : A.units + 3 < cLine)
  (h : ∀ (p : List Nat), (∀ i ∈ p, i < vs.length) → (p.map fun i => rs.getD i ([], 0)).Perm rs → (p.map fun i => rs.getD i ([], 0)).Pairwise (fun x y => rowLt y x = false) →
   Q (.ref (s.heap.objs.size + 1)) { s with heap := sortedAll s.heap vs (List.toArray (p.map fun i => vs.getD i Value.none)) }) :
  wpAny (model prog w) A (call (.builtin "sorted") [.ref l]) Q E s := by
 refine Calls.call_function_entry kind_sorted plain_sorted entry_sorted (args_sorted1 _) ?_
 unfold Builtin.«sorted»
 refine jZ (m := checkCount "sorted" 1 1 _) (kK ?_)
 refine jZ (collect_list hl ?_)
 refine jZ (wpAny_newList ?_)
 have hsz : ((s.heap.push (seqObj "list" #[] 0)).update s.heap.objs.size (Obj.mapSeq (· ++ vs.toArray))).objs.size = s.heap.objs.size + 1 := by
  rw [Heap.size_update, size_push']
 have hoL : (((s.heap.push (seqObj "list" #[] 0)).update s.heap.objs.size (Obj.mapSeq (· ++ vs.toArray))).push (seqObj "list" vs.toArray 0)).get? (s.heap.objs.size + 1) = some (seqObj "list" vs.toArray 0) := by
  rw [← hsz]; exact zX _ rfl
 have keep : ∀ b o, s.heap.get? b = some o → b ≠ s.heap.objs.size + 1 ∧ (((s.heap.push (seqObj "list" #[] 0)).update s.heap.objs.size (Obj.mapSeq (· ++ vs.toArray))).push (seqObj "list" vs.toArray 0)).get? b = some o := fun b o e => by
  have hlt : b < s.heap.objs.size := kJ e
  refine ⟨zV (kXf hlt), jK _ ?_⟩
  rw [Heap.get?_update_ne _ _ _ _ (zV hlt)]
  exact jK _ e
 show wpAny _ _ _ _ _ { s with heap := ((s.heap.push (seqObj "list" #[] 0)).update s.heap.objs.size (Obj.mapSeq (· ++ vs.toArray))).push (seqObj "list" vs.toArray 0) }
 rw [hsz]
 refine jZ (wpAny_holding (wpAny_call_entry slot_list_sort ⟨_, hoL, rfl⟩ entry_list_sort (sort_rows (s := { s with heap := ((s.heap.push (seqObj "list" #[] 0)).update s.heap.objs.size (Obj.mapSeq (· ++ vs.toArray))).push (seqObj "list" vs.toArray 0) }) hoL keep hr h64 (by show A.units + 1 + 1 + 1 < cLine; omega) fun p h1 h2 h3 => ⟨_, rfl, ?_⟩) (args_list_sort _)))
 exact kK ⟨_, rfl, h p h1 h2 h3⟩
end
section
variable {X : Cx}
theorem rowIn_of {pins : List (Addr × Obj)} {σ : St} {H : Hp} {s : Shared} (I : Inv X pins σ H s) {t : Addr} {r : Row} (h : Nb.RowAt X.K H t r) : RowIn s.heap (.ref t) r := by
 obtain ⟨p, h1, h2⟩ := h
 obtain ⟨its, r1, p1, _⟩ := I.tuple h1
 obtain ⟨its2, r2, p2, _⟩ := I.tuple h2
 obtain ⟨u, u2, rfl, ru, ru2⟩ := Vals.two r1
 cases ru
 obtain ⟨tk, rfl⟩ := ru2
 exact ⟨t, p, its2.toArray, tk, rfl, p1, p2, intsAre_of r2⟩
theorem rowsIn_of {pins : List (Addr × Obj)} {σ : St} {H : Hp} {s : Shared} (I : Inv X pins σ H s) : ∀ {vs : List V} {us : List Value} {rs : List Row}, Vals vs us → Nb.RowsAre X.K H vs rs → Paired (RowIn s.heap) us rs := by
 intro vs us rs hv h
 unfold Nb.RowsAre at h
 induction h generalizing us with
 | nil => have e := hv.nil_iff.mpr rfl; subst e; exact .nil
 | cons z t ih =>
  obtain ⟨a, rfl, z⟩ := z
  cases hv with
  | cons ru rr =>
   cases ru
   exact .cons (rowIn_of I z) (ih rr)
theorem call_sortedR {K : Fg} (hK : X.K = K) (hu : X.A.units + 6 < cLine) : CallR X (.builtin "sorted") (fun xs H Q => ∃ (l : Addr) (vs : List V) (rs : List Row), xs = [.ref l] ∧ SqL K H l vs ∧ Nb.RowsAre K H vs rs ∧ vs.length < 64 ∧
  ∀ (D : Addr) (ws : List V) (qs : List Row), H D = none → Nb.RowsAre K H ws qs → ws.length = vs.length → qs.Perm rs → qs.Pairwise (fun x y => rowLt y x = false) → Q (.ref D) (upd H D (.lst ws))) := by
 subst hK
 intro pins s σ H xs us Q I rv h
 obtain ⟨l, vs, rs, rfl, hq, hr, h64, q⟩ := h
 obtain ⟨u, rfl, ru⟩ := rv.one
 cases ru
 obtain ⟨its, r, p, hz⟩ := I.list hq
 have lv : vs.length = its.length := r.length
 refine sorted_rows p.isList (rowsIn_of I r hr) (by omega) (by omega) fun o h1 h2 h3 => ?_
 obtain ⟨e, he⟩ := sortedAll_at s.heap its (List.toArray (o.map fun i => its.getD i Value.none))
 have lo : o.length = vs.length := by
  have := h2.length_eq
  rw [jQ] at this
  rw [this]; exact (Nb.RowsAre.length hr).symm
 refine ⟨.ref (s.heap.objs.size + 1), _, I.laid (t' := s.toks) (o := .lst (o.map fun i => vs.getD i .non)) (fun b ob z => sortedAll_old z) (kZb _) ⟨by rw [jQ]; omega, _, e, ?_, he⟩, rfl, q _ _ _ (I.hok.fresh (kZb _)) ?_ (by rw [jQ]; exact lo) h2 h3⟩
 ·exact Paired.pick r .non Value.none o fun i hi => by rw [lv]; exact h1 i hi
 ·exact Paired.pick hr .non ([], 0) o fun i hi => by rw [lv]; exact h1 i hi
end
end L2
namespace L2
open PySem PySem.Spec PyProof.Rows PySem.W
section
variable {X : Cx}
theorem call_set_of (hc : X.calm = true) : CallR X (.type "set") (fun xs H Q => ∃ (l : Addr) (ns : List Int), xs = [.ref l] ∧ SqL X.K H l (ns.map V.int) ∧ ns.length < 4000 ∧ ∀ (d : Addr) (S : Int → Bool), H d = none → Q (.ref d) (upd H d (.set S (ns.foldl step_dedup []).length))) := by
 intro pins s σ H xs us Q I rv h
 obtain ⟨l, ns, rfl, hl, hz, q⟩ := h
 obtain ⟨u, rfl, ru⟩ := rv.one
 cases ru
 obtain ⟨its, r, pl, _⟩ := I.list hl
 have lr := r.length
 rw [jQ] at lr
 have e1 : (List.range its.toArray.size).map (fun i => ns.getD i 0) = ns := by
  rw [jY, ← lr]
  apply jKb
  intro i
  by_cases hi : i < ns.length
  ·rw [kY, kQe hi, gE hi]
   show some (ns.getD i 0) = _
   rw [yV, gE hi]; rfl
  ·rw [List.getElem?_eq_none_iff.mpr (by rw [jQ, jQa]; omega), List.getElem?_eq_none_iff.mpr (by omega)]
 refine call_set_list (I.ok.hd hc) pl.isList (ns := ns) (by simpa using intsAre_of r) (by rw [jY]; show its.length + 1 < 4096; omega) fun h' tk hS hk => ?_
 have e2 : (firstMet (fun i => ns.getD i 0) its.toArray.size).length = (ns.foldl step_dedup []).length := by unfold firstMet; rw [e1]
 refine ⟨.ref _, _, I.laid (o := .set (fun k' => (firstMet (fun i => ns.getD i 0) its.toArray.size).any (· == k')) (ns.foldl step_dedup []).length) (fun b o e => hk b o (kJ e) e) (jX _) ?_, rfl, q _ _ (I.hok.fresh (jX _))⟩
 rw [← e2]
 exact hS
theorem call_len_setI : CallR X (.builtin "len") (fun xs H Q => ∃ (d : Addr) (S : Int → Bool) (n : Nat), xs = [.ref d] ∧ H d = some (.set S n) ∧ Q (.int (n : Nat)) H) := by
 intro pins s σ H xs us Q I rv h
 obtain ⟨d, S, n, rfl, hd, q⟩ := h
 obtain ⟨u, rfl, ru⟩ := rv.one
 cases ru
 obtain ⟨o, es, ep, t, ho, hex, hdt, _, _, hb, hf, hn⟩ := I.hok d _ hd
 subst hn
 refine call_len_set ho hex hdt hf ?_ ⟨.int _, H, I.tok _, ⟨_, rfl⟩, q⟩
 have : es.size < 4096 := hb
 omega
theorem vals_of_ints : ∀ {ns : List Int} {us : List Value}, IntsAre us ns → Vals (ns.map V.int) us := by
 intro ns us h
 induction h with
 | nil => exact .nil
 | cons => rename_i ih; exact .cons ⟨_, rfl⟩ ih
theorem call_sortedI {K : Frag} (hK : X.K = K) : CallR X (.builtin "sorted") (fun xs H Q => ∃ (l : Addr) (ns : List Int), xs = [.ref l] ∧ SqL K H l (ns.map V.int) ∧ ns.length < 64 ∧
  ∀ (D : Addr) (qs : List Int), H D = none → qs.Perm ns → qs.Pairwise (· ≤ ·) → Q (.ref D) (upd H D (.lst (qs.map V.int)))) := by
 subst hK
 intro pins s σ H xs us Q I rv h
 obtain ⟨l, ns, rfl, hq, h64, q⟩ := h
 obtain ⟨u, rfl, ru⟩ := rv.one
 cases ru
 obtain ⟨its, r, p, hz⟩ := I.list hq
 have lv := r.length
 rw [jQ] at lv
 refine sorted_ints p.isList (intsAre_of r) (by omega) fun out ns' h1 h2 h3 => ?_
 obtain ⟨e, he⟩ := sortedAll_at s.heap its out
 have hv := vals_of_ints h1
 have lo : ns'.length = ns.length := h2.length_eq
 have hz64 : (64 : Nat) < sizeLine := by decide
 have hlen : (ns'.map V.int).length ≤ sizeLine := by rw [jQ]; omega
 exact ⟨.ref (s.heap.objs.size + 1), _, I.laid (t' := s.toks) (o := .lst (ns'.map V.int)) (fun b ob z => sortedAll_old z) (kZb _) ⟨hlen, out.toList, e, hv, by simpa using he⟩, rfl, q _ ns' (I.hok.fresh (kZb _)) h2 h3⟩
end
theorem bt_set : bootBuiltins "set" = some (.type "set") := by decide +kernel
theorem rangeDown (n : Nat) : (Builtin.Range.rangeSize ((n : Int) - 1) (-1) (-1)).toNat = n := by
 unfold Builtin.Range.rangeSize
 rw [if_neg (by decide)]
 split
 ·have : (((n : Int) - 1) - (-1) - 1) / (-(-1)) = (n : Int) - 1 := by rw [show (-(-1) : Int) = 1 from rfl, Int.ediv_one]; omega
  omega
 ·simp; omega
theorem smallDown {n : Nat} (h : n ≤ 1000000) : Builtin.Range.small ((n : Int) - 1) (-1) (-1) = true := by
 have h0 := rangeDown n
 have h1 := size_nonneg ((n : Int) - 1) (-1) (-1) (by decide)
 unfold Builtin.Range.small
 simp only [Builtin.Range.rangeFitsLong, yW, jZe, decide_eq_true_eq, beq_iff_eq, show ¬ ((-1 : Int) > 0) by decide, if_false]
 omega
end L2
namespace L2
open PySem PySem.Spec PySem.W PyProof.Rows
open PySem.SeqAt
section
variable {A : Around} {s : Shared}
end
section
variable {X : Cx}
open Classical in
open Classical in
end
end L2
namespace L2
open PySem PySem.Spec PySem.W PyProof.Rows
open PySem.SeqAt
section
variable {X : Cx}
open Classical in
end
end L2
namespace HT
open PySem PySem.Spec PyProof.Rows
section
variable {prog : Program} {w : World} {A : Around} {E : Value → Shared → Prop} {s : Shared}
end
end HT
namespace L2
open PySem PySem.Spec PySem.W PyProof.Rows
open PySem.SeqAt
section
variable {X : Cx}
end
end L2
namespace L2
open PySem
section
variable {X : Cx}
end
section
variable {X : Cx}
theorem lenS {α : Type} {l : List α} {n : Nat} (h : l.length = n + 1) : ∃ a t, l = a :: t ∧ t.length = n := by
 cases l with
 | nil => exact absurd h (wW n).symm
 | cons a t => exact ⟨a, t, rfl, Nat.succ.inj h⟩
theorem len1 {α : Type} {l : List α} (h : l.length = 1) : ∃ a, l = [a] := by
 obtain ⟨a, t, rfl, h'⟩ := lenS h
 exact ⟨a, congrArg _ (kYd.mp h')⟩
theorem len2 {α : Type} {l : List α} (h : l.length = 2) : ∃ a b, l = [a, b] := by
 obtain ⟨a, t, rfl, h'⟩ := lenS h
 obtain ⟨b, rfl⟩ := len1 h'
 exact ⟨a, b, rfl⟩
theorem len3 {α : Type} {l : List α} (h : l.length = 3) : ∃ a b c, l = [a, b, c] := by
 obtain ⟨a, t, rfl, h'⟩ := lenS h
 obtain ⟨b, c, rfl⟩ := len2 h'
 exact ⟨a, b, c, rfl⟩
theorem len4 {α : Type} {l : List α} (h : l.length = 4) : ∃ a b c d, l = [a, b, c, d] := by
 obtain ⟨a, t, rfl, h'⟩ := lenS h
 obtain ⟨b, c, d, rfl⟩ := len3 h'
 exact ⟨a, b, c, d, rfl⟩
theorem len5 {α : Type} {l : List α} (h : l.length = 5) : ∃ a b c d e, l = [a, b, c, d, e] := by
 obtain ⟨a, t, rfl, h'⟩ := lenS h
 obtain ⟨b, c, d, e, rfl⟩ := len4 h'
 exact ⟨a, b, c, d, e, rfl⟩
theorem bind1 {F : List Value → Prop} (h : ∀ a, F [a]) : ∀ us : List Value, us.length = 1 → F us := fun us hl => by
 obtain ⟨a, rfl⟩ := len1 hl
 exact h a
theorem bind2 {F : List Value → Prop} (h : ∀ a b, F [a, b]) : ∀ us : List Value, us.length = 2 → F us := fun us hl => by
 obtain ⟨a, b, rfl⟩ := len2 hl
 exact h a b
theorem bind3 {F : List Value → Prop} (h : ∀ a b c, F [a, b, c]) : ∀ us : List Value, us.length = 3 → F us := fun us hl => by
 obtain ⟨a, b, c, rfl⟩ := len3 hl
 exact h a b c
theorem bind4 {F : List Value → Prop} (h : ∀ a b c d, F [a, b, c, d]) : ∀ us : List Value, us.length = 4 → F us := fun us hl => by
 obtain ⟨a, b, c, d, rfl⟩ := len4 hl
 exact h a b c d
theorem bind5 {F : List Value → Prop} (h : ∀ a b c d e, F [a, b, c, d, e]) : ∀ us : List Value, us.length = 5 → F us := fun us hl => by
 obtain ⟨a, b, c, d, e, rfl⟩ := len5 hl
 exact h a b c d e
theorem seq_let3 {s1 s2 s3 : TS} {D : Ends} {σ : St} {H : Hp} (h : let r3 : TS := s3; let r2 : TS := tSeq s2 r3; tSeq s1 r2 D σ H) : (tSeq s1 (tSeq s2 (s3))) D σ H := h
theorem seq_let4 {s1 s2 s3 s4 : TS} {D : Ends} {σ : St} {H : Hp} (h : let r4 : TS := s4; let r3 : TS := tSeq s3 r4; let r2 : TS := tSeq s2 r3; tSeq s1 r2 D σ H) : (tSeq s1 (tSeq s2 (tSeq s3 (s4)))) D σ H := h
theorem seq_let5 {s1 s2 s3 s4 s5 : TS} {D : Ends} {σ : St} {H : Hp} (h : let r5 : TS := s5; let r4 : TS := tSeq s4 r5; let r3 : TS := tSeq s3 r4; let r2 : TS := tSeq s2 r3; tSeq s1 r2 D σ H) : (tSeq s1 (tSeq s2 (tSeq s3 (tSeq s4 (s5))))) D σ H := h
theorem seq_let7 {s1 s2 s3 s4 s5 s6 s7 : TS} {D : Ends} {σ : St} {H : Hp} (h : let r7 : TS := s7; let r6 : TS := tSeq s6 r7; let r5 : TS := tSeq s5 r6; let r4 : TS := tSeq s4 r5; let r3 : TS := tSeq s3 r4; let r2 : TS := tSeq s2 r3; tSeq s1 r2 D σ H) : (tSeq s1 (tSeq s2 (tSeq s3 (tSeq s4 (tSeq s5 (tSeq s6 (s7))))))) D σ H := h
theorem seq_let9 {s1 s2 s3 s4 s5 s6 s7 s8 s9 : TS} {D : Ends} {σ : St} {H : Hp} (h : let r9 : TS := s9; let r8 : TS := tSeq s8 r9; let r7 : TS := tSeq s7 r8; let r6 : TS := tSeq s6 r7; let r5 : TS := tSeq s5 r6; let r4 : TS := tSeq s4 r5; let r3 : TS := tSeq s3 r4; let r2 : TS := tSeq s2 r3; tSeq s1 r2 D σ H) : (tSeq s1 (tSeq s2 (tSeq s3 (tSeq s4 (tSeq s5 (tSeq s6 (tSeq s7 (tSeq s8 (s9))))))))) D σ H := h
end
end L2
namespace L2
open PySem PySem.Spec PyProof.Rows PySem.W
section
variable {prog : Program} {w : World} {A : Around} {R : Result → Shared → Prop} {I : Addr} {fp wr : List Addr} {n : Nat} {P : Nat → Value → Prop} {St : Nat → Heap → Prop}
end
section
variable {prog : Program} {w : World} {A : Around} {E : Value → Shared → Prop} {s : Shared} {l : Addr} {xs : Array (Int × Tok)}
end
section
variable {X : Cx}
end
section
variable {X : Cx}
end
end L2
namespace L2
open PySem PySem.Spec PyProof.Rows PySem.SeqAt
section
variable {X : Cx}
theorem op_eqW (hu : X.A.units + 6 < cLine) : OpR X (compareOp .Eq) (fun x y H Q => ∃ (a b : Addr) (s s' : Str) (xs : List V), x = .ref a ∧ y = .ref b ∧ SqT X.K H a (.str s :: xs) ∧ SqT X.K H b [.str s'] ∧ ∀ c : Bool, (c = true ↔ (s = s' ∧ xs = [])) → Q (.bl c) H) := by
 intro pins sh σ H x y v u Q I rx ry h
 obtain ⟨a, b, s, s', xs, rfl, rfl, h1, h2, q⟩ := h
 cases rx
 cases ry
 obtain ⟨its, r, pt, _⟩ := I.tuple h1
 obtain ⟨its', r', pt', _⟩ := I.tuple h2
 have l1 := r.length
 have l2 := r'.length
 obtain ⟨u1, e1, ru1⟩ := r.get (i := 0) (x := .str s) rfl
 obtain ⟨u2, e2, ru2⟩ := r'.get (i := 0) (x := .str s') rfl
 obtain ⟨t1, rfl⟩ := ru1
 obtain ⟨t2, rfl⟩ := ru2
 have l1' : its.length = xs.length + 1 := by rw [← l1]; rfl
 have l2' : its'.length = 1 := by rw [← l2]; rfl
 have key : ∀ j (h1 : j < its.toArray.size) (h2 : j < its'.toArray.size), EqAt X.A.in1 sh its.toArray[j] its'.toArray[j] (s == s') := fun j h1 h2 => by
  rw [jY] at h1 h2
  have ej : j = 0 := by omega
  subst ej
  have z1 : its.toArray[0] = .str s t1 := by rw [gE (by omega)] at e1; simpa using e1
  have z2 : its'.toArray[0] = .str s' t2 := by rw [gE (by omega)] at e2; simpa using e2
  rw [z1, z2]
  exact EqAt.str_str s t1 s' t2
 have rc := RcAt.tuples (A := X.A) pt pt' (by omega) (e := fun _ => s == s') key
 refine rc _ _ _ _ ⟨.bl _, H, I, rfl, q _ ?_⟩
 rw [yW, allRange, jY, jY, l1', l2']
 constructor
 ·rintro ⟨z1, z2⟩
  have z2' : xs.length + 1 = 1 := eq_of_beq z2
  exact ⟨eq_of_beq (z1 0 (by omega)), List.eq_nil_of_length_eq_zero (by omega)⟩
 ·rintro ⟨z1, z2⟩
  subst z1 z2
  exact ⟨fun _ _ => beq_self_eq_true _, rfl⟩
end
end L2
namespace L2
open PySem PySem.Spec PyProof.Rows PySem.SeqAt
theorem paired_get {α β : Type} {R : α → β → Prop} {xs : List α} {ys : List β} (h : Paired R xs ys) : ∀ {i : Nat} {x : α}, xs[i]? = some x → ∃ y, ys[i]? = some y ∧ R x y := by
 induction h with
 | nil => intro i x e; exact nomatch e
 | cons z _ ih =>
  intro i x e
  match i with
  | 0 => cases e; exact ⟨_, rfl, z⟩
  | i + 1 => exact ih (show _ = some x from e)
section
variable {X : Cx} {pins : List (Addr × Obj)} {σ : St} {H : Hp} {s : Shared}
theorem kv_keys {kvs : List (Key × V)} {vs : List (Key × Value)} (h : KV kvs vs) : kvs.map (·.1) = vs.map (·.1) := by
 induction h with
 | nil => rfl
 | cons h _ ih => rw [xK, xK, ih, h.1]
open PySem.MeetsSeq PySem.MeetsSeq2 PySem.MeetsSeq3 in
open AutoSeq1 (wpAny_loadPart') in
open PySem.MeetsSeq PySem.MeetsSeq2 PySem.MeetsSeq3 in
open AutoSeq1 (wpAny_loadPart') in
end
section
variable {X : Cx}
end
theorem is_kV {P : Program} {w : World} {k : Key} {u : Value} (h : (mixKind P w).is k u = true) : RelV (kV k) u := by
 rw [mixKind_is] at h
 rcases keyIs_shape h with ⟨i, t, rfl, rfl⟩ | ⟨x, t, rfl, rfl⟩
 ·exact ⟨t, rfl⟩
 ·exact ⟨t, rfl⟩
section
variable {X : Cx} {pins : List (Addr × Obj)} {σ : St} {H : Hp} {s : Shared} {d : Addr} {kvs : List (Key × V)} {o : Obj}
end
section
variable {X : Cx}
end
section
variable {X : Cx}
end
section
variable {X : Cx}
open PySem.W in
end
def gallopP : Bool → Keyed → Array Keyed → Nat → Nat → Nat → StateT SortSt Sem (Option Nat) := sortPriv% PySem.Builtin.gallop
def mergeLoP : Array Keyed → Array Keyed → StateT SortSt Sem (Array Keyed) := sortPriv% PySem.Builtin.mergeLo
def mergeHiP : Array Keyed → Array Keyed → StateT SortSt Sem (Array Keyed) := sortPriv% PySem.Builtin.mergeHi
section
variable {prog : Program} {w : World} {A : Around} {E : Value → Shared → Prop} {s : Shared} {κ : KeyKind}
def HasK (κ : KeyKind) (x : Keyed) : Prop := ∃ a, κ.keyOf x.1 = some a
theorem wpS_elemAny {st : SortSt} {arr : Array Keyed} {i : Nat} {Q : Keyed → SortSt → Prop} (hi : i < arr.size) (h : Q arr[i] st) : wpS (model prog w) A E s (elem' arr i) Q st := by
 rw [elem'_eq, getElem?_pos arr i hi]
 exact wpS_pure h
end
def LoP (a b out : Array Keyed) (ia ib : Nat) : Prop := out.toList.Perm (a.toList.take ia ++ b.toList.take ib)
abbrev setG (st : SortSt) (g : Nat) : SortSt := SortSt.mk' (kindOf st) (arrOf st) (pendingOf st) g (failedOf st)
theorem take_snoc {α : Type} (xs : Array α) {i : Nat} (hi : i < xs.size) : xs.toList.take (i + 1) = xs.toList.take i ++ [xs[i]] := by
 rw [List.take_add_one, xW, getElem?_pos xs i hi]; rfl
theorem take_ext {α : Type} (xs : Array α) (i k : Nat) : xs.toList.take (i + k) = xs.toList.take i ++ (xs.extract i (i + k)).toList := by
 rw [jJa, jYf, show i + k - i = k by omega, List.take_add]
section
variable {a b out : Array Keyed} {ia ib k : Nat}
theorem LoP.pushB (h : LoP a b out ia ib) (hi : ib < b.size) : LoP a b (out.push b[ib]) ia (ib + 1) := by
 unfold LoP at *
 rw [zK, take_snoc b hi, ← jJ]
 exact h.append_right _
theorem LoP.pushA (h : LoP a b out ia ib) (hi : ia < a.size) : LoP a b (out.push a[ia]) (ia + 1) ib := by
 unfold LoP at *
 rw [zK, take_snoc a hi, jJ]
 refine (h.append_right _).trans ?_
 rw [jJ]
 exact List.Perm.append_left _ wQ
theorem LoP.addB (h : LoP a b out ia ib) (k : Nat) : LoP a b (out ++ b.extract ib (ib + k)) ia (ib + k) := by
 unfold LoP at *
 rw [jV, take_ext b, ← jJ]
 exact h.append_right _
theorem LoP.addA (h : LoP a b out ia ib) (k : Nat) : LoP a b (out ++ a.extract ia (ia + k)) (ia + k) ib := by
 unfold LoP at *
 rw [jV, take_ext a, jJ]
 refine (h.append_right _).trans ?_
 rw [jJ]
 exact List.Perm.append_left _ wQ
theorem LoP.done (h : LoP a b out ia ib) : (out ++ a.extract ia ++ b.extract ib).toList.Perm (a.toList ++ b.toList) := by
 unfold LoP at *
 have e : ∀ (xs : Array Keyed) (i : Nat), xs.toList.take i ++ (xs.extract i).toList = xs.toList := by
  intro xs i
  rw [jJa, jYf, show xs.size - i = (xs.toList.drop i).length by rw [jQc]; rfl, jXf, jKc]
 rw [jV, jV]
 refine ((h.append_right _).append_right _).trans ?_
 conv => rhs; rw [← e a ia, ← e b ib]
 rw [jJ, jJ, jJ]
 refine List.Perm.append_left _ ?_
 rw [← jJ, ← jJ]
 exact List.Perm.append_right _ wQ
theorem LoP.last (h : LoP a b out ia ib) : (out ++ b.extract ib ++ a.extract ia).toList.Perm (a.toList ++ b.toList) := by
 refine List.Perm.trans ?_ h.done
 simp only [jV]
 rw [jJ, jJ]
 exact List.Perm.append_left _ wQ
end
section
variable {prog : Program} {w : World} {A : Around} {E : Value → Shared → Prop} {s : Shared} {κ : KeyKind}
theorem wpS_ite {σ α : Type} {M : Model} {c : Prop} [Decidable c] {m₁ m₂ : StateT σ Sem α} {Q : α → σ → Prop} {st : σ} (h₁ : c → wpS M A E s m₁ Q st) (h₂ : ¬ c → wpS M A E s m₂ Q st) : wpS M A E s (if c then m₁ else m₂) Q st := by
 by_cases h : c
 ·rw [if_pos h]; exact h₁ h
 ·rw [if_neg h]; exact h₂ h
end
def HiP (a b out : Array Keyed) (na nb : Nat) : Prop := (a.toList.take na ++ (b.toList.take nb ++ out.toList)).Perm (a.toList ++ b.toList)
theorem take_cut {α : Type} (xs : Array α) {i n : Nat} (h : i ≤ n) : xs.toList.take n = xs.toList.take i ++ (xs.extract i n).toList := by
 have := take_ext xs i (n - i)
 rwa [show i + (n - i) = n by omega] at this
section
variable {a b out : Array Keyed} {na nb k : Nat}
theorem HiP.popB (h : HiP a b out na (nb + 1)) (hi : nb < b.size) : HiP a b (out.push b[nb]) na nb := by
 unfold HiP at *
 refine List.Perm.trans (List.Perm.append_left _ ?_) h
 rw [zK, take_snoc b hi, jJ]
 exact List.Perm.append_left _ wQ
theorem HiP.popA (h : HiP a b out (na + 1) nb) (hi : na < a.size) : HiP a b (out.push a[na]) na nb := by
 unfold HiP at *
 refine List.Perm.trans ?_ h
 rw [zK, take_snoc a hi, jJ]
 refine List.Perm.append_left _ ?_
 rw [← jJ]
 exact wQ
theorem HiP.lessA (h : HiP a b out na nb) (h1 : 1 ≤ na) (hi : na - 1 < a.size) : HiP a b (out.push a[na - 1]) (na - 1) nb := by
 refine HiP.popA ?_ hi
 rwa [Nat.sub_add_cancel h1]
theorem HiP.lessB (h : HiP a b out na nb) (h1 : 1 ≤ nb) (hi : nb - 1 < b.size) : HiP a b (out.push b[nb - 1]) na (nb - 1) := by
 refine HiP.popB ?_ hi
 rwa [Nat.sub_add_cancel h1]
theorem HiP.cutB (h : HiP a b out na nb) (hk : k ≤ nb) : HiP a b (out ++ (b.extract k nb).reverse) na k := by
 unfold HiP at *
 refine List.Perm.trans (List.Perm.append_left _ ?_) h
 rw [jV, xY, take_cut b hk, jJ]
 exact List.Perm.append_left _ (wQ.trans (List.Perm.append_right _ (List.reverse_perm _)))
theorem HiP.cutA (h : HiP a b out na nb) (hk : k ≤ na) : HiP a b (out ++ (a.extract k na).reverse) k nb := by
 unfold HiP at *
 refine List.Perm.trans ?_ h
 rw [jV, xY, take_cut a hk, jJ]
 refine List.Perm.append_left _ ?_
 rw [← jJ]
 exact wQ.trans (List.Perm.append_right _ (List.reverse_perm _))
theorem ext0 {α : Type} (xs : Array α) (n : Nat) : (xs.extract 0 n).toList = xs.toList.take n := by
 rw [jJa, jYf]; rfl
theorem HiP.done (h : HiP a b out na nb) : (a.extract 0 na ++ b.extract 0 nb ++ out.reverse).toList.Perm (a.toList ++ b.toList) := by
 unfold HiP at *
 refine List.Perm.trans ?_ h
 rw [jV, jV, ext0, ext0, xY, jJ]
 exact List.Perm.append_left _ (List.Perm.append_left _ (List.reverse_perm _))
theorem HiP.first (h : HiP a b out na nb) : (b.extract 0 nb ++ a.extract 0 na ++ out.reverse).toList.Perm (a.toList ++ b.toList) := by
 refine List.Perm.trans ?_ h.done
 simp only [jV]
 exact List.Perm.append_right _ wQ
end
section
variable {prog : Program} {w : World} {A : Around} {E : Value → Shared → Prop} {s : Shared} {κ : KeyKind}
end
theorem setAll {α : Type} {base : Nat} : ∀ (l : List α) (k : Nat) (arr : Array α), base + k + l.length ≤ arr.size →
  ((l.zipIdx k).foldl (fun a (pj : α × Nat) => a.setIfInBounds (base + pj.2) pj.1) arr).toList = arr.toList.take (base + k) ++ (l ++ arr.toList.drop (base + k + l.length))
 | [], k, arr, _ => by simp
 | p :: t, k, arr, h => by
  rw [yJ] at h
  rw [List.zipIdx_cons, List.foldl_cons, setAll t (k + 1) _ (by rw [Array.size_setIfInBounds]; omega), Array.toList_setIfInBounds]
  have hlt : base + k < arr.toList.length := by show _ < arr.size; omega
  have hlen : (arr.toList.take (base + k)).length = base + k := by rw [xQ]; omega
  have e1 : (arr.toList.set (base + k) p).take (base + (k + 1)) = arr.toList.take (base + k) ++ [p] := by
   rw [List.set_eq_take_append_cons_drop, if_pos hlt]
   conv => lhs; rw [show base + (k + 1) = (arr.toList.take (base + k)).length + 1 by omega, List.take_length_add_append]
   rfl
  have e2 : (arr.toList.set (base + k) p).drop (base + (k + 1) + t.length) = arr.toList.drop (base + k + (t.length + 1)) := by
   rw [List.drop_set_of_lt (by omega), show base + (k + 1) + t.length = base + k + (t.length + 1) by omega]
  show (arr.toList.set (base + k) p).take (base + (k + 1)) ++ (t ++ (arr.toList.set (base + k) p).drop (base + (k + 1) + t.length)) = _
  rw [e1, e2, yJ]
  simp
def Runs : Nat → List (Nat × Nat × Nat) → Nat → Prop
 | a, [], b => a = b
 | a, r :: t, b => r.1 = a ∧ 1 ≤ r.2.1 ∧ Runs (a + r.2.1) t b
theorem Runs.le : ∀ {a b : Nat} {l : List (Nat × Nat × Nat)}, Runs a l b → a ≤ b
 | a, b, [], h => kYe h
 | a, b, r :: t, h => by have := Runs.le h.2.2; omega
theorem runs_append : ∀ {a b : Nat} (l l' : List (Nat × Nat × Nat)), Runs a (l ++ l') b ↔ ∃ m, Runs a l m ∧ Runs m l' b
 | a, b, [], l' => ⟨fun h => ⟨a, rfl, h⟩, fun ⟨m, h1, h2⟩ => by cases h1; exact h2⟩
 | a, b, r :: t, l' => by
  constructor
  ·rintro ⟨h1, h2, h3⟩
   obtain ⟨m, h4, h5⟩ := (runs_append t l').mp h3
   exact ⟨m, ⟨h1, h2, h4⟩, h5⟩
  ·rintro ⟨m, ⟨h1, h2, h4⟩, h5⟩
   exact ⟨h1, h2, (runs_append t l').mpr ⟨m, h4, h5⟩⟩
structure PB (a₀ : Array Keyed) (lo : Nat) (st : SortSt) : Prop where
 perm : (arrOf st).Perm a₀
 kind : kindOf st = oneType'
 failed : failedOf st = none
 pend : Runs 0 (pendingOf st).toList lo
 room : lo ≤ a₀.size
theorem PB.size {a₀ : Array Keyed} {lo : Nat} {st : SortSt} (h : PB a₀ lo st) : (arrOf st).size = a₀.size := h.perm.size_eq
theorem PB.hasK {κ : KeyKind} {a₀ : Array Keyed} {lo : Nat} {st : SortSt} (h : PB a₀ lo st) (h0 : KeysOf κ a₀) : ∀ x ∈ arrOf st, HasK κ x := fun x hx =>
 h0 x ((jYa.mp h.perm).mem_iff.mp (Array.mem_def.mp hx))
section
variable {prog : Program} {w : World} {A : Around} {E : Value → Shared → Prop} {s : Shared} {κ : KeyKind} {a₀ : Array Keyed}
end
section
variable {prog : Program} {w : World} {A : Around} {E : Value → Shared → Prop} {s : Shared} {κ : KeyKind} {a₀ : Array Keyed}
theorem PB.setArr {lo : Nat} {st : SortSt} (h : PB a₀ lo st) {xs : Array Keyed} (hp : xs.Perm (arrOf st)) : PB a₀ lo (PyProof.Rows.setArr st xs) :=
 ⟨hp.trans h.perm, h.kind, h.failed, h.pend, h.room⟩
end
section
variable {prog : Program} {w : World} {A : Around} {E : Value → Shared → Prop} {s : Shared} {κ : KeyKind} {a₀ : Array Keyed}
theorem Runs.third : ∀ {a b : Nat} {l l' : List (Nat × Nat × Nat)}, l.map (fun r => (r.1, r.2.1)) = l'.map (fun r => (r.1, r.2.1)) → Runs a l b → Runs a l' b
 | a, b, [], [], _, h => h
 | a, b, [], _ :: _, e, _ => by simp at e
 | a, b, _ :: _, [], e, _ => by simp at e
 | a, b, r :: t, r' :: t', e, h => by
  simp only [xK, List.cons.injEq, Prod.mk.injEq] at e
  obtain ⟨⟨e1, e2⟩, e3⟩ := e
  obtain ⟨h1, h2, h3⟩ := h
  refine ⟨e1 ▸ h1, e2 ▸ h2, ?_⟩
  rw [← e2]
  exact Runs.third e3 h3
end
section
variable {prog : Program} {w : World} {A : Around} {E : Value → Shared → Prop} {s : Shared}
end
section
variable {X : Cx}
open PySem.W in
end
end L2
namespace L2
open PySem PyProof.Rows
section
variable {prog : Program} {w : World} {A : Around} {E : Value → Shared → Prop} {s : Shared} {κ : KeyKind}
def kyOf (κ : KeyKind) (x : Keyed) : κ.α := (κ.keyOf x.1).getD κ.dflt
def lessK (κ : KeyKind) (x y : Keyed) : Bool := κ.blt (kyOf κ x) (kyOf κ y)
theorem wpS_ltO (hO : κ.OneLt) {st : SortSt} {x y : Keyed} {Q : Option Bool → SortSt → Prop} (hk : kindOf st = oneType') (hx : HasK κ x) (hy : HasK κ y)
  (h : Q (some (lessK κ x y)) st) : wpS (model prog w) A E s (lt' x y) Q st := by
 obtain ⟨a, ha⟩ := hx
 obtain ⟨b, hb⟩ := hy
 have e : lessK κ x y = κ.blt a b := by unfold lessK kyOf; rw [ha, hb]; rfl
 rw [e] at h
 rw [lt'_eq]
 refine wpS_bind (wpS_get ?_)
 rw [hk, keyLt'_oneType]
 refine wpS_bind (wpS_lift (wpAny_attempt (hO prog w A _ s x.1 y.1 a b ha hb ⟨rfl, ?_⟩)))
 exact wpS_pure h
def beyO (κ : KeyKind) (left : Bool) (key x : Keyed) : Bool := if left = true then lessK κ x key else !lessK κ key x
theorem wpS_beyO (hO : κ.OneLt) {st : SortSt} {left : Bool} {key : Keyed} {arr : Array Keyed} {i : Nat} {Q : Option Bool → SortSt → Prop} (hk : kindOf st = oneType')
  (hkey : HasK κ key) (harr : ∀ x ∈ arr, HasK κ x) (hi : i < arr.size) (h : Q (some (beyO κ left key arr[i])) st) :
  wpS (model prog w) A E s (elem' arr i >>= fun x => if left = true then lt' x key else lt' key x >>= fun r => pure (r.map fun x => !x)) Q st := by
 refine wpS_bind (wpS_elemAny hi ?_)
 have hx := harr _ (yK hi)
 unfold beyO at h
 refine wpS_ite (fun e => ?_) fun e => ?_
 ·rw [if_pos e] at h
  exact wpS_ltO hO hk hx hkey h
 ·rw [if_neg e] at h
  exact wpS_bind (wpS_ltO hO hk hkey hx (wpS_pure h))
theorem wpS_gallopO (hO : κ.OneLt) {st : SortSt} {left : Bool} {key : Keyed} {arr : Array Keyed} {base n hint : Nat} {Q : Option Nat → SortSt → Prop} (hk : kindOf st = oneType')
  (hkey : HasK κ key) (harr : ∀ x ∈ arr, HasK κ x) (hb : base + n ≤ arr.size) (hh : hint < n) (p : Nat → Bool) (hp : ∀ i (hi : base + i < arr.size), beyO κ left key arr[base + i] = p i)
  (anti : ∀ i j, i ≤ j → j < n → p j = true → p i = true)
  (h : ∀ k, k ≤ n → (∀ i, i < k → p i = true) → (∀ i, k ≤ i → i < n → p i = false) → Q (some k) st) :
  wpS (model prog w) A E s (gallopP left key arr base n hint) Q st := by
 have anti' : ∀ i j, i ≤ j → j < n → p i = false → p j = false := fun i j h1 h2 h3 => by
  cases e : p j
  ·rfl
  ·rw [anti i j h1 h2 e] at h3; cases h3
 refine wpS_bind (wpS_beyO hO hk hkey harr (by omega) ?_)
 dsimp only
 have fin2 : ∀ (f : Option (Option Nat) × Nat × Nat → StateT SortSt Sem (Option Nat)) (lo hi : Nat), lo ≤ hi → hi ≤ n → (∀ i, i < lo → p i = true) → (∀ i, hi ≤ i → i < n → p i = false) → (∀ t, t.1 = none → f t = pure (some t.2.2)) →
  wpS (model prog w) A E s (forIn [:n] ((none, lo, hi) : Option (Option Nat) × Nat × Nat) (fun x t =>
   if t.2.1 ≥ t.2.2 then pure (ForInStep.done (none, t.2.1, t.2.2)) else
    (elem' arr (base + (t.2.1 + (t.2.2 - t.2.1) / 2)) >>= fun x => if left = true then lt' x key else lt' key x >>= fun r => pure (r.map fun x => !x)) >>= fun m => match m with
     | some more => if more = true then pure (ForInStep.yield (none, t.2.1 + (t.2.2 - t.2.1) / 2 + 1, t.2.2)) else pure (ForInStep.yield (none, t.2.1, t.2.1 + (t.2.2 - t.2.1) / 2))
     | x => pure (ForInStep.done (some none, t.2.1, t.2.2))) >>= f) Q st := by
  intro f lo hi hlh hn hlo hhi hf
  refine wpS_bind (wpS_mono (wpS_forRange (I := fun x (c : Option (Option Nat) × Nat × Nat) st' => st' = st ∧ c.1 = none ∧ c.2.1 ≤ c.2.2 ∧ c.2.2 ≤ n ∧ c.2.2 - c.2.1 ≤ n - x ∧ (∀ i, i < c.2.1 → p i = true) ∧ (∀ i, c.2.2 ≤ i → i < n → p i = false))
   (Q := fun c st' => st' = st ∧ c.1 = none ∧ c.2.2 ≤ n ∧ (∀ i, i < c.2.2 → p i = true) ∧ (∀ i, c.2.2 ≤ i → i < n → p i = false)) ?st ?fi ⟨rfl, rfl, hlh, hn, by show hi - lo ≤ n - 0; omega, hlo, hhi⟩) ?po)
  case po =>
   rintro ⟨r, l, k⟩ st' ⟨rfl, hr, hk', h1, h2⟩
   rw [hf _ hr]
   exact wpS_pure (h _ hk' h1 h2)
  case fi =>
   rintro ⟨r, l, k⟩ st' ⟨rfl, hr, h1, h2, h3, h4, h5⟩
   simp only at h1 h2 h3 h4 h5
   have : l = k := by omega
   subst this
   exact ⟨rfl, hr, h2, h4, h5⟩
  case st =>
   rintro x ⟨r, l, k⟩ st' _ _ ⟨rfl, hr, h1, h2, h3, h4, h5⟩
   simp only at hr h1 h2 h3 h4 h5 ⊢
   subst hr
   refine wpS_ite (fun hge => ?_) fun hge => ?_
   ·have : l = k := by omega
    subst this
    exact wpS_pure ⟨rfl, rfl, h2, h4, h5⟩
   ·refine wpS_bind (wpS_beyO hO hk hkey harr (by omega) ?_)
    rw [hp _ (by omega)]
    dsimp only
    refine wpS_ite (fun em => wpS_pure ⟨rfl, rfl, ?_, h2, ?_, fun i hi => ?_, h5⟩) fun em => wpS_pure ⟨rfl, rfl, ?_, ?_, ?_, h4, fun i hi hn' => ?_⟩
    ·show l + (k - l) / 2 + 1 ≤ k; omega
    ·show k - (l + (k - l) / 2 + 1) ≤ n - (x + 1); omega
    ·exact anti i (l + (k - l) / 2) (Nat.le_of_lt_succ hi) (by omega) em
    ·show l ≤ l + (k - l) / 2; omega
    ·show l + (k - l) / 2 ≤ n; omega
    ·show l + (k - l) / 2 - l ≤ n - (x + 1); omega
    ·exact anti' (l + (k - l) / 2) i hi hn' (by simpa using em)
 rw [hp _ (by omega)]
 cases e0 : p hint
 ·refine wpS_bind (wpS_mono (wpS_forRange (I := fun x (c : Option (Option Nat) × Nat × Nat) st' => st' = st ∧ c.1 = none ∧ x + 1 ≤ c.2.2 ∧ c.2.1 < c.2.2 ∧ c.2.1 ≤ hint ∧ p (hint - c.2.1) = false)
   (Q := fun (c : Option (Option Nat) × Nat × Nat) st' => st' = st ∧ c.1 = none ∧ c.2.1 < c.2.2 ∧ c.2.1 ≤ hint ∧ p (hint - c.2.1) = false ∧ (hint + 1 ≤ c.2.2 ∨ c.2.2 ≤ hint ∧ p (hint - c.2.2) = true)) ?_ ?_ ⟨rfl, rfl, jX 1, Nat.zero_lt_one, wV _, e0⟩) ?_)
  ·rintro x ⟨r, l, k⟩ st' _ _ ⟨rfl, hr, h1, h2, h3, h4⟩
   simp only at hr h1 h2 h3 h4 ⊢
   subst hr
   refine wpS_ite (fun hge => wpS_pure ⟨rfl, rfl, h2, h3, h4, .inl hge⟩) fun hge => ?_
   refine wpS_bind (wpS_beyO hO hk hkey harr (by omega) ?_)
   rw [hp _ (by omega)]
   cases e1 : p (hint - k)
   ·exact wpS_pure ⟨rfl, rfl, by show x + 1 + 1 ≤ 2 * k + 1; omega, by show k < 2 * k + 1; omega, by show k ≤ hint; omega, e1⟩
   ·exact wpS_pure ⟨rfl, rfl, h2, h3, h4, .inr ⟨by show k ≤ hint; omega, e1⟩⟩
  ·rintro ⟨r, l, k⟩ st' ⟨rfl, hr, h1, h2, h3, h4⟩
   simp only at h1 h2 h3
   exact ⟨rfl, hr, h2, h3, h4, .inl (by show hint + 1 ≤ k; omega)⟩
  ·rintro ⟨r, l, k⟩ st' ⟨rfl, hr, h2, h3, h4, h5⟩
   simp only at hr h2 h3 h4 h5
   subst hr
   refine fin2 _ _ _ ?_ ?_ (fun i hi => ?_) (fun i hi hn' => anti' _ _ hi hn' h4) fun t ht => by obtain ⟨a, b, c⟩ := t; simp only at ht; subst ht; rfl
   ·show hint + 1 - min k (hint + 1) ≤ hint - l; omega
   ·show hint - l ≤ n; omega
   ·have hi' : i < hint + 1 - min k (hint + 1) := hi
    rcases h5 with h5 | ⟨h5, h6⟩
    ·omega
    ·exact anti i (hint - k) (by omega) (by omega) h6
 ·refine wpS_bind (wpS_mono (wpS_forRange (I := fun x (c : Option (Option Nat) × Nat × Nat) st' => st' = st ∧ c.1 = none ∧ x + 1 ≤ c.2.2 ∧ c.2.1 < c.2.2 ∧ hint + c.2.1 < n ∧ p (hint + c.2.1) = true)
   (Q := fun (c : Option (Option Nat) × Nat × Nat) st' => st' = st ∧ c.1 = none ∧ c.2.1 < c.2.2 ∧ hint + c.2.1 < n ∧ p (hint + c.2.1) = true ∧ (n - hint ≤ c.2.2 ∨ hint + c.2.2 < n ∧ p (hint + c.2.2) = false)) ?_ ?_ ⟨rfl, rfl, jX 1, Nat.zero_lt_one, hh, e0⟩) ?_)
  ·rintro x ⟨r, l, k⟩ st' _ _ ⟨rfl, hr, h1, h2, h3, h4⟩
   simp only at hr h1 h2 h3 h4 ⊢
   subst hr
   refine wpS_ite (fun hge => wpS_pure ⟨rfl, rfl, h2, h3, h4, .inl hge⟩) fun hge => ?_
   refine wpS_bind (wpS_beyO hO hk hkey harr (by omega) ?_)
   rw [hp _ (by omega)]
   cases e1 : p (hint + k)
   ·exact wpS_pure ⟨rfl, rfl, h2, h3, h4, .inr ⟨by show hint + k < n; omega, e1⟩⟩
   ·exact wpS_pure ⟨rfl, rfl, by show x + 1 + 1 ≤ 2 * k + 1; omega, by show k < 2 * k + 1; omega, by show hint + k < n; omega, e1⟩
  ·rintro ⟨r, l, k⟩ st' ⟨rfl, hr, h1, h2, h3, h4⟩
   simp only at h1 h2 h3
   exact ⟨rfl, hr, h2, h3, h4, .inl (by show n - hint ≤ k; omega)⟩
  ·rintro ⟨r, l, k⟩ st' ⟨rfl, hr, h2, h3, h4, h5⟩
   simp only at hr h2 h3 h4 h5
   subst hr
   refine fin2 _ _ _ ?_ ?_ (fun i hi => anti i (hint + l) (Nat.le_of_lt_succ hi) h3 h4) (fun i hi hn' => ?_) fun t ht => by obtain ⟨a, b, c⟩ := t; simp only at ht; subst ht; rfl
   ·show hint + l + 1 ≤ hint + min k (n - hint); omega
   ·show hint + min k (n - hint) ≤ n; omega
   ·have hi' : hint + min k (n - hint) ≤ i := hi
    rcases h5 with h5 | ⟨h5, h6⟩
    ·omega
    ·exact anti' (hint + k) i (by omega) hn' h6
end
section
variable {prog : Program} {w : World} {A : Around} {E : Value → Shared → Prop} {s : Shared} {κ : KeyKind}
def leK (κ : KeyKind) (x y : Keyed) : Prop := κ.kle (kyOf κ x) (kyOf κ y)
theorem leK.trans {x y z : Keyed} (h : leK κ x y) (h' : leK κ y z) : leK κ x z := KeyOrd.kle_trans h h'
theorem leK_of_less {x y : Keyed} (h : lessK κ x y = true) : leK κ x y := KeyOrd.kle_of_klt h
theorem leK_of_not {x y : Keyed} (h : lessK κ x y = false) : leK κ y x := h
theorem wpS_gallopLe (hO : κ.OneLt) {st : SortSt} {left : Bool} {key : Keyed} {arr : Array Keyed} {base n hint : Nat} {Q : Option Nat → SortSt → Prop} (hk : kindOf st = oneType')
  (hkey : HasK κ key) (harr : ∀ x ∈ arr, HasK κ x) (hb : base + n ≤ arr.size) (hh : hint < n)
  (hs : ∀ i j x y, i ≤ j → j < n → arr[base + i]? = some x → arr[base + j]? = some y → leK κ x y)
  (h : ∀ k, k ≤ n → (∀ i x, arr[base + i]? = some x → i < k → leK κ x key) → (∀ i x, arr[base + i]? = some x → k ≤ i → i < n → leK κ key x) → Q (some k) st) :
  wpS (model prog w) A E s (gallopP left key arr base n hint) Q st := by
 refine wpS_gallopO hO hk hkey harr hb hh (fun i => if hi : base + i < arr.size then beyO κ left key arr[base + i] else false) (fun i hi => by rw [dif_pos hi]) ?_ ?_
 ·intro i j hij hj hp
  rw [dif_pos (by omega)] at hp ⊢
  have hle := hs i j _ _ hij hj (getElem?_pos arr _ (by omega)) (getElem?_pos arr _ (by omega))
  unfold beyO at *
  cases left
  ·simp only [wX, if_false, Bool.not_eq_true'] at hp ⊢
   exact hle.trans (leK_of_not hp)
  ·simp only [if_true] at hp ⊢
   exact KeyOrd.klt_of_kle_of_klt hle hp
 ·intro k hk1 h1 h2
  refine h k hk1 (fun i x hx hi => ?_) fun i x hx hi hn => ?_
  ·have e := h1 i hi
   rw [dif_pos (by omega)] at e
   have ex : arr[base + i]'(by omega) = x := by rw [getElem?_pos arr _ (by omega)] at hx; exact Option.some.inj hx
   rw [ex] at e
   unfold beyO at e
   cases left
   ·simp only [wX, if_false, Bool.not_eq_true'] at e
    exact leK_of_not e
   ·simp only [if_true] at e
    exact leK_of_less e
  ·have e := h2 i hi hn
   rw [dif_pos (by omega)] at e
   have ex : arr[base + i]'(by omega) = x := by rw [getElem?_pos arr _ (by omega)] at hx; exact Option.some.inj hx
   rw [ex] at e
   unfold beyO at e
   cases left
   ·simp only [wX, if_false, Bool.not_eq_false'] at e
    exact leK_of_less e
   ·simp only [if_true] at e
    exact leK_of_not e
theorem pw_ins {α : Type} {R : α → α → Prop} {out m rest other : List α} (h1 : (out ++ (m ++ rest)).Pairwise R) (h2 : (out ++ other).Pairwise R) (h3 : ∀ x ∈ m, ∀ y ∈ other, R x y) : ((out ++ m) ++ other).Pairwise R := by
 rw [jJ, zJ]
 rw [zJ] at h1 h2
 refine ⟨h1.1, zJ.mpr ⟨(zJ.mp h1.2.1).1, h2.2.1, h3⟩, fun x hx y hy => ?_⟩
 rcases yQ.mp hy with hy | hy
 ·exact h1.2.2 x hx y (jKe _ hy)
 ·exact h2.2.2 x hx y hy
structure LoS (κ : KeyKind) (a b out : Array Keyed) (ia ib : Nat) : Prop where
 p : LoP a b out ia ib
 A : (out.toList ++ a.toList.drop ia).Pairwise (leK κ)
 B : (out.toList ++ b.toList.drop ib).Pairwise (leK κ)
theorem drop_ext {α : Type} (xs : Array α) (i k : Nat) : xs.toList.drop i = (xs.extract i (i + k)).toList ++ xs.toList.drop (i + k) := by
 rw [jJa, jYf, show i + k - i = k by omega, ← List.drop_drop, jKc]
theorem drop_one {α : Type} (xs : Array α) {i : Nat} (hi : i < xs.size) : xs.toList.drop i = [xs[i]] ++ xs.toList.drop (i + 1) := by
 rw [kXd (show i < xs.toList.length from hi)]; rfl
section
variable {a b out : Array Keyed} {ia ib k : Nat}
theorem LoS.pushB (h : LoS κ a b out ia ib) (hi : ib < b.size) (hx : ∀ x ∈ a.toList.drop ia, leK κ b[ib] x) : LoS κ a b (out.push b[ib]) ia (ib + 1) := by
 have hB := h.B
 rw [drop_one b hi] at hB
 refine ⟨h.p.pushB hi, ?_, ?_⟩
 ·rw [zK]
  exact pw_ins hB h.A fun x hx' y hy => by cases kX.mp hx'; exact hx y hy
 ·rw [zK, jJ]; exact hB
theorem LoS.pushA (h : LoS κ a b out ia ib) (hi : ia < a.size) (hx : ∀ x ∈ b.toList.drop ib, leK κ a[ia] x) : LoS κ a b (out.push a[ia]) (ia + 1) ib := by
 have hA := h.A
 rw [drop_one a hi] at hA
 refine ⟨h.p.pushA hi, ?_, ?_⟩
 ·rw [zK, jJ]; exact hA
 ·rw [zK]
  exact pw_ins hA h.B fun x hx' y hy => by cases kX.mp hx'; exact hx y hy
theorem LoS.addA (h : LoS κ a b out ia ib) (k : Nat) (hx : ∀ x ∈ (a.extract ia (ia + k)).toList, ∀ y ∈ b.toList.drop ib, leK κ x y) : LoS κ a b (out ++ a.extract ia (ia + k)) (ia + k) ib := by
 have hA := h.A
 rw [drop_ext a ia k] at hA
 refine ⟨h.p.addA k, ?_, ?_⟩
 ·rw [jV, jJ]; exact hA
 ·rw [jV]; exact pw_ins hA h.B hx
theorem LoS.addB (h : LoS κ a b out ia ib) (k : Nat) (hx : ∀ x ∈ (b.extract ib (ib + k)).toList, ∀ y ∈ a.toList.drop ia, leK κ x y) : LoS κ a b (out ++ b.extract ib (ib + k)) ia (ib + k) := by
 have hB := h.B
 rw [drop_ext b ib k] at hB
 refine ⟨h.p.addB k, ?_, ?_⟩
 ·rw [jV]; exact pw_ins hB h.A hx
 ·rw [jV, jJ]; exact hB
theorem ext_tail {α : Type} (xs : Array α) (i : Nat) : (xs.extract i).toList = xs.toList.drop i := by
 rw [jJa, jYf, show xs.size - i = (xs.toList.drop i).length by rw [jQc]; rfl, jXf]
theorem LoS.doneB (h : LoS κ a b out ia ib) (hi : b.size ≤ ib) : (out ++ a.extract ia ++ b.extract ib).toList.Pairwise (leK κ) := by
 rw [jV, jV, ext_tail, ext_tail, kYf (show b.toList.length ≤ ib from hi), jJd]
 exact h.A
theorem LoS.doneA (h : LoS κ a b out ia ib) (hi : a.size ≤ ia) : (out ++ a.extract ia ++ b.extract ib).toList.Pairwise (leK κ) := by
 rw [jV, jV, ext_tail, ext_tail, kYf (show a.toList.length ≤ ia from hi), jJd]
 exact h.B
theorem LoS.last (h : LoS κ a b out ia ib) (hi : ∀ x ∈ b.toList, ∀ y ∈ a.toList.drop ia, leK κ x y) : (out ++ b.extract ib ++ a.extract ia).toList.Pairwise (leK κ) := by
 rw [jV, jV, ext_tail, ext_tail]
 exact pw_ins (rest := []) (by rw [jJd]; exact h.B) h.A fun x hx => hi x (List.mem_of_mem_drop hx)
theorem LoS.headA (h : LoS κ a b out ia ib) (hi : ia < a.size) : ∀ x ∈ a.toList.drop ia, leK κ a[ia] x := by
 have := (zJ.mp h.A).2.1
 rw [drop_one a hi] at this ⊢
 intro x hx
 rcases yQ.mp hx with hx | hx
 ·cases kX.mp hx; exact KeyOrd.kle_refl _
 ·exact List.rel_of_pairwise_cons this hx
theorem LoS.headB (h : LoS κ a b out ia ib) (hi : ib < b.size) : ∀ x ∈ b.toList.drop ib, leK κ b[ib] x := by
 have := (zJ.mp h.B).2.1
 rw [drop_one b hi] at this ⊢
 intro x hx
 rcases yQ.mp hx with hx | hx
 ·cases kX.mp hx; exact KeyOrd.kle_refl _
 ·exact List.rel_of_pairwise_cons this hx
end
end
section
variable {prog : Program} {w : World} {A : Around} {E : Value → Shared → Prop} {s : Shared} {κ : KeyKind}
theorem mem_ext {α : Type} {xs : Array α} {i j : Nat} {x : α} (h : x ∈ (xs.extract i j).toList) : ∃ k, i + k < j ∧ xs[i + k]? = some x := by
 obtain ⟨k, hk, e⟩ := List.mem_iff_getElem.mp h
 have hk' : k < (xs.extract i j).size := hk
 rw [jKf, jYd] at e
 rw [kXc] at hk'
 exact ⟨k, by omega, by rw [getElem?_pos xs _ (by omega), e]⟩
theorem seg_of {xs : Array Keyed} (h : xs.toList.Pairwise (leK κ)) (base n : Nat) : ∀ i j x y, i ≤ j → j < n → xs[base + i]? = some x → xs[base + j]? = some y → leK κ x y := by
 intro i j x y hij _ hx hy
 rw [← xW] at hx hy
 obtain ⟨u, rfl⟩ := kQ.mp hx
 obtain ⟨v, rfl⟩ := kQ.mp hy
 rcases Nat.lt_or_ge i j with hlt | hge
 ·exact jYe.mp h _ _ u v (by omega)
 ·have : i = j := by omega
  subst this
  exact KeyOrd.kle_refl _
theorem wpS_gallopSeg (hO : κ.OneLt) {st : SortSt} {left : Bool} {key : Keyed} {arr : Array Keyed} {base n hint : Nat} {Q : Option Nat → SortSt → Prop} (hk : kindOf st = oneType')
  (hkey : HasK κ key) (harr : ∀ x ∈ arr, HasK κ x) (hb : base + n ≤ arr.size) (hh : hint < n) (hs : arr.toList.Pairwise (leK κ))
  (h : ∀ k, k ≤ n → (∀ x ∈ (arr.extract base (base + k)).toList, leK κ x key) → (∀ x ∈ (arr.extract (base + k) (base + n)).toList, leK κ key x) → Q (some k) st) :
  wpS (model prog w) A E s (gallopP left key arr base n hint) Q st := by
 refine wpS_gallopLe hO hk hkey harr hb hh (seg_of hs base n) fun k hk1 h1 h2 => h k hk1 (fun x hx => ?_) fun x hx => ?_
 ·obtain ⟨i, hi, e⟩ := mem_ext hx
  exact h1 i x e (by omega)
 ·obtain ⟨i, hi, e⟩ := mem_ext hx
  rw [Nat.add_assoc] at e hi
  exact h2 (k + i) x e (by omega) (by omega)
theorem wpS_mergeLoO (hO : κ.OneLt) {st : SortSt} {a b : Array Keyed} {Q : Array Keyed → SortSt → Prop} (hk : kindOf st = oneType')
  (ha : ∀ x ∈ a, HasK κ x) (hb : ∀ x ∈ b, HasK κ x) (Sa : a.toList.Pairwise (leK κ)) (Sb : b.toList.Pairwise (leK κ)) (na : 1 ≤ a.size) (nb : 1 ≤ b.size) (hfirst : ∀ x ∈ a.toList, leK κ b[0] x) (hlast : ∀ x ∈ b.toList, ∀ y ∈ a.toList.drop (a.size - 1), leK κ x y)
  (h : ∀ out g, out.toList.Perm (a.toList ++ b.toList) → out.toList.Pairwise (leK κ) → Q out (setG st g)) :
  wpS (model prog w) A E s (mergeLoP a b) Q st := by
 refine wpS_bind (wpS_lift (wpAny_rule ⟨rfl, ?_⟩))
 refine wpS_bind (wpS_elemAny (by omega) ?_)
 have l00 : LoS κ a b #[] 0 0 := ⟨List.Perm.refl _, Sa, Sb⟩
 have l0 : LoS κ a b #[b[0]] 0 1 := l00.pushB (by omega) hfirst
 have hl1 : ∀ i, i + 1 = a.size → ∀ x ∈ b.toList, ∀ y ∈ a.toList.drop i, leK κ x y := fun i e => by
  rw [show i = a.size - 1 by omega]; exact hlast
 dsimp only
 refine wpS_ite (fun e => wpS_pure (h _ (gallopOf st) l0.p.done (l0.doneB (by rw [beq_iff_eq] at e; omega)))) fun e1 => ?_
 refine wpS_ite (fun e => wpS_pure (h _ (gallopOf st) l0.p.last (l0.last (hl1 _ (by rw [beq_iff_eq] at e; omega))))) fun e2 => ?_
 rw [beq_iff_eq] at e1 e2
 refine wpS_bind (wpS_get ?_)
 refine wpS_bind (wpS_mono (wpS_forRange (I := fun x (c : Option (Array Keyed) × Array Keyed × Nat × Nat × Nat) st' => (∃ g, st' = setG st g) ∧ c.1 = none ∧ LoS κ a b c.2.1 c.2.2.1 c.2.2.2.1 ∧ c.2.2.1 + 1 < a.size ∧ c.2.2.2.1 < b.size ∧ x ≤ c.2.2.1 + c.2.2.2.1)
  (Q := fun c st' => (∃ g, st' = setG st g) ∧ ∃ r, c.1 = some r ∧ (r.toList.Perm (a.toList ++ b.toList) ∧ r.toList.Pairwise (leK κ))) ?step ?fin ⟨⟨gallopOf st, rfl⟩, rfl, l0, by show 0 + 1 < _; omega, by show 1 < _; omega, wV _⟩) ?post)
 case post =>
  rintro ⟨r, c⟩ st' ⟨⟨g, rfl⟩, r', hr, hp⟩
  simp only at hr
  subst hr
  exact wpS_pure (h _ _ hp.1 hp.2)
 case fin =>
  rintro ⟨r, out, ia, ib, mg⟩ st' ⟨_, _, _, h1, h2, h3⟩
  simp only at h1 h2 h3
  omega
 case step =>
  rintro x ⟨r, out, ia, ib, mg⟩ st' _ _ ⟨⟨g, rfl⟩, hr, hl, h1, h2, h3⟩
  simp only at hr hl h1 h2 h3 ⊢
  subst hr
  refine wpS_bind (wpS_mono (wpS_forRange (I := fun y (c : Option (Array Keyed) × Array Keyed × Nat × Nat × Nat × Nat) st' => st' = setG st g ∧ c.1 = none ∧ LoS κ a b c.2.1 c.2.2.1 c.2.2.2.1 ∧ c.2.2.1 + 1 < a.size ∧ c.2.2.2.1 < b.size ∧ x + y ≤ c.2.2.1 + c.2.2.2.1)
   (Q := fun c st' => st' = setG st g ∧ ((∃ r, c.1 = some r ∧ (r.toList.Perm (a.toList ++ b.toList) ∧ r.toList.Pairwise (leK κ))) ∨ c.1 = none ∧ LoS κ a b c.2.1 c.2.2.1 c.2.2.2.1 ∧ c.2.2.1 + 1 < a.size ∧ c.2.2.2.1 < b.size ∧ x + 1 ≤ c.2.2.1 + c.2.2.2.1)) ?s1 ?f1 ⟨rfl, rfl, hl, h1, h2, h3⟩) ?p1)
  case f1 =>
   rintro ⟨r, out, ia, ib, ac, bc⟩ st' ⟨rfl, hr, hl, h1, h2, h3⟩
   simp only at h1 h2 h3
   exact ⟨rfl, .inr ⟨hr, hl, h1, h2, by show x + 1 ≤ ia + ib; omega⟩⟩
  case s1 =>
   rintro y ⟨r, out, ia, ib, ac, bc⟩ st' _ _ ⟨rfl, hr, hl, h1, h2, h3⟩
   simp only at hr hl h1 h2 h3 ⊢
   subst hr
   refine wpS_bind (wpS_elemAny h2 ?_)
   refine wpS_bind (wpS_elemAny (by omega) ?_)
   refine wpS_bind (wpS_ltO hO hk (hb _ (yK _)) (ha _ (yK _)) ?_)
   cases wins : lessK κ b[ib] a[ia]
   ·refine wpS_bind (wpS_elemAny (i := ia) (by omega) ?_)
    have hl' := hl.pushA (show ia < a.size by omega) fun x hx => (leK_of_not wins).trans (hl.headB h2 x hx)
    refine wpS_ite (fun e => wpS_pure ⟨rfl, .inl ⟨_, rfl, hl'.p.last, hl'.last (hl1 _ (by rw [beq_iff_eq] at e; omega))⟩⟩) fun e => ?_
    ·rw [beq_iff_eq] at e
     refine wpS_ite (fun _ => ?_) fun _ => ?_
     ·exact wpS_pure ⟨rfl, .inr ⟨rfl, hl', by show ia + 1 + 1 < _; omega, h2, by show x + 1 ≤ ia + 1 + ib; omega⟩⟩
     ·exact wpS_pure ⟨rfl, rfl, hl', by show ia + 1 + 1 < _; omega, h2, by show x + (y + 1) ≤ ia + 1 + ib; omega⟩
   ·refine wpS_bind (wpS_elemAny h2 ?_)
    have hl' := hl.pushB h2 fun x hx => (leK_of_less wins).trans (hl.headA (by omega) x hx)
    refine wpS_ite (fun e => wpS_pure ⟨rfl, .inl ⟨_, rfl, hl'.p.done, hl'.doneB (by rw [beq_iff_eq] at e; omega)⟩⟩) fun e => ?_
    ·rw [beq_iff_eq] at e
     refine wpS_ite (fun _ => ?_) fun _ => ?_
     ·exact wpS_pure ⟨rfl, .inr ⟨rfl, hl', h1, by show ib + 1 < _; omega, by show x + 1 ≤ ia + (ib + 1); omega⟩⟩
     ·exact wpS_pure ⟨rfl, rfl, hl', h1, by show ib + 1 < _; omega, by show x + (y + 1) ≤ ia + (ib + 1); omega⟩
  case p1 =>
   rintro ⟨r, out, ia, ib, ac, bc⟩ st' ⟨rfl, hr | ⟨hr, hl, h1, h2, h3⟩⟩
   ·obtain ⟨r', hr, hp⟩ := hr
    simp only at hr
    subst hr
    exact wpS_pure ⟨⟨_, rfl⟩, _, rfl, hp⟩
   simp only at hr hl h1 h2 h3 ⊢
   subst hr
   refine wpS_bind (wpS_lift (wpAny_rule ⟨rfl, ?_⟩))
   refine wpS_bind (wpS_mono (wpS_forRange (I := fun y (c : Option (Array Keyed) × Array Keyed × Nat × Nat × Nat × Nat × Nat) st' => (∃ g, st' = setG st g) ∧ c.1 = none ∧ LoS κ a b c.2.1 c.2.2.1 c.2.2.2.1 ∧ c.2.2.1 + 1 < a.size ∧ c.2.2.2.1 < b.size ∧ x + 1 ≤ c.2.2.1 + c.2.2.2.1)
    (Q := fun c st' => (∃ g, st' = setG st g) ∧ ((∃ r, c.1 = some r ∧ (r.toList.Perm (a.toList ++ b.toList) ∧ r.toList.Pairwise (leK κ))) ∨ c.1 = none ∧ LoS κ a b c.2.1 c.2.2.1 c.2.2.2.1 ∧ c.2.2.1 + 1 < a.size ∧ c.2.2.2.1 < b.size ∧ x + 1 ≤ c.2.2.1 + c.2.2.2.1)) ?s2 ?f2 ⟨⟨_, rfl⟩, rfl, hl, h1, h2, h3⟩) ?p2)
   case f2 =>
    rintro ⟨r, out, ia, ib, mg, ac, bc⟩ st' ⟨hg, hr, hl, h1, h2, h3⟩
    exact ⟨hg, .inr ⟨hr, hl, h1, h2, h3⟩⟩
   case p2 =>
    rintro ⟨r, out, ia, ib, mg, ac, bc⟩ st' ⟨⟨g, rfl⟩, hr | ⟨hr, hl, h1, h2, h3⟩⟩
    ·obtain ⟨r', hr, hp⟩ := hr
     simp only at hr
     subst hr
     exact wpS_pure ⟨⟨_, rfl⟩, _, rfl, hp⟩
    ·simp only at hr hl h1 h2 h3 ⊢
     subst hr
     exact wpS_bind (wpS_modify (wpS_pure ⟨⟨_, rfl⟩, rfl, hl, h1, h2, h3⟩))
   case s2 =>
    rintro y ⟨r, out, ia, ib, mg, ac, bc⟩ st' _ _ ⟨⟨g, rfl⟩, hr, hl, h1, h2, h3⟩
    simp only at hr hl h1 h2 h3 ⊢
    subst hr
    refine wpS_ite (fun _ => ?_) (fun _ => ?_)
    all_goals
     refine wpS_bind (wpS_modify ?_)
     refine wpS_bind (wpS_elemAny h2 ?_)
     refine wpS_bind (wpS_gallopSeg hO (by exact hk) (hb _ (yK _)) ha (by omega) (by omega) Sa fun k hk1 g1 g2 => ?_)
     rw [show ia + (a.size - ia) = a.size by omega, ext_tail] at g2
     dsimp only
     refine wpS_ite (fun k0 => ?_) (fun k0 => ?_)
     ·have hlA := hl.addA k fun x hx y hy => (g1 x hx).trans (hl.headB h2 y hy)
      refine wpS_ite (fun e => wpS_pure ⟨⟨_, rfl⟩, .inl ⟨_, rfl, hlA.p.last, hlA.last (hl1 _ (by rw [beq_iff_eq] at e; omega))⟩⟩) fun e1 => ?_
      refine wpS_ite (fun e => wpS_pure ⟨⟨_, rfl⟩, .inl ⟨_, rfl, hlA.p.done, hlA.doneA (by rw [beq_iff_eq] at e; omega)⟩⟩) fun e2 => ?_
      rw [beq_iff_eq] at e1 e2
      refine wpS_bind (wpS_elemAny h2 ?_)
      have hl2 := hlA.pushB h2 g2
      have hj : ia + k + 1 < a.size := by omega
      refine wpS_ite (fun e => wpS_pure ⟨⟨_, rfl⟩, .inl ⟨_, rfl, hl2.p.done, hl2.doneB (by rw [beq_iff_eq] at e; omega)⟩⟩) fun e3 => ?_
      rw [beq_iff_eq] at e3
      refine wpS_bind (wpS_elemAny (xX hj) ?_)
      refine wpS_bind (wpS_gallopSeg hO (by exact hk) (ha _ (yK _)) hb (by omega) (by omega) Sb fun k2 hk2 g3 g4 => ?_)
      rw [show ib + 1 + (b.size - (ib + 1)) = b.size by omega, ext_tail] at g4
      dsimp only
      refine wpS_ite (fun k0' => ?_) (fun k0' => ?_)
      ·have hl3 := hl2.addB k2 fun x hx y hy => (g3 x hx).trans (hl2.headA (xX hj) y hy)
       refine wpS_ite (fun e => wpS_pure ⟨⟨_, rfl⟩, .inl ⟨_, rfl, hl3.p.done, hl3.doneB (by rw [beq_iff_eq] at e; omega)⟩⟩) fun e4 => ?_
       rw [beq_iff_eq] at e4
       refine wpS_bind (wpS_elemAny (xX hj) ?_)
       have hl4 := hl3.pushA (xX hj) g4
       refine wpS_ite (fun e => wpS_pure ⟨⟨_, rfl⟩, .inl ⟨_, rfl, hl4.p.last, hl4.last (hl1 _ (by rw [beq_iff_eq] at e; omega))⟩⟩) fun e5 => ?_
       rw [beq_iff_eq] at e5
       refine wpS_ite (fun _ => wpS_pure ⟨⟨_, rfl⟩, .inr ⟨rfl, hl4, ?_, ?_, ?_⟩⟩) fun _ => wpS_pure ⟨⟨_, rfl⟩, rfl, hl4, ?_, ?_, ?_⟩ <;> dsimp only <;> omega
      ·refine wpS_bind (wpS_elemAny (xX hj) ?_)
       have k00' : k2 = 0 := by omega
       subst k00'
       have hl4 := hl2.pushA (xX hj) g4
       refine wpS_ite (fun e => wpS_pure ⟨⟨_, rfl⟩, .inl ⟨_, rfl, hl4.p.last, hl4.last (hl1 _ (by rw [beq_iff_eq] at e; omega))⟩⟩) fun e5 => ?_
       rw [beq_iff_eq] at e5
       refine wpS_ite (fun _ => wpS_pure ⟨⟨_, rfl⟩, .inr ⟨rfl, hl4, ?_, ?_, ?_⟩⟩) fun _ => wpS_pure ⟨⟨_, rfl⟩, rfl, hl4, ?_, ?_, ?_⟩ <;> dsimp only <;> omega
     ·have k00 : k = 0 := by omega
      subst k00
      have hl2 := hl.pushB h2 g2
      have hj : ia + 1 < a.size := h1
      refine wpS_bind (wpS_elemAny h2 ?_)
      refine wpS_ite (fun e => wpS_pure ⟨⟨_, rfl⟩, .inl ⟨_, rfl, hl2.p.done, hl2.doneB (by rw [beq_iff_eq] at e; omega)⟩⟩) fun e3 => ?_
      rw [beq_iff_eq] at e3
      refine wpS_bind (wpS_elemAny (xX hj) ?_)
      refine wpS_bind (wpS_gallopSeg hO (by exact hk) (ha _ (yK _)) hb (by omega) (by omega) Sb fun k2 hk2 g3 g4 => ?_)
      rw [show ib + 1 + (b.size - (ib + 1)) = b.size by omega, ext_tail] at g4
      dsimp only
      refine wpS_ite (fun k0' => ?_) (fun k0' => ?_)
      ·have hl3 := hl2.addB k2 fun x hx y hy => (g3 x hx).trans (hl2.headA (xX hj) y hy)
       refine wpS_ite (fun e => wpS_pure ⟨⟨_, rfl⟩, .inl ⟨_, rfl, hl3.p.done, hl3.doneB (by rw [beq_iff_eq] at e; omega)⟩⟩) fun e4 => ?_
       rw [beq_iff_eq] at e4
       refine wpS_bind (wpS_elemAny (xX hj) ?_)
       have hl4 := hl3.pushA (xX hj) g4
       refine wpS_ite (fun e => wpS_pure ⟨⟨_, rfl⟩, .inl ⟨_, rfl, hl4.p.last, hl4.last (hl1 _ (by rw [beq_iff_eq] at e; omega))⟩⟩) fun e5 => ?_
       rw [beq_iff_eq] at e5
       refine wpS_ite (fun _ => wpS_pure ⟨⟨_, rfl⟩, .inr ⟨rfl, hl4, ?_, ?_, ?_⟩⟩) fun _ => wpS_pure ⟨⟨_, rfl⟩, rfl, hl4, ?_, ?_, ?_⟩ <;> dsimp only <;> omega
      ·refine wpS_bind (wpS_elemAny (xX hj) ?_)
       have k00' : k2 = 0 := by omega
       subst k00'
       have hl4 := hl2.pushA (xX hj) g4
       refine wpS_ite (fun e => wpS_pure ⟨⟨_, rfl⟩, .inl ⟨_, rfl, hl4.p.last, hl4.last (hl1 _ (by rw [beq_iff_eq] at e; omega))⟩⟩) fun e5 => ?_
       rw [beq_iff_eq] at e5
       refine wpS_ite (fun _ => wpS_pure ⟨⟨_, rfl⟩, .inr ⟨rfl, hl4, ?_, ?_, ?_⟩⟩) fun _ => wpS_pure ⟨⟨_, rfl⟩, rfl, hl4, ?_, ?_, ?_⟩ <;> dsimp only <;> omega
end
section
variable {prog : Program} {w : World} {A : Around} {E : Value → Shared → Prop} {s : Shared} {κ : KeyKind}
theorem pw_ins' {α : Type} {R : α → α → Prop} {out m rest other : List α} (h1 : ((rest ++ m) ++ out).Pairwise R) (h2 : (other ++ out).Pairwise R) (h3 : ∀ y ∈ other, ∀ x ∈ m, R y x) : (other ++ (m ++ out)).Pairwise R := by
 rw [jJ, zJ] at h1
 rw [zJ] at h2 ⊢
 refine ⟨h2.1, h1.2.1, fun y hy x hx => ?_⟩
 rcases yQ.mp hx with hx | hx
 ·exact h3 y hy x hx
 ·exact h2.2.2 y hy x hx
structure HiS (κ : KeyKind) (a b out : Array Keyed) (na nb : Nat) : Prop where
 p : HiP a b out na nb
 A : (a.toList.take na ++ out.toList.reverse).Pairwise (leK κ)
 B : (b.toList.take nb ++ out.toList.reverse).Pairwise (leK κ)
section
variable {a b out : Array Keyed} {na nb k : Nat}
theorem take_less {α : Type} (xs : Array α) {n : Nat} (h1 : 1 ≤ n) (hi : n - 1 < xs.size) : xs.toList.take n = xs.toList.take (n - 1) ++ [xs[n - 1]] := by
 have := take_snoc xs hi
 rwa [Nat.sub_add_cancel h1] at this
theorem HiS.lessA (h : HiS κ a b out na nb) (h1 : 1 ≤ na) (hi : na - 1 < a.size) (hx : ∀ y ∈ b.toList.take nb, leK κ y a[na - 1]) : HiS κ a b (out.push a[na - 1]) (na - 1) nb := by
 have hA := h.A
 rw [take_less a h1 hi] at hA
 refine ⟨h.p.lessA h1 hi, ?_, ?_⟩
 ·rw [zK, jQb, ← jJ]; exact hA
 ·rw [zK, jQb]
  exact pw_ins' hA h.B fun y hy x hx' => by cases kX.mp (List.mem_reverse.mp hx'); exact hx y hy
theorem HiS.lessB (h : HiS κ a b out na nb) (h1 : 1 ≤ nb) (hi : nb - 1 < b.size) (hx : ∀ y ∈ a.toList.take na, leK κ y b[nb - 1]) : HiS κ a b (out.push b[nb - 1]) na (nb - 1) := by
 have hB := h.B
 rw [take_less b h1 hi] at hB
 refine ⟨h.p.lessB h1 hi, ?_, ?_⟩
 ·rw [zK, jQb]
  exact pw_ins' hB h.A fun y hy x hx' => by cases kX.mp (List.mem_reverse.mp hx'); exact hx y hy
 ·rw [zK, jQb, ← jJ]; exact hB
theorem HiS.cutA (h : HiS κ a b out na nb) (hk : k ≤ na) (hx : ∀ y ∈ b.toList.take nb, ∀ x ∈ (a.extract k na).toList, leK κ y x) : HiS κ a b (out ++ (a.extract k na).reverse) k nb := by
 have hA := h.A
 rw [take_cut a hk] at hA
 refine ⟨h.p.cutA hk, ?_, ?_⟩
 ·rw [jV, xY, jQb, kQa, ← jJ]; exact hA
 ·rw [jV, xY, jQb, kQa]; exact pw_ins' hA h.B hx
theorem HiS.cutB (h : HiS κ a b out na nb) (hk : k ≤ nb) (hx : ∀ y ∈ a.toList.take na, ∀ x ∈ (b.extract k nb).toList, leK κ y x) : HiS κ a b (out ++ (b.extract k nb).reverse) na k := by
 have hB := h.B
 rw [take_cut b hk] at hB
 refine ⟨h.p.cutB hk, ?_, ?_⟩
 ·rw [jV, xY, jQb, kQa]; exact pw_ins' hB h.A hx
 ·rw [jV, xY, jQb, kQa, ← jJ]; exact hB
theorem HiS.doneA (h : HiS κ a b out na nb) (hi : na = 0) : (a.extract 0 na ++ b.extract 0 nb ++ out.reverse).toList.Pairwise (leK κ) := by
 subst hi
 rw [jV, jV, ext0, ext0, xY, List.take_zero, List.nil_append]
 exact h.B
theorem HiS.doneB (h : HiS κ a b out na nb) (hi : nb = 0) : (a.extract 0 na ++ b.extract 0 nb ++ out.reverse).toList.Pairwise (leK κ) := by
 subst hi
 rw [jV, jV, ext0, ext0, xY, List.take_zero, jJd]
 exact h.A
theorem HiS.first (h : HiS κ a b out na nb) (hi : ∀ y ∈ b.toList.take nb, ∀ x ∈ a.toList, leK κ y x) : (b.extract 0 nb ++ a.extract 0 na ++ out.reverse).toList.Pairwise (leK κ) := by
 rw [jV, jV, ext0, ext0, xY, jJ]
 exact pw_ins' (rest := []) (by rw [List.nil_append]; exact h.A) h.B fun y hy x hx => hi y hy x (kQb hx)
theorem HiS.tailA (h : HiS κ a b out na nb) (h1 : 1 ≤ na) (hi : na - 1 < a.size) : ∀ x ∈ a.toList.take na, leK κ x a[na - 1] := by
 have := (zJ.mp h.A).1
 rw [take_less a h1 hi] at this ⊢
 intro x hx
 rcases yQ.mp hx with hx | hx
 ·exact (zJ.mp this).2.2 x hx _ xZ
 ·cases kX.mp hx; exact KeyOrd.kle_refl _
theorem HiS.tailB (h : HiS κ a b out na nb) (h1 : 1 ≤ nb) (hi : nb - 1 < b.size) : ∀ x ∈ b.toList.take nb, leK κ x b[nb - 1] := by
 have := (zJ.mp h.B).1
 rw [take_less b h1 hi] at this ⊢
 intro x hx
 rcases yQ.mp hx with hx | hx
 ·exact (zJ.mp this).2.2 x hx _ xZ
 ·cases kX.mp hx; exact KeyOrd.kle_refl _
end
theorem wpS_mergeHiO (hO : κ.OneLt) {st : SortSt} {a b : Array Keyed} {Q : Array Keyed → SortSt → Prop} (hk : kindOf st = oneType')
  (ha : ∀ x ∈ a, HasK κ x) (hb : ∀ x ∈ b, HasK κ x) (Sa : a.toList.Pairwise (leK κ)) (Sb : b.toList.Pairwise (leK κ)) (na : 1 ≤ a.size) (nb : 1 ≤ b.size) (hfirst : ∀ y ∈ b.toList.take 1, ∀ x ∈ a.toList, leK κ y x) (hlast : ∀ y ∈ b.toList, leK κ y a[a.size - 1])
  (h : ∀ out g, out.toList.Perm (a.toList ++ b.toList) → out.toList.Pairwise (leK κ) → Q out (setG st g)) :
  wpS (model prog w) A E s (mergeHiP a b) Q st := by
 refine wpS_bind (wpS_lift (wpAny_rule ⟨rfl, ?_⟩))
 refine wpS_bind (wpS_elemAny (by omega) ?_)
 have l00 : HiS κ a b #[] a.size b.size := by
  refine ⟨?_, ?_, ?_⟩
  ·unfold HiP
   rw [show a.size = a.toList.length from rfl, show b.size = b.toList.length from rfl, jXf, jXf]
   simp
  ·rw [show a.size = a.toList.length from rfl, jXf]; simpa using Sa
  ·rw [show b.size = b.toList.length from rfl, jXf]; simpa using Sb
 have l0 : HiS κ a b #[a[a.size - 1]] (a.size - 1) b.size := l00.lessA na (by omega) fun y hy => hlast y (kQb hy)
 have hf1 : ∀ n, n = 1 → ∀ y ∈ b.toList.take n, ∀ x ∈ a.toList, leK κ y x := fun n e => by rw [e]; exact hfirst
 dsimp only
 refine wpS_ite (fun e => wpS_pure (h _ (gallopOf st) l0.p.done (l0.doneA (by rw [beq_iff_eq] at e; omega)))) fun e1 => ?_
 refine wpS_ite (fun e => wpS_pure (h _ (gallopOf st) l0.p.first (l0.first (hf1 _ (by rw [beq_iff_eq] at e; omega))))) fun e2 => ?_
 rw [beq_iff_eq] at e1 e2
 refine wpS_bind (wpS_get ?_)
 refine wpS_bind (wpS_mono (wpS_forRange (I := fun x (c : Option (Array Keyed) × Nat × Nat × Array Keyed × Nat) st' => (∃ g, st' = setG st g) ∧ c.1 = none ∧ HiS κ a b c.2.2.2.1 c.2.1 c.2.2.1 ∧ 1 ≤ c.2.1 ∧ c.2.1 ≤ a.size ∧ 2 ≤ c.2.2.1 ∧ c.2.2.1 ≤ b.size ∧ x + c.2.1 + c.2.2.1 ≤ a.size + b.size)
  (Q := fun c st' => (∃ g, st' = setG st g) ∧ ∃ r, c.1 = some r ∧ (r.toList.Perm (a.toList ++ b.toList) ∧ r.toList.Pairwise (leK κ))) ?step ?fin ⟨⟨gallopOf st, rfl⟩, rfl, l0, ?_, ?_, ?_, ?_, ?_⟩) ?post)
 case post =>
  rintro ⟨r, c⟩ st' ⟨⟨g, rfl⟩, r', hr, hp⟩
  simp only at hr
  subst hr
  exact wpS_pure (h _ _ hp.1 hp.2)
 case fin =>
  rintro ⟨r, na, nb, out, mg⟩ st' ⟨_, _, _, h1, h2, h3, h4, h5⟩
  simp only at h1 h2 h3 h5
  omega
 case step =>
  rintro x ⟨r, na, nb, out, mg⟩ st' _ _ ⟨⟨g, rfl⟩, hr, hl, h1, h2, h3, h4, h5⟩
  simp only at hr hl h1 h2 h3 h4 h5 ⊢
  subst hr
  refine wpS_bind (wpS_mono (wpS_forRange (I := fun y (c : Option (Array Keyed) × Nat × Nat × Array Keyed × Nat × Nat) st' => st' = setG st g ∧ c.1 = none ∧ HiS κ a b c.2.2.2.1 c.2.1 c.2.2.1 ∧ 1 ≤ c.2.1 ∧ c.2.1 ≤ a.size ∧ 2 ≤ c.2.2.1 ∧ c.2.2.1 ≤ b.size ∧ x + y + c.2.1 + c.2.2.1 ≤ a.size + b.size)
   (Q := fun c st' => st' = setG st g ∧ ((∃ r, c.1 = some r ∧ (r.toList.Perm (a.toList ++ b.toList) ∧ r.toList.Pairwise (leK κ))) ∨ c.1 = none ∧ HiS κ a b c.2.2.2.1 c.2.1 c.2.2.1 ∧ 1 ≤ c.2.1 ∧ c.2.1 ≤ a.size ∧ 2 ≤ c.2.2.1 ∧ c.2.2.1 ≤ b.size ∧ x + 1 + c.2.1 + c.2.2.1 ≤ a.size + b.size)) ?s1 ?f1 ⟨rfl, rfl, hl, h1, h2, h3, h4, h5⟩) ?p1)
  case f1 =>
   rintro ⟨r, na, nb, out, ac, bc⟩ st' ⟨rfl, hr, hl, h1, h2, h3, h4, h5⟩
   simp only at h1 h2 h3 h4 h5
   exact ⟨rfl, .inr ⟨hr, hl, h1, h2, h3, h4, by show x + 1 + na + nb ≤ _; omega⟩⟩
  case s1 =>
   rintro y ⟨r, na, nb, out, ac, bc⟩ st' _ _ ⟨rfl, hr, hl, h1, h2, h3, h4, h5⟩
   simp only at hr hl h1 h2 h3 h4 h5 ⊢
   subst hr
   refine wpS_bind (wpS_elemAny (by omega) ?_)
   refine wpS_bind (wpS_elemAny (by omega) ?_)
   refine wpS_bind (wpS_ltO hO hk (hb _ (yK _)) (ha _ (yK _)) ?_)
   cases wins : lessK κ b[nb - 1] a[na - 1]
   ·refine wpS_bind (wpS_elemAny (i := nb - 1) (by omega) ?_)
    have hl' := hl.lessB (by omega) (show nb - 1 < b.size by omega) fun y hy => (hl.tailA h1 (by omega) y hy).trans (leK_of_not wins)
    refine wpS_ite (fun e => wpS_pure ⟨rfl, .inl ⟨_, rfl, hl'.p.first, hl'.first (hf1 _ (by rw [beq_iff_eq] at e; omega))⟩⟩) fun e => ?_
    rw [beq_iff_eq] at e
    refine wpS_ite (fun _ => wpS_pure ⟨rfl, .inr ⟨rfl, hl', ?_, ?_, ?_, ?_, ?_⟩⟩) fun _ => wpS_pure ⟨rfl, rfl, hl', ?_, ?_, ?_, ?_, ?_⟩ <;> dsimp only <;> omega
   ·refine wpS_bind (wpS_elemAny (i := na - 1) (by omega) ?_)
    have hl' := hl.lessA (by omega) (show na - 1 < a.size by omega) fun y hy => (hl.tailB (by omega) (by omega) y hy).trans (leK_of_less wins)
    refine wpS_ite (fun e => wpS_pure ⟨rfl, .inl ⟨_, rfl, hl'.p.done, hl'.doneA (by rw [beq_iff_eq] at e; omega)⟩⟩) fun e => ?_
    rw [beq_iff_eq] at e
    refine wpS_ite (fun _ => wpS_pure ⟨rfl, .inr ⟨rfl, hl', ?_, ?_, ?_, ?_, ?_⟩⟩) fun _ => wpS_pure ⟨rfl, rfl, hl', ?_, ?_, ?_, ?_, ?_⟩ <;> dsimp only <;> omega
  case p1 =>
   rintro ⟨r, na, nb, out, ac, bc⟩ st' ⟨rfl, hr | ⟨hr, hl, h1, h2, h3, h4, h5⟩⟩
   ·obtain ⟨r', hr, hp⟩ := hr
    simp only at hr
    subst hr
    exact wpS_pure ⟨⟨_, rfl⟩, _, rfl, hp⟩
   simp only at hr hl h1 h2 h3 h4 h5 ⊢
   subst hr
   refine wpS_bind (wpS_lift (wpAny_rule ⟨rfl, ?_⟩))
   refine wpS_bind (wpS_mono (wpS_forRange (I := fun y (c : Option (Array Keyed) × Nat × Nat × Array Keyed × Nat × Nat × Nat) st' => (∃ g, st' = setG st g) ∧ c.1 = none ∧ HiS κ a b c.2.2.2.1 c.2.1 c.2.2.1 ∧ 1 ≤ c.2.1 ∧ c.2.1 ≤ a.size ∧ 2 ≤ c.2.2.1 ∧ c.2.2.1 ≤ b.size ∧ x + 1 + c.2.1 + c.2.2.1 ≤ a.size + b.size)
    (Q := fun c st' => (∃ g, st' = setG st g) ∧ ((∃ r, c.1 = some r ∧ (r.toList.Perm (a.toList ++ b.toList) ∧ r.toList.Pairwise (leK κ))) ∨ c.1 = none ∧ HiS κ a b c.2.2.2.1 c.2.1 c.2.2.1 ∧ 1 ≤ c.2.1 ∧ c.2.1 ≤ a.size ∧ 2 ≤ c.2.2.1 ∧ c.2.2.1 ≤ b.size ∧ x + 1 + c.2.1 + c.2.2.1 ≤ a.size + b.size)) ?s2 ?f2 ⟨⟨_, rfl⟩, rfl, hl, h1, h2, h3, h4, h5⟩) ?p2)
   case f2 =>
    rintro ⟨r, na, nb, out, mg, ac, bc⟩ st' ⟨hg, hr, hl, hh⟩
    exact ⟨hg, .inr ⟨hr, hl, hh⟩⟩
   case p2 =>
    rintro ⟨r, na, nb, out, mg, ac, bc⟩ st' ⟨⟨g, rfl⟩, hr | ⟨hr, hl, hh⟩⟩
    ·obtain ⟨r', hr, hp⟩ := hr
     simp only at hr
     subst hr
     exact wpS_pure ⟨⟨_, rfl⟩, _, rfl, hp⟩
    ·simp only at hr hl hh ⊢
     subst hr
     exact wpS_bind (wpS_modify (wpS_pure ⟨⟨_, rfl⟩, rfl, hl, hh⟩))
   case s2 =>
    rintro y ⟨r, na, nb, out, mg, ac, bc⟩ st' _ _ ⟨⟨g, rfl⟩, hr, hl, h1, h2, h3, h4, h5⟩
    simp only at hr hl h1 h2 h3 h4 h5 ⊢
    subst hr
    refine wpS_ite (fun _ => ?_) (fun _ => ?_)
    all_goals
     refine wpS_bind (wpS_modify ?_)
     refine wpS_bind (wpS_elemAny (by omega) ?_)
     refine wpS_bind (wpS_gallopSeg hO (by exact hk) (hb _ (yK _)) ha (by omega) (by omega) Sa fun k hk1 g1 g2 => ?_)
     rw [kXa] at g1 g2
     rw [ext0] at g1
     rw [kXa] at g2
     dsimp only
     refine wpS_ite (fun k0 => ?_) (fun k0 => ?_)
     ·have hl1 := hl.cutA hk1 fun y hy x hx => (hl.tailB (by omega) (by omega) y hy).trans (g2 x hx)
      refine wpS_ite (fun e => wpS_pure ⟨⟨_, rfl⟩, .inl ⟨_, rfl, hl1.p.done, hl1.doneA (by rw [beq_iff_eq] at e; omega)⟩⟩) fun e1 => ?_
      rw [beq_iff_eq] at e1
      refine wpS_bind (wpS_elemAny (by omega) ?_)
      have hl2 := hl1.lessB (by omega) (show nb - 1 < b.size by omega) g1
      refine wpS_ite (fun e => wpS_pure ⟨⟨_, rfl⟩, .inl ⟨_, rfl, hl2.p.first, hl2.first (hf1 _ (by rw [beq_iff_eq] at e; omega))⟩⟩) fun e3 => ?_
      rw [beq_iff_eq] at e3
      refine wpS_bind (wpS_elemAny (by omega) ?_)
      refine wpS_bind (wpS_gallopSeg hO (by exact hk) (ha _ (yK _)) hb (by omega) (by omega) Sb fun k2 hk2 g3 g4 => ?_)
      rw [kXa] at g3 g4
      rw [ext0] at g3
      rw [kXa] at g4
      dsimp only
      refine wpS_ite (fun k0' => ?_) (fun k0' => ?_)
      ·have hl3 := hl2.cutB hk2 fun y hy x hx => (hl2.tailA (by omega) (by omega) y hy).trans (g4 x hx)
       refine wpS_ite (fun e => wpS_pure ⟨⟨_, rfl⟩, .inl ⟨_, rfl, hl3.p.first, hl3.first (hf1 _ (by rw [beq_iff_eq] at e; omega))⟩⟩) fun e4 => ?_
       refine wpS_ite (fun e => wpS_pure ⟨⟨_, rfl⟩, .inl ⟨_, rfl, hl3.p.done, hl3.doneB (by rw [beq_iff_eq] at e; omega)⟩⟩) fun e6 => ?_
       rw [beq_iff_eq] at e4 e6
       refine wpS_bind (wpS_elemAny (by omega) ?_)
       have hl4 := hl3.lessA (by omega) (show k - 1 < a.size by omega) g3
       refine wpS_ite (fun e => wpS_pure ⟨⟨_, rfl⟩, .inl ⟨_, rfl, hl4.p.done, hl4.doneA (by rw [beq_iff_eq] at e; omega)⟩⟩) fun e5 => ?_
       rw [beq_iff_eq] at e5
       refine wpS_ite (fun _ => wpS_pure ⟨⟨_, rfl⟩, .inr ⟨rfl, hl4, ?_, ?_, ?_, ?_, ?_⟩⟩) fun _ => wpS_pure ⟨⟨_, rfl⟩, rfl, hl4, ?_, ?_, ?_, ?_, ?_⟩ <;> dsimp only <;> omega
      ·refine wpS_bind (wpS_elemAny (by omega) ?_)
       have hl4 := hl2.lessA (by omega) (show k - 1 < a.size by omega) (by rw [show nb - 1 = k2 by omega]; exact g3)
       refine wpS_ite (fun e => wpS_pure ⟨⟨_, rfl⟩, .inl ⟨_, rfl, hl4.p.done, hl4.doneA (by rw [beq_iff_eq] at e; omega)⟩⟩) fun e5 => ?_
       rw [beq_iff_eq] at e5
       refine wpS_ite (fun _ => wpS_pure ⟨⟨_, rfl⟩, .inr ⟨rfl, hl4, ?_, ?_, ?_, ?_, ?_⟩⟩) fun _ => wpS_pure ⟨⟨_, rfl⟩, rfl, hl4, ?_, ?_, ?_, ?_, ?_⟩ <;> dsimp only <;> omega
     ·skip
      refine wpS_bind (wpS_elemAny (by omega) ?_)
      have hl2 := hl.lessB (by omega) (show nb - 1 < b.size by omega) (by rw [show na = k by omega]; exact g1)
      refine wpS_ite (fun e => wpS_pure ⟨⟨_, rfl⟩, .inl ⟨_, rfl, hl2.p.first, hl2.first (hf1 _ (by rw [beq_iff_eq] at e; omega))⟩⟩) fun e3 => ?_
      rw [beq_iff_eq] at e3
      refine wpS_bind (wpS_elemAny (by omega) ?_)
      refine wpS_bind (wpS_gallopSeg hO (by exact hk) (ha _ (yK _)) hb (by omega) (by omega) Sb fun k2 hk2 g3 g4 => ?_)
      rw [kXa] at g3 g4
      rw [ext0] at g3
      rw [kXa] at g4
      dsimp only
      refine wpS_ite (fun k0' => ?_) (fun k0' => ?_)
      ·have hl3 := hl2.cutB hk2 fun y hy x hx => (hl2.tailA (by omega) (by omega) y hy).trans (g4 x hx)
       refine wpS_ite (fun e => wpS_pure ⟨⟨_, rfl⟩, .inl ⟨_, rfl, hl3.p.first, hl3.first (hf1 _ (by rw [beq_iff_eq] at e; omega))⟩⟩) fun e4 => ?_
       refine wpS_ite (fun e => wpS_pure ⟨⟨_, rfl⟩, .inl ⟨_, rfl, hl3.p.done, hl3.doneB (by rw [beq_iff_eq] at e; omega)⟩⟩) fun e6 => ?_
       rw [beq_iff_eq] at e4 e6
       refine wpS_bind (wpS_elemAny (by omega) ?_)
       have hl4 := hl3.lessA (by omega) (show na - 1 < a.size by omega) g3
       refine wpS_ite (fun e => wpS_pure ⟨⟨_, rfl⟩, .inl ⟨_, rfl, hl4.p.done, hl4.doneA (by rw [beq_iff_eq] at e; omega)⟩⟩) fun e5 => ?_
       rw [beq_iff_eq] at e5
       refine wpS_ite (fun _ => wpS_pure ⟨⟨_, rfl⟩, .inr ⟨rfl, hl4, ?_, ?_, ?_, ?_, ?_⟩⟩) fun _ => wpS_pure ⟨⟨_, rfl⟩, rfl, hl4, ?_, ?_, ?_, ?_, ?_⟩ <;> dsimp only <;> omega
      ·refine wpS_bind (wpS_elemAny (by omega) ?_)
       have hl4 := hl2.lessA (by omega) (show na - 1 < a.size by omega) (by rw [show nb - 1 = k2 by omega]; exact g3)
       refine wpS_ite (fun e => wpS_pure ⟨⟨_, rfl⟩, .inl ⟨_, rfl, hl4.p.done, hl4.doneA (by rw [beq_iff_eq] at e; omega)⟩⟩) fun e5 => ?_
       rw [beq_iff_eq] at e5
       refine wpS_ite (fun _ => wpS_pure ⟨⟨_, rfl⟩, .inr ⟨rfl, hl4, ?_, ?_, ?_, ?_, ?_⟩⟩) fun _ => wpS_pure ⟨⟨_, rfl⟩, rfl, hl4, ?_, ?_, ?_, ?_, ?_⟩ <;> dsimp only <;> omega
 all_goals dsimp only <;> omega
end
def SegI (κ : KeyKind) (arr : Array Keyed) (i j : Nat) : Prop := ∀ p q x y, i ≤ p → p ≤ q → q < j → arr[p]? = some x → arr[q]? = some y → leK κ x y
theorem SegI.ext {κ : KeyKind} {arr : Array Keyed} {i j i' j' : Nat} (h : SegI κ arr i j) (h1 : i ≤ i') (h2 : j' ≤ j) : (arr.extract i' j').toList.Pairwise (leK κ) := by
 rw [jYe]
 intro p q hp hq hpq
 have hq' : q < (arr.extract i' j').size := hq
 rw [kXc] at hq'
 rw [jKf, jKf, jYd, jYd]
 exact h (i' + p) (i' + q) _ _ (by omega) (by omega) (by omega) (getElem?_pos arr _ (by omega)) (getElem?_pos arr _ (by omega))
section
variable {prog : Program} {w : World} {A : Around} {E : Value → Shared → Prop} {s : Shared} {κ : KeyKind} {a₀ : Array Keyed}
theorem set_back {α : Type} {old new : Array α} {merged : List α} {c d : Nat} (h : new.toList = old.toList.take c ++ (merged ++ old.toList.drop d)) (hl : c + merged.length = d) (hd : d ≤ old.size) (p : Nat) :
  new[p]? = if p < c then old[p]? else if p < d then merged[p - c]? else old[p]? := by
 have hc : (old.toList.take c).length = c := by rw [xQ]; show min c old.size = c; omega
 rw [← xW, h]
 by_cases h1 : p < c
 ·rw [if_pos h1, jJb (by omega), List.getElem?_take_of_lt h1, xW]
 ·rw [if_neg h1, jZf (by omega), hc]
  by_cases h2 : p < d
  ·rw [if_pos h2, jJb (by omega)]
  ·rw [if_neg h2, jZf (by omega), List.getElem?_drop, ← xW]
   congr 1
   omega
theorem seg_merged {old new : Array Keyed} {merged : List Keyed} {sa sb c d e : Nat} {k1 k2 : Keyed} (h : new.toList = old.toList.take c ++ (merged ++ old.toList.drop d)) (hl : c + merged.length = d) (hd : d ≤ e) (he : e ≤ old.size)
  (h1 : sa ≤ c) (h2 : c < sb) (h3 : sb < d) (e1 : old[sb]? = some k1) (e2 : old[sb - 1]? = some k2) (SA : SegI κ old sa sb) (SB : SegI κ old sb e) (SM : merged.Pairwise (leK κ))
  (hm : ∀ x ∈ merged, x ∈ (old.extract c sb).toList ∨ x ∈ (old.extract sb d).toList)
  (g1 : ∀ p x, sa ≤ p → p < c → old[p]? = some x → leK κ x k1) (g4 : ∀ p x, d ≤ p → p < e → old[p]? = some x → leK κ k2 x) : SegI κ new sa e := by
 have look := set_back h hl (by omega)
 have lowB : ∀ q y, sb ≤ q → q < e → old[q]? = some y → leK κ k1 y := fun q y a1 a2 a3 => SB sb q _ _ (jX _) a1 a2 e1 a3
 have hiA : ∀ p x, sa ≤ p → p < sb → old[p]? = some x → leK κ x k2 := fun p x a1 a2 a3 => SA p (sb - 1) _ _ a1 (by omega) (by omega) a3 e2
 have mem : ∀ (i : Nat) (x : Keyed), merged[i]? = some x → (∃ r, c ≤ r ∧ r < sb ∧ old[r]? = some x) ∨ ∃ r, sb ≤ r ∧ r < d ∧ old[r]? = some x := by
  intro i x hx
  rcases hm x (zZ hx) with hx | hx
  ·obtain ⟨r, hr, er⟩ := mem_ext hx
   exact .inl ⟨c + r, by omega, hr, er⟩
  ·obtain ⟨r, hr, er⟩ := mem_ext hx
   exact .inr ⟨sb + r, by omega, hr, er⟩
 intro p q x y hp hpq hq hx hy
 rw [look] at hx hy
 by_cases p1 : p < c
 ·rw [if_pos p1] at hx
  by_cases q1 : q < c
  ·rw [if_pos q1] at hy
   exact SA p q x y hp hpq (by omega) hx hy
  ·rw [if_neg q1] at hy
   by_cases q2 : q < d
   ·rw [if_pos q2] at hy
    rcases mem _ _ hy with ⟨r, r1, r2, er⟩ | ⟨r, r1, r2, er⟩
    ·exact SA p r x y hp (by omega) r2 hx er
    ·exact (g1 p x hp p1 hx).trans (lowB r y r1 (by omega) er)
   ·rw [if_neg q2] at hy
    exact (g1 p x hp p1 hx).trans (lowB q y (by omega) hq hy)
 ·rw [if_neg p1] at hx
  rw [if_neg (by omega)] at hy
  by_cases p2 : p < d
  ·rw [if_pos p2] at hx
   by_cases q2 : q < d
   ·rw [if_pos q2] at hy
    obtain ⟨u, hu⟩ := kQ.mp hx
    obtain ⟨v, hv⟩ := kQ.mp hy
    rcases Nat.lt_or_ge p q with hlt | hge
    ·rw [← hu, ← hv]
     exact jYe.mp SM _ _ u v (by omega)
    ·have : p = q := by omega
     subst this
     rw [hx] at hy
     cases hy
     exact KeyOrd.kle_refl _
   ·rw [if_neg q2] at hy
    rcases mem _ _ hx with ⟨r, r1, r2, er⟩ | ⟨r, r1, r2, er⟩
    ·exact (hiA r x (by omega) r2 er).trans (g4 q y (by omega) hq hy)
    ·exact SB r q x y r1 (by omega) hq er hy
  ·rw [if_neg p2] at hx
   rw [if_neg (by omega)] at hy
   exact SB p q x y (by omega) hpq hq hx hy
theorem Runs.mem_le : ∀ {a b : Nat} {l : List (Nat × Nat × Nat)} {r : Nat × Nat × Nat}, Runs a l b → r ∈ l → a ≤ r.1 ∧ r.1 + r.2.1 ≤ b
 | _, _, [], _, _, hr => nomatch hr
 | a, b, r' :: t, r, h, hr => by
  obtain ⟨h1, h2, h3⟩ := h
  have h4 := Runs.le h3
  rcases wY.mp hr with rfl | hr
  ·omega
  ·have := Runs.mem_le h3 hr
   omega
theorem SegI.keep {old new : Array Keyed} {i j : Nat} (h : SegI κ old i j) (e : ∀ p, i ≤ p → p < j → new[p]? = old[p]?) : SegI κ new i j := fun p q x y a1 a2 a3 a4 a5 =>
 h p q x y a1 a2 a3 (by rw [← e p a1 (by omega)]; exact a4) (by rw [← e q (by omega) a3]; exact a5)
structure POrd (κ : KeyKind) (a₀ : Array Keyed) (lo : Nat) (st : SortSt) : Prop where
 base : PB a₀ lo st
 segs : ∀ r ∈ (pendingOf st).toList, SegI κ (arrOf st) r.1 (r.1 + r.2.1)
theorem wpS_mergeAtO (hO : κ.OneLt) (h0 : KeysOf κ a₀) {st : SortSt} {lo i : Nat} {Q : Bool → SortSt → Prop} (hP : POrd κ a₀ lo st) (hi : i + 1 < (pendingOf st).size)
  (h : ∀ st', POrd κ a₀ lo st' → (pendingOf st').size + 1 = (pendingOf st).size → (∀ p, lo ≤ p → (arrOf st')[p]? = (arrOf st)[p]?) → Q true st') : wpS (model prog w) A E s (mergeAt' i) Q st := by
 have hB := hP.base
 have hK := hB.hasK h0
 refine wpS_bind (wpS_get ?_)
 obtain ⟨⟨sa, na, pw⟩, hx⟩ : ∃ r, (pendingOf st)[i]? = some r := ⟨_, getElem?_pos _ i (by omega)⟩
 obtain ⟨⟨sb, nb, qw⟩, hy⟩ : ∃ r, (pendingOf st)[i + 1]? = some r := ⟨_, getElem?_pos _ (i + 1) hi⟩
 obtain ⟨l1, l2, hl, hl1⟩ : ∃ l1 l2, (pendingOf st).toList = l1 ++ (sa, na, pw) :: (sb, nb, qw) :: l2 ∧ l1.length = i := by
  refine ⟨(pendingOf st).toList.take i, (pendingOf st).toList.drop (i + 2), ?_, by rw [xQ]; show min i (pendingOf st).size = i; omega⟩
  rw [← xW] at hx hy
  obtain ⟨u, hu⟩ := kQ.mp hx
  obtain ⟨v, hv⟩ := kQ.mp hy
  rw [← hu, ← hv, ← kXd, ← kXd, jKc]
 have hr := hB.pend
 rw [hl, runs_append] at hr
 obtain ⟨m, r1, e1, n1, e2, n2, r2⟩ := hr
 dsimp only at e1 n1 e2 n2 r2
 have hle := r2.le
 have hrm := hB.room
 have hsz := hB.size
 have newl : (((pendingOf st).setIfInBounds i (sa, na + nb, pw)).eraseIdxIfInBounds (i + 1)).toList = l1 ++ (sa, na + nb, pw) :: l2 := by
  rw [Array.eraseIdxIfInBounds_eq, dif_pos (by rw [Array.size_setIfInBounds]; exact hi), Array.toList_eraseIdx, Array.toList_setIfInBounds, hl]
  rw [← hl1, List.set_append_right _ _ (jX _), Nat.sub_self, List.set_cons_zero, List.eraseIdx_append_of_length_le (kZb _)]
  simp
 have hnew : Runs 0 (((pendingOf st).setIfInBounds i (sa, na + nb, pw)).eraseIdxIfInBounds (i + 1)).toList lo := by
  rw [newl, runs_append]
  exact ⟨m, r1, e1, by show 1 ≤ na + nb; omega, by show Runs (m + (na + nb)) l2 lo; rwa [← Nat.add_assoc]⟩
 show wpS _ _ _ _ (match ((pendingOf st)[i]?, (pendingOf st)[i + 1]?) with | (some (sa, na, power), some (sb, nb, _)) => _ | x => _) _ _
 rw [hx, hy]
 dsimp only
 have hsz2 : (((pendingOf st).setIfInBounds i (sa, na + nb, pw)).eraseIdxIfInBounds (i + 1)).size + 1 = (pendingOf st).size := by
  have q1 := congrArg List.length newl
  have q2 := congrArg List.length hl
  simp only [jW, yJ] at q1 q2
  show (((pendingOf st).setIfInBounds i (sa, na + nb, pw)).eraseIdxIfInBounds (i + 1)).toList.length + 1 = (pendingOf st).toList.length
  omega
 have SA : SegI κ (arrOf st) sa sb := by
  have := hP.segs (sa, na, pw) (by rw [hl]; simp)
  rwa [show sb = sa + na by omega]
 have SB : SegI κ (arrOf st) sb (sb + nb) := hP.segs (sb, nb, qw) (by rw [hl]; simp)
 have segs : ∀ (new : Array Keyed), (∀ p, p < sa ∨ sb + nb ≤ p → new[p]? = (arrOf st)[p]?) → SegI κ new sa (sb + nb) →
   ∀ r ∈ (((pendingOf st).setIfInBounds i (sa, na + nb, pw)).eraseIdxIfInBounds (i + 1)).toList, SegI κ new r.1 (r.1 + r.2.1) := by
  intro new hn hS r hr
  rw [newl] at hr
  rcases yQ.mp hr with hr | hr
  ·have := Runs.mem_le r1 hr
   exact (hP.segs r (by rw [hl]; exact jKe _ hr)).keep fun p _ _ => hn p (.inl (by omega))
  ·rcases wY.mp hr with rfl | hr
   ·show SegI κ new sa (sa + (na + nb))
    rwa [show sa + (na + nb) = sb + nb by omega]
   ·have := Runs.mem_le r2 hr
    exact (hP.segs r (by rw [hl]; exact zW _ (zY _ (zY _ hr)))).keep fun p _ _ => hn p (.inr (by omega))
 obtain ⟨k1, e5⟩ : ∃ x, (arrOf st)[sb]? = some x := ⟨_, getElem?_pos (arrOf st) sb (by omega)⟩
 obtain ⟨k2, e6⟩ : ∃ x, (arrOf st)[sb - 1]? = some x := ⟨_, getElem?_pos (arrOf st) (sb - 1) (by omega)⟩
 have lowB : ∀ q y, sb ≤ q → q < sb + nb → (arrOf st)[q]? = some y → leK κ k1 y := fun q y a1 a2 a3 => SB sb q _ _ (jX _) a1 a2 e5 a3
 have hiA : ∀ p x, sa ≤ p → p < sb → (arrOf st)[p]? = some x → leK κ x k2 := fun p x a1 a2 a3 => SA p (sb - 1) _ _ a1 (by omega) (by omega) a3 e6
 have joined : ∀ (kk : Keyed), (∀ p x, sa ≤ p → p < sb → (arrOf st)[p]? = some x → leK κ x kk) → (∀ q y, sb ≤ q → q < sb + nb → (arrOf st)[q]? = some y → leK κ kk y) → SegI κ (arrOf st) sa (sb + nb) := by
  intro kk u v p q x y a1 a2 a3 a4 a5
  by_cases c1 : q < sb
  ·exact SA p q x y a1 a2 c1 a4 a5
  ·by_cases c2 : p < sb
   ·exact (u p x a1 c2 a4).trans (v q y (by omega) a3 a5)
   ·exact SB p q x y (by omega) a2 a3 a4 a5
 refine wpS_bind (wpS_modify ?_)
 refine wpS_bind (wpS_elemAny (by show _ < (arrOf st).size; omega) ?_)
 have ek1 : (arrOf st)[sb]'(by omega) = k1 := by rw [getElem?_pos (arrOf st) sb (by omega)] at e5; exact Option.some.inj e5
 refine wpS_bind (wpS_gallopLe hO (by exact hB.kind) (hK _ (yK _)) hK (by show _ ≤ (arrOf st).size; omega) (by omega) (fun i j x y a1 a2 a3 a4 => SA _ _ x y (by omega) (by omega) (by omega) a3 a4) fun k hk1 g1 g2 => ?_)
 dsimp only
 refine wpS_ite (fun e => wpS_pure (h _ ⟨⟨hB.perm, hB.kind, hB.failed, hnew, hB.room⟩, segs _ (fun _ _ => rfl) (joined k1 (fun p x a1 a2 a3 => ?_) lowB)⟩ hsz2 fun _ _ => rfl)) fun e3 => ?_
 ·rw [beq_iff_eq] at e
  have := g1 (p - sa) x (by rw [show sa + (p - sa) = p by omega]; exact a3) (by omega)
  exact ek1 ▸ this
 rw [beq_iff_eq] at e3
 refine wpS_bind (wpS_elemAny (by show _ < (arrOf st).size; omega) ?_)
 have ek2 : (arrOf st)[sa + k + (na - k) - 1]'(by omega) = k2 := by
  rw [getElem?_pos (arrOf st) (sb - 1) (by omega)] at e6
  rw [← Option.some.inj e6]
  congr 1
  omega
 refine wpS_bind (wpS_gallopLe hO (by exact hB.kind) (hK _ (yK _)) hK (by show _ ≤ (arrOf st).size; omega) (by omega) (fun i j x y a1 a2 a3 a4 => SB _ _ x y (by omega) (by omega) (by omega) a3 a4) fun nb' hk2 g3 g4 => ?_)
 dsimp only
 refine wpS_ite (fun e => wpS_pure (h _ ⟨⟨hB.perm, hB.kind, hB.failed, hnew, hB.room⟩, segs _ (fun _ _ => rfl) (joined k2 hiA fun q y a1 a2 a3 => ?_)⟩ hsz2 fun _ _ => rfl)) fun e4 => ?_
 ·rw [beq_iff_eq] at e
  have := g4 (q - sb) y (by rw [show sb + (q - sb) = q by omega]; exact a3) (by omega) (by omega)
  exact ek2 ▸ this
 rw [beq_iff_eq] at e4
 have kx : ∀ p q, ∀ x ∈ (arrOf st).extract p q, HasK κ x := fun p q x hx => by
  refine hK x ?_
  obtain ⟨i, hi, rfl⟩ := Array.mem_iff_getElem.mp hx
  rw [jYd]
  exact yK _
 have sx : ((arrOf st).extract (sa + k) sb).size = sb - (sa + k) := by rw [kXc]; omega
 have sy : ((arrOf st).extract sb (sb + nb')).size = nb' := by rw [kXc]; omega
 have Sx : ((arrOf st).extract (sa + k) sb).toList.Pairwise (leK κ) := SA.ext (by omega) (jX _)
 have Sy : ((arrOf st).extract sb (sb + nb')).toList.Pairwise (leK κ) := SB.ext (jX _) (by omega)
 have y0 : ∀ (hh : 0 < ((arrOf st).extract sb (sb + nb')).size), ((arrOf st).extract sb (sb + nb'))[0] = k1 := fun hh => by
  rw [jYd]
  exact ek1
 have xl : ∀ (n : Nat) (hh : n < ((arrOf st).extract (sa + k) sb).size), n + 1 = sb - (sa + k) → ((arrOf st).extract (sa + k) sb)[n] = k2 := fun n hh e => by
  rw [jYd, ← ek2]
  congr 1
  omega
 have k1x : ∀ x ∈ ((arrOf st).extract (sa + k) sb).toList, leK κ k1 x := fun x hx => by
  obtain ⟨r, hr, er⟩ := mem_ext hx
  have := g2 (k + r) x (by rw [← Nat.add_assoc]; exact er) (by omega) (by omega)
  exact ek1 ▸ this
 have yk2 : ∀ y ∈ ((arrOf st).extract sb (sb + nb')).toList, leK κ y k2 := fun y hy => by
  obtain ⟨r, hr, er⟩ := mem_ext hy
  have := g3 r y er (by omega)
  exact ek2 ▸ this
 have hsb : ∀ (merged : Array Keyed), merged.toList.Perm (((arrOf st).extract (sa + k) sb).toList ++ ((arrOf st).extract sb (sb + nb')).toList) → merged.toList.length = sb - (sa + k) + nb' ∧
   (merged.toList.zipIdx.foldl (fun a (x : Keyed × Nat) => a.setIfInBounds (sa + k + x.2) x.1) (arrOf st)).toList = (arrOf st).toList.take (sa + k) ++ (merged.toList ++ (arrOf st).toList.drop (sb + nb')) := by
  intro merged hm
  have hlen : merged.toList.length = sb - (sa + k) + nb' := by
   have := hm.length_eq
   rw [jW] at this
   rw [this]
   exact congr (congrArg _ sx) sy
  have hset := setAll (base := sa + k) merged.toList 0 (arrOf st) (by omega)
  rw [Nat.add_zero, hlen, show sa + k + (sb - (sa + k) + nb') = sb + nb' by omega] at hset
  exact ⟨hlen, hset⟩
 have keep : ∀ (merged : Array Keyed), merged.toList.Perm (((arrOf st).extract (sa + k) sb).toList ++ ((arrOf st).extract sb (sb + nb')).toList) → ∀ p, lo ≤ p →
   (merged.toList.zipIdx.foldl (fun a (x : Keyed × Nat) => a.setIfInBounds (sa + k + x.2) x.1) (arrOf st))[p]? = (arrOf st)[p]? := by
  intro merged hm p hp
  obtain ⟨hlen, hset⟩ := hsb merged hm
  rw [set_back hset (by omega) (by omega) p, if_neg (by omega), if_neg (by omega)]
 have fin : ∀ (merged : Array Keyed) (g : Nat), merged.toList.Perm (((arrOf st).extract (sa + k) sb).toList ++ ((arrOf st).extract sb (sb + nb')).toList) → merged.toList.Pairwise (leK κ) →
   POrd κ a₀ lo (SortSt.mk' (kindOf st) (merged.toList.zipIdx.foldl (fun a (x : Keyed × Nat) => a.setIfInBounds (sa + k + x.2) x.1) (arrOf st)) (((pendingOf st).setIfInBounds i (sa, na + nb, pw)).eraseIdxIfInBounds (i + 1)) g (failedOf st)) := by
  intro merged g hm SM
  obtain ⟨hlen, hset⟩ := hsb merged hm
  refine ⟨⟨?_, hB.kind, hB.failed, hnew, hB.room⟩, segs _ (fun p hp => ?_) ?_⟩
  ·refine Array.Perm.trans ?_ hB.perm
   rw [jYa]
   show (merged.toList.zipIdx.foldl (fun a (x : Keyed × Nat) => a.setIfInBounds (sa + k + x.2) x.1) (arrOf st)).toList.Perm _
   rw [hset]
   refine (List.Perm.append_left _ (List.Perm.append_right _ hm)).trans ?_
   rw [← jJ, ← jJ, ← take_cut (arrOf st) (by omega), ← take_ext, jKc]
  ·show (merged.toList.zipIdx.foldl (fun a (x : Keyed × Nat) => a.setIfInBounds (sa + k + x.2) x.1) (arrOf st))[p]? = _
   rw [set_back hset (by omega) (by omega) p]
   split
   ·rfl
   ·rw [if_neg (by omega)]
  ·refine seg_merged (k1 := k1) (k2 := k2) hset (by omega) (by omega) (by omega) (by omega) (by omega) (by omega) e5 e6 SA SB SM (fun x hx => yQ.mp (hm.mem_iff.mp hx)) (fun p x a1 a2 a3 => ?_) fun p x a1 a2 a3 => ?_
   ·have := g1 (p - sa) x (by rw [show sa + (p - sa) = p by omega]; exact a3) (by omega)
    exact ek1 ▸ this
   ·have := g4 (p - sb) x (by rw [show sb + (p - sb) = p by omega]; exact a3) (by omega) (by omega)
    exact ek2 ▸ this
 have hfl : (failedOf st).isNone = true := by rw [hB.failed]; rfl
 refine wpS_ite (fun _ => ?_) fun _ => ?_
 ·refine wpS_bind (wpS_mergeLoO hO (by exact hB.kind) (kx _ _) (kx _ _) Sx Sy (by show 1 ≤ ((arrOf st).extract (sa + k) sb).size; omega) (by show 1 ≤ ((arrOf st).extract sb (sb + nb')).size; omega) ?_ ?_ fun out g hp ho => ?_)
  ·intro x hx
   have := k1x x hx
   rw [← y0 (by omega)] at this
   exact this
  ·intro x hx y hy
   have hy' : y = k2 := by
    have e8 : ((arrOf st).extract (sa + k) sb).toList.drop (((arrOf st).extract (sa + k) sb).size - 1) = [k2] := by
     rw [drop_one _ (show ((arrOf st).extract (sa + k) sb).size - 1 < ((arrOf st).extract (sa + k) sb).size by omega), xl _ _ (by omega), kYf (by show ((arrOf st).extract (sa + k) sb).size ≤ _; omega)]
     rfl
    rw [e8] at hy
    exact kX.mp hy
   rw [hy']
   exact yk2 x hx
  refine wpS_bind (wpS_modify (wpS_bind (wpS_get (wpS_pure ?_))))
  show Q (failedOf st).isNone _
  rw [hfl]
  exact h _ (fin out g hp ho) hsz2 (keep out hp)
 ·refine wpS_bind (wpS_mergeHiO hO (by exact hB.kind) (kx _ _) (kx _ _) Sx Sy (by show 1 ≤ ((arrOf st).extract (sa + k) sb).size; omega) (by show 1 ≤ ((arrOf st).extract sb (sb + nb')).size; omega) ?_ ?_ fun out g hp ho => ?_)
  ·intro y hy x hx
   have hy' : y = k1 := by
    have e8 : ((arrOf st).extract sb (sb + nb')).toList.take 1 = [k1] := by
     rw [show 1 = 0 + 1 from rfl, take_snoc _ (show 0 < ((arrOf st).extract sb (sb + nb')).size by omega), y0]
     rfl
    rw [e8] at hy
    exact kX.mp hy
   rw [hy']
   exact k1x x hx
  ·intro y hy
   have := yk2 y hy
   rw [← xl (((arrOf st).extract (sa + k) sb).size - 1) (by omega) (by omega)] at this
   exact this
  refine wpS_bind (wpS_modify (wpS_bind (wpS_get (wpS_pure ?_))))
  show Q (failedOf st).isNone _
  rw [hfl]
  exact h _ (fin out g hp ho) hsz2 (keep out hp)
end
section
variable {prog : Program} {w : World} {A : Around} {E : Value → Shared → Prop} {s : Shared} {κ : PyProof.Rows.KeyKind} {a₀ : Array Keyed}
def SegK (κ : PyProof.Rows.KeyKind) (arr : Array Keyed) (i j : Nat) : Prop := ∀ p q, i ≤ p → p ≤ q → q < j → κ.kle (KK κ arr p) (KK κ arr q)
def FallK (κ : PyProof.Rows.KeyKind) (arr : Array Keyed) (i j : Nat) : Prop := ∀ p q, i ≤ p → p ≤ q → q < j → κ.kle (KK κ arr q) (KK κ arr p)
theorem SegK.segI {arr : Array Keyed} {i j : Nat} (h : SegK κ arr i j) : SegI κ arr i j := fun p q x y a1 a2 a3 a4 a5 => by
 have := h p q a1 a2 a3
 unfold KK at this
 rw [a4, a5] at this
 exact this
def Low (lo : Nat) (old new : Array Keyed) : Prop := ∀ p, p < lo → new[p]? = old[p]?
theorem Low.refl (lo : Nat) (old : Array Keyed) : Low lo old old := fun _ _ => rfl
theorem Low.trans {lo : Nat} {a b c : Array Keyed} (h : Low lo a b) (h' : Low lo b c) : Low lo a c := fun p hp => (h' p hp).trans (h p hp)
theorem low_mirror {lo i j : Nat} {xs : Array Keyed} (hi : lo ≤ i) (hj : j ≤ xs.size) : Low lo xs (mirror xs i j ((j - i) / 2)) := fun p hp => by
 rw [getElem?_mirror_all hj, if_neg (by omega)]
theorem low_bubble {lo src d : Nat} {xs : Array Keyed} (hs : src < xs.size) (hd : d ≤ src) (hl : lo ≤ src - d) : Low lo xs (bubble xs src d) := fun p hp => by
 rw [getElem?_bubble hs d hd, if_neg (by omega), if_neg (by omega)]
theorem wpS_ltPB (hO : κ.OneLt) (h0 : PyProof.Rows.KeysOf κ a₀) {st : SortSt} {lo i j : Nat} {Q : Option Bool → SortSt → Prop} (hB : PB a₀ lo st) (hi : i < a₀.size) (hj : j < a₀.size)
  (h : Q (some (κ.blt (KK κ (arrOf st) i) (KK κ (arrOf st) j))) st) : wpS (model prog w) A E s (ltAt' i j) Q st := by
 have hsz := hB.size
 obtain ⟨a, ha⟩ := hB.hasK h0 _ (yK (show i < (arrOf st).size by omega))
 obtain ⟨b, hb⟩ := hB.hasK h0 _ (yK (show j < (arrOf st).size by omega))
 have e1 : KK κ (arrOf st) i = a := by unfold KK; rw [getElem?_pos (arrOf st) i (by omega)]; simp [ha]
 have e2 : KK κ (arrOf st) j = b := by unfold KK; rw [getElem?_pos (arrOf st) j (by omega)]; simp [hb]
 rw [e1, e2] at h
 exact wpS_ltAtK hO hB.kind (getElem?_pos (arrOf st) i (by omega)) (getElem?_pos (arrOf st) j (by omega)) ha hb h
theorem wpS_binaryO (hO : κ.OneLt) (h0 : PyProof.Rows.KeysOf κ a₀) {st : SortSt} {lo n ok : Nat} {Q : Bool → SortSt → Prop} (hB : PB a₀ lo st) (hn : lo + n ≤ a₀.size) (hok : ok ≤ n) (hs : SegK κ (arrOf st) lo (lo + ok))
  (h : ∀ st', PB a₀ lo st' → pendingOf st' = pendingOf st → Low lo (arrOf st) (arrOf st') → SegK κ (arrOf st') lo (lo + n) → Q true st') : wpS (model prog w) A E s (binarySort' lo n ok) Q st := by
 rw [binarySort'_eq]
 refine wpS_bind (wpS_mono (wpS_forRange (I := fun k c st' => c = (none, ()) ∧ PB a₀ lo st' ∧ pendingOf st' = pendingOf st ∧ Low lo (arrOf st) (arrOf st') ∧ SegK κ (arrOf st') lo (lo + min k n))
  (Q := fun c st' => c = (none, ()) ∧ PB a₀ lo st' ∧ pendingOf st' = pendingOf st ∧ Low lo (arrOf st) (arrOf st') ∧ SegK κ (arrOf st') lo (lo + n)) ?step ?fin ?init) ?post)
 case post =>
  rintro c st' ⟨rfl, hB', hp, hL, hs'⟩
  exact wpS_pure (h st' hB' hp hL hs')
 case init =>
  refine ⟨rfl, hB, rfl, Low.refl _ _, fun i j hi hij hj => ?_⟩
  by_cases h1 : ok = 0
  ·have : i = j := by omega
   subst this; exact KeyOrd.kle_refl _
  ·exact hs i j hi hij (by omega)
 case fin =>
  rintro c st' ⟨hc, hB', hp, hL, hs'⟩
  refine ⟨hc, hB', hp, hL, ?_⟩
  rwa [show min (max (max ok 1) n) n = n by omega] at hs'
 case step =>
  rintro k c st' hak hkn ⟨rfl, hB', hp, hL, hs'⟩
  rw [show min k n = k by omega] at hs'
  have hk : lo + k < a₀.size := by omega
  refine wpS_bind (wpS_mono (wpS_forRange (I := fun x c st'' => st'' = st' ∧ ∃ l r, c = (none, l, r) ∧ l ≤ r ∧ r ≤ k ∧ r - l ≤ k - x ∧
    (∀ i, i < l → κ.kle (KK κ (arrOf st') (lo + i)) (KK κ (arrOf st') (lo + k))) ∧ (∀ i, r ≤ i → i < k → κ.klt (KK κ (arrOf st') (lo + k)) (KK κ (arrOf st') (lo + i))))
   (Q := fun c st'' => st'' = st' ∧ ∃ l r, c = (none, l, r) ∧ l ≤ k ∧
    (∀ i, i < l → κ.kle (KK κ (arrOf st') (lo + i)) (KK κ (arrOf st') (lo + k))) ∧ (∀ i, l ≤ i → i < k → κ.klt (KK κ (arrOf st') (lo + k)) (KK κ (arrOf st') (lo + i)))) ?istep ?ifin ?iinit) ?ipost)
  case iinit => exact ⟨rfl, 0, k, rfl, by omega, by omega, by omega, fun i hi => by omega, fun i h1 h2 => by omega⟩
  case ifin =>
   rintro c st'' ⟨rfl, l, r, rfl, hlr, hrk, hm, hlo, hhi⟩
   have : l = r := by omega
   subst this
   exact ⟨rfl, l, l, rfl, hrk, hlo, hhi⟩
  case istep =>
   rintro x c st'' _ hxk ⟨rfl, l, r, rfl, hlr, hrk, hm, hlo, hhi⟩
   dsimp only
   by_cases hge : l ≥ r
   ·rw [if_pos hge]
    have : l = r := by omega
    subst this
    exact wpS_pure ⟨rfl, l, l, rfl, hrk, hlo, hhi⟩
   ·rw [if_neg hge]
    refine wpS_bind (wpS_ltPB hO h0 hB' hk (by omega) ?_)
    cases hless : κ.blt (KK κ (arrOf st'') (lo + k)) (KK κ (arrOf st'') (lo + (l + r) / 2))
    case true =>
     simp only [if_true]
     refine wpS_pure ⟨rfl, l, (l + r) / 2, rfl, by omega, by omega, by omega, hlo, fun i h1 h2 => ?_⟩
     exact KeyOrd.klt_of_klt_of_kle hless (hs' _ _ (by omega) (by omega) (by omega))
    case false =>
     simp only [wX, if_false]
     refine wpS_pure ⟨rfl, (l + r) / 2 + 1, r, rfl, by omega, by omega, by omega, fun i h1 => ?_, hhi⟩
     exact KeyOrd.kle_trans (hs' (lo + i) (lo + (l + r) / 2) (by omega) (by omega) (by omega)) (show κ.kle _ _ from hless)
  case ipost =>
   rintro c st'' ⟨rfl, l, r, rfl, hlk, hlo, hhi⟩
   show wpS _ _ _ _ (do moveDown' (lo + k) (lo + l); pure (ForInStep.yield (none, ()))) _ _
   rw [moveDown'_eq]
   have hks : lo + k < (arrOf st'').size := by rw [hB'.size]; exact hk
   refine wpS_bind (wpS_modify (wpS_pure ⟨rfl, hB'.setArr (bubble_perm _ _ _), hp, hL.trans (low_bubble hks (by omega) (by omega)), ?_⟩))
   rw [show min (k + 1) n = k + 1 by omega]
   intro i j hi hij hj
   show κ.kle (KK κ (bubble (arrOf st'') (lo + k) (lo + k - (lo + l))) i) (KK κ (bubble (arrOf st'') (lo + k) (lo + k - (lo + l))) j)
   rw [KK_bubble hks (by omega), KK_bubble hks (by omega), show lo + k - (lo + k - (lo + l)) = lo + l by omega]
   have hlo' : ∀ q, lo ≤ q → q < lo + l → κ.kle (KK κ (arrOf st'') q) (KK κ (arrOf st'') (lo + k)) := fun q a1 a2 => by
    have := hlo (q - lo) (by omega)
    rwa [show lo + (q - lo) = q by omega] at this
   have hhi' : ∀ q, lo + l ≤ q → q < lo + k → κ.kle (KK κ (arrOf st'') (lo + k)) (KK κ (arrOf st'') q) := fun q a1 a2 => by
    have := hhi (q - lo) (by omega) (by omega)
    rw [show lo + (q - lo) = q by omega] at this
    exact KeyOrd.kle_of_klt this
   repeat' split
   all_goals first
    | (exfalso; omega)
    | exact KeyOrd.kle_refl _
    | exact hlo' _ (by omega) (by omega)
    | exact hhi' _ (by omega) (by omega)
    | exact hs' _ _ (by omega) (by omega) (by omega)
theorem wpS_revO {st st0 : SortSt} {lo i j : Nat} {Q : Unit → SortSt → Prop} (hB : PB a₀ lo st) (hp : pendingOf st = pendingOf st0) (hL : Low lo (arrOf st0) (arrOf st)) (hi : lo ≤ i) (hj : j ≤ a₀.size)
  (h : ∀ st', PB a₀ lo st' → pendingOf st' = pendingOf st0 → Low lo (arrOf st0) (arrOf st') → arrOf st' = mirror (arrOf st) i j ((j - i) / 2) → Q () st') : wpS (model prog w) A E s (reverseSlice' i j) Q st :=
 wpS_reverse (h _ (hB.setArr (mirror_perm _ _ _ _)) hp (hL.trans (low_mirror hi (by rw [hB.size]; exact hj))) rfl)
theorem wpS_countO (hO : κ.OneLt) (h0 : PyProof.Rows.KeysOf κ a₀) {st0 : SortSt} {lo nrem : Nat} {Q : Option Nat → SortSt → Prop} (hB0 : PB a₀ lo st0) (hn : lo + nrem ≤ a₀.size) (h1 : 1 ≤ nrem)
  (h : ∀ n st', PB a₀ lo st' → pendingOf st' = pendingOf st0 → Low lo (arrOf st0) (arrOf st') → 1 ≤ n → n ≤ nrem → SegK κ (arrOf st') lo (lo + n) → Q (some n) st') : wpS (model prog w) A E s (countRun' lo nrem) Q st0 := by
 have asc : ∀ {st : SortSt} (n₀ : Nat), PB a₀ lo st → 1 ≤ n₀ → n₀ ≤ nrem → SegK κ (arrOf st) lo (lo + n₀) → ∀ {Q' : Option (Option Nat) × Nat → SortSt → Prop}, (∀ n, n₀ ≤ n → n ≤ nrem → SegK κ (arrOf st) lo (lo + n) → (n = nrem ∨ κ.klt (KK κ (arrOf st) (lo + n)) (KK κ (arrOf st) (lo + n - 1))) → Q' (none, n) st) →
   wpS (model prog w) A E s (forIn [n₀:nrem] ((none, n₀) : Option (Option Nat) × Nat) fun _ c => ltAt' (lo + c.2) (lo + c.2 - 1) >>= fun x => match x with
    | some smaller => if smaller = true then pure (ForInStep.done (none, c.2)) else pure (ForInStep.yield (none, c.2 + 1))
    | _ => pure (ForInStep.done (some none, c.2))) Q' st := by
  intro st n₀ hB hn1 hn2 hs Q' hq
  refine wpS_forRange (I := fun x (c : Option (Option Nat) × Nat) st' => st' = st ∧ c = (none, x) ∧ SegK κ (arrOf st) lo (lo + x)) ?_ ?_ ⟨rfl, rfl, hs⟩
  ·rintro x c st' hx1 hx2 ⟨rfl, rfl, hs'⟩
   dsimp only
   refine wpS_bind (wpS_ltPB hO h0 hB (by omega) (by omega) ?_)
   cases hless : κ.blt (KK κ (arrOf st') (lo + x)) (KK κ (arrOf st') (lo + x - 1))
   ·refine wpS_pure ⟨rfl, rfl, fun i j hi hij hj => ?_⟩
    by_cases hjx : j < lo + x
    ·exact hs' i j hi hij hjx
    ·have hj' : j = lo + x := by omega
     subst hj'
     by_cases hi' : i = lo + x
     ·subst hi'; exact KeyOrd.kle_refl _
     ·exact KeyOrd.kle_trans (hs' i (lo + x - 1) hi (by omega) (by omega)) hless
   ·exact wpS_pure (hq x hx1 (by omega) hs' (.inr hless))
  ·rintro c st' ⟨rfl, rfl, hs'⟩
   rw [show max n₀ nrem = nrem by omega] at hs' ⊢
   exact hq nrem hn2 (jX _) hs' (.inl rfl)
 have tail : ∀ {st : SortSt} (n : Nat) (f : Option (Option Nat) × Nat → StateT SortSt Sem (Option Nat)), PB a₀ lo st → pendingOf st = pendingOf st0 → Low lo (arrOf st0) (arrOf st) → 1 ≤ n → n ≤ nrem → FallK κ (arrOf st) lo (lo + n) → (∀ n, f (none, n) = pure (some n)) →
   wpS (model prog w) A E s (reverseSlice' lo (lo + n) >>= fun _ => (forIn [n:nrem] ((none, n) : Option (Option Nat) × Nat) fun _ c => ltAt' (lo + c.2) (lo + c.2 - 1) >>= fun x => match x with
    | some smaller => if smaller = true then pure (ForInStep.done (none, c.2)) else pure (ForInStep.yield (none, c.2 + 1))
    | _ => pure (ForInStep.done (some none, c.2))) >>= f) Q st := by
  intro st n f hB hp hL hn1 hn2 hs hf
  have hsz : lo + n ≤ (arrOf st).size := by rw [hB.size]; omega
  refine wpS_bind (wpS_revO hB hp hL (jX _) (by omega) fun st' hB' hp' hL' e => ?_)
  refine wpS_bind (asc n hB' hn1 hn2 ?_ fun m hm1 hm2 hsm _ => ?_)
  ·intro i j hi hij hj
   rw [e, KK_mirror hsz, KK_mirror hsz, if_pos (by omega), if_pos (by omega)]
   exact hs _ _ (by omega) (by omega) (by omega)
  ·rw [hf]
   exact wpS_pure (h _ _ hB' hp' hL' (by omega) hm2 hsm)
 refine wpS_bind (asc 1 hB0 (jX 1) h1 (fun i j hi hij hj => by have : i = j := (by omega); subst this; exact KeyOrd.kle_refl _) fun n hn1 hn2 hsn hor => ?_)
 dsimp only
 refine wpS_ite (fun _ => wpS_pure (h _ _ hB0 rfl (Low.refl _ _) hn1 hn2 hsn)) fun e1 => ?_
 rw [beq_iff_eq] at e1
 have hlt := hor.resolve_left e1
 have desc : ∀ {st : SortSt} {Q' : Option (Option Nat) × Nat × Nat → SortSt → Prop}, PB a₀ lo st → pendingOf st = pendingOf st0 → Low lo (arrOf st0) (arrOf st) → FallK κ (arrOf st) lo (lo + (n + 1)) →
   (∀ m q st', PB a₀ lo st' → pendingOf st' = pendingOf st0 → Low lo (arrOf st0) (arrOf st') → 1 ≤ m → m ≤ nrem → FallK κ (arrOf st') lo (lo + m) → q + 1 ≤ m → (∀ i, lo + m - (q + 1) ≤ i → i < lo + m → KK κ (arrOf st') i = KK κ (arrOf st') (lo + m - 1)) → Q' (none, m, q) st') →
   wpS (model prog w) A E s (forIn [n + 1:nrem] ((none, n + 1, 0) : Option (Option Nat) × Nat × Nat) fun _ c => ltAt' (lo + c.2.1) (lo + c.2.1 - 1) >>= fun x => match x with
    | some smaller => if smaller = true then if c.2.2 > 0 then reverseSlice' (lo + c.2.1 - (c.2.2 + 1)) (lo + c.2.1) >>= fun _ => pure (ForInStep.yield (none, c.2.1 + 1, 0)) else pure (ForInStep.yield (none, c.2.1 + 1, 0))
     else ltAt' (lo + c.2.1 - 1) (lo + c.2.1) >>= fun x => match x with
      | some larger => if larger = true then pure (ForInStep.done (none, c.2.1, c.2.2)) else pure (ForInStep.yield (none, c.2.1 + 1, c.2.2 + 1))
      | _ => pure (ForInStep.done (some none, c.2.1, c.2.2))
    | _ => pure (ForInStep.done (some none, c.2.1, c.2.2))) Q' st := by
  intro st Q' hB hp hL hs hq
  refine wpS_forRange (I := fun x (c : Option (Option Nat) × Nat × Nat) st' => ∃ neq, c = (none, x, neq) ∧ PB a₀ lo st' ∧ pendingOf st' = pendingOf st0 ∧ Low lo (arrOf st0) (arrOf st') ∧ FallK κ (arrOf st') lo (lo + x) ∧ neq + 1 ≤ x ∧
    (∀ i, lo + x - (neq + 1) ≤ i → i < lo + x → KK κ (arrOf st') i = KK κ (arrOf st') (lo + x - 1))) ?_ ?_ ⟨0, rfl, hB, hp, hL, hs, by omega, fun i h1 h2 => by congr 1; omega⟩
  ·rintro x c st' hx1 hx2 ⟨neq, rfl, hB', hp', hL', hs', hq', he⟩
   dsimp only
   have hsz : lo + x ≤ (arrOf st').size := by rw [hB'.size]; omega
   refine wpS_bind (wpS_ltPB hO h0 hB' (by omega) (by omega) ?_)
   cases hless : κ.blt (KK κ (arrOf st') (lo + x)) (KK κ (arrOf st') (lo + x - 1))
   ·refine wpS_bind (wpS_ltPB hO h0 hB' (by omega) (by omega) ?_)
    cases hlarger : κ.blt (KK κ (arrOf st') (lo + x - 1)) (KK κ (arrOf st') (lo + x))
    ·have heqx : KK κ (arrOf st') (lo + x) = KK κ (arrOf st') (lo + x - 1) := KeyOrd.kle_antisymm hlarger hless
     refine wpS_pure ⟨neq + 1, rfl, hB', hp', hL', fun i j hi hij hj => ?_, by omega, fun i h1 h2 => ?_⟩
     ·by_cases hjx : j < lo + x
      ·exact hs' i j hi hij hjx
      ·have hj' : j = lo + x := by omega
       subst hj'
       by_cases hi' : i = lo + x
       ·subst hi'; exact KeyOrd.kle_refl _
       ·rw [heqx]; exact hs' i (lo + x - 1) hi (by omega) (by omega)
     ·rw [show lo + (x + 1) - 1 = lo + x by omega]
      by_cases hix : i = lo + x
      ·subst hix; rfl
      ·rw [heqx]; exact he i (by omega) (by omega)
    ·exact wpS_pure (hq x neq st' hB' hp' hL' (by omega) (by omega) hs' hq' he)
   ·refine wpS_ite (fun _ => ?_) fun hh => absurd rfl hh
    have step1 : ∀ xs : Array Keyed, (∀ k, KK κ xs k = KK κ (arrOf st') k) → FallK κ xs lo (lo + (x + 1)) := by
     intro xs hk i j hi hij hj
     rw [hk, hk]
     by_cases hjx : j < lo + x
     ·exact hs' i j hi hij hjx
     ·have hj' : j = lo + x := by omega
      subst hj'
      by_cases hi' : i = lo + x
      ·subst hi'; exact KeyOrd.kle_refl _
      ·exact KeyOrd.kle_trans (KeyOrd.kle_of_klt hless) (hs' i (lo + x - 1) hi (by omega) (by omega))
    refine wpS_ite (fun _ => ?_) fun _ => ?_
    ·refine wpS_bind (wpS_revO hB' hp' hL' (by omega) (by omega) fun st2 hB2 hp2 hL2 e2 => wpS_pure ⟨0, rfl, hB2, hp2, hL2, step1 _ (fun k => ?_), by omega, fun i h1 h2 => by congr 1; omega⟩)
     rw [e2]
     exact KK_mirror_equal hsz he k
    ·exact wpS_pure ⟨0, rfl, hB', hp', hL', step1 _ (fun _ => rfl), by omega, fun i h1 h2 => by congr 1; omega⟩
  ·rintro c st' ⟨neq, rfl, hB', hp', hL', hs', hq', he⟩
   rw [show max (n + 1) nrem = nrem by omega] at hs' hq' he ⊢
   exact hq nrem neq st' hB' hp' hL' h1 (jX _) hs' hq' he
 have fin : ∀ {st : SortSt} (m q : Nat) (f : Option (Option Nat) × Nat → StateT SortSt Sem (Option Nat)), PB a₀ lo st → pendingOf st = pendingOf st0 → Low lo (arrOf st0) (arrOf st) → 1 ≤ m → m ≤ nrem → FallK κ (arrOf st) lo (lo + m) → q + 1 ≤ m →
   (∀ i, lo + m - (q + 1) ≤ i → i < lo + m → KK κ (arrOf st) i = KK κ (arrOf st) (lo + m - 1)) → ∀ st', PB a₀ lo st' → arrOf st' = mirror (arrOf st) (lo + m - (q + 1)) (lo + m) ((lo + m - (lo + m - (q + 1))) / 2) → FallK κ (arrOf st') lo (lo + m) := by
  intro st m q f hB hp hL hm1 hm2 hs hq he st' hB' e i j hi hij hj
  have hsz : lo + m ≤ (arrOf st).size := by rw [hB.size]; omega
  rw [e, KK_mirror_equal hsz he, KK_mirror_equal hsz he]
  exact hs i j hi hij hj
 refine wpS_ite (fun hgt => ?_) fun hgt => ?_
 ·refine wpS_bind (wpS_ltPB hO h0 hB0 (by omega) (by omega) ?_)
  cases hrose : κ.blt (KK κ (arrOf st0) lo) (KK κ (arrOf st0) (lo + n - 1))
  ·refine wpS_ite (fun hh => by cases hh) fun _ => ?_
   have hsz : lo + n ≤ (arrOf st0).size := by rw [hB0.size]; omega
   have hall : ∀ k, lo ≤ k → k < lo + n → KK κ (arrOf st0) k = KK κ (arrOf st0) (lo + n - 1) := by
    intro k hk1 hk
    have a1 := hsn lo k (jX _) hk1 hk
    have a2 := hsn k (lo + n - 1) hk1 (by omega) (by omega)
    exact KeyOrd.kle_antisymm a2 (KeyOrd.kle_trans hrose a1)
   refine wpS_bind (wpS_revO hB0 rfl (Low.refl _ _) (jX _) (by omega) fun st' hB' hp' hL' e => ?_)
   refine wpS_bind (wpS_lift (wpAny_rule ⟨rfl, ?_⟩))
   refine wpS_bind (desc hB' hp' hL' ?_ fun m q st2 hB2 hp2 hL2 hm1 hm2 hs2 hq2 he2 => ?_)
   ·intro i j hi hij hj
    rw [e, KK_mirror_equal hsz hall, KK_mirror_equal hsz hall]
    by_cases hjn : j < lo + n
    ·rw [hall i hi (by omega), hall j (by omega) hjn]; exact KeyOrd.kle_refl _
    ·have hj' : j = lo + n := by omega
     subst hj'
     by_cases hi' : i = lo + n
     ·subst hi'; exact KeyOrd.kle_refl _
     ·rw [hall i hi (by omega)]; exact KeyOrd.kle_of_klt hlt
   dsimp only
   refine wpS_ite (fun _ => wpS_bind (wpS_revO hB2 hp2 hL2 (by omega) (by omega) fun st3 hB3 hp3 hL3 e3 => tail m _ hB3 hp3 hL3 hm1 hm2 (fin m q (fun _ => pure none) hB2 hp2 hL2 hm1 hm2 hs2 hq2 he2 st3 hB3 e3) fun _ => rfl)) fun _ => tail m _ hB2 hp2 hL2 hm1 hm2 hs2 fun _ => rfl
  ·exact wpS_ite (fun _ => wpS_pure (h _ _ hB0 rfl (Low.refl _ _) hn1 hn2 hsn)) fun hh => absurd rfl hh
 ·have hn1' : n = 1 := by omega
  refine wpS_bind (wpS_lift (wpAny_rule ⟨rfl, ?_⟩))
  refine wpS_bind (desc hB0 rfl (Low.refl _ _) ?_ fun m q st2 hB2 hp2 hL2 hm1 hm2 hs2 hq2 he2 => ?_)
  ·intro i j hi hij hj
   by_cases hi' : i = j
   ·subst hi'; exact KeyOrd.kle_refl _
   ·have hi0 : i = lo + n - 1 := by omega
    have hj1 : j = lo + n := by omega
    rw [hi0, hj1]
    exact KeyOrd.kle_of_klt hlt
  dsimp only
  refine wpS_ite (fun _ => wpS_bind (wpS_revO hB2 hp2 hL2 (by omega) (by omega) fun st3 hB3 hp3 hL3 e3 => tail m _ hB3 hp3 hL3 hm1 hm2 (fin m q (fun _ => pure none) hB2 hp2 hL2 hm1 hm2 hs2 hq2 he2 st3 hB3 e3) fun _ => rfl)) fun _ => tail m _ hB2 hp2 hL2 hm1 hm2 hs2 fun _ => rfl
end
section
variable {prog : Program} {w : World} {A : Around} {E : Value → Shared → Prop} {s : Shared} {κ : PyProof.Rows.KeyKind} {a₀ : Array Keyed}
theorem Runs.len : ∀ {a b : Nat} {l : List (Nat × Nat × Nat)}, Runs a l b → a + l.length ≤ b
 | a, b, [], h => kYe h
 | a, b, r :: t, h => by
  obtain ⟨_, h2, h3⟩ := h
  have := Runs.len h3
  rw [yJ]
  omega
theorem POrd.low {lo : Nat} {st st' : SortSt} (h : POrd κ a₀ lo st) (hB : PB a₀ lo st') (hp : pendingOf st' = pendingOf st) (hL : Low lo (arrOf st) (arrOf st')) : POrd κ a₀ lo st' :=
 ⟨hB, fun r hr => by
  rw [hp] at hr
  have := Runs.mem_le h.base.pend hr
  exact (h.segs r hr).keep fun p _ _ => hL p (by omega)⟩
theorem POrd.push {lo n : Nat} {st : SortSt} (h : POrd κ a₀ lo st) (h1 : 1 ≤ n) (h2 : lo + n ≤ a₀.size) (hs : SegI κ (arrOf st) lo (lo + n)) : POrd κ a₀ (lo + n) (setPending st ((pendingOf st).push (lo, n, 0))) := by
 refine ⟨⟨h.base.perm, h.base.kind, h.base.failed, ?_, h2⟩, fun r hr => ?_⟩
 ·show Runs 0 ((pendingOf st).push (lo, n, 0)).toList (lo + n)
  rw [zK, runs_append]
  exact ⟨lo, h.base.pend, rfl, h1, rfl⟩
 ·have hr' : r ∈ ((pendingOf st).push (lo, n, 0)).toList := hr
  rw [zK] at hr'
  rcases yQ.mp hr' with hr | hr
  ·exact h.segs r hr
  ·cases kX.mp hr
   exact hs
theorem POrd.third {lo : Nat} {st : SortSt} (h : POrd κ a₀ lo st) (pw : Nat) : POrd κ a₀ lo (setPending st ((pendingOf st).modify ((pendingOf st).size - 1) fun x => (x.1, x.2.1, pw))) := by
 have e : (pendingOf st).toList.map (fun r => (r.1, r.2.1)) = ((pendingOf st).modify ((pendingOf st).size - 1) fun x => (x.1, x.2.1, pw)).toList.map (fun r => (r.1, r.2.1)) := by
  refine jKb fun i => ?_
  rw [kY, kY, xW, xW, Array.getElem?_modify]
  split
  ·rw [Option.map_map]; rfl
  ·rfl
 refine ⟨⟨h.base.perm, h.base.kind, h.base.failed, Runs.third e h.base.pend, h.base.room⟩, fun r hr => ?_⟩
 have hm : (r.1, r.2.1) ∈ ((pendingOf st).modify ((pendingOf st).size - 1) fun x => (x.1, x.2.1, pw)).toList.map (fun r => (r.1, r.2.1)) := wJ.mpr ⟨r, hr, rfl⟩
 rw [← e] at hm
 obtain ⟨r', hr', e'⟩ := wJ.mp hm
 have := h.segs r' hr'
 simp only [Prod.mk.injEq] at e'
 rw [e'.1, e'.2] at this
 exact this
theorem wpS_sortRunsO (hO : κ.OneLt) (h0 : PyProof.Rows.KeysOf κ a₀) {st : SortSt} {Q : Unit → SortSt → Prop} (hB : SBase a₀ st)
  (h : ∀ st', (arrOf st').Perm a₀ → failedOf st' = none → SegI κ (arrOf st') 0 a₀.size → Q () st') : wpS (model prog w) A E s sortRuns' Q st := by
 rw [sortRuns'_eq]
 refine wpS_bind (wpS_get ?_)
 dsimp only
 simp only [hB.size]
 have hB0 : POrd κ a₀ 0 st := ⟨⟨hB.perm, hB.kind, hB.failed, by rw [hB.pend]; rfl, wV _⟩, fun r hr => by rw [hB.pend] at hr; cases hr⟩
 refine wpS_bind (wpS_mono (wpS_forRange (I := fun x (c : Option Unit × Nat) st' => c.1 = none ∧ POrd κ a₀ c.2 st' ∧ x ≤ c.2) (Q := fun (c : Option Unit × Nat) st' => c.1 = none ∧ POrd κ a₀ a₀.size st') ?step ?fin ⟨rfl, hB0, wV _⟩) ?post)
 case fin =>
  rintro ⟨r, lo⟩ st' ⟨hr, hB', hx⟩
  simp only at hr hB' hx
  have := hB'.base.room
  have e : lo = a₀.size := by omega
  subst e
  exact ⟨hr, hB'⟩
 case step =>
  rintro x ⟨r, lo⟩ st' _ hx ⟨hr, hB', hxl⟩
  simp only at hr hB' hxl ⊢
  subst hr
  have hrm := hB'.base.room
  refine wpS_ite (fun e => wpS_pure ⟨rfl, ?_⟩) fun hlo => ?_
  ·have e : lo = a₀.size := by omega
   exact e ▸ hB'
  refine wpS_bind (wpS_countO hO h0 hB'.base (by omega) (by omega) fun n st2 hB2 hp2 hL2 hn1 hn2 hs2 => ?_)
  dsimp only
  refine wpS_ite (fun hlt => ?_) fun _ => ?_
  ·refine wpS_bind (wpS_lift (wpAny_rule ⟨rfl, ?_⟩))
   have hf1 : 1 ≤ min (a₀.size - lo) (minRun' a₀.size a₀.size 0) := by omega
   have hf2 : lo + min (a₀.size - lo) (minRun' a₀.size a₀.size 0) ≤ a₀.size := by omega
   refine wpS_bind (wpS_binaryO hO h0 hB2 hf2 (by omega) hs2 fun st3 hB3 hp3 hL3 hs3 => ?_)
   refine wpS_ite (fun e => by simp at e) fun _ => ?_
   have hP := hB'.low hB3 (hp3.trans hp2) (hL2.trans hL3)
   have hS := hs3.segI
   refine wpS_bind (wpS_get ?_)
   rcases hb : (pendingOf st3).back? with _ | ⟨s1, n1, q⟩
   ·exact wpS_bind (wpS_modify (wpS_pure ⟨rfl, hP.push hf1 hf2 hS, by dsimp only; omega⟩))
   ·dsimp only
    refine wpS_bind (wpS_mono (wpS_forRange (I := fun _ (c : Option Unit × Unit) st'' => c.1 = none ∧ POrd κ a₀ lo st'' ∧ SegI κ (arrOf st'') lo (lo + min (a₀.size - lo) (minRun' a₀.size a₀.size 0))) (Q := fun (c : Option Unit × Unit) st'' => c.1 = none ∧ POrd κ a₀ lo st'' ∧ SegI κ (arrOf st'') lo (lo + min (a₀.size - lo) (minRun' a₀.size a₀.size 0))) ?_ (fun _ _ hh => hh) ⟨rfl, hP, hS⟩) ?_)
    ·rintro x ⟨r, ⟨⟩⟩ st'' _ _ ⟨hr, hB4, hS4⟩
     refine wpS_bind (wpS_get ?_)
     by_cases hp : (pendingOf st'').size > 1
     ·rw [if_pos hp, getElem?_pos (pendingOf st'') _ (by omega)]
      dsimp only
      refine wpS_ite (fun _ => wpS_pure ⟨rfl, hB4, hS4⟩) fun _ => ?_
      refine wpS_bind (wpS_mergeAtO hO h0 hB4 (by omega) fun st5 hB5 _ hk5 => ?_)
      exact wpS_ite (fun e => by simp at e) fun _ => wpS_pure ⟨rfl, hB5, hS4.keep fun p h1 _ => hk5 p h1⟩
     ·rw [if_neg hp]
      exact wpS_pure ⟨rfl, hB4, hS4⟩
    ·rintro ⟨r, ⟨⟩⟩ st4 ⟨hr, hB4, hS4⟩
     simp only at hr
     subst hr
     exact wpS_bind (wpS_modify (wpS_bind (wpS_modify (wpS_pure ⟨rfl, (hB4.third _).push hf1 hf2 hS4, by dsimp only; omega⟩))))
  ·have hf1 := hn1
   have hf2 : lo + n ≤ a₀.size := by omega
   have hP := hB'.low hB2 hp2 hL2
   have hS := hs2.segI
   refine wpS_bind (wpS_get ?_)
   rcases hb : (pendingOf st2).back? with _ | ⟨s1, n1, q⟩
   ·exact wpS_bind (wpS_modify (wpS_pure ⟨rfl, hP.push hf1 hf2 hS, by dsimp only; omega⟩))
   ·dsimp only
    refine wpS_bind (wpS_mono (wpS_forRange (I := fun _ (c : Option Unit × Unit) st'' => c.1 = none ∧ POrd κ a₀ lo st'' ∧ SegI κ (arrOf st'') lo (lo + n)) (Q := fun (c : Option Unit × Unit) st'' => c.1 = none ∧ POrd κ a₀ lo st'' ∧ SegI κ (arrOf st'') lo (lo + n)) ?_ (fun _ _ hh => hh) ⟨rfl, hP, hS⟩) ?_)
    ·rintro x ⟨r, ⟨⟩⟩ st'' _ _ ⟨hr, hB4, hS4⟩
     refine wpS_bind (wpS_get ?_)
     by_cases hp : (pendingOf st'').size > 1
     ·rw [if_pos hp, getElem?_pos (pendingOf st'') _ (by omega)]
      dsimp only
      refine wpS_ite (fun _ => wpS_pure ⟨rfl, hB4, hS4⟩) fun _ => ?_
      refine wpS_bind (wpS_mergeAtO hO h0 hB4 (by omega) fun st5 hB5 _ hk5 => ?_)
      exact wpS_ite (fun e => by simp at e) fun _ => wpS_pure ⟨rfl, hB5, hS4.keep fun p h1 _ => hk5 p h1⟩
     ·rw [if_neg hp]
      exact wpS_pure ⟨rfl, hB4, hS4⟩
    ·rintro ⟨r, ⟨⟩⟩ st4 ⟨hr, hB4, hS4⟩
     simp only at hr
     subst hr
     exact wpS_bind (wpS_modify (wpS_bind (wpS_modify (wpS_pure ⟨rfl, (hB4.third _).push hf1 hf2 hS4, by dsimp only; omega⟩))))
 case post =>
  rintro ⟨r, lo⟩ st' ⟨hr, hB'⟩
  simp only at hr hB' ⊢
  subst hr
  have hlen := hB'.base.pend.len
  refine wpS_bind (wpS_mono (wpS_forRange (I := fun x (c : Option Unit × Unit) st'' => c.1 = none ∧ POrd κ a₀ a₀.size st'' ∧ (pendingOf st'').size + x ≤ a₀.size) (Q := fun (c : Option Unit × Unit) st'' => c.1 = none ∧ POrd κ a₀ a₀.size st'' ∧ (pendingOf st'').size ≤ 1) ?_ ?_ ⟨rfl, hB', by show (pendingOf st').toList.length + 0 ≤ _; omega⟩) ?_)
  ·rintro x ⟨r, ⟨⟩⟩ st'' _ _ ⟨hr, hB2, hx2⟩
   simp only at hr ⊢
   subst hr
   refine wpS_bind (wpS_get ?_)
   refine wpS_ite (fun e => wpS_pure ⟨rfl, hB2, e⟩) fun hp => ?_
   refine wpS_bind (wpS_mergeAtO hO h0 hB2 ?_ fun st3 hB3 hz _ => ?_)
   ·have hle : ∀ (c : Prop) [Decidable c] (n : Nat), (if c then n - 1 else n) ≤ n := fun c _ n => by split <;> omega
    exact xJ (Nat.add_le_add_right (hle _ _) 1) (by omega)
   ·exact wpS_ite (fun e => by simp at e) fun _ => wpS_pure ⟨rfl, hB3, by omega⟩
  ·rintro ⟨r, ⟨⟩⟩ st'' ⟨hr, hB2, hx2⟩
   exact ⟨hr, hB2, by omega⟩
  ·rintro ⟨r, ⟨⟩⟩ st'' ⟨hr, hB2, hx2⟩
   simp only at hr ⊢
   subst hr
   refine wpS_pure (h _ hB2.base.perm hB2.base.failed ?_)
   have hpd := hB2.base.pend
   cases e : (pendingOf st'').toList with
   | nil =>
    rw [e] at hpd
    have : 0 = a₀.size := hpd
    intro p q x y _ _ hq
    omega
   | cons r t =>
    have hlt : (pendingOf st'').toList.length ≤ 1 := hx2
    rw [e, yJ] at hlt
    have et : t = [] := List.eq_nil_of_length_eq_zero (by omega)
    subst et
    have hsg := hB2.segs r (by rw [e]; exact xZ)
    rw [e] at hpd
    obtain ⟨q1, q2, q3⟩ := hpd
    have q4 : 0 + r.2.1 = a₀.size := q3
    rw [q1, q4] at hsg
    exact hsg
end
section
variable {prog : Program} {w : World} {A : Around} {E : Value → Shared → Prop} {s : Shared} {κ : PyProof.Rows.KeyKind}
theorem SegI.sortedTo {arr : Array Keyed} {n : Nat} (h : SegI κ arr 0 n) (hn : n ≤ arr.size) : SortedToK κ arr n := fun i j hij hj => by
 have := h i j _ _ (wV _) hij hj (getElem?_pos arr i (by omega)) (getElem?_pos arr j (by omega))
 unfold KK
 rw [getElem?_pos arr i (by omega), getElem?_pos arr j (by omega)]
 exact this
theorem list_sort_ord (hO : κ.OneLt) {a : Addr} {vs : List Value} {n : Nat} {P : PySem.Fin → Shared → Prop} (ho : s.heap.get? a = some (seqObj "list" vs.toArray n))
  (h0 : PyProof.Rows.KeysOf κ (pairsOf vs)) (hkk : ∀ v₁ v₂ rest, vs = v₁ :: v₂ :: rest → keyKind' (v₁ :: v₂ :: rest).toArray = pure oneType') (hlen : vs.length < 1000000)
  (h : ∀ st' : SortSt, (arrOf st').Perm (pairsOf vs) → SortedToK κ (arrOf st') (pairsOf vs).size → P (.done (.ret .none)) { s with heap := sortedHeap s.heap a vs ((arrOf st').map (·.2)) }) :
  wpAny (model prog w) A (Builtin.«list.sort» ⟨[.ref a], []⟩) P E s := by
 rw [list_sort_plain]
 have ha : a < s.heap.objs.size := kJ ho
 refine jZ (listItems_at ho rfl ?_)
 refine jZ (listUpdate_at ho rfl ?_)
 obtain ⟨e1, ho1⟩ : ∃ e1, (s.heap.update a (Obj.mapSeq fun _ => #[])).get? a = some (seqObj "list" #[] e1) := ⟨_, get?_update_seq ho (fun _ => #[])⟩
 refine jZ (seqEpoch_at ho1 rfl ?_)
 refine jZ (wpAny_newTuple ?_)
 refine jZ (wpAny_newList ?_)
 refine wpAny_holding ?_
 have ho6 : (((s.heap.update a (Obj.mapSeq fun _ => #[])).push (seqObj "tuple" vs.toArray 0)).push (seqObj "list" #[] 0)).get? a = some (seqObj "list" #[] e1) := by
  rw [Heap.get?_push_ne _ _ _ (by rw [size_push', Heap.size_update]; exact zV (kXf ha)), Heap.get?_push_ne _ _ _ (by rw [Heap.size_update]; exact zV ha)]
  exact ho1
 show wpAny (model prog w) A _ P E { s with heap := ((s.heap.update a (Obj.mapSeq fun _ => #[])).push (seqObj "tuple" vs.toArray 0)).push (seqObj "list" #[] 0) }
 dsimp only
 have hsz : vs.toArray.size = vs.length := by simp
 by_cases h2 : vs.toArray.size < 2
 ·rw [if_pos h2, if_pos h2]
  refine jZ (kK ?_)
  rw [StateT.run_pure]
  refine jZ (kK ?_)
  dsimp only
  refine jZ (seqEpoch_at ho6 rfl ?_)
  refine jZ (listUpdate_at ho6 rfl ?_ (hsz2 := by rw [Array.size_map]; show (pairsOf vs).size ≤ _; rw [pairsOf_size, sizeLine_eq]; omega))
  simp only [bne_self_eq_false, wX, if_false]
  exact kK (h (SortSt.mk' general' (vs.toArray.zip vs.toArray) #[] 7 none) (Array.Perm.refl _) fun i j hij hj => by rw [pairsOf_size] at hj; have : i = j := (by omega); subst this; exact KeyOrd.kle_refl _)
 ·rw [if_neg h2, if_neg h2]
  obtain ⟨v₁, v₂, rest, rfl⟩ : ∃ v₁ v₂ rest, vs = v₁ :: v₂ :: rest := by
   match vs, hsz, h2 with
   | [], _, h2 => simp at h2
   | [_], _, h2 => simp at h2
   | v₁ :: v₂ :: rest, _, _ => exact ⟨v₁, v₂, rest, rfl⟩
  rw [hkk _ _ _ rfl]
  refine jZ (kK ?_)
  refine jZ (wpAny_mono (wpS_sortRunsO (κ := κ) hO (a₀ := pairsOf (v₁ :: v₂ :: rest)) h0 (st := SortSt.mk' oneType' ((v₁ :: v₂ :: rest).toArray.zip (v₁ :: v₂ :: rest).toArray) #[] 7 none)
   (Q := fun _ st' => (arrOf st').Perm (pairsOf (v₁ :: v₂ :: rest)) ∧ failedOf st' = none ∧ SegI κ (arrOf st') 0 (pairsOf (v₁ :: v₂ :: rest)).size) ⟨Array.Perm.refl _, rfl, rfl, rfl⟩ fun st' a1 a2 a3 => ⟨a1, a2, a3⟩) ?_ fun _ _ e => e)
  rintro ⟨⟨⟩, st'⟩ s' ⟨rfl, hp, hf, hsg⟩
  dsimp only
  refine jZ (seqEpoch_at ho6 rfl ?_)
  refine jZ (listUpdate_at ho6 rfl ?_ (hsz2 := by refine jQe (kYe ((Array.size_map ..).trans (hp.size_eq.trans (pairsOf_size _)))) ?_; rw [sizeLine_eq]; omega))
  rw [hf]
  simp only [bne_self_eq_false, wX, if_false]
  exact kK (h st' hp (hsg.sortedTo (kYe hp.size_eq.symm)))
end
section
variable {X : Cx}
open PySem.W in
end
@[reducible] def numKind : PyProof.Rows.KeyKind where
 α := Int
 blt a b := decide (a < b)
 irrefl a := by simp
 trans a b c h1 h2 := by simp only [decide_eq_true_eq] at *; omega
 negTrans a b c h := by simp only [decide_eq_true_eq] at *; omega
 total a b h1 h2 := by simp only [decide_eq_false_iff_not] at *; omega
 keyOf v := match v with | .int n _ => some n | _ => none
 dflt := 0
theorem numKind_oneLt : numKind.OneLt := by
 intro prog w A E s x y a b Q ha hb h
 cases x <;> simp only [numKind, reduceCtorEq, Option.some.injEq] at ha
 cases y <;> simp only [numKind, reduceCtorEq, Option.some.injEq] at hb
 cases ha; cases hb
 exact oneLt_int h
theorem kk_num {xs : Array Keyed} (h : IntKeys xs) (i : Nat) : KK numKind xs i = K xs i := by
 unfold KK K
 cases e : xs[i]? with
 | none => rfl
 | some p =>
  obtain ⟨n, t, hn⟩ := h p (Array.mem_toList_iff.mpr (Array.mem_of_getElem? e))
  dsimp only
  rw [hn]
  rfl
section
variable {X : Cx}
open PySem.W in
end
theorem intsAre_at : ∀ {us : List Value} {ns : List Int}, us.length = ns.length → (∀ (j : Nat) (u : Value), us[j]? = some u → ∃ x t, ns[j]? = some x ∧ u = .int x t) → IntsAre us ns
 | [], [], _, _ => .nil
 | [], _ :: _, e, _ => nomatch e
 | _ :: _, [], e, _ => nomatch e
 | u :: us, x :: ns, e, h => by
  obtain ⟨y, t, e1, rfl⟩ := h 0 u rfl
  obtain rfl : x = y := Option.some.inj e1
  exact .cons x t (intsAre_at (Nat.succ.inj e) fun j v ev => h (j + 1) v ev)
section
variable {X : Cx}
open PySem.W in
theorem call_sortedDI (hc : X.calm = true) : CallR X (.builtin "sorted") (fun xs H Q => ∃ (d : Addr) (kvs : List (Key × V)) (ss : List Int), xs = [.ref d] ∧ H d = some (.dK kvs) ∧ kvs.map (·.1) = ss.map Sum.inl ∧ kvs.length < 100000 ∧
  ∀ (D : Addr) (qs : List Int), H D = none → qs.Perm ss → qs.Pairwise (· ≤ ·) → Q (.ref D) (upd H D (.lst (qs.map V.int)))) := by
 intro pins s σ H xs us Q I rv h
 obtain ⟨d, kvs, ss, rfl, hd, hk, h64, q⟩ := h
 obtain ⟨u, rfl, ru⟩ := rv.one
 cases ru
 obtain ⟨z, lo, vs, rel, dd⟩ := dk_of I.hok hd
 obtain ⟨o, es, ep, h1, h2, h3, h4⟩ := id dd
 have da : s.heap.DictAt (mixKind X.prog X.w) d vs ep := ⟨o, es, h1, h2, h3, h4⟩
 have lr := rel.length
 have lo' : (d == sysModules) = false := lo
 have hz64 : (1000000 : Nat) < sizeLine := by decide
 refine Calls.call_function_entry kind_sorted plain_sorted entry_sorted (args_sorted1 _) ?_
 unfold Builtin.«sorted»
 refine jZ (m := checkCount "sorted" 1 1 _) (kK ?_)
 refine jZ (kdu_collect (A := X.A.in1) (kdl_dict (knd := mixKind X.prog X.w) (kvs := vs) (ep := ep) lo') (I.ok.hd hc) da (by omega) fun h' tk acc hkp hacc => ?_)
 have hl : acc.toList.length = vs.length := by rw [xV]; exact hacc.1
 refine jZ (wpAny_newList ?_ (by rw [hl]; omega))
 have lk : kvs.length = ss.length := by
  have := congrArg List.length hk
  rwa [jQ, jQ] at this
 have hS : IntsAre acc.toList ss := by
  refine intsAre_at (by omega) fun j u eu => ?_
  obtain ⟨k, x, ek, hkx⟩ := hacc.2 j u (by rw [← xW]; exact eu)
  have e5 : (vs.map (·.1))[j]? = some k := by rw [kY, ek]; rfl
  rw [← kv_keys rel, hk, kY] at e5
  cases e6 : ss[j]? with
  | none => rw [e6] at e5; cases e5
  | some y =>
   rw [e6] at e5
   cases e5
   obtain ⟨t, rfl⟩ := (show ∃ t, u = Value.int y t from is_kV hkx)
   exact ⟨y, t, rfl, rfl⟩
 have hoL : (h'.push (seqObj "list" acc.toList.toArray 0)).get? h'.objs.size = some (seqObj "list" acc.toList.toArray 0) := zX _ rfl
 show wpAny _ _ _ _ _ { s with heap := h'.push (seqObj "list" acc.toList.toArray 0), toks := tk }
 refine jZ (wpAny_holding (wpAny_call_entry slot_list_sort ⟨_, hoL, rfl⟩ entry_list_sort (list_sort_ord numKind_oneLt hoL (fun x hx => by obtain ⟨n, t, hn⟩ := hS.intKeys x hx; exact ⟨n, by rw [hn]⟩) (fun v₁ v₂ rest e => keyKind_ints (by rw [← e]; exact hS)) (by omega) fun st' a1 a2 => ⟨_, rfl, ?_⟩) (args_list_sort _)))
 refine kK ⟨_, rfl, ?_⟩
 have hik : IntKeys (arrOf st') := fun x hx => hS.intKeys x ((jYa.mp a1).mem_iff.mp hx)
 obtain ⟨ss', b1, b2, b3⟩ := sorted_out hS a1 (fun i j hij hj => by
  have := a2 i j hij hj
  rw [kk_num hik, kk_num hik] at this
  have t2 : decide (K (arrOf st') j < K (arrOf st') i) = false := this
  simpa using t2)
 obtain ⟨e, he⟩ := sortedHeap_at (h := h'.push (seqObj "list" acc.toList.toArray 0)) (vs := acc.toList) (out := (arrOf st').map (·.2)) hoL
 have l5 : ss'.length = ss.length := b2.length_eq
 have I2 : Inv X pins σ H { s with heap := h', toks := tk } := I.kept hkp
 refine ⟨.ref h'.objs.size, _, I2.laid (t' := tk) (o := .lst (ss'.map V.int)) (fun b ob z5 => ?_) (jX _) ⟨by rw [jQ]; omega, ((arrOf st').map (·.2)).toList, e, vals_of_ints b1, by rw [Array.toArray_toList]; exact he⟩, rfl, q _ ss' (I2.hok.fresh (jX _)) b2 b3⟩
 have hb : h'.get? b = some ob := z5
 have lb := kJ hb
 rw [sortedHeap_old (zV lb) (by rw [size_push']; exact kXf lb), Heap.get?_push_ne _ _ _ (zV lb)]
 exact hb
end
end L2
namespace Nb
open PySem L2
def top (i : Nat) : Stmt := PySem.Challenge.pw_nonebetter_k31_what_a_paper_rests_on.main.body.getD i (.Pass ⟨0, 0, 0, 0⟩)
abbrev sMixB : Stmt := top 5
abbrev sCell : Stmt := top 6
abbrev sLeftB : Stmt := top 7
abbrev sDraw : Stmt := top 8
abbrev Bits (x : Int) : Prop := PySem.Builtin.Int.intBits x ≤ 2 ^ 20
theorem bits0 : Bits 0 := by decide
def spCellB (K : Fg) : Sp := fun vs H Q _ => ∃ (a : Addr) (ns : List Int) (k : Int), vs = [.ref a, .int k] ∧ SqL K H a (ns.map V.int) ∧ (∀ n ∈ ns, Bits n) ∧ 0 ≤ k ∧ ∀ z : Int, Bits z → Q (.int z) H
def spMixB : Sp := fun vs H Q _ => ∃ c k : Int, vs = [.int c, .int k] ∧ Bits c ∧ 0 ≤ k ∧ k ≤ 1000000 ∧ ∀ z : Int, 0 ≤ z → z < 2147483587 → Q (.int z) H
def spLeftB (K : Fg) : Sp := fun vs H Q _ => ∃ (a : Addr) (ns : List Int) (k : Int), vs = [.ref a, .int k] ∧ SqL K H a (ns.map V.int) ∧ (∀ n ∈ ns, Bits n) ∧ 0 ≤ k ∧ ∀ (l : Addr) (x f : Int), H l = none → Bits x → Q (.ref l) (upd H l (.lst [.int x, .int f, .int 0]))
def spDraw : Sp := fun vs H Q _ => ∃ (l : Addr) (x f k b : Int), vs = [.ref l, .int b] ∧ H l = some (.lst [.int x, .int f, .int k]) ∧ Bits x ∧ 0 ≤ k ∧ k ≤ 100000 ∧ 0 < b ∧ b ≤ 1000000 ∧ ∀ z x' : Int, Bits x' → 0 ≤ z → z < b → Q (.int z) (upd H l (.lst [.int x', .int f, .int (k + 1)]))
theorem atNsB {ns : List Int} {k : Int} (hb : ∀ n ∈ ns, Bits n) (h0 : 0 ≤ k) (h : k < (((ns.map V.int).length : Nat) : Int)) : ∃ v : Int, atI (ns.map V.int) k = some (.int v) ∧ Bits v := by
 have hk : k.toNat < ns.length := by rw [jQ] at h; omega
 have ek : k = ((k.toNat : Nat) : Int) := by omega
 have q : atI (ns.map V.int) ((k.toNat : Nat) : Int) = some (.int ns[k.toNat]) := atI_nat (by rw [kY, gE hk] <;> rfl)
 rw [← ek] at q
 exact ⟨_, q, hb _ (jKd hk)⟩
theorem upd_upd (H : Hp) (l : Addr) (a b : HO) : upd (upd H l a) l b = upd H l b := by
 funext c
 by_cases e : c = l
 ·rw [e, upd_same, upd_same]
 ·rw [upd_ne e, upd_ne e, upd_ne e]
theorem big1 {b : Int} (h0 : 0 < b) (h1 : b ≤ 1000000) : b ≠ 0 ∧ Big b := ⟨by omega, xJ (show b.natAbs ≤ 1000000 by omega) (by decide +kernel)⟩
theorem base3 (z : Int) : ∃ b : Int, atI [V.int 3, V.int 5, V.int 9] (z % 3) = some (.int b) ∧ 0 < b ∧ b ≤ 9 := by
 rcases (show z % 3 = 0 ∨ z % 3 = 1 ∨ z % 3 = 2 by omega) with e | e | e
 ·rw [e]; exact ⟨3, rfl, by decide, by decide⟩
 ·rw [e]; exact ⟨5, rfl, by decide, by decide⟩
 ·rw [e]; exact ⟨9, rfl, by decide, by decide⟩
def spProblem20 (K : Fg) : Sp := fun vs H Q _ => ∃ (a : Addr) (ns : List Int) (most rm : Int), vs = [.ref a, .int most, .int rm] ∧ SqL K H a (ns.map V.int) ∧ (∀ n ∈ ns, Bits n) ∧ 0 ≤ most ∧ most ≤ 100 ∧ 0 ≤ rm ∧ rm ≤ 100 ∧
 ∀ (t : Addr) (rs : List (List Int × Int)) (cs : List Int) (H' : Hp), Same H H' → ProbAt K H' t rs cs → (∀ r ∈ rs, r.1.length = cs.length) → (cs.length : Int) ≤ most → (rs.length : Int) ≤ rm → Q (.ref t) H'
section
variable {P : Program} {w : World} {K : Fg} {mg : Str → Option Value} {base : Heap}
theorem scMixB : FnScope ["_law_number", "_law_k", "_law_mixed"] ["_law_number", "_law_k"] (defScope sMixB) := ⟨rfl, rfl, rfl, by decide +kernel, rfl, by decide +kernel, by decide +kernel⟩
theorem okMixB (F : Fn K mg "_law_mix" sMixB) (M : Mg mg) : Cal P w K mg base 1 "_law_mix" ["_law_number", "_law_k"] (spMixB) := by
 refine cal_of F scMixB (fun _ _ _ _ _ _ => bind2 (fun _ _ => rfl)) (fun vs H Q E h => ?_) (fun f cdv A outer s H vs Q E hr h => ?_)
 ·obtain ⟨c, k, rfl, _⟩ := h
  rfl
 obtain ⟨c, k, rfl, hb, h0, h1, q⟩ := h
 refine ⟨_, (pss_cons (ps_set (i := 2) scMixB.nd rfl (Or.inl rfl) (pe_op op_mod (pe_op op_mulI (pe_op op_add (pe_op op_add (pe_op op_mulI (pv 0) (pv 0)) (pe_op op_mulI (pv 1) (pv 0))) (pe_op op_mulI (pe_op op_mulI pe_int (pv 1)) (pv 1))) pe_int) pe_int))
  (pss_one (ps_ret (pe_op op_mod (pe_op op_mulI (pv 2) (pv 2)) pe_int)))), ?_⟩
 have b2 : ∀ x : Int, -(2 ^ 64) < x % 2147483629 ∧ x % 2147483629 < 2 ^ 64 := fun x => ⟨by omega, by omega⟩
 have kk : ∀ x : Int, PySem.IntMulOk k x := fun x => (show CMul k x from .inl ⟨by omega, by omega⟩).ok
 refine ⟨_, rfl, _, rfl, _, _, rfl, rfl, PySem.IntMulOk.of_bits hb hb, _, rfl, _, rfl, _, _, rfl, rfl, kk _, _, _, rfl, rfl, _, rfl, _, _, rfl, rfl, (show CMul 7 k from .inl ⟨by decide, by decide⟩).ok, _, rfl, _, _, rfl, rfl, (show CMul (7 * k) k from .inr ⟨by omega, by omega⟩).ok, _, _, rfl, rfl, _, _, rfl, rfl, (show CMul _ 1103515245 from .inr ⟨by decide, by decide⟩).ok, _, _, rfl, rfl, (by show (0 : Int) < _; decide +kernel), ?_⟩
 refine ⟨_, rfl, _, rfl, _, _, rfl, rfl, (show CMul _ _ from .inl (b2 _)).ok, _, _, rfl, rfl, (by show (0 : Int) < _; decide +kernel), q _ (jZa _ (by decide)) (jQd _ (by decide))⟩
theorem scCell : FnScope ["_law_script", "_law_k"] ["_law_script", "_law_k"] (defScope sCell) := ⟨rfl, rfl, rfl, by decide +kernel, rfl, by decide +kernel, by decide +kernel⟩
theorem okCell (F : Fn K mg "_law_cell_at" sCell) (M : Mg mg) : Cal P w K mg base 1 "_law_cell_at" ["_law_script", "_law_k"] (spCellB K) := by
 refine cal_of F scCell (fun _ _ _ _ _ _ => bind2 (fun _ _ => rfl)) (fun vs H Q E h => ?_) (fun f cdv A outer s H vs Q E hr h => ?_)
 ·obtain ⟨a, ns, k, rfl, _⟩ := h
  rfl
 obtain ⟨a, ns, k, rfl, hS, hB, h0, q⟩ := h
 refine ⟨_, (pss_cons (ps_if (pt_cmpR op_lt (pv 1) (pe_callB call_len_seq rfl M.len bt_len (pa_cons (pv 0) pa_nil)) (nomark _)) (pss_one (ps_ret (pe_ix ix_list (pv 0) (pv 1) (fun _ _ => rfl)))) pss_nil)
  (pss_one (ps_ret pe_int))), ?_⟩
 refine ⟨_, rfl, _, rfl, a, _, rfl, .inl hS, _, _, rfl, rfl, _, rfl, ?_⟩
 refine ite2 (fun c => ?_) (fun c => ?_)
 ·obtain ⟨v, hv, hb⟩ := atNsB hB h0 (zQ c)
  exact ⟨_, rfl, _, rfl, a, _, _, _, rfl, rfl, hS, hv, q v hb⟩
 ·exact q 0 bits0
theorem scLeftB : FnScope ["_law_script", "_law_k"] ["_law_script", "_law_k"] (defScope sLeftB) := ⟨rfl, rfl, rfl, by decide +kernel, rfl, by decide +kernel, by decide +kernel⟩
theorem okLeftB (F : Fn K mg "_law_left" sLeftB) (M : Mg mg) (cl_cell_at : Cal P w K mg base 1 "_law_cell_at" ["_law_script", "_law_k"] (spCellB K)) : Cal P w K mg base 2 "_law_left" ["_law_script", "_law_k"] (spLeftB K) := by
 refine cal_of F scLeftB (fun _ _ _ _ _ _ => bind2 (fun _ _ => rfl)) (fun vs H Q E h => ?_) (fun f cdv A outer s H vs Q E hr h => ?_)
 ·obtain ⟨a, ns, k, rfl, _⟩ := h
  rfl
 obtain ⟨a, ns, k, rfl, hS, hB, h0, q⟩ := h
 refine ⟨_, (pss_one (ps_ret (pe_lst (pa_cons (pe_fn cl_cell_at (hr.mono (by decide)) (pa_cons (pv 0) (pa_cons (pv 1) pa_nil))) (pa_cons (pe_op op_mod (pe_fn cl_cell_at (hr.mono (by decide)) (pa_cons (pv 0) (pa_cons pe_int pa_nil))) pe_int) (pa_cons pe_int pa_nil)))))), ?_⟩
 refine ⟨_, rfl, _, rfl, a, ns, k, rfl, hS, hB, h0, fun x hx => ?_⟩
 refine ⟨_, rfl, a, ns, 0, rfl, hS, hB, by decide, fun z _ => ⟨_, _, rfl, rfl, (by show (0 : Int) < _; decide +kernel), by show 3 ≤ sizeLine; decide, fun l hl => q l x _ hl hx⟩⟩
theorem scDraw : FnScope ["_law_left_here", "_law_base", "_law_digit"] ["_law_left_here", "_law_base"] (defScope sDraw) := ⟨rfl, rfl, rfl, by decide +kernel, rfl, by decide +kernel, by decide +kernel⟩
theorem okDraw (F : Fn K mg "_law_draw" sDraw) (M : Mg mg) (cl_mix : Cal P w K mg base 1 "_law_mix" ["_law_number", "_law_k"] (spMixB)) : Cal P w K mg base 2 "_law_draw" ["_law_left_here", "_law_base"] (spDraw) := by
 refine cal_of F scDraw (fun _ _ _ _ _ _ => bind2 (fun _ _ => rfl)) (fun vs H Q E h => ?_) (fun f cdv A outer s H vs Q E hr h => ?_)
 ·obtain ⟨l, x, f0, k, b, rfl, _⟩ := h
  rfl
 obtain ⟨l, x, f0, k, b, rfl, hl, hx, h0, h1, b0, b1, q⟩ := h
 refine ⟨_, (pss_cons (ps_asg (pe_op op_add (pe_ix ix_list (pv 0) pe_int (fun _ _ => rfl)) pe_int) (pg_sub (pv 0) pe_int set_list))
  (pss_cons (ps_if (pt_cmpR op_eq (pe_ix ix_list (pv 0) pe_int (fun _ _ => rfl)) pe_int (nomark _)) (pss_one (ps_ret (pe_op op_mod (pe_fn cl_mix (hr.mono (by decide)) (pa_cons (pe_ix ix_list (pv 0) pe_int (fun _ _ => rfl)) (pa_cons (pe_ix ix_list (pv 0) pe_int (fun _ _ => rfl)) pa_nil))) (pv 1)))) pss_nil)
  (pss_cons (ps_set (i := 2) scDraw.nd rfl (Or.inl rfl) (pe_op op_mod (pe_ix ix_list (pv 0) pe_int (fun _ _ => rfl)) (pv 1)))
  (pss_cons (ps_asg (pe_op op_fdivG (pe_ix ix_list (pv 0) pe_int (fun _ _ => rfl)) (pv 1)) (pg_sub (pv 0) pe_int set_list))
  (pss_one (ps_ret (pv 2))))))), ?_⟩
 refine seq_let5 ?_
 intro rT5 rT4 rT3 rT2
 refine ⟨_, rfl, l, _, _, _, rfl, rfl, sqL_new hl, rfl, _, _, rfl, rfl, _, rfl, l, _, _, 2, rfl, rfl, hl, rfl, ?_⟩
 have hl2 : upd H l (.lst [.int x, .int f0, .int (k + 1)]) l = some (.lst [.int x, .int f0, .int (k + 1)]) := upd_same
 refine ⟨_, rfl, l, _, _, _, rfl, rfl, sqL_new hl2, rfl, rfl, _, rfl, ite2 (fun c => ?_) (fun c => ?_)⟩
 ·refine ⟨_, rfl, l, _, _, _, rfl, rfl, sqL_new hl2, rfl, _, rfl, l, _, _, _, rfl, rfl, sqL_new hl2, rfl, x, k + 1, rfl, hx, by omega, by omega, fun z _ _ => ⟨_, rfl, _, _, rfl, rfl, b0, q _ _ hx (jZa _ (by omega)) (jQd _ b0)⟩⟩
 ·refine ⟨_, rfl, l, _, _, _, rfl, rfl, sqL_new hl2, rfl, _, rfl, _, _, rfl, rfl, b0, ?_⟩
  refine ⟨_, rfl, l, _, _, _, rfl, rfl, sqL_new hl2, rfl, _, rfl, _, _, rfl, rfl, big1 b0 b1, _, rfl, l, _, _, 0, rfl, rfl, hl2, rfl, ?_⟩
  have := q (x % b) (x.fdiv b) (PyProof.Rows.bits_fdiv hx) (jZa _ (by omega)) (jQd _ b0)
  rw [← upd_upd H l (.lst [.int x, .int f0, .int (k + 1)])] at this
  exact ⟨_, rfl, this⟩
end
abbrev sProblem20 : Stmt := top 9
section
variable {P : Program} {w : World} {K : Fg} {mg : Str → Option Value} {base : Heap}
theorem scProblem20 : FnScope ["_law_script", "_law_most_here", "_law_rows_most", "_law_cell", "_law_many", "_law_base", "_law_rows", "_law_k", "_law_left_here", "_law_numbers"] ["_law_script", "_law_most_here", "_law_rows_most"] (defScope sProblem20) := ⟨rfl, rfl, rfl, by decide +kernel, rfl, by decide +kernel, by decide +kernel⟩
theorem okProblem20 (F : Fn K mg "_law_problem" sProblem20) (M : Mg mg) (cl_cell_at : Cal P w K mg base 1 "_law_cell_at" ["_law_script", "_law_k"] (spCellB K)) (cl_left : Cal P w K mg base 2 "_law_left" ["_law_script", "_law_k"] (spLeftB K)) (cl_draw : Cal P w K mg base 2 "_law_draw" ["_law_left_here", "_law_base"] (spDraw)) : Cal P w K mg base 3 "_law_problem" ["_law_script", "_law_most_here", "_law_rows_most"] (spProblem20 K) := by
 refine cal_of F scProblem20 (fun _ _ _ _ _ _ => bind3 (fun _ _ _ => rfl)) (fun vs H Q E h => ?_) (fun f cdv A outer s H vs Q E hr h => ?_)
 ·obtain ⟨a, ns, most, rm, rfl, _⟩ := h
  rfl
 obtain ⟨a, ns, most, rm, rfl, hS, hB, m0, m1, r0, r1, q⟩ := h
 refine ⟨_, (pss_cons (ps_set (i := 3) scProblem20.nd rfl (Or.inl rfl) (pe_op op_fdiv (pe_fn cl_cell_at (hr.mono (by decide)) (pa_cons (pv 0) (pa_cons pe_int pa_nil))) pe_int))
  (pss_cons (ps_set (i := 4) scProblem20.nd rfl (Or.inl rfl) (pe_op op_mod (pv 3) (pe_op op_add (pv 1) pe_int)))
  (pss_cons (ps_set (i := 5) scProblem20.nd rfl (Or.inr rfl) (pe_ix ix_list (pe_lst (pa_cons pe_int (pa_cons pe_int (pa_cons pe_int pa_nil)))) (pe_op op_mod (pe_op op_fdiv (pv 3) pe_int) pe_int) (fun _ _ => rfl)))
  (pss_cons (ps_set (i := 6) scProblem20.nd rfl (Or.inl rfl) (pe_lst pa_nil))
  (pss_cons (ps_for PassesOwn.never rfl (pi_range1 rfl M.range_ (pa_cons (pe_op op_mod (pe_op op_fdiv (pv 3) pe_int) (pe_op op_add (pv 2) pe_int)) pa_nil)) (pg_name (i := 7) scProblem20.nd rfl (Or.inl rfl) (Or.inl rfl)) (pss_cons (ps_set (i := 8) scProblem20.nd rfl (Or.inr rfl) (pe_fn cl_left (hr.mono (by decide)) (pa_cons (pv 0) (pa_cons (pe_op op_add pe_int (pv 7)) pa_nil))))
  (pss_cons (ps_set (i := 9) scProblem20.nd rfl (Or.inl rfl) (pe_callTy call_tuple_of rfl M.tuple_ bt_tuple (pa_cons (pe_lc ["_law_i", "_law_base", "_law_left_here"] [none, some 5, some 8] rfl (pi_range1 rfl M.range_ (pa_cons (pv 4) pa_nil)) (fun _ _ _ => (pg_name (i := 0) (show (["_law_i", "_law_base", "_law_left_here"] : List Str).Nodup by decide +kernel) rfl (Or.inl rfl) (Or.inr rfl))) (fun _ _ _ => pf_nil) (fun _ _ _ => (pe_op op_sub (pe_fn cl_draw (hr.mono (by decide)) (pa_cons (pv 2) (pa_cons (pv 1) pa_nil))) (pe_op op_fdiv (pv 1) pe_int)))) pa_nil)))
  (pss_one (ps_expr (pe_bm PySem.F.plainAttrs_list PySem.F.slot_list_append PySem.F.type_list_append mt_append (pv 6) (pa_cons (pe_tup (pa_cons (pv 9) (pa_cons (pe_op op_add (pe_op op_sub (pe_fn cl_draw (hr.mono (by decide)) (pa_cons (pv 8) (pa_cons (pe_op op_mul pe_int (pv 5)) pa_nil))) (pv 5)) pe_int) pa_nil))) pa_nil)))))))
  (pss_cons (ps_set (i := 8) scProblem20.nd rfl (Or.inr rfl) (pe_fn cl_left (hr.mono (by decide)) (pa_cons (pv 0) (pa_cons pe_int pa_nil))))
  (pss_one (ps_ret (pe_tup (pa_cons (pv 6) (pa_cons (pe_callTy call_tuple_of rfl M.tuple_ bt_tuple (pa_cons (pe_lc ["_law_i", "_law_base", "_law_left_here"] [none, some 5, some 8] rfl (pi_range1 rfl M.range_ (pa_cons (pv 4) pa_nil)) (fun _ _ _ => (pg_name (i := 0) (show (["_law_i", "_law_base", "_law_left_here"] : List Str).Nodup by decide +kernel) rfl (Or.inl rfl) (Or.inr rfl))) (fun _ _ _ => pf_nil) (fun _ _ _ => (pe_op op_sub (pe_fn cl_draw (hr.mono (by decide)) (pa_cons (pv 2) (pa_cons (pv 1) pa_nil))) (pe_op op_fdiv (pv 1) pe_int)))) pa_nil)) pa_nil))))))))))), ?_⟩
 refine seq_let7 ?_
 intro rT7 rT6 rT5 rT4 rT3 rT2
 have hz : (1000 : Nat) < sizeLine := by decide
 refine ⟨_, rfl, a, ns, 0, rfl, hS, hB, by decide, fun z' _ => ⟨_, _, rfl, rfl, ⟨by decide, by decide⟩, ?_⟩⟩
 refine ⟨_, rfl, _, rfl, _, _, rfl, rfl, _, _, rfl, rfl, by show 0 < most + 1; omega, ?_⟩
 have n0 := jZa (z' / 2) (show most + 1 ≠ 0 by omega)
 have n1 := jQd (z' / 2) (show 0 < most + 1 by omega)
 refine ⟨by show 3 ≤ sizeLine; decide, fun p hp => ?_⟩
 obtain ⟨b, hb, b0, b1⟩ := base3 ((z' / 2) / 100)
 refine ⟨_, rfl, _, _, rfl, rfl, ⟨by decide, by decide⟩, _, _, rfl, rfl, (by show (0 : Int) < _; decide +kernel), p, _, _, _, rfl, rfl, sqL_new upd_same, hb, ?_⟩
 refine ⟨by show 0 ≤ sizeLine; decide, fun g fg => ?_⟩
 have s1 : Same H (upd (upd H p (.lst [.int 3, .int 5, .int 9])) g (.lst [])) := (same_new' hp _).trans (same_new' fg _)
 have gH : H g = none := by
  cases e5 : H g with
  | none => rfl
  | some o => rw [same_new' hp (.lst [.int 3, .int 5, .int 9]) _ _ e5] at fg; cases fg
 have c0 := jZa ((z' / 2) / 10) (show rm + 1 ≠ 0 by omega)
 have c1 := jQd ((z' / 2) / 10) (show 0 < rm + 1 by omega)
 refine ⟨_, rfl, _, _, rfl, rfl, ⟨by decide, by decide⟩, _, rfl, _, _, rfl, rfl, _, _, rfl, rfl, by show 0 < rm + 1; omega, ?_⟩
 let Pv1 : Nat → St → Hp → Prop := fun i σ H1 => ∃ (rs : List (List Int × Int)) (vs : List V) (u1 u2 u3 : Option V), σ = [some (.ref a), some (.int most), some (.int rm), some (.int (z' / 2)), some (.int ((z' / 2) % (most + 1))), some (.int b), some (.ref g), u1, u2, u3] ∧ H1 g = some (.lst vs) ∧ RowsAre K H1 vs rs ∧ (∀ r ∈ rs, (r.1.length : Int) = (z' / 2) % (most + 1)) ∧ rs.length = i ∧ Same H H1
 refine ⟨((z' / 2) / 10 % (rm + 1)), rfl, by omega, by omega, for_range (lo := 0) (n := ((z' / 2) / 10 % (rm + 1)).toNat) Pv1
  ⟨[], [], none, none, none, rfl, upd_same, .nil, (fun r hr => nomatch hr), rfl, s1⟩ ?_ ?_⟩
 ·rintro i σ H1 hi ⟨rs, vs, u1, u2, u3, rfl, hg, hrw, hrl, rfl, s2⟩
  have lv := hrw.length
  refine ⟨_, rfl, _, rfl, _, _, rfl, rfl, a, ns, _, rfl, s2.seq hS, hB, by omega, fun l x f fl hx => ?_⟩
  have ngl : g ≠ l := ne_of_none hg fl
  refine ⟨_, rfl, (z' / 2) % (most + 1), rfl, by omega, by omega, fun D hD => ?_⟩
  have nD : D ≠ l := fun w => by rw [w, upd_same] at hD; cases hD
  let Pv2 : Nat → St → List V → Hp → Prop := fun j τ ys H5 => ∃ (v : Option V) (ms : List Int) (x : Int), τ = [v, some (.int b), some (.ref l)] ∧ ys = ms.map V.int ∧ ms.length = j ∧ H5 D = some (.lst ys) ∧ H5 l = some (.lst [.int x, .int f, .int (j : Int)]) ∧ Bits x ∧ ∀ c o, H1 c = some o → H5 c = some o
  refine lc_any (n := ((z' / 2) % (most + 1)).toNat) Pv2
   ?_ (fun j τ ys H5 hj h => ?_) (fun j τ ys H5 hj h => hj) (fun τ ys H5 h => jX _) ?_ ?_
  ·exact ⟨none, [], x, rfl, rfl, rfl, upd_same, by rw [upd_ne (Ne.symm nD)]; exact upd_same, hx, fun c o e => by rw [upd_ne (fun w => by rw [w] at e; rw [upd_ne (ne_of_none e fl)] at hD; rw [hD] at e; cases e), upd_ne (ne_of_none e fl)]; exact e⟩
  ·obtain ⟨v, ms, x, rfl, rfl, rfl, hD5, hl5, hx5, kp⟩ := h
   exact ⟨hD5, by rw [jQ]; omega⟩
  ·rintro j τ ys H5 y H6 hj ⟨v, ms, x, rfl, rfl, rfl, hD5, hl5, hx5, kp⟩ ⟨rfl, rfl⟩
   refine ⟨_, rfl, _, rfl, l, x, f, _, b, rfl, hl5, hx5, by omega, by omega, b0, by omega, fun z' x' hx' z0 z1 => ⟨_, rfl, _, _, rfl, rfl, ⟨by decide, by decide⟩, _, _, rfl, rfl, by rw [upd_ne nD]; exact hD5, _, ms ++ [_], x', rfl, by rw [kW]; rfl, by rw [jW]; rfl, upd_same, by rw [upd_ne (Ne.symm nD), upd_same]; rfl, hx', fun c o e => ?_⟩⟩
   have c1 : c ≠ l := ne_of_none e fl
   have c2 : c ≠ D := fun w => by rw [w] at e; rw [upd_ne nD] at hD; rw [hD] at e; cases e
   rw [upd_ne c2, upd_ne c1]
   exact kp c o e
  ·rintro τ ys H5 ⟨v, ms, x, rfl, rfl, hml, hD5, hl5, hx5, kp⟩
   refine ⟨D, _, rfl, .inl ⟨sqL_new hD5, fun l2 fl2 => ?_⟩⟩
   have kp2 : ∀ c o, H1 c = some o → upd H5 l2 (.tup (ms.map V.int)) c = some o := fun c o e => by rw [upd_ne (ne_of_none (kp c o e) fl2)]; exact kp c o e
   have hl6 : upd H5 l2 (.tup (ms.map V.int)) l = some (.lst [.int x, .int f, .int (((z' / 2) % (most + 1)).toNat : Nat)]) := by rw [upd_ne (ne_of_none hl5 fl2)]; exact hl5
   have ht6 : SqT K (upd H5 l2 (.tup (ms.map V.int))) l2 (ms.map V.int) := sqT_new upd_same
   generalize upd H5 l2 (.tup (ms.map V.int)) = H6 at kp2 hl6 ht6 ⊢
   have s6 : Same H1 H6 := kp2
   refine ⟨_, rfl, .inl ⟨rfl, _, sqL_new (s6 _ _ hg)⟩, _, rfl, _, rfl, _, rfl, _, _, rfl, rfl, .inl ⟨by decide, by decide⟩, l, x, f, _, 2 * b, rfl, hl6, hx5, by omega, by omega, by omega, by omega, fun y x' hx' _ _ => ?_⟩
   have ht7 : SqT K (upd H6 l (.lst [.int x', .int f, .int ((((z' / 2) % (most + 1)).toNat : Nat) + 1)])) l2 (ms.map V.int) := SqT_upd hl6 ht6
   have s7 : Same H1 (upd H6 l (.lst [.int x', .int f, .int ((((z' / 2) % (most + 1)).toNat : Nat) + 1)])) := fun c o e => by rw [upd_ne (ne_of_none e fl)]; exact s6 _ _ e
   generalize upd H6 l (.lst [.int x', .int f, .int ((((z' / 2) % (most + 1)).toNat : Nat) + 1)]) = H7 at ht7 s7 ⊢
   refine ⟨_, rfl, _, _, rfl, rfl, _, _, rfl, rfl, by show 2 ≤ sizeLine; decide, fun t ft => ?_⟩
   have s8 := same_new' ft (.tup [.ref l2, .int (y - b + 1)])
   have hg8 := s8 _ _ (s7 _ _ hg)
   refine ⟨g, _, _, rfl, rfl, hg8, by omega, rs ++ [(ms, y - b + 1)], _, _, _, _, rfl, upd_same, ?_, fun r hr' => ?_, by rw [jW]; rfl, fun c o e => ?_⟩
   ·exact RowsAre.snoc (hrw.imp fun _ _ w => ((w.same s7).same s8).upd hg8) (RowAt.upd hg8 ⟨l2, sqT_new upd_same, s8.tup ht7⟩)
   ·rcases yQ.mp hr' with w | w
    ·exact hrl r w
    ·rw [kX.mp w]; show (ms.length : Int) = _; omega
   ·rw [upd_ne (ne_of_none e gH)]; exact s8 _ _ (s7 _ _ (s2 _ _ e))
 ·rintro σ H1 ⟨rs, vs, u1, u2, u3, rfl, hg, hrw, hrl, hcl, s2⟩
  refine ⟨_, rfl, a, ns, _, rfl, s2.seq hS, hB, by decide, fun l x f fl hx => ?_⟩
  refine ⟨_, rfl, ?_⟩
  refine ⟨_, rfl, (z' / 2) % (most + 1), rfl, by omega, by omega, fun D hD => ?_⟩
  have nD : D ≠ l := fun w => by rw [w, upd_same] at hD; cases hD
  let Pv3 : Nat → St → List V → Hp → Prop := fun j τ ys H5 => ∃ (v : Option V) (ms : List Int) (x : Int), τ = [v, some (.int b), some (.ref l)] ∧ ys = ms.map V.int ∧ ms.length = j ∧ H5 D = some (.lst ys) ∧ H5 l = some (.lst [.int x, .int f, .int (j : Int)]) ∧ Bits x ∧ ∀ c o, H1 c = some o → H5 c = some o
  refine lc_any (n := ((z' / 2) % (most + 1)).toNat) Pv3
   ?_ (fun j τ ys H5 hj h => ?_) (fun j τ ys H5 hj h => hj) (fun τ ys H5 h => jX _) ?_ ?_
  ·exact ⟨none, [], x, rfl, rfl, rfl, upd_same, by rw [upd_ne (Ne.symm nD)]; exact upd_same, hx, fun c o e => by rw [upd_ne (fun w => by rw [w] at e; rw [upd_ne (ne_of_none e fl)] at hD; rw [hD] at e; cases e), upd_ne (ne_of_none e fl)]; exact e⟩
  ·obtain ⟨v, ms, x, rfl, rfl, rfl, hD5, hl5, hx5, kp⟩ := h
   exact ⟨hD5, by rw [jQ]; omega⟩
  ·rintro j τ ys H5 y H6 hj ⟨v, ms, x, rfl, rfl, rfl, hD5, hl5, hx5, kp⟩ ⟨rfl, rfl⟩
   refine ⟨_, rfl, _, rfl, l, x, f, _, b, rfl, hl5, hx5, by omega, by omega, b0, by omega, fun z' x' hx' z0 z1 => ⟨_, rfl, _, _, rfl, rfl, ⟨by decide, by decide⟩, _, _, rfl, rfl, by rw [upd_ne nD]; exact hD5, _, ms ++ [_], x', rfl, by rw [kW]; rfl, by rw [jW]; rfl, upd_same, by rw [upd_ne (Ne.symm nD), upd_same]; rfl, hx', fun c o e => ?_⟩⟩
   have c1 : c ≠ l := ne_of_none e fl
   have c2 : c ≠ D := fun w => by rw [w] at e; rw [upd_ne nD] at hD; rw [hD] at e; cases e
   rw [upd_ne c2, upd_ne c1]
   exact kp c o e
  ·rintro τ ys H5 ⟨v, ms, x, rfl, rfl, hml, hD5, hl5, hx5, kp⟩
   refine ⟨D, _, rfl, .inl ⟨sqL_new hD5, fun l2 fl2 => ?_⟩⟩
   have kp2 : ∀ c o, H1 c = some o → upd H5 l2 (.tup (ms.map V.int)) c = some o := fun c o e => by rw [upd_ne (ne_of_none (kp c o e) fl2)]; exact kp c o e
   refine ⟨by show 2 ≤ sizeLine; decide, fun t ft => ?_⟩
   have s6 : Same H1 (upd H5 l2 (.tup (ms.map V.int))) := kp2
   have s7 := same_new' ft (.tup [.ref g, .ref l2])
   exact q t rs ms _ ((s2.trans s6).trans s7) ⟨g, l2, vs, sqT_new upd_same, sqL_new (s7 _ _ (s6 _ _ hg)), hrw.imp fun _ _ w => (w.same s6).same s7, s7.tup (sqT_new upd_same)⟩ (fun r hr' => by have := hrl r hr'; omega) (by omega) (by omega)
end
abbrev sIs : Stmt := top 12
abbrev sShr : Stmt := top 15
def HoldsAt (K : Fg) (H : Hp) (l : Addr) (hs : List (Int × Int)) : Prop := ∃ vs, SqL K H l vs ∧ PairsAre K H vs (hs.map fun p => (p.1, V.int p.2))
theorem PairsAre.same {K : Fg} {H H' : Hp} (e : Same H H') {vs : List V} {ps : List (Int × V)} (h : PairsAre K H vs ps) : PairsAre K H' vs ps := Paired.mapP h fun _ _ ⟨t, e1, z⟩ => ⟨t, e1, e.tup z⟩
theorem HoldsAt.same {K : Fg} {H H' : Hp} {l : Addr} {hs : List (Int × Int)} (h : HoldsAt K H l hs) (e : Same H H') : HoldsAt K H' l hs := by
 obtain ⟨vs, h1, h2⟩ := h
 exact ⟨vs, e.seq h1, PairsAre.same e h2⟩
theorem holds_get {K : Fg} {H H' : Hp} {ws : List V} {hs : List (Int × Int)} {i : Nat} {x : V} (h : PairsAre K H ws (hs.map fun p => (p.1, V.int p.2))) (e : ws[i]? = some x) (s : Same H H') : ∃ T c w, x = .ref T ∧ hs[i]? = some (c, w) ∧ SqT K H' T [.int c, .int w] := by
 obtain ⟨p, ep, T, e1, z⟩ := L2.paired_get h e
 rw [kY] at ep
 obtain ⟨⟨c, w⟩, ec, rfl⟩ := wZ.mp ep
 exact ⟨T, c, w, e1, ec, s.tup z⟩
def Ans (K : Fg) (H : Hp) (Q : VK) (n : Nat) : Prop := (∀ H', Same H H' → Q .non H') ∧ ∀ t' r' H', Same H H' → RowAt K H' t' r' → r'.1.length = n → Q (.ref t') H'
def HOk (n : Nat) (hs : List (Int × Int)) : Prop := hs.length ≤ 100 ∧ ∀ p ∈ hs, 0 ≤ p.1 ∧ p.1 < (n : Int) ∧ (p.2 = 0 ∨ p.2 = 1)
theorem atNsI {ns : List Int} {k : Int} (h0 : 0 ≤ k) (h : k < ((ns.length : Nat) : Int)) : ∃ v : Int, atI (ns.map V.int) k = some (.int v) := by
 have hk : k.toNat < ns.length := by omega
 have q : atI (ns.map V.int) ((k.toNat : Nat) : Int) = some (.int ns[k.toNat]) := atI_nat (by rw [kY, gE hk] <;> rfl)
 rw [show ((k.toNat : Nat) : Int) = k by omega] at q
 exact ⟨_, q⟩
def spIs31 : Sp := fun vs H Q _ => ∃ x m : Int, vs = [.int x, .int m] ∧ ∀ c : Bool, (c = true ↔ 0 ≤ x ∧ x < m) → Q (.bl c) H
def spShr (K : Fg) : Sp := fun vs H Q _ => ∃ (t : Addr) (r : List Int × Int) (b : Int), vs = [.ref t, .int b] ∧ RowAt K H t r ∧ 1 ≤ b ∧ b ≤ 3 ∧ r.1.length ≤ 1000 ∧ Ans K H Q r.1.length
def spMst (K : Fg) : Sp := fun vs H Q _ => ∃ (t l : Addr) (r : List Int × Int) (hs : List (Int × Int)), vs = [.ref t, .ref l] ∧ RowAt K H t r ∧ HoldsAt K H l hs ∧ HOk r.1.length hs ∧ r.1.length ≤ 1000 ∧ ∀ (z : Int) H', Same H H' → Q (.int z) H'
def spSho (K : Fg) : Sp := fun vs H Q _ => ∃ (l : Addr) (n : Nat) (hs : List (Int × Int)), vs = [.int (n : Int), .ref l] ∧ HoldsAt K H l hs ∧ HOk n hs ∧ n ≤ 1000 ∧ ∀ t' r' H', Same H H' → RowAt K H' t' r' → r'.1.length = n → Q (.ref t') H'
def spSht (K : Fg) : Sp := fun vs H Q _ => ∃ (t l : Addr) (r : List Int × Int) (hs : List (Int × Int)), vs = [.ref t, .ref l] ∧ RowAt K H t r ∧ HoldsAt K H l hs ∧ HOk r.1.length hs ∧ r.1.length ≤ 1000 ∧ Ans K H Q r.1.length
section
variable {P : Program} {w : World} {K : Fg} {mg : Str → Option Value} {base : Heap}
theorem scIs : FnScope ["_law_thing", "_law_most_here"] ["_law_thing", "_law_most_here"] (defScope sIs) := ⟨rfl, rfl, rfl, by decide +kernel, rfl, by decide +kernel, by decide +kernel⟩
theorem okIs (F : Fn K mg "_law_is" sIs) (M : Mg mg) : Cal P w K mg base 1 "_law_is" ["_law_thing", "_law_most_here"] (spIs31) := by
 refine cal_of F scIs (fun _ _ _ _ _ _ => bind2 (fun _ _ => rfl)) (fun vs H Q E h => ?_) (fun f cdv A outer s H vs Q E hr h => ?_)
 ·obtain ⟨x, m, rfl, _⟩ := h
  rfl
 obtain ⟨x, m, rfl, q⟩ := h
 refine ⟨_, (pss_one (ps_ret (pe_and (pe_callB call_isi rfl M.isinstance bt_isinstance (pa_cons (pv 0) (pa_cons (pe_ty M.int_ bt_int) pa_nil))) (pe_and (pe_not (pe_callB call_isi rfl M.isinstance bt_isinstance (pa_cons (pv 0) (pa_cons (pe_ty M.bool_ bt_bool) pa_nil)))) (pe_and (pe_cmpR op_ge (pv 0) pe_int (nomark _)) (pe_one (pe_cmpR op_lt (pv 0) (pv 1) (nomark _)))))))), ?_⟩
 refine ⟨_, rfl, _, "int", true, rfl, .inl ⟨rfl, rfl⟩, true, rfl, iteT ⟨_, rfl, _, "bool", false, rfl, .inr (.inl ⟨rfl, rfl⟩), _, rfl, _, rfl, iteT ⟨_, rfl, _, _, rfl, rfl, _, rfl, ite2 (fun c => ⟨_, rfl, _, rfl, _, _, rfl, rfl, ?_⟩) (fun c => ?_)⟩⟩⟩
 ·exact q _ (by rw [decide_eq_true_iff]; exact ⟨fun z => ⟨zQ c, z⟩, fun z => z.2⟩)
 ·have := q false ⟨fun z => (nomatch z), fun z => absurd (yZ z.1) c⟩
  exact this
theorem scShr : FnScope ["_law_row_here", "_law_by", "_law_number"] ["_law_row_here", "_law_by"] (defScope sShr) := ⟨rfl, rfl, rfl, by decide +kernel, rfl, by decide +kernel, by decide +kernel⟩
theorem okShr (F : Fn K mg "_law_shared" sShr) (M : Mg mg) : Cal P w K mg base 1 "_law_shared" ["_law_row_here", "_law_by"] (spShr K) := by
 refine cal_of F scShr (fun _ _ _ _ _ _ => bind2 (fun _ _ => rfl)) (fun vs H Q E h => ?_) (fun f cdv A outer s H vs Q E hr h => ?_)
 ·obtain ⟨t, r, b, rfl, _⟩ := h
  rfl
 obtain ⟨t, r, b, rfl, ⟨p, a1, a2⟩, b1, b3, hn, q⟩ := h
 refine ⟨_, (pss_cons (ps_if (PW.pt (pw_or (pt_not (pt_val (pe_callB call_isiW rfl M.isinstance bt_isinstance (pa_cons (pv 1) (pa_cons (pe_ty M.int_ bt_int) pa_nil))))) (pw_or (pt_val (pe_callB call_isiW rfl M.isinstance bt_isinstance (pa_cons (pv 1) (pa_cons (pe_ty M.bool_ bt_bool) pa_nil)))) (pw_or1 (pt_cmpR op_lt (pv 1) pe_int (nomark _)))))) (pss_one (ps_ret pe_non)) pss_nil)
  (pss_cons (ps_for PassesOwn.never rfl (pi_tup (pe_ix ix_tup (pv 0) pe_int (fun _ _ => rfl))) (pg_name (i := 2) scShr.nd rfl (Or.inl rfl) (Or.inl rfl)) (pss_one (ps_if (pt_cmpR op_ne (pe_op op_mod (pv 2) (pv 1)) pe_int (nomark _)) (pss_one (ps_ret pe_non)) pss_nil)))
  (pss_one (ps_ret (pe_tup (pa_cons (pe_callTy call_tuple_of rfl M.tuple_ bt_tuple (pa_cons (pe_lc ["_law_number", "_law_by"] [none, some 1] rfl (pi_tup (pe_ix ix_tup (pv 0) pe_int (fun _ _ => rfl))) (fun _ _ _ => (pg_name (i := 0) (show (["_law_number", "_law_by"] : List Str).Nodup by decide +kernel) rfl (Or.inl rfl) (Or.inr rfl))) (fun _ _ _ => pf_nil) (fun _ _ _ => (pe_op op_fdivG (pv 0) (pv 1)))) pa_nil)) (pa_cons (pe_op op_sub pe_int (pe_op op_fdivG (pe_op op_sub pe_int (pe_ix ix_tup (pv 0) pe_int (fun _ _ => rfl))) (pv 1))) pa_nil))))))), ?_⟩
 refine seq_let3 ?_
 intro rT3 rT2
 have hz : (2000 : Nat) < sizeLine := by decide
 refine ⟨_, rfl, _, "int", true, rfl, .int, rfl, _, rfl, iteF ⟨_, rfl, _, "bool", false, rfl, .bool, rfl, _, rfl, iteF ⟨_, rfl, _, _, rfl, rfl, _, rfl, ite2 (fun y => absurd (zQ y) (by omega)) (fun _ => ?_)⟩⟩⟩
 refine ⟨_, rfl, t, _, _, _, rfl, rfl, a1, at0, p, rfl, ⟨_, a2⟩, for_tup (K := K) (a := p) (xs := r.1.map V.int) (fun i σ H1 => (∃ u : Option V, σ = [some (.ref t), some (.int b), u]) ∧ H1 = H) ⟨⟨none, rfl⟩, rfl⟩ (fun i σ H1 _ h => ?_) ?_ ?_⟩
 ·obtain ⟨_, rfl⟩ := h
  exact a2
 ·rintro i x σ H1 e1 ⟨⟨u, rfl⟩, rfl⟩
  obtain ⟨z, ez, rfl⟩ := getMapI e1
  exact ⟨_, rfl, _, rfl, _, _, rfl, rfl, (show (0 : Int) < b by omega), rfl, _, rfl, ite2 (fun _ => q.1 _ (Same.refl _)) (fun _ => ⟨⟨_, rfl⟩, rfl⟩)⟩
 ·rintro σ H1 ⟨⟨u, rfl⟩, rfl⟩
  refine ⟨_, rfl, t, _, _, _, rfl, rfl, a1, at0, p, rfl, ⟨_, a2⟩, fun D hD => ?_⟩
  let Pv4 : Nat → St → List V → Hp → Prop := fun i τ ys H3 => ∃ (v : Option V) (zs : List Int), τ = [v, some (.int b)] ∧ ys = zs.map V.int ∧ zs.length = i ∧ H3 D = some (.lst ys) ∧ Same H1 H3
  refine lc_any (n := r.1.length) Pv4 ?_ (fun i τ ys H3 hi h => ?_) (fun i τ ys H3 hi h => ?_) (fun τ ys H3 h => ?_) ?_ ?_
  ·exact ⟨none, [], rfl, rfl, rfl, upd_same, same_new' hD _⟩
  ·obtain ⟨v, zs, rfl, rfl, hl, hE, s3⟩ := h
   exact ⟨hE, by rw [jQ]; omega⟩
  ·obtain ⟨v, zs, rfl, rfl, hl, hE, s3⟩ := h
   exact ⟨_, .int r.1[i], s3.tup a2, by rw [kY, gE hi]; rfl⟩
  ·obtain ⟨v, zs, rfl, rfl, hl, hE, s3⟩ := h
   exact ⟨_, s3.tup a2, by rw [jQ]; exact jX _⟩
  ·rintro i τ ys H3 x H9 hi ⟨v, zs, rfl, rfl, hl, hE, s3⟩ ⟨rfl, e1⟩
   obtain ⟨z, ez, rfl⟩ := getMapI (e1 _ (s3.tup a2))
   refine ⟨_, rfl, _, rfl, _, _, rfl, rfl, big1 (by omega) (by omega), hE, _, zs ++ [_], rfl, by rw [kW]; rfl, by rw [jW]; rw [hl]; rfl, upd_same, fun b o e => by rw [upd_ne (ne_of_none e hD)]; exact s3 _ _ e⟩
  rintro τ ys H3 ⟨v, zs, rfl, rfl, hl, hE, s3⟩
  refine ⟨D, _, rfl, .inl ⟨sqL_new hE, fun l2 hl2 => ?_⟩⟩
  have s4 := s3.trans (same_new' hl2 (.tup (zs.map V.int)))
  refine ⟨_, rfl, t, _, _, _, rfl, rfl, s4.tup a1, at1, _, _, rfl, rfl, _, rfl, _, _, rfl, rfl, big1 (by omega) (by omega), _, _, rfl, rfl, by show 2 ≤ sizeLine; decide, fun t2 ht2 => ?_⟩
  exact q.2 t2 (zs, _) _ (s4.trans (same_new' ht2 _)) ⟨l2, sqT_new upd_same, (same_new' ht2 _).tup (sqT_new upd_same)⟩ hl
end
abbrev sMst : Stmt := top 16
abbrev sSho : Stmt := top 17
abbrev sSht : Stmt := top 18
theorem rep0 (n : Nat) : (List.replicate ((n : Int)).toNat [V.int 0]).flatten = (List.replicate n (0 : Int)).map V.int := by
 rw [kXe]
 induction n with
 | zero => rfl
 | succ n ih => rw [jXb, jKa, ih, jXb]; rfl
theorem flat_ints (ns : List Int) : (ns.map V.int).all flatV = true := jZc.mpr fun v hv => by
 obtain ⟨w, _, rfl⟩ := wJ.mp hv
 rfl
section
variable {P : Program} {w : World} {K : Fg} {mg : Str → Option Value} {base : Heap}
theorem scMst : FnScope ["_law_row_here", "_law_holds_here", "_law_held", "_law_total"] ["_law_row_here", "_law_holds_here"] (defScope sMst) := ⟨rfl, rfl, rfl, by decide +kernel, rfl, by decide +kernel, by decide +kernel⟩
theorem okMst (F : Fn K mg "_law_most" sMst) (M : Mg mg) : Cal P w K mg base 1 "_law_most" ["_law_row_here", "_law_holds_here"] (spMst K) := by
 refine cal_of F scMst (fun _ _ _ _ _ _ => bind2 (fun _ _ => rfl)) (fun vs H Q E h => ?_) (fun f cdv A outer s H vs Q E hr h => ?_)
 ·obtain ⟨t, l, r, hs, rfl, _⟩ := h
  rfl
 obtain ⟨t, l, r, hs, rfl, ⟨p, rt1, rt2⟩, ⟨ws, hlw, hpa⟩, ⟨h100, hok⟩, hn, q⟩ := h
 refine ⟨_, (pss_cons (ps_set (i := 2) scMst.nd rfl (Or.inr rfl) (pe_lc ["_law_choice", "_law_worth"] [none, none] rfl (pi_list (pv 1)) (fun _ _ _ => (pg_pair (K := K) (i := 0) (j := 1) rfl rfl (show (["_law_choice", "_law_worth"] : List Str).Nodup by decide +kernel) rfl rfl rfl rfl)) (fun _ _ _ => pf_nil) (fun _ _ _ => (pv 0))))
  (pss_cons (ps_set (i := 3) scMst.nd rfl (Or.inl rfl) (pe_callB (call_sumI rfl) rfl M.sum bt_sum (pa_cons (pe_lc ["_law_choice", "_law_worth", "_law_row_here"] [none, none, some 0] rfl (pi_list (pv 1)) (fun _ _ _ => (pg_pair (K := K) (i := 0) (j := 1) rfl rfl (show (["_law_choice", "_law_worth", "_law_row_here"] : List Str).Nodup by decide +kernel) rfl rfl rfl rfl)) (fun _ _ _ => pf_nil) (fun _ _ _ => (pe_op op_mul (pe_ix (ix_tupK (K := K) rfl) (pe_ix (ix_tupK (K := K) rfl) (pv 2) pe_int (fun _ _ => rfl)) (pv 0) (fun _ _ => rfl)) (pv 1)))) pa_nil)))
  (pss_one (ps_ret (pe_op op_add (pv 3) (pe_callB (call_sumI rfl) rfl M.sum bt_sum (pa_cons (pe_lc ["_law_k", "_law_row_here", "_law_held"] [none, some 0, some 2] rfl (pi_range1 rfl M.range_ (pa_cons (pe_callB call_len_seq rfl M.len bt_len (pa_cons (pe_ix ix_tup (pv 0) pe_int (fun _ _ => rfl)) pa_nil)) pa_nil)) (fun _ _ _ => (pg_name (i := 0) (show (["_law_k", "_law_row_here", "_law_held"] : List Str).Nodup by decide +kernel) rfl (Or.inl rfl) (Or.inr rfl))) (fun _ _ _ => (pf_one (pt_cmpR (op_notIn_seqK (K := K) rfl) (pv 0) (pv 2) rfl))) (fun _ _ _ => (pe_callB (call_max2 rfl) rfl M.max bt_max (pa_cons pe_int (pa_cons (pe_ix (ix_tupK (K := K) rfl) (pe_ix (ix_tupK (K := K) rfl) (pv 1) pe_int (fun _ _ => rfl)) (pv 0) (fun _ _ => rfl)) pa_nil))))) pa_nil))))))), ?_⟩
 refine seq_let3 ?_
 intro rT3 rT2
 have hz : (2000 : Nat) < sizeLine := by decide
 have lv := hpa.length
 rw [jQ] at lv
 have ln : (r.1.map V.int).length = r.1.length := jQ ..
 refine ⟨_, rfl, l, rfl, ⟨_, hlw⟩, fun D hD => ?_⟩
 let Pv5 : Nat → St → List V → Hp → Prop := fun i τ ys H1 => ∃ (u : Option V) (v : Option V) (zs : List Int), τ = [u, v] ∧ ys = zs.map V.int ∧ zs.length = i ∧ H1 D = some (.lst ys) ∧ Same H H1
 refine lc_any (n := hs.length) Pv5 ?_ (fun i τ ys H1 hi h => ?_) (fun i τ ys H1 hi h => ?_) (fun τ ys H1 h => ?_) ?_ ?_
 ·exact ⟨none, none, [], rfl, rfl, rfl, upd_same, same_new' hD _⟩
 ·obtain ⟨u, v, zs, rfl, rfl, hl, hE, s1⟩ := h
  exact ⟨hE, by rw [jQ]; omega⟩
 ·obtain ⟨u, v, zs, rfl, rfl, hl, hE, s1⟩ := h
  exact ⟨ws, ws[i]'(by omega), (s1).seq hlw, gE (by omega)⟩
 ·obtain ⟨u, v, zs, rfl, rfl, hl, hE, s1⟩ := h
  exact ⟨ws, (s1).seq hlw, by omega⟩
 ·rintro i τ ys H1 x H9 hi ⟨u, v, zs, rfl, rfl, hl, hE, s1⟩ ⟨rfl, e1⟩
  obtain ⟨T, c, w, rfl, ec, hT⟩ := holds_get hpa (e1 _ (s1.seq hlw)) s1
  refine ⟨T, _, rfl, hT, rfl, _, _, rfl, _, _, rfl, rfl, _, rfl, hE, _, _, zs ++ [_], rfl, by rw [kW]; rfl, by rw [jW]; rw [hl]; rfl, upd_same, fun b o e => by rw [upd_ne (ne_of_none e hD)]; exact s1 _ _ e⟩
 rintro τ ys H1 ⟨u, v, zs, rfl, rfl, hl, hE, s1⟩
 have hD1 := hE
 refine ⟨_, rfl, l, rfl, ⟨_, s1.seq hlw⟩, fun D2 hD2 => ?_⟩
 let Pv6 : Nat → St → List V → Hp → Prop := fun i τ ys H2 => ∃ (u2 : Option V) (v2 : Option V) (zs : List Int), τ = [u2, v2, some (.ref t)] ∧ ys = zs.map V.int ∧ zs.length = i ∧ H2 D2 = some (.lst ys) ∧ Same H1 H2
 refine lc_any (n := hs.length) Pv6 ?_ (fun i τ ys H2 hi h => ?_) (fun i τ ys H2 hi h => ?_) (fun τ ys H2 h => ?_) ?_ ?_
 ·exact ⟨none, none, [], rfl, rfl, rfl, upd_same, same_new' hD2 _⟩
 ·obtain ⟨u2, v2, zs, rfl, rfl, hl, hE, s2⟩ := h
  exact ⟨hE, by rw [jQ]; omega⟩
 ·obtain ⟨u2, v2, zs, rfl, rfl, hl, hE, s2⟩ := h
  exact ⟨ws, ws[i]'(by omega), (s1.trans s2).seq hlw, gE (by omega)⟩
 ·obtain ⟨u2, v2, zs, rfl, rfl, hl, hE, s2⟩ := h
  exact ⟨ws, (s1.trans s2).seq hlw, by omega⟩
 ·rintro i τ ys H2 x H9 hi ⟨u2, v2, zs, rfl, rfl, hl, hE, s2⟩ ⟨rfl, e1⟩
  have s12 := s1.trans s2
  obtain ⟨T, c, w, rfl, ec, hT⟩ := holds_get hpa (e1 _ (s12.seq hlw)) s12
  obtain ⟨g1, g2, g3⟩ := hok (c, w) (zZ ec)
  have g3' : w = 0 ∨ w = 1 := g3
  obtain ⟨x, ex⟩ := atNsI (ns := r.1) (k := c) g1 g2
  refine ⟨T, _, rfl, hT, rfl, _, _, rfl, _, _, rfl, rfl, ?_⟩
  refine ⟨_, rfl, t, _, _, _, rfl, rfl, s12.tup rt1, at0, _, rfl, p, _, _, _, rfl, rfl, s12.tup rt2, ex, _, rfl, _, _, rfl, rfl, .inr ⟨by show -(2 ^ 64) < w; omega, by show w < 2 ^ 64; omega⟩, hE, _, _, zs ++ [_], rfl, by rw [kW]; rfl, by rw [jW]; rw [hl]; rfl, upd_same, fun b o e => by rw [upd_ne (ne_of_none e hD2)]; exact s2 _ _ e⟩
 rintro τ ys H2 ⟨u2, v2, zs, rfl, rfl, hl, hE, s2⟩
 have s12 := s1.trans s2
 refine ⟨D2, _, rfl, sqL_new hE, ?_⟩
 refine ⟨_, rfl, _, rfl, t, _, _, _, rfl, rfl, s12.tup rt1, at0, p, _, rfl, .inr (s12.tup rt2), _, rfl, by omega, by rw [ln]; omega, fun D3 hD3 => ?_⟩
 let Pv7 : Nat → St → List V → Hp → Prop := fun i τ ys H3 => ∃ (v3 : Option V) (zs : List Int), τ = [v3, some (.ref t), some (.ref D)] ∧ ys = zs.map V.int ∧ zs.length ≤ i ∧ H3 D3 = some (.lst ys) ∧ Same H2 H3
 refine lc_any (n := r.1.length) Pv7 ?_ (fun i τ ys H3 hi h => ?_) (fun i τ ys H3 hi h => ?_) (fun τ ys H3 h => ?_) ?_ ?_
 ·exact ⟨none, [], rfl, rfl, jX _, upd_same, same_new' hD3 _⟩
 ·obtain ⟨v3, zs, rfl, rfl, hl, hE, s3⟩ := h
  exact ⟨hE, by rw [jQ]; omega⟩
 ·obtain ⟨v3, zs, rfl, rfl, hl, hE, s3⟩ := h
  show i < Int.toNat _; rw [jQ]; omega
 ·obtain ⟨v3, zs, rfl, rfl, hl, hE, s3⟩ := h
  show Int.toNat _ ≤ _; rw [jQ]; omega
 ·rintro i τ ys H3 x H9 hi ⟨v3, zs, rfl, rfl, hl, hE, s3⟩ ⟨rfl, rfl⟩
  have s13 := s12.trans s3
  obtain ⟨x, ex⟩ := atNsI (ns := r.1) (k := 0 + (i : Int)) (by omega) (by omega)
  refine ⟨_, rfl, _, rfl, D, _, rfl, .inl (sqL_new ((s2.trans s3) _ _ hD1)), rfl, flat_ints _, _, rfl, ite2 (fun y => ?_) (fun y => ⟨_, zs, rfl, rfl, by omega, hE, s3⟩)⟩
  refine ⟨_, rfl, t, _, _, _, rfl, rfl, s13.tup rt1, at0, _, rfl, p, _, _, _, rfl, rfl, s13.tup rt2, ex, _, _, rfl, hE, _, zs ++ [_], rfl, by rw [kW]; rfl, by rw [jW]; exact Nat.succ_le_succ hl, upd_same, fun b o e => by rw [upd_ne (ne_of_none e hD3)]; exact s3 _ _ e⟩
 rintro τ ys H3 ⟨v3, zs, rfl, rfl, hl, hE, s3⟩
 exact ⟨D3, _, rfl, sqL_new hE, _, _, rfl, rfl, q _ _ (s12.trans s3)⟩
theorem scSho : FnScope ["_law_many", "_law_holds_here", "_law_numbers", "_law_choice", "_law_worth"] ["_law_many", "_law_holds_here"] (defScope sSho) := ⟨rfl, rfl, rfl, by decide +kernel, rfl, by decide +kernel, by decide +kernel⟩
theorem okSho (F : Fn K mg "_law_shut_out" sSho) (M : Mg mg) : Cal P w K mg base 1 "_law_shut_out" ["_law_many", "_law_holds_here"] (spSho K) := by
 refine cal_of F scSho (fun _ _ _ _ _ _ => bind2 (fun _ _ => rfl)) (fun vs H Q E h => ?_) (fun f cdv A outer s H vs Q E hr h => ?_)
 ·obtain ⟨l, n, hs, rfl, _⟩ := h
  rfl
 obtain ⟨l, n, hs, rfl, ⟨ws, hlw, hpa⟩, ⟨h100, hok⟩, hn, q⟩ := h
 refine ⟨_, (pss_cons (ps_set (i := 2) scSho.nd rfl (Or.inl rfl) (pe_op op_rep (pe_lst (pa_cons pe_int pa_nil)) (pv 0)))
  (pss_cons (ps_for PassesOwn.never rfl (pi_list (pv 1)) (pg_pair (K := K) (i := 3) (j := 4) rfl rfl scSho.nd rfl rfl rfl rfl) (pss_one (ps_asg (pe_op op_sub pe_int (pe_op op_mul pe_int (pv 4))) (pg_sub (pv 2) (pv 3) set_list))))
  (pss_one (ps_ret (pe_tup (pa_cons (pe_callTy call_tuple_of rfl M.tuple_ bt_tuple (pa_cons (pv 2) pa_nil)) (pa_cons (pe_op op_sub pe_int (pe_callB (call_sumI rfl) rfl M.sum bt_sum (pa_cons (pe_lc ["_law_choice", "_law_worth"] [none, none] rfl (pi_list (pv 1)) (fun _ _ _ => (pg_pair (K := K) (i := 0) (j := 1) rfl rfl (show (["_law_choice", "_law_worth"] : List Str).Nodup by decide +kernel) rfl rfl rfl rfl)) (fun _ _ _ => pf_nil) (fun _ _ _ => (pv 1))) pa_nil))) pa_nil))))))), ?_⟩
 refine seq_let3 ?_
 intro rT3 rT2
 have hz : (2000 : Nat) < sizeLine := by decide
 have lv := hpa.length
 rw [jQ] at lv
 refine ⟨by show 1 ≤ sizeLine; decide, fun p0 hp0 => ?_⟩
 refine ⟨_, rfl, p0, (n : Int), _, rfl, rfl, upd_same, by omega, by omega, by show 1 * ((n : Int)).toNat ≤ sizeLine; omega, fun g0 hg0 => ?_⟩
 have e0 : (List.replicate ((n : Int)).toNat [V.int 0]).flatten = (List.replicate n (0 : Int)).map V.int := rep0 n
 rw [e0]
 have s0 : Same H (upd (upd H p0 (.lst [.int 0])) g0 (.lst ((List.replicate n (0 : Int)).map V.int))) := (same_new' hp0 _).trans (same_new' hg0 _)
 have gH : H g0 = none := by
  cases e5 : H g0 with
  | none => rfl
  | some o => rw [same_new' hp0 (.lst [.int 0]) _ _ e5] at hg0; cases hg0
 have hg : upd (upd H p0 (.lst [.int 0])) g0 (.lst ((List.replicate n (0 : Int)).map V.int)) g0 = some (.lst ((List.replicate n (0 : Int)).map V.int)) := upd_same
 generalize upd (upd H p0 (.lst [.int 0])) g0 (.lst ((List.replicate n (0 : Int)).map V.int)) = H0 at s0 hg ⊢
 let Pv8 : Nat → St → Hp → Prop := fun i σ H1 => ∃ (u v : Option V) (zs : List Int), σ = [some (.int (n : Int)), some (.ref l), some (.ref g0), u, v] ∧ H1 g0 = some (.lst (zs.map V.int)) ∧ zs.length = n ∧ Same H H1
 refine ⟨_, rfl, l, rfl, ⟨_, s0.seq hlw⟩, for_list (K := K) (a := l) (xs := ws) Pv8 ⟨none, none, _, rfl, hg, jYb, s0⟩ (fun i σ H1 _ h => ?_) ?_ ?_⟩
 ·obtain ⟨u, v, zs, rfl, hg1, hl, s1⟩ := h
  exact s1.seq hlw
 ·rintro i x σ H1 e1 ⟨u, v, zs, rfl, hg1, hl, s1⟩
  obtain ⟨T, c, w, rfl, ec, hT⟩ := holds_get hpa e1 s1
  obtain ⟨k1, k2, k3⟩ := hok (c, w) (zZ ec)
  have k1' : 0 ≤ c := k1
  have k2' : c < (n : Int) := k2
  refine ⟨T, _, rfl, hT, rfl, _, _, rfl, _, _, rfl, rfl, ?_⟩
  refine ⟨_, rfl, _, _, rfl, rfl, .inl ⟨by decide, by decide⟩, _, _, rfl, rfl, _, rfl, _, rfl, g0, _, _, c.toNat, rfl, rfl, hg1, by rw [show c = ((c.toNat : Nat) : Int) by omega]; exact ixNat (by rw [jQ, hl]; omega), ?_⟩
  refine ⟨some (.int c), some (.int w), zs.set c.toNat (1 - 2 * w), rfl, ?_, by rw [jXa]; exact hl, fun b o e => ?_⟩
  ·rw [upd_same, kXb]
  ·rw [upd_ne (ne_of_none e gH)]; exact s1 _ _ e
 ·rintro σ H1 ⟨u, v, ys, rfl, hg1, hly, s1⟩
  refine ⟨_, rfl, g0, _, rfl, .inl ⟨sqL_new hg1, fun l2 hl2 => ?_⟩⟩
  have s2 := s1.trans (same_new' hl2 (.tup (ys.map V.int)))
  have hl2' : SqT K (upd H1 l2 (.tup (ys.map V.int))) l2 (ys.map V.int) := sqT_new upd_same
  generalize upd H1 l2 (.tup (ys.map V.int)) = H2 at s2 hl2' ⊢
  refine ⟨_, rfl, l, rfl, ⟨_, s2.seq hlw⟩, fun D hD => ?_⟩
  let Pv9 : Nat → St → List V → Hp → Prop := fun i τ ys H3 => ∃ (u : Option V) (v : Option V) (zs : List Int), τ = [u, v] ∧ ys = zs.map V.int ∧ zs.length = i ∧ H3 D = some (.lst ys) ∧ Same H2 H3
  refine lc_any (n := hs.length) Pv9 ?_ (fun i τ ys H3 hi h => ?_) (fun i τ ys H3 hi h => ?_) (fun τ ys H3 h => ?_) ?_ ?_
  ·exact ⟨none, none, [], rfl, rfl, rfl, upd_same, same_new' hD _⟩
  ·obtain ⟨u, v, zs, rfl, rfl, hl, hE, s3⟩ := h
   exact ⟨hE, by rw [jQ]; omega⟩
  ·obtain ⟨u, v, zs, rfl, rfl, hl, hE, s3⟩ := h
   exact ⟨ws, ws[i]'(by omega), (s2.trans s3).seq hlw, gE (by omega)⟩
  ·obtain ⟨u, v, zs, rfl, rfl, hl, hE, s3⟩ := h
   exact ⟨ws, (s2.trans s3).seq hlw, by omega⟩
  ·rintro i τ ys H3 x H9 hi ⟨u, v, zs, rfl, rfl, hl, hE, s3⟩ ⟨rfl, e1⟩
   have s23 := s2.trans s3
   obtain ⟨T, c, w, rfl, ec, hT⟩ := holds_get hpa (e1 _ (s23.seq hlw)) s23
   refine ⟨T, _, rfl, hT, rfl, _, _, rfl, _, _, rfl, rfl, _, rfl, hE, _, _, zs ++ [_], rfl, by rw [kW]; rfl, by rw [jW]; rw [hl]; rfl, upd_same, fun b o e => by rw [upd_ne (ne_of_none e hD)]; exact s3 _ _ e⟩
  rintro τ ys H3 ⟨u, v, zs, rfl, rfl, hl, hE, s3⟩
  refine ⟨D, _, rfl, sqL_new hE, _, _, rfl, rfl, by show 2 ≤ sizeLine; decide, fun t ht => ?_⟩
  exact q t (ys, _) _ ((s2.trans s3).trans (same_new' ht _)) ⟨l2, sqT_new upd_same, (s3.trans (same_new' ht _)).tup hl2'⟩ hly
theorem scSht : FnScope ["_law_row_here", "_law_holds_here", "_law_many", "_law_hold"] ["_law_row_here", "_law_holds_here"] (defScope sSht) := ⟨rfl, rfl, rfl, by decide +kernel, rfl, by decide +kernel, by decide +kernel⟩
theorem okSht (F : Fn K mg "_law_shut" sSht) (M : Mg mg) (cl_is : Cal P w K mg base 1 "_law_is" ["_law_thing", "_law_most_here"] (spIs31)) (cl_most : Cal P w K mg base 1 "_law_most" ["_law_row_here", "_law_holds_here"] (spMst K)) (cl_shut_out : Cal P w K mg base 1 "_law_shut_out" ["_law_many", "_law_holds_here"] (spSho K)) : Cal P w K mg base 2 "_law_shut" ["_law_row_here", "_law_holds_here"] (spSht K) := by
 refine cal_of F scSht (fun _ _ _ _ _ _ => bind2 (fun _ _ => rfl)) (fun vs H Q E h => ?_) (fun f cdv A outer s H vs Q E hr h => ?_)
 ·obtain ⟨t, l, r, hs, rfl, _⟩ := h
  rfl
 obtain ⟨t, l, r, hs, rfl, hrt, hh, hHo, hn, q⟩ := h
 refine ⟨_, (pss_cons (ps_set (i := 2) scSht.nd rfl (Or.inl rfl) (pe_callB call_len_seq rfl M.len bt_len (pa_cons (pe_ix ix_tup (pv 0) pe_int (fun _ _ => rfl)) pa_nil)))
  (pss_cons (ps_if (pt_not (pt_val (pe_callB call_isiW rfl M.isinstance bt_isinstance (pa_cons (pv 1) (pa_cons (pe_ty M.list_ bt_list) pa_nil))))) (pss_one (ps_ret pe_non)) pss_nil)
  (pss_cons (ps_for PassesOwn.never rfl (pi_list (pv 1)) (pg_name (i := 3) scSht.nd rfl (Or.inl rfl) (Or.inl rfl)) (pss_one (ps_if (PW.pt (pw_or (pt_not (pt_val (pe_callB call_isiW rfl M.isinstance bt_isinstance (pa_cons (pv 3) (pa_cons (pe_ty M.tuple_ bt_tuple) pa_nil))))) (pw_or (pt_cmpR op_ne (pe_callB call_len_seq rfl M.len bt_len (pa_cons (pv 3) pa_nil)) pe_int (nomark _)) (pw_or (pt_not (pt_val (pe_fn cl_is (hr.mono (by decide)) (pa_cons (pe_ix ix_tup (pv 3) pe_int (fun _ _ => rfl)) (pa_cons (pv 2) pa_nil))))) (pw_or1 (pt_not (pt_val (pe_fn cl_is (hr.mono (by decide)) (pa_cons (pe_ix ix_tup (pv 3) pe_int (fun _ _ => rfl)) (pa_cons pe_int pa_nil)))))))))) (pss_one (ps_ret pe_non)) pss_nil)))
  (pss_cons (ps_if (PW.pt (pw_or (pt_cmpR op_ne (pe_callB call_len_setI rfl M.len bt_len (pa_cons (pe_callTy (call_set_of rfl) rfl M.set_ bt_set (pa_cons (pe_lc ["_law_hold"] [none] rfl (pi_list (pv 1)) (fun _ _ _ => (pg_name (i := 0) (show (["_law_hold"] : List Str).Nodup by decide +kernel) rfl (Or.inl rfl) (Or.inr rfl))) (fun _ _ _ => pf_nil) (fun _ _ _ => (pe_ix (ix_tupK (K := K) rfl) (pv 0) pe_int (fun _ _ => rfl)))) pa_nil)) pa_nil)) (pe_callB call_len_seq rfl M.len bt_len (pa_cons (pv 1) pa_nil)) (nomark _)) (pw_or1 (pt_cmpR op_ge (pe_fn cl_most (hr.mono (by decide)) (pa_cons (pv 0) (pa_cons (pv 1) pa_nil))) (pe_ix ix_tup (pv 0) pe_int (fun _ _ => rfl)) (nomark _))))) (pss_one (ps_ret pe_non)) pss_nil)
  (pss_one (ps_ret (pe_fn cl_shut_out (hr.mono (by decide)) (pa_cons (pv 2) (pa_cons (pv 1) pa_nil))))))))), ?_⟩
 refine seq_let5 ?_
 intro rT5 rT4 rT3 rT2
 have hz : (2000 : Nat) < sizeLine := by decide
 obtain ⟨p, rt1, rt2⟩ := id hrt
 obtain ⟨ws, hlw, hpa⟩ := id hh
 obtain ⟨h100, hok⟩ := id hHo
 have lv := hpa.length
 rw [jQ] at lv
 have ln : (r.1.map V.int).length = r.1.length := jQ ..
 refine ⟨_, rfl, t, _, _, _, rfl, rfl, rt1, at0, p, _, rfl, .inr rt2, ?_⟩
 refine ⟨_, rfl, _, "list", true, rfl, .list, .inr ⟨⟨_, hlw⟩, rfl⟩, _, rfl, iteF ?_⟩
 let Pv10 : Nat → St → Hp → Prop := fun i σ H1 => (∃ u : Option V, σ = [some (.ref t), some (.ref l), some (.int (((r.1.map V.int).length : Nat) : Int)), u]) ∧ H1 = H
 refine ⟨_, rfl, l, rfl, ⟨_, hlw⟩, for_list (K := K) (a := l) (xs := ws) Pv10 ⟨⟨none, rfl⟩, rfl⟩ (fun i σ H1 _ h => ?_) ?_ ?_⟩
 ·obtain ⟨_, rfl⟩ := h
  exact hlw
 ·rintro i x σ H1 e1 ⟨⟨u, rfl⟩, rfl⟩
  obtain ⟨T, c, w, rfl, ec, hT⟩ := holds_get hpa e1 (Same.refl _)
  refine ⟨_, rfl, _, "tuple", true, rfl, .tuple, .inl ⟨⟨_, hT⟩, rfl⟩, _, rfl, iteF ?_⟩
  refine ⟨_, rfl, T, _, rfl, .inr hT, rfl, _, rfl, iteF ?_⟩
  refine ⟨_, rfl, T, _, _, _, rfl, rfl, hT, at0, _, rfl, c, _, rfl, fun c1 _ => ⟨_, rfl, ite2 (fun _ => iteT (q.1 _ (Same.refl _))) (fun _ => ?_)⟩⟩
  exact ⟨_, rfl, T, _, _, _, rfl, rfl, hT, at1, w, 2, rfl, fun c2 _ => ⟨_, rfl, ite2 (fun _ => q.1 _ (Same.refl _)) (fun _ => ⟨⟨_, rfl⟩, rfl⟩)⟩⟩
 ·rintro σ H1 ⟨⟨u, rfl⟩, rfl⟩
  refine ⟨_, rfl, l, rfl, ⟨_, hlw⟩, fun D hD => ?_⟩
  let Pv11 : Nat → St → List V → Hp → Prop := fun i τ ys H2 => ∃ (v : Option V) (zs : List Int), τ = [v] ∧ ys = zs.map V.int ∧ zs.length = i ∧ H2 D = some (.lst ys) ∧ Same H1 H2
  refine lc_any (n := hs.length) Pv11 ?_ (fun i τ ys H2 hi h => ?_) (fun i τ ys H2 hi h => ?_) (fun τ ys H2 h => ?_) ?_ ?_
  ·exact ⟨none, [], rfl, rfl, rfl, upd_same, same_new' hD _⟩
  ·obtain ⟨v, zs, rfl, rfl, hl, hE, s2⟩ := h
   exact ⟨hE, by rw [jQ]; omega⟩
  ·obtain ⟨v, zs, rfl, rfl, hl, hE, s2⟩ := h
   exact ⟨ws, ws[i]'(by omega), (s2).seq hlw, gE (by omega)⟩
  ·obtain ⟨v, zs, rfl, rfl, hl, hE, s2⟩ := h
   exact ⟨ws, (s2).seq hlw, by omega⟩
  ·rintro i τ ys H2 x H9 hi ⟨v, zs, rfl, rfl, hl, hE, s2⟩ ⟨rfl, e1⟩
   obtain ⟨T, c, w, rfl, ec, hT⟩ := holds_get hpa (e1 _ (s2.seq hlw)) s2
   refine ⟨_, rfl, T, _, _, _, rfl, rfl, hT, at0, hE, _, zs ++ [_], rfl, by rw [kW]; rfl, by rw [jW]; rw [hl]; rfl, upd_same, fun b o e => by rw [upd_ne (ne_of_none e hD)]; exact s2 _ _ e⟩
  rintro τ ys H2 ⟨v, zs, rfl, rfl, hl, hE, s2⟩
  refine ⟨D, zs, rfl, sqL_new hE, by omega, fun d S hd => ?_⟩
  have s3 := s2.trans (same_new' hd (.set S (zs.foldl PyProof.Rows.step_dedup []).length))
  have hd' : upd H2 d (.set S (zs.foldl PyProof.Rows.step_dedup []).length) d = some (.set S (zs.foldl PyProof.Rows.step_dedup []).length) := upd_same
  generalize upd H2 d (.set S (zs.foldl PyProof.Rows.step_dedup []).length) = H3 at s3 hd' ⊢
  refine ⟨d, S, _, rfl, hd', _, rfl, l, _, rfl, .inl (s3.seq hlw), rfl, _, rfl, ite2 (fun _ => iteT (q.1 _ s3)) (fun _ => ?_)⟩
  refine ⟨_, rfl, _, rfl, t, l, r, hs, rfl, hrt.same s3, hh.same s3, hHo, hn, fun z H4 s4 => ⟨_, rfl, t, _, _, _, rfl, rfl, (s3.trans s4).tup rt1, at1, _, _, rfl, rfl, _, rfl, ite2 (fun _ => q.1 _ (s3.trans s4)) (fun _ => ?_)⟩⟩
  exact ⟨_, rfl, _, rfl, l, r.1.length, hs, by rw [ln]; rfl, hh.same (s3.trans s4), hHo, hn, fun t' r' H5 s5 hr5 hl5 => q.2 t' r' H5 ((s3.trans s4).trans s5) hr5 hl5⟩
end
abbrev sEit : Stmt := top 19
def spEit (K : Fg) : Sp := fun vs H Q _ => ∃ (t1 t2 : Addr) (r1 r2 : List Int × Int) (c n : Nat), vs = [.ref t1, .ref t2, .int (c : Int)] ∧ RowAt K H t1 r1 ∧ RowAt K H t2 r2 ∧ r1.1.length = n ∧ r2.1.length = n ∧ n ≤ 1000 ∧ c < n ∧ Ans K H Q n
def spSum (K : Fg) : Sp := fun vs H Q _ => ∃ (t h l : Addr) (rs hd : List (List Int × Int)) (cs : List Int) (ws : List V) (ps : List (Int × Int)), vs = [.ref t, .ref h, .ref l] ∧ ProbAt K H t rs cs ∧ SqL K H h ws ∧ RowsAre K H ws hd ∧ (∀ r ∈ hd, r.1.length = cs.length) ∧ hd.length ≤ 1000 ∧ HoldsAt K H l ps ∧ (∀ p ∈ ps, 0 ≤ p.2 ∧ p.2 ≤ 3) ∧ cs.length ≤ 1000 ∧ (∀ H', Same H H' → Q .non H') ∧
 ∀ t' r' H', Same H H' → RowAt K H' t' r' → r'.1.length = cs.length → (∀ p ∈ ps, 0 ≤ p.1 ∧ p.1 < ((hd.length : Nat) : Int)) → Q (.ref t') H'
def SLine (K : Fg) (H : Hp) (u : Addr) : Prop := SqT K H u [.str "better"] ∨ ∃ k : Int, SqT K H u [.str "given", .int k] ∨ SqT K H u [.str "low", .int k] ∨ SqT K H u [.str "high", .int k]
def spSim (K : Fg) : Sp := fun vs H Q _ => ∃ (t u : Addr) (rs : List (List Int × Int)) (cs : List Int) (bst : V), vs = [.ref t, bst, .ref u] ∧ (bst = .non ∨ ∃ b, bst = .int b) ∧ ProbAt K H t rs cs ∧ (∀ r ∈ rs, r.1.length = cs.length) ∧ SLine K H u ∧ cs.length ≤ 1000 ∧ rs.length ≤ 1000 ∧ Ans K H Q cs.length
theorem at10 {x : V} : atI [x] 0 = some x := by rfl
theorem row_at {K : Fg} {H : Hp} {ws : List V} {hd : List (List Int × Int)} {k : Int} (h : RowsAre K H ws hd) (h0 : 0 ≤ k) (h1 : k < ((hd.length : Nat) : Int)) : ∃ t r, atI ws k = some (.ref t) ∧ RowAt K H t r ∧ r ∈ hd := by
 have lw := Paired.length h
 have hi : k.toNat < ws.length := by omega
 obtain ⟨r, er, t, e, z⟩ := L2.paired_get h (gE hi)
 have q : atI ws ((k.toNat : Nat) : Int) = some (.ref t) := atI_nat (by rw [gE hi, e])
 rw [show ((k.toNat : Nat) : Int) = k by omega] at q
 exact ⟨t, r, q, z, zZ er⟩
theorem atN {ns : List Int} {i : Nat} (h : i < ns.length) : atI (ns.map V.int) ((i : Nat) : Int) = some (.int (ns.getD i 0)) := atI_nat (by rw [kY, gE h, yV, gE h]; rfl)
section
variable {P : Program} {w : World} {K : Fg} {mg : Str → Option Value} {base : Heap}
theorem scEit : FnScope ["_law_one", "_law_other", "_law_at", "_law_k"] ["_law_one", "_law_other", "_law_at"] (defScope sEit) := ⟨rfl, rfl, rfl, by decide +kernel, rfl, by decide +kernel, by decide +kernel⟩
theorem okEit (F : Fn K mg "_law_either" sEit) (M : Mg mg) : Cal P w K mg base 1 "_law_either" ["_law_one", "_law_other", "_law_at"] (spEit K) := by
 refine cal_of F scEit (fun _ _ _ _ _ _ => bind3 (fun _ _ _ => rfl)) (fun vs H Q E h => ?_) (fun f cdv A outer s H vs Q E hr h => ?_)
 ·obtain ⟨t1, t2, r1, r2, c, n, rfl, _⟩ := h
  rfl
 obtain ⟨t1, t2, r1, r2, c, n, rfl, ⟨p1, a1, b1⟩, ⟨p2, a2, b2⟩, l1, l2, hn, hc, q⟩ := h
 refine ⟨_, (pss_cons (ps_for PassesOwn.never rfl (pi_range1 rfl M.range_ (pa_cons (pe_callB call_len_seq rfl M.len bt_len (pa_cons (pe_ix ix_tup (pv 0) pe_int (fun _ _ => rfl)) pa_nil)) pa_nil)) (pg_name (i := 3) scEit.nd rfl (Or.inl rfl) (Or.inl rfl)) (pss_one (ps_if (PW.pt (pw_and (pt_cmpR op_ne (pv 3) (pv 2) (nomark _)) (pw_and1 (pt_cmpR op_ne (pe_ix ix_tup (pe_ix ix_tup (pv 0) pe_int (fun _ _ => rfl)) (pv 3) (fun _ _ => rfl)) (pe_ix ix_tup (pe_ix ix_tup (pv 1) pe_int (fun _ _ => rfl)) (pv 3) (fun _ _ => rfl)) (nomark _))))) (pss_one (ps_ret pe_non)) pss_nil)))
  (pss_one (ps_ret (pe_tup (pa_cons (pe_op op_catT (pe_op op_catG (pe_slice sl_tup (pe_ix ix_tup (pv 0) pe_int (fun _ _ => rfl)) po_none (po_some (pv 2))) (pe_tup (pa_cons pe_int pa_nil))) (pe_slice sl_tup (pe_ix ix_tup (pv 0) pe_int (fun _ _ => rfl)) (po_some (pe_op op_add (pv 2) pe_int)) po_none)) (pa_cons (pe_callB (call_min2 rfl) rfl M.min bt_min (pa_cons (pe_op op_sub (pe_ix ix_tup (pv 0) pe_int (fun _ _ => rfl)) (pe_ix ix_tup (pe_ix ix_tup (pv 0) pe_int (fun _ _ => rfl)) (pv 2) (fun _ _ => rfl))) (pa_cons (pe_ix ix_tup (pv 1) pe_int (fun _ _ => rfl)) pa_nil))) pa_nil)))))), ?_⟩
 have hz : (2000 : Nat) < sizeLine := by decide
 have ln : (r1.1.map V.int).length = n := by rw [jQ, l1]
 have cut1 : cutV (r1.1.map V.int) none (some (c : Int)) = (r1.1.take c).map V.int := by
  unfold cutV
  show ((r1.1.map V.int).drop 0).take ((if (c : Int) < 0 then ((c : Int) + ((r1.1.map V.int).length : Int)).toNat else min ((c : Int)).toNat (r1.1.map V.int).length) - 0) = _
  rw [if_neg (Int.not_lt.mpr (jJf c)), List.drop_zero, List.map_take, ln, kXe, kQd (kQf hc), Nat.sub_zero]
 have cut2 : cutV (r1.1.map V.int) (some ((c : Int) + 1)) none = (r1.1.drop (c + 1)).map V.int := by
  unfold cutV
  show ((r1.1.map V.int).drop (if (c : Int) + 1 < 0 then ((c : Int) + 1 + ((r1.1.map V.int).length : Int)).toNat else min ((c : Int) + 1).toNat (r1.1.map V.int).length)).take ((r1.1.map V.int).length - (if (c : Int) + 1 < 0 then ((c : Int) + 1 + ((r1.1.map V.int).length : Int)).toNat else min ((c : Int) + 1).toNat (r1.1.map V.int).length)) = _
  rw [if_neg (show ¬ (c : Int) + 1 < 0 from Int.not_lt.mpr (jJf (c + 1))), List.map_drop]
  have e : min ((c : Int) + 1).toNat (r1.1.map V.int).length = c + 1 := by rw [ln]; exact kQd (show c + 1 ≤ n from hc)
  rw [e]
  apply jXc
  rw [jQc]
  exact jX _
 refine ⟨_, rfl, t1, _, _, _, rfl, rfl, a1, at0, p1, _, rfl, .inr b1, _, rfl, by omega, by rw [ln]; omega, for_range (lo := 0) (n := Int.toNat (((r1.1.map V.int).length : Nat) : Int)) (fun i σ H1 => (∃ u : Option V, σ = [some (.ref t1), some (.ref t2), some (.int (c : Int)), u]) ∧ H1 = H) ⟨⟨none, rfl⟩, rfl⟩ ?_ ?_⟩
 ·rintro i σ H1 hi ⟨⟨u, rfl⟩, rfl⟩
  have hi' : i < n := by rw [ln] at hi; omega
  have ez : (0 : Int) + (i : Int) = ((i : Nat) : Int) := by omega
  rw [ez]
  refine ⟨_, rfl, _, rfl, rfl, _, rfl, ite2 (fun d => ?_) (fun d => iteF ⟨⟨_, rfl⟩, rfl⟩)⟩
  have nc : i ≠ c := fun z => by
   rw [z] at d
   exact absurd d (by simp)
  refine ⟨_, rfl, t1, _, _, _, rfl, rfl, a1, at0, _, rfl, p1, _, _, _, rfl, rfl, b1, atN (by rw [l1]; exact hi'), _, rfl, t2, _, _, _, rfl, rfl, a2, at0, _, rfl, p2, _, _, _, rfl, rfl, b2, atN (by rw [l2]; exact hi'), rfl, _, rfl, ?_⟩
  exact ite2 (fun _ => q.1 _ (Same.refl _)) (fun _ => ⟨⟨_, rfl⟩, rfl⟩)
 ·rintro σ H1 ⟨⟨u, rfl⟩, rfl⟩
  refine ⟨_, rfl, t1, _, _, _, rfl, rfl, a1, at0, _, rfl, _, rfl, p1, _, rfl, b1, ?_, fun q1 hq1 => ?_⟩
  ·rintro ⟨_, h2⟩
   have h3 : (if (c : Int) < 0 then ((c : Int) + ((r1.1.map V.int).length : Int)).toNat else min ((c : Int)).toNat (r1.1.map V.int).length) = (r1.1.map V.int).length := h2
   rw [if_neg (Int.not_lt.mpr (jJf c)), ln, kXe, kQd (kQf hc)] at h3
   exact absurd h3 (zV hc)
  rw [cut1]
  have s1 := same_new' hq1 (.tup ((r1.1.take c).map V.int))
  refine ⟨by show 1 ≤ sizeLine; decide, fun q2 hq2 => ?_⟩
  have s2 := same_new' hq2 (.tup [V.int 0])
  refine ⟨q1, q2, _, _, rfl, rfl, s2.tup (sqT_new upd_same), sqT_new upd_same, by simp, by rw [jQ, xQ]; show _ + 1 ≤ _; omega, fun q3 H3 s3 h3 => ?_⟩
  have s13 := (s1.trans s2).trans s3
  refine ⟨_, rfl, t1, _, _, _, rfl, rfl, s13.tup a1, at0, _, rfl, _, _, rfl, rfl, _, rfl, p1, _, rfl, s13.tup b1, ?_, fun q4 hq4 => ?_⟩
  ·rintro ⟨h2, _⟩
   have h3 : (if (c : Int) + 1 < 0 then ((c : Int) + 1 + ((r1.1.map V.int).length : Int)).toNat else min ((c : Int) + 1).toNat (r1.1.map V.int).length) = 0 := h2
   rw [if_neg (show ¬ (c : Int) + 1 < 0 from Int.not_lt.mpr (jJf (c + 1))), ln] at h3
   exact absurd ((kQd (show c + 1 ≤ n from hc)).symm.trans h3) (wW c)
  rw [cut2]
  have s4 := same_new' hq4 (.tup ((r1.1.drop (c + 1)).map V.int))
  have eW : (r1.1.set c 0).map V.int = ((r1.1.take c).map V.int ++ [V.int 0]) ++ (r1.1.drop (c + 1)).map V.int := by
   rw [List.set_eq_take_append_cons_drop, if_pos (by rw [l1]; exact hc), kW, xK, jJ]; rfl
  refine ⟨q3, q4, _, _, rfl, rfl, s4.tup h3, sqT_new upd_same, by simp, by rw [jW, jQ, jQ, xQ, jQc]; show _ + 1 + _ ≤ _; omega, fun he => ?_, fun he q5 hq5 => ?_⟩
  ·have sZ := s13.trans s4
   have hZ := s4.tup h3
   rw [he, jJd] at eW
   rw [← eW] at hZ
   refine ⟨_, rfl, t1, _, _, _, rfl, rfl, sZ.tup a1, at1, _, rfl, t1, _, _, _, rfl, rfl, sZ.tup a1, at0, _, rfl, p1, _, _, _, rfl, rfl, sZ.tup b1, atN (by rw [l1]; exact hc), _, _, rfl, rfl, _, rfl, t2, _, _, _, rfl, rfl, sZ.tup a2, at1, _, _, rfl, by show 2 ≤ sizeLine; decide, fun t ht => ?_⟩
   exact q.2 t (r1.1.set c 0, _) _ (sZ.trans (same_new' ht _)) ⟨_, sqT_new upd_same, (same_new' ht _).tup hZ⟩ (by show (r1.1.set c 0).length = n; rw [jXa]; exact l1)
  ·have sZ := (s13.trans s4).trans (same_new' hq5 (.tup (((r1.1.take c).map V.int ++ [V.int 0]) ++ (r1.1.drop (c + 1)).map V.int)))
   have hZ : SqT K (upd (upd H3 q4 (.tup ((r1.1.drop (c + 1)).map V.int))) q5 (.tup (((r1.1.take c).map V.int ++ [V.int 0]) ++ (r1.1.drop (c + 1)).map V.int))) q5 ((r1.1.set c 0).map V.int) := by rw [eW]; exact sqT_new upd_same
   refine ⟨_, rfl, t1, _, _, _, rfl, rfl, sZ.tup a1, at1, _, rfl, t1, _, _, _, rfl, rfl, sZ.tup a1, at0, _, rfl, p1, _, _, _, rfl, rfl, sZ.tup b1, atN (by rw [l1]; exact hc), _, _, rfl, rfl, _, rfl, t2, _, _, _, rfl, rfl, sZ.tup a2, at1, _, _, rfl, by show 2 ≤ sizeLine; decide, fun t ht => ?_⟩
   exact q.2 t (r1.1.set c 0, _) _ (sZ.trans (same_new' ht _)) ⟨_, sqT_new upd_same, (same_new' ht _).tup hZ⟩ (by show (r1.1.set c 0).length = n; rw [jXa]; exact l1)
end
abbrev sSum : Stmt := top 14
section
variable {P : Program} {w : World} {K : Fg} {mg : Str → Option Value} {base : Heap}
theorem scSum : FnScope ["_law_problem_here", "_law_heard", "_law_parts", "_law_numbers", "_law_least", "_law_part", "_law_row_here"] ["_law_problem_here", "_law_heard", "_law_parts"] (defScope sSum) := ⟨rfl, rfl, rfl, by decide +kernel, rfl, by decide +kernel, by decide +kernel⟩
theorem okSum (F : Fn K mg "_law_summed" sSum) (M : Mg mg) (cl_is : Cal P w K mg base 1 "_law_is" ["_law_thing", "_law_most_here"] (spIs31)) : Cal P w K mg base 2 "_law_summed" ["_law_problem_here", "_law_heard", "_law_parts"] (spSum K) := by
 refine cal_of F scSum (fun _ _ _ _ _ _ => bind3 (fun _ _ _ => rfl)) (fun vs H Q E h => ?_) (fun f cdv A outer s H vs Q E hr h => ?_)
 ·obtain ⟨t, h, l, rs, hd, cs, ws, ps, rfl, _⟩ := h
  rfl
 obtain ⟨t, h, l, rs, hd, cs, ws, ps, rfl, ⟨lP, c, vP, ht, hlP, hrP, hc⟩, hw, hrw, hdl, hd9, ⟨us, hlw, hpa⟩, hps, hn, qn, qr⟩ := h
 refine ⟨_, (pss_cons (ps_if (PW.pt (pw_or (pt_not (pt_val (pe_callB call_isiW rfl M.isinstance bt_isinstance (pa_cons (pv 2) (pa_cons (pe_ty M.list_ bt_list) pa_nil))))) (pw_or1 (pt_cmpR op_eq (pe_callB call_len_seq rfl M.len bt_len (pa_cons (pv 2) pa_nil)) pe_int (nomark _))))) (pss_one (ps_ret pe_non)) pss_nil)
  (pss_cons (ps_set (i := 3) scSum.nd rfl (Or.inr rfl) (pe_op op_rep (pe_lst (pa_cons pe_int pa_nil)) (pe_callB call_len_seq rfl M.len bt_len (pa_cons (pe_ix ix_tup (pv 0) pe_int (fun _ _ => rfl)) pa_nil))))
  (pss_cons (ps_set (i := 4) scSum.nd rfl (Or.inl rfl) pe_int)
  (pss_cons (ps_for PassesOwn.never rfl (pi_list (pv 2)) (pg_name (i := 5) scSum.nd rfl (Or.inr rfl) (Or.inl rfl)) (pss_cons (ps_if (PW.pt (pw_or (pt_not (pt_val (pe_callB call_isiW rfl M.isinstance bt_isinstance (pa_cons (pv 5) (pa_cons (pe_ty M.tuple_ bt_tuple) pa_nil))))) (pw_or (pt_cmpR op_ne (pe_callB call_len_seq rfl M.len bt_len (pa_cons (pv 5) pa_nil)) pe_int (nomark _)) (pw_or1 (pt_not (pt_val (pe_fn cl_is (hr.mono (by decide)) (pa_cons (pe_ix ix_tup (pv 5) pe_int (fun _ _ => rfl)) (pa_cons (pe_callB call_len_seq rfl M.len bt_len (pa_cons (pv 1) pa_nil)) pa_nil))))))))) (pss_one (ps_ret pe_non)) pss_nil)
  (pss_cons (ps_if (PW.pt (pw_or (pt_not (pt_val (pe_callB call_isiW rfl M.isinstance bt_isinstance (pa_cons (pe_ix ix_tup (pv 5) pe_int (fun _ _ => rfl)) (pa_cons (pe_ty M.int_ bt_int) pa_nil))))) (pw_or (pt_val (pe_callB call_isiW rfl M.isinstance bt_isinstance (pa_cons (pe_ix ix_tup (pv 5) pe_int (fun _ _ => rfl)) (pa_cons (pe_ty M.bool_ bt_bool) pa_nil)))) (pw_or1 (pt_cmpR op_lt (pe_ix ix_tup (pv 5) pe_int (fun _ _ => rfl)) pe_int (nomark _)))))) (pss_one (ps_ret pe_non)) pss_nil)
  (pss_cons (ps_set (i := 6) scSum.nd rfl (Or.inr rfl) (pe_ix ix_list (pv 1) (pe_ix ix_tup (pv 5) pe_int (fun _ _ => rfl)) (fun _ _ => rfl)))
  (pss_cons (ps_set (i := 3) scSum.nd rfl (Or.inr rfl) (pe_lc ["_law_k", "_law_numbers", "_law_part", "_law_row_here"] [none, some 3, some 5, some 6] rfl (pi_range1 rfl M.range_ (pa_cons (pe_callB call_len_seq rfl M.len bt_len (pa_cons (pv 3) pa_nil)) pa_nil)) (fun _ _ _ => (pg_name (i := 0) (show (["_law_k", "_law_numbers", "_law_part", "_law_row_here"] : List Str).Nodup by decide +kernel) rfl (Or.inl rfl) (Or.inr rfl))) (fun _ _ _ => pf_nil) (fun _ _ _ => (pe_op op_add (pe_ix (ix_listK (K := K) rfl) (pv 1) (pv 0) (fun _ _ => rfl)) (pe_op op_mul (pe_ix (ix_tupK (K := K) rfl) (pv 2) pe_int (fun _ _ => rfl)) (pe_ix (ix_tupK (K := K) rfl) (pe_ix (ix_tupK (K := K) rfl) (pv 3) pe_int (fun _ _ => rfl)) (pv 0) (fun _ _ => rfl)))))))
  (pss_one (ps_set (i := 4) scSum.nd rfl (Or.inl rfl) (pe_op op_add (pv 4) (pe_op op_mul (pe_ix ix_tup (pv 5) pe_int (fun _ _ => rfl)) (pe_ix ix_tup (pv 6) pe_int (fun _ _ => rfl)))))))))))
  (pss_one (ps_ret (pe_tup (pa_cons (pe_callTy call_tuple_of rfl M.tuple_ bt_tuple (pa_cons (pv 3) pa_nil)) (pa_cons (pv 4) pa_nil))))))))), ?_⟩
 refine seq_let5 ?_
 intro rT5 rT4 rT3 rT2
 have hz : (2000 : Nat) < sizeLine := by decide
 have lc : (cs.map V.int).length = cs.length := jQ ..
 have lw := Paired.length hrw
 have lv := hpa.length
 rw [jQ] at lv
 refine ⟨_, rfl, _, "list", true, rfl, .list, .inr ⟨⟨_, hlw⟩, rfl⟩, _, rfl, iteF ⟨_, rfl, l, _, rfl, .inl hlw, rfl, _, rfl, ite2 (fun _ => qn _ (Same.refl _)) (fun _ => ?_)⟩⟩
 refine ⟨by show 1 ≤ sizeLine; decide, fun p0 hp0 => ?_⟩
 have s0 := same_new' hp0 (.lst [.int 0])
 have hp0' : upd H p0 (.lst [.int 0]) p0 = some (.lst [.int 0]) := upd_same
 generalize upd H p0 (.lst [.int 0]) = H0 at s0 hp0' ⊢
 refine ⟨_, rfl, t, _, _, _, rfl, rfl, s0.tup ht, at1, c, _, rfl, .inr (s0.tup hc), p0, (((cs.map V.int).length : Nat) : Int), _, rfl, rfl, hp0', by omega, by omega, by show 1 * ((((cs.map V.int).length : Nat) : Int)).toNat ≤ sizeLine; omega, fun g0 hg0 => ?_⟩
 rw [rep0]
 have s01 := s0.trans (same_new' hg0 (.lst ((List.replicate (cs.map V.int).length (0 : Int)).map V.int)))
 have hg1 : upd H0 g0 (.lst ((List.replicate (cs.map V.int).length (0 : Int)).map V.int)) g0 = some (.lst ((List.replicate (cs.map V.int).length (0 : Int)).map V.int)) := upd_same
 have gH : H g0 = none := by
  cases e5 : H g0 with
  | none => rfl
  | some o => rw [s0 _ _ e5] at hg0; cases hg0
 generalize upd H0 g0 (.lst ((List.replicate (cs.map V.int).length (0 : Int)).map V.int)) = H1 at s01 hg1 ⊢
 have lz : (List.replicate (cs.map V.int).length (0 : Int)).length = cs.length := by rw [jYb, lc]
 generalize List.replicate (cs.map V.int).length (0 : Int) = zs0 at hg1 lz
 let Pv12 : Nat → St → Hp → Prop := fun i σ H2 => ∃ (D : Addr) (zs : List Int) (z : Int) (u v : Option V), σ = [some (.ref t), some (.ref h), some (.ref l), some (.ref D), some (.int z), u, v] ∧ H2 D = some (.lst (zs.map V.int)) ∧ zs.length = cs.length ∧ (∀ p ∈ ps.take i, 0 ≤ p.1 ∧ p.1 < ((hd.length : Nat) : Int)) ∧ Same H H2
 refine ⟨_, rfl, l, rfl, ⟨_, s01.seq hlw⟩, for_list (K := K) (a := l) (xs := us) Pv12 ⟨g0, zs0, 0, none, none, rfl, hg1, lz, fun _ h => (nomatch h), s01⟩ (fun i σ H2 _ h => ?_) ?_ ?_⟩
 ·obtain ⟨D, zs, z, u, v, rfl, _, _, _, s2⟩ := h
  exact s2.seq hlw
 ·rintro i x σ H2 e1 ⟨D, NS0, z, u, v, rfl, hD2, hzl, hin, s2⟩
  obtain ⟨T, a, b, rfl, ec, hT⟩ := holds_get hpa e1 s2
  obtain ⟨b0, b3⟩ := hps (a, b) (zZ ec)
  have b0' : 0 ≤ b := b0
  have b3' : b ≤ 3 := b3
  refine ⟨_, rfl, _, "tuple", true, rfl, .tuple, .inl ⟨⟨_, hT⟩, rfl⟩, _, rfl, iteF ⟨_, rfl, T, _, rfl, .inr hT, rfl, _, rfl, iteF ?_⟩⟩
  refine ⟨_, rfl, T, _, _, _, rfl, rfl, hT, at0, _, rfl, h, _, rfl, .inl (s2.seq hw), a, _, rfl, fun bb hbb => ⟨_, rfl, ite2 (fun _ => qn _ s2) (fun y => ?_)⟩⟩
  have hbt : bb = true := by
   cases bb with
   | true => rfl
   | false => exact absurd rfl y
  obtain ⟨a0, a1⟩ := hbb.mp hbt
  refine ⟨_, rfl, T, _, _, _, rfl, rfl, hT, at1, _, "int", true, rfl, .int, rfl, _, rfl, iteF ⟨_, rfl, T, _, _, _, rfl, rfl, hT, at1, _, "bool", false, rfl, .bool, rfl, _, rfl, iteF ⟨_, rfl, T, _, _, _, rfl, rfl, hT, at1, _, _, rfl, rfl, _, rfl, ite2 (fun y => absurd (zQ y) (by omega)) (fun _ => ?_)⟩⟩⟩
  obtain ⟨tr, r, etr, ⟨pr, hr1, hr2⟩, hrm⟩ := row_at (hrw.imp fun _ _ z => z.same s2) a0 (by rw [← lw]; exact a1)
  have hrl := hdl r hrm
  refine ⟨_, rfl, _, rfl, T, _, _, _, rfl, rfl, hT, at0, h, _, _, _, rfl, rfl, s2.seq hw, etr, ?_⟩
  refine ⟨_, rfl, D, _, rfl, .inl (sqL_new hD2), _, rfl, by omega, by rw [jQ]; omega, fun D3 hD3 => ?_⟩
  let Pv13 : Nat → St → List V → Hp → Prop := fun i τ ys H3 => ∃ (v3 : Option V) (zs : List Int), τ = [v3, some (.ref D), some (.ref T), some (.ref tr)] ∧ ys = zs.map V.int ∧ zs.length = i ∧ H3 D3 = some (.lst ys) ∧ Same H2 H3
  refine lc_any (n := cs.length) Pv13 ?_ (fun i τ ys H3 hi h => ?_) (fun i τ ys H3 hi h => ?_) (fun τ ys H3 h => ?_) ?_ ?_
  ·exact ⟨none, [], rfl, rfl, rfl, upd_same, same_new' hD3 _⟩
  ·obtain ⟨v3, zs, rfl, rfl, hl, hE, s3⟩ := h
   exact ⟨hE, by rw [jQ]; omega⟩
  ·obtain ⟨v3, zs, rfl, rfl, hl, hE, s3⟩ := h
   show i < Int.toNat _; rw [jQ]; omega
  ·obtain ⟨v3, zs, rfl, rfl, hl, hE, s3⟩ := h
   show Int.toNat _ ≤ _; rw [jQ]; omega
  ·rintro i τ ys H3 x H9 hi ⟨v3, zs, rfl, rfl, hl, hE, s3⟩ ⟨rfl, rfl⟩
   obtain ⟨y1, ey1⟩ := atNsI (ns := NS0) (k := 0 + (i : Int)) (by omega) (by omega)
   obtain ⟨y2, ey2⟩ := atNsI (ns := r.1) (k := 0 + (i : Int)) (by omega) (by omega)
   refine ⟨_, rfl, _, rfl, D, _, _, _, rfl, rfl, sqL_new (s3 _ _ hD2), ey1, _, rfl, T, _, _, _, rfl, rfl, s3.tup hT, at1, _, rfl, tr, _, _, _, rfl, rfl, s3.tup hr1, at0, _, rfl, pr, _, _, _, rfl, rfl, s3.tup hr2, ey2, _, _, rfl, rfl, .inl ⟨by show -(2 ^ 64) < b; omega, by show b < 2 ^ 64; omega⟩, _, _, rfl, rfl, hE, _, zs ++ [_], rfl, by rw [kW]; rfl, by rw [jW]; rw [hl]; rfl, upd_same, fun b o e => by rw [upd_ne (ne_of_none e hD3)]; exact s3 _ _ e⟩
  rintro τ ys H3 ⟨v3, zs, rfl, rfl, hl, hE, s3⟩
  refine ⟨_, rfl, _, rfl, T, _, _, _, rfl, rfl, s3.tup hT, at1, _, rfl, tr, _, _, _, rfl, rfl, s3.tup hr1, at1, _, _, rfl, rfl, .inl ⟨by show -(2 ^ 64) < b; omega, by show b < 2 ^ 64; omega⟩, _, _, rfl, rfl, ?_⟩
  refine ⟨D3, zs, _, _, _, rfl, hE, hl, fun p hp => ?_, s2.trans s3⟩
  rw [takeS ec] at hp
  rcases yQ.mp hp with hp | hp
  ·exact hin p hp
  ·rw [kX.mp hp]; exact ⟨a0, by rw [← lw]; exact a1⟩
 ·rintro σ H2 ⟨D, zs, z, u, v, rfl, hD2, hzl, hin, s2⟩
  rw [jXc (by omega)] at hin
  refine ⟨_, rfl, D, _, rfl, .inl ⟨sqL_new hD2, fun l2 hl2 => ⟨_, rfl, by show 2 ≤ sizeLine; decide, fun t2 ht2 => ?_⟩⟩⟩
  exact qr t2 (zs, z) _ ((s2.trans (same_new' hl2 _)).trans (same_new' ht2 _)) ⟨l2, sqT_new upd_same, (same_new' ht2 _).tup (sqT_new upd_same)⟩ hzl hin
end
abbrev sSim : Stmt := top 13
section
variable {P : Program} {w : World} {K : Fg} {mg : Str → Option Value} {base : Heap}
theorem scSim : FnScope ["_law_problem_here", "_law_best", "_law_line", "_law_numbers"] ["_law_problem_here", "_law_best", "_law_line"] (defScope sSim) := ⟨rfl, rfl, rfl, by decide +kernel, rfl, by decide +kernel, by decide +kernel⟩
theorem okSim (F : Fn K mg "_law_simple" sSim) (M : Mg mg) (cl_is : Cal P w K mg base 1 "_law_is" ["_law_thing", "_law_most_here"] (spIs31)) : Cal P w K mg base 2 "_law_simple" ["_law_problem_here", "_law_best", "_law_line"] (spSim K) := by
 refine cal_of F scSim (fun _ _ _ _ _ _ => bind3 (fun _ _ _ => rfl)) (fun vs H Q E h => ?_) (fun f cdv A outer s H vs Q E hr h => ?_)
 ·obtain ⟨t, u, rs, cs, bst, rfl, _⟩ := h
  rfl
 obtain ⟨t, u, rs, cs, bst, rfl, hbst, ⟨l, c, vs, ht, hl, hrw, hc⟩, hrl, hLn, hn, hm, q⟩ := h
 have hu6 : (A.deeper (PyProof.Rows.envOfC "_law_simple" (defScope sSim) s.heap.objs.size f cdv)).units + 6 < cLine := xJ (wK (by decide) _) hr.un
 have hu : (A.deeper (PyProof.Rows.envOfC "_law_simple" (defScope sSim) s.heap.objs.size f cdv)).units + 1 < cLine := xJ (wK (by decide) _) hr.un
 refine ⟨_, (pss_cons (ps_set (i := 3) scSim.nd rfl (Or.inl rfl) (pe_op op_rep (pe_lst (pa_cons pe_int pa_nil)) (pe_callB call_len_seq rfl M.len bt_len (pa_cons (pe_ix ix_tup (pv 0) pe_int (fun _ _ => rfl)) pa_nil))))
  (pss_cons (ps_if (pt_cmpR (op_eqW hu6) (pv 2) (pe_tup (pa_cons pe_str pa_nil)) (nomark _)) (pss_cons (ps_if (pt_cmpR op_isN (pv 1) pe_non (nomark _)) (pss_one (ps_ret pe_non)) pss_nil)
  (pss_one (ps_ret (pe_tup (pa_cons (pe_callTy call_tuple_of rfl M.tuple_ bt_tuple (pa_cons (pe_lc ["_law_cost"] [none] rfl (pi_tup (pe_ix ix_tup (pv 0) pe_int (fun _ _ => rfl))) (fun _ _ _ => (pg_name (i := 0) (show (["_law_cost"] : List Str).Nodup by decide +kernel) rfl (Or.inl rfl) (Or.inr rfl))) (fun _ _ _ => pf_nil) (fun _ _ _ => (pe_op op_sub pe_int (pv 0)))) pa_nil)) (pa_cons (pe_op op_sub pe_int (pv 1)) pa_nil)))))) pss_nil)
  (pss_cons (ps_if (PW.pt (pw_or (pt_cmpR op_ne (pe_callB call_len_seq rfl M.len bt_len (pa_cons (pv 2) pa_nil)) pe_int (nomark _)) (pw_or1 (pt_not (pt_val (pe_fn cl_is (hr.mono (by decide)) (pa_cons (pe_ix ix_tup (pv 2) pe_int (fun _ _ => rfl)) (pa_cons (pe_ix ix_list (pe_lst (pa_cons (pe_callB call_len_seq rfl M.len bt_len (pa_cons (pv 3) pa_nil)) (pa_cons (pe_callB call_len_seq rfl M.len bt_len (pa_cons (pe_ix ix_tup (pv 0) pe_int (fun _ _ => rfl)) pa_nil)) pa_nil))) (pe_callTy call_int1 rfl M.int_ bt_int (pa_cons (pe_cmpR op_eq (pe_ix ix_tup (pv 2) pe_int (fun _ _ => rfl)) pe_str (nomark _)) pa_nil)) (fun _ _ => rfl)) pa_nil)))))))) (pss_one (ps_ret pe_non)) pss_nil)
  (pss_cons (ps_if (pt_cmpR op_eq (pe_ix ix_tup (pv 2) pe_int (fun _ _ => rfl)) pe_str (nomark _)) (pss_one (ps_ret (pe_ix ix_list (pe_ix ix_tup (pv 0) pe_int (fun _ _ => rfl)) (pe_ix ix_tup (pv 2) pe_int (fun _ _ => rfl)) (fun _ _ => rfl)))) pss_nil)
  (pss_cons (ps_if (pt_cmpR op_eq (pe_ix ix_tup (pv 2) pe_int (fun _ _ => rfl)) pe_str (nomark _)) (pss_cons (ps_asg pe_int (pg_sub (pv 3) (pe_ix ix_tup (pv 2) pe_int (fun _ _ => rfl)) set_list))
  (pss_one (ps_ret (pe_tup (pa_cons (pe_callTy call_tuple_of rfl M.tuple_ bt_tuple (pa_cons (pv 3) pa_nil)) (pa_cons pe_int pa_nil)))))) pss_nil)
  (pss_cons (ps_if (pt_cmpR op_eq (pe_ix ix_tup (pv 2) pe_int (fun _ _ => rfl)) pe_str (nomark _)) (pss_cons (ps_asg (pe_un un_neg pe_int) (pg_sub (pv 3) (pe_ix ix_tup (pv 2) pe_int (fun _ _ => rfl)) set_list))
  (pss_one (ps_ret (pe_tup (pa_cons (pe_callTy call_tuple_of rfl M.tuple_ bt_tuple (pa_cons (pv 3) pa_nil)) (pa_cons (pe_un un_neg pe_int) pa_nil)))))) pss_nil)
  (pss_one (ps_ret pe_non)))))))), ?_⟩
 refine seq_let7 ?_
 intro rT7 rT6 rT5 rT4 rT3 rT2
 have hz : (2000 : Nat) < sizeLine := by decide
 have lr := Paired.length hrw
 have lc : (cs.map V.int).length = cs.length := jQ ..
 refine ⟨by show 1 ≤ sizeLine; decide, fun p0 hp0 => ?_⟩
 have s0 := same_new' hp0 (.lst [.int 0])
 have hp0' : upd H p0 (.lst [.int 0]) p0 = some (.lst [.int 0]) := upd_same
 generalize upd H p0 (.lst [.int 0]) = H0 at s0 hp0' ⊢
 refine ⟨_, rfl, t, _, _, _, rfl, rfl, s0.tup ht, at1, c, _, rfl, .inr (s0.tup hc), p0, (((cs.map V.int).length : Nat) : Int), _, rfl, rfl, hp0', by omega, by omega, by show 1 * ((((cs.map V.int).length : Nat) : Int)).toNat ≤ sizeLine; omega, fun g0 hg0 => ?_⟩
 rw [rep0]
 have s01 := s0.trans (same_new' hg0 (.lst ((List.replicate (cs.map V.int).length (0 : Int)).map V.int)))
 have hg1 : upd H0 g0 (.lst ((List.replicate (cs.map V.int).length (0 : Int)).map V.int)) g0 = some (.lst ((List.replicate (cs.map V.int).length (0 : Int)).map V.int)) := upd_same
 have gH : H g0 = none := by
  cases e5 : H g0 with
  | none => rfl
  | some o => rw [s0 _ _ e5] at hg0; cases hg0
 generalize upd H0 g0 (.lst ((List.replicate (cs.map V.int).length (0 : Int)).map V.int)) = H1 at s01 hg1 ⊢
 have lz : (List.replicate (cs.map V.int).length (0 : Int)).length = cs.length := by rw [jYb, lc]
 generalize List.replicate (cs.map V.int).length (0 : Int) = zs0 at hg1 lz
 refine ⟨_, rfl, by show 1 ≤ sizeLine; decide, fun T hT1 => ?_⟩
 have sT := same_new' hT1 (.tup [.str "better"])
 have hTT : SqT K (upd H1 T (.tup [.str "better"])) T [.str "better"] := sqT_new upd_same
 generalize upd H1 T (.tup [.str "better"]) = H2 at sT hTT ⊢
 have s2 := s01.trans sT
 rcases hLn with hu | ⟨k, hu | hu | hu⟩
 ·refine ⟨u, T, _, _, [], rfl, rfl, s2.tup hu, hTT, fun cc hcc => ?_⟩
  rw [hcc.mpr ⟨rfl, rfl⟩]
  refine ⟨_, rfl, iteT ?_⟩
  rcases hbst with rfl | ⟨b, rfl⟩
  ·exact ⟨_, rfl, rfl, _, rfl, iteT (q.1 _ s2)⟩
  refine ⟨_, rfl, rfl, _, rfl, iteF ?_⟩
  refine ⟨_, rfl, t, _, _, _, rfl, rfl, s2.tup ht, at1, c, rfl, ⟨_, s2.tup hc⟩, fun D hD => ?_⟩
  let Pv14 : Nat → St → List V → Hp → Prop := fun i τ ys H3 => ∃ (v : Option V) (zs : List Int), τ = [v] ∧ ys = zs.map V.int ∧ zs.length = i ∧ H3 D = some (.lst ys) ∧ Same H2 H3
  refine lc_any (n := cs.length) Pv14 ?_ (fun i τ ys H3 hi h => ?_) (fun i τ ys H3 hi h => ?_) (fun τ ys H3 h => ?_) ?_ ?_
  ·exact ⟨none, [], rfl, rfl, rfl, upd_same, same_new' hD _⟩
  ·obtain ⟨v, zs, rfl, rfl, hl, hE, s3⟩ := h
   exact ⟨hE, by rw [jQ]; omega⟩
  ·obtain ⟨v, zs, rfl, rfl, hl, hE, s3⟩ := h
   exact ⟨_, .int cs[i], (s2.trans s3).tup hc, by rw [kY, gE hi]; rfl⟩
  ·obtain ⟨v, zs, rfl, rfl, hl, hE, s3⟩ := h
   exact ⟨_, (s2.trans s3).tup hc, by rw [jQ]; exact jX _⟩
  ·rintro i τ ys H3 x H9 hi ⟨v, zs, rfl, rfl, hl, hE, s3⟩ ⟨rfl, e1⟩
   obtain ⟨z, ez, rfl⟩ := getMapI (e1 _ ((s2.trans s3).tup hc))
   refine ⟨_, rfl, _, _, rfl, rfl, hE, _, zs ++ [_], rfl, by rw [kW]; rfl, by rw [jW]; rw [hl]; rfl, upd_same, fun b o e => by rw [upd_ne (ne_of_none e hD)]; exact s3 _ _ e⟩
  rintro τ ys H3 ⟨v, zs, rfl, rfl, hl, hE, s3⟩
  refine ⟨D, _, rfl, .inl ⟨sqL_new hE, fun l2 hl2 => ⟨_, rfl, _, _, rfl, rfl, by show 2 ≤ sizeLine; decide, fun t2 ht2 => ?_⟩⟩⟩
  exact q.2 t2 (zs, _) _ (((s2.trans s3).trans (same_new' hl2 _)).trans (same_new' ht2 _)) ⟨l2, sqT_new upd_same, (same_new' ht2 _).tup (sqT_new upd_same)⟩ hl
 ·have hu2 := s2.tup hu
  refine ⟨u, T, _, _, [.int k], rfl, rfl, hu2, hTT, fun cc hcc => ?_⟩
  have ec : cc = false := by cases cc with | false => rfl | true => exact absurd (hcc.mp rfl).2 (by simp)
  rw [ec]
  refine ⟨_, rfl, iteF ?_⟩
  refine ⟨_, rfl, u, _, rfl, .inr hu2, rfl, _, rfl, ite2 (fun e => absurd e (by simp)) (fun _ => ?_)⟩
  refine ⟨_, rfl, u, _, _, _, rfl, rfl, hu2, at1, _, rfl, g0, _, rfl, .inl (sqL_new (sT _ _ hg1)), _, rfl, t, _, _, _, rfl, rfl, s2.tup ht, at0, l, _, rfl, .inl (s2.seq hl), by show 2 ≤ sizeLine; decide, fun B hB => ?_⟩
  have sB := same_new' hB (.lst [.int (((zs0.map V.int).length : Nat) : Int), .int ((vs.length : Nat) : Int)])
  have hB' : upd H2 B (.lst [.int (((zs0.map V.int).length : Nat) : Int), .int ((vs.length : Nat) : Int)]) B = some (.lst [.int (((zs0.map V.int).length : Nat) : Int), .int ((vs.length : Nat) : Int)]) := upd_same
  generalize upd H2 B (.lst [.int (((zs0.map V.int).length : Nat) : Int), .int ((vs.length : Nat) : Int)]) = H3 at sB hB' ⊢
  have s3 := s2.trans sB
  have hu3 := sB.tup hu2
  refine ⟨_, rfl, u, _, _, _, rfl, rfl, hu3, at0, rfl, .inr ⟨_, rfl, ?_⟩⟩
  rw [if_pos (by decide +kernel)]
  refine ⟨B, _, _, _, rfl, rfl, sqL_new hB', at1, k, _, rfl, fun bb hbb => ⟨_, rfl, ite2 (fun _ => q.1 _ s3) (fun y => ?_)⟩⟩
  have hbt : bb = true := by
   cases bb with
   | true => rfl
   | false => exact absurd rfl y
  obtain ⟨k0, k1⟩ := hbb.mp hbt
  obtain ⟨tr, r, etr, hR, hrm⟩ := row_at (hrw.imp fun _ _ z => z.same s3) k0 (by rw [← lr]; exact k1)
  refine ⟨_, rfl, u, _, _, _, rfl, rfl, hu3, at0, rfl, _, rfl, ite2 (fun _ => ?_) (fun e => absurd (by decide +kernel) e)⟩
  exact ⟨_, rfl, t, _, _, _, rfl, rfl, s3.tup ht, at0, _, rfl, u, _, _, _, rfl, rfl, hu3, at1, l, _, _, _, rfl, rfl, s3.seq hl, etr, q.2 tr r _ s3 hR (hrl r hrm)⟩
 ·have hu2 := s2.tup hu
  refine ⟨u, T, _, _, [.int k], rfl, rfl, hu2, hTT, fun cc hcc => ?_⟩
  have ec : cc = false := by cases cc with | false => rfl | true => exact absurd (hcc.mp rfl).2 (by simp)
  rw [ec]
  refine ⟨_, rfl, iteF ?_⟩
  refine ⟨_, rfl, u, _, rfl, .inr hu2, rfl, _, rfl, ite2 (fun e => absurd e (by simp)) (fun _ => ?_)⟩
  refine ⟨_, rfl, u, _, _, _, rfl, rfl, hu2, at1, _, rfl, g0, _, rfl, .inl (sqL_new (sT _ _ hg1)), _, rfl, t, _, _, _, rfl, rfl, s2.tup ht, at0, l, _, rfl, .inl (s2.seq hl), by show 2 ≤ sizeLine; decide, fun B hB => ?_⟩
  have sB := same_new' hB (.lst [.int (((zs0.map V.int).length : Nat) : Int), .int ((vs.length : Nat) : Int)])
  have hB' : upd H2 B (.lst [.int (((zs0.map V.int).length : Nat) : Int), .int ((vs.length : Nat) : Int)]) B = some (.lst [.int (((zs0.map V.int).length : Nat) : Int), .int ((vs.length : Nat) : Int)]) := upd_same
  generalize upd H2 B (.lst [.int (((zs0.map V.int).length : Nat) : Int), .int ((vs.length : Nat) : Int)]) = H3 at sB hB' ⊢
  have s3 := s2.trans sB
  have hu3 := sB.tup hu2
  refine ⟨_, rfl, u, _, _, _, rfl, rfl, hu3, at0, rfl, .inr ⟨_, rfl, ?_⟩⟩
  rw [if_neg (by decide +kernel)]
  refine ⟨B, _, _, _, rfl, rfl, sqL_new hB', at0, k, _, rfl, fun bb hbb => ⟨_, rfl, ite2 (fun _ => q.1 _ s3) (fun y => ?_)⟩⟩
  have hbt : bb = true := by
   cases bb with
   | true => rfl
   | false => exact absurd rfl y
  obtain ⟨k0, k1⟩ := hbb.mp hbt
  refine ⟨_, rfl, u, _, _, _, rfl, rfl, hu3, at0, rfl, _, rfl, ite2 (fun e => absurd e (by decide +kernel)) (fun _ => ?_)⟩
  refine ⟨_, rfl, u, _, _, _, rfl, rfl, hu3, at0, rfl, _, rfl, ite2 (fun _ => ?_) (fun e => absurd (by decide +kernel) e)⟩
  have hkn : k.toNat < zs0.length := by rw [jQ] at k1; omega
  have hg3 := sB _ _ (sT _ _ hg1)
  refine ⟨_, rfl, _, rfl, u, _, _, _, rfl, rfl, hu3, at1, g0, _, _, k.toNat, rfl, rfl, hg3, by rw [show k = ((k.toNat : Nat) : Int) by omega]; exact ixNat (by rw [jQ]; exact hkn), ?_⟩
  have h4 : upd H3 g0 (.lst ((zs0.map V.int).set k.toNat (.int 1))) g0 = some (.lst ((zs0.set k.toNat 1).map V.int)) := by rw [upd_same, kXb]
  have s4 : Same H (upd H3 g0 (.lst ((zs0.map V.int).set k.toNat (.int 1)))) := fun b o e => by rw [upd_ne (ne_of_none e gH)]; exact s3 _ _ e
  refine ⟨_, rfl, g0, _, rfl, .inl ⟨sqL_new h4, fun l2 hl2 => ⟨by show 2 ≤ sizeLine; decide, fun t2 ht2 => ?_⟩⟩⟩
  exact q.2 t2 (zs0.set k.toNat 1, _) _ ((s4.trans (same_new' hl2 _)).trans (same_new' ht2 _)) ⟨l2, sqT_new upd_same, (same_new' ht2 _).tup (sqT_new upd_same)⟩ (by show (zs0.set k.toNat 1).length = _; rw [jXa]; exact lz)
 ·have hu2 := s2.tup hu
  refine ⟨u, T, _, _, [.int k], rfl, rfl, hu2, hTT, fun cc hcc => ?_⟩
  have ec : cc = false := by cases cc with | false => rfl | true => exact absurd (hcc.mp rfl).2 (by simp)
  rw [ec]
  refine ⟨_, rfl, iteF ?_⟩
  refine ⟨_, rfl, u, _, rfl, .inr hu2, rfl, _, rfl, ite2 (fun e => absurd e (by simp)) (fun _ => ?_)⟩
  refine ⟨_, rfl, u, _, _, _, rfl, rfl, hu2, at1, _, rfl, g0, _, rfl, .inl (sqL_new (sT _ _ hg1)), _, rfl, t, _, _, _, rfl, rfl, s2.tup ht, at0, l, _, rfl, .inl (s2.seq hl), by show 2 ≤ sizeLine; decide, fun B hB => ?_⟩
  have sB := same_new' hB (.lst [.int (((zs0.map V.int).length : Nat) : Int), .int ((vs.length : Nat) : Int)])
  have hB' : upd H2 B (.lst [.int (((zs0.map V.int).length : Nat) : Int), .int ((vs.length : Nat) : Int)]) B = some (.lst [.int (((zs0.map V.int).length : Nat) : Int), .int ((vs.length : Nat) : Int)]) := upd_same
  generalize upd H2 B (.lst [.int (((zs0.map V.int).length : Nat) : Int), .int ((vs.length : Nat) : Int)]) = H3 at sB hB' ⊢
  have s3 := s2.trans sB
  have hu3 := sB.tup hu2
  refine ⟨_, rfl, u, _, _, _, rfl, rfl, hu3, at0, rfl, .inr ⟨_, rfl, ?_⟩⟩
  rw [if_neg (by decide +kernel)]
  refine ⟨B, _, _, _, rfl, rfl, sqL_new hB', at0, k, _, rfl, fun bb hbb => ⟨_, rfl, ite2 (fun _ => q.1 _ s3) (fun y => ?_)⟩⟩
  have hbt : bb = true := by
   cases bb with
   | true => rfl
   | false => exact absurd rfl y
  obtain ⟨k0, k1⟩ := hbb.mp hbt
  refine ⟨_, rfl, u, _, _, _, rfl, rfl, hu3, at0, rfl, _, rfl, ite2 (fun e => absurd e (by decide +kernel)) (fun _ => ?_)⟩
  refine ⟨_, rfl, u, _, _, _, rfl, rfl, hu3, at0, rfl, _, rfl, ite2 (fun e => absurd e (by decide +kernel)) (fun _ => ?_)⟩
  refine ⟨_, rfl, u, _, _, _, rfl, rfl, hu3, at0, rfl, _, rfl, ite2 (fun _ => ?_) (fun e => absurd (by decide +kernel) e)⟩
  have hkn : k.toNat < zs0.length := by rw [jQ] at k1; omega
  have hg3 := sB _ _ (sT _ _ hg1)
  refine ⟨_, rfl, _, rfl, _, rfl, u, _, _, _, rfl, rfl, hu3, at1, g0, _, _, k.toNat, rfl, rfl, hg3, by rw [show k = ((k.toNat : Nat) : Int) by omega]; exact ixNat (by rw [jQ]; exact hkn), ?_⟩
  have h4 : upd H3 g0 (.lst ((zs0.map V.int).set k.toNat (.int (-1)))) g0 = some (.lst ((zs0.set k.toNat (-1)).map V.int)) := by rw [upd_same, kXb]
  have s4 : Same H (upd H3 g0 (.lst ((zs0.map V.int).set k.toNat (.int (-1))))) := fun b o e => by rw [upd_ne (ne_of_none e gH)]; exact s3 _ _ e
  refine ⟨_, rfl, g0, _, rfl, .inl ⟨sqL_new h4, fun l2 hl2 => ⟨_, rfl, by show 2 ≤ sizeLine; decide, fun t2 ht2 => ?_⟩⟩⟩
  exact q.2 t2 (zs0.set k.toNat (-1), _) _ ((s4.trans (same_new' hl2 _)).trans (same_new' ht2 _)) ⟨l2, sqT_new upd_same, (same_new' ht2 _).tup (sqT_new upd_same)⟩ (by show (zs0.set k.toNat (-1)).length = _; rw [jXa]; exact lz)
end
abbrev sLik : Stmt := top 20
def spLik (K : Fg) : Sp := fun vs H Q _ => ∃ (t l : Addr) (rs : List (List Int × Int)) (cs ts : List Int), vs = [.ref t, .ref l] ∧ ProbAt K H t rs cs ∧ (∀ r ∈ rs, r.1.length = cs.length) ∧ SqL K H l (ts.map V.int) ∧ ts.length = cs.length ∧ (∀ x ∈ ts, 0 ≤ x ∧ x < ((cs.length : Nat) : Int)) ∧ cs.length ≤ 20 ∧ rs.length ≤ 20 ∧ Ans K H Q cs.length
theorem turn_at {ts : List Int} {n : Nat} (hl : ts.length = n) (h : ∀ x ∈ ts, 0 ≤ x ∧ x < ((n : Nat) : Int)) {k : Int} (k0 : 0 ≤ k) (k1 : k < (n : Int)) : ∃ j : Nat, j < n ∧ atI (ts.map V.int) k = some (.int ((j : Nat) : Int)) := by
 have hk : k.toNat < ts.length := by omega
 obtain ⟨h0, h1⟩ := h _ (jKd hk)
 refine ⟨ts[k.toNat].toNat, by omega, ?_⟩
 have q : atI (ts.map V.int) ((k.toNat : Nat) : Int) = some (.int ts[k.toNat]) := atI_nat (by rw [kY, gE hk] <;> rfl)
 rw [show ((k.toNat : Nat) : Int) = k by omega] at q
 rw [q, show ((ts[k.toNat].toNat : Nat) : Int) = ts[k.toNat] by omega]
section
variable {P : Program} {w : World} {K : Fg} {mg : Str → Option Value} {base : Heap}
theorem scLik : FnScope ["_law_problem_here", "_law_turn_here", "_law_many", "_law_rows", "_law_numbers", "_law_least", "_law_moved", "_law_k", "_law_weight"] ["_law_problem_here", "_law_turn_here"] (defScope sLik) := ⟨rfl, rfl, rfl, by decide +kernel, rfl, by decide +kernel, by decide +kernel⟩
theorem okLik (F : Fn K mg "_law_like" sLik) (M : Mg mg) : Cal P w K mg base 1 "_law_like" ["_law_problem_here", "_law_turn_here"] (spLik K) := by
 refine cal_of F scLik (fun _ _ _ _ _ _ => bind2 (fun _ _ => rfl)) (fun vs H Q E h => ?_) (fun f cdv A outer s H vs Q E hr h => ?_)
 ·obtain ⟨t, l, rs, cs, ts, rfl, _⟩ := h
  rfl
 obtain ⟨t, l, rs, cs, ts, rfl, ⟨lP, c, vP, ht, hlP, hrP, hc⟩, hrl, hlt, hts, htn, hn, hm, q⟩ := h
 have hu6 : (A.deeper (PyProof.Rows.envOfC "_law_like" (defScope sLik) s.heap.objs.size f cdv)).units + 6 < cLine := xJ (wK (by decide) _) hr.un
 refine ⟨_, (pss_cons (ps_set (i := 2) scLik.nd rfl (Or.inl rfl) (pe_callB call_len_seq rfl M.len bt_len (pa_cons (pe_ix ix_tup (pv 0) pe_int (fun _ _ => rfl)) pa_nil)))
  (pss_cons (ps_if (PW.pt (pw_or (pt_not (pt_val (pe_callB call_isiW rfl M.isinstance bt_isinstance (pa_cons (pv 1) (pa_cons (pe_ty M.list_ bt_list) pa_nil))))) (pw_or1 (pt_cmpR (op_neD (n := 6) hu6) (pe_callB (call_sortedI (K := K) rfl) rfl M.sorted bt_sorted (pa_cons (pv 1) pa_nil)) (pe_callTy (call_list_rng rfl) rfl M.list_ bt_list (pa_cons (pe_range M.range_ (pa_cons (pv 2) pa_nil)) pa_nil)) (nomark _))))) (pss_one (ps_ret pe_non)) pss_nil)
  (pss_cons (ps_set (i := 3) scLik.nd rfl (Or.inl rfl) (pe_lst pa_nil))
  (pss_cons (ps_for PassesOwn.never rfl (pi_list (pe_ix ix_tup (pv 0) pe_int (fun _ _ => rfl))) (pg_pair (K := K) (i := 4) (j := 5) rfl rfl scLik.nd rfl rfl rfl rfl) (pss_cons (ps_set (i := 6) scLik.nd rfl (Or.inl rfl) (pe_op op_rep (pe_lst (pa_cons pe_int pa_nil)) (pv 2)))
  (pss_cons (ps_for PassesOwn.never rfl (pi_range1 rfl M.range_ (pa_cons (pv 2) pa_nil)) (pg_name (i := 7) scLik.nd rfl (Or.inl rfl) (Or.inl rfl)) (pss_one (ps_asg (pe_ix ix_tup (pv 4) (pv 7) (fun _ _ => rfl)) (pg_sub (pv 6) (pe_ix ix_list (pv 1) (pv 7) (fun _ _ => rfl)) set_list))))
  (pss_one (ps_expr (pe_bm PySem.F.plainAttrs_list PySem.F.slot_list_append PySem.F.type_list_append mt_append (pv 3) (pa_cons (pe_tup (pa_cons (pe_callTy call_tuple_of rfl M.tuple_ bt_tuple (pa_cons (pv 6) pa_nil)) (pa_cons (pv 5) pa_nil))) pa_nil)))))))
  (pss_cons (ps_if (PW.pt (pw_or (pt_cmpR (op_neD (n := 6) hu6) (pe_callB (call_sortedR (K := K) rfl hu6) rfl M.sorted bt_sorted (pa_cons (pv 3) pa_nil)) (pe_callB (call_sortedR (K := K) rfl hu6) rfl M.sorted bt_sorted (pa_cons (pe_ix ix_tup (pv 0) pe_int (fun _ _ => rfl)) pa_nil)) (nomark _)) (pw_or1 (pt_cmpR (op_neD (n := 6) hu6) (pe_lc ["_law_k", "_law_problem_here"] [none, some 0] rfl (pi_list (pv 1)) (fun _ _ _ => (pg_name (i := 0) (show (["_law_k", "_law_problem_here"] : List Str).Nodup by decide +kernel) rfl (Or.inl rfl) (Or.inr rfl))) (fun _ _ _ => pf_nil) (fun _ _ _ => (pe_ix (ix_tupK (K := K) rfl) (pe_ix (ix_tupK (K := K) rfl) (pv 1) pe_int (fun _ _ => rfl)) (pv 0) (fun _ _ => rfl)))) (pe_callTy call_list_of rfl M.list_ bt_list (pa_cons (pe_ix ix_tup (pv 0) pe_int (fun _ _ => rfl)) pa_nil)) (nomark _))))) (pss_one (ps_ret pe_non)) pss_nil)
  (pss_cons (ps_set (i := 4) scLik.nd rfl (Or.inl rfl) (pe_op op_rep (pe_lst (pa_cons pe_int pa_nil)) (pv 2)))
  (pss_cons (ps_set (i := 8) scLik.nd rfl (Or.inl rfl) pe_int)
  (pss_cons (ps_for PassesOwn.never rfl (pi_range3 rfl M.range_ (pa_cons (pe_op op_sub (pv 2) pe_int) (pa_cons (pe_un un_neg pe_int) (pa_cons (pe_un un_neg pe_int) pa_nil)))) (pg_name (i := 7) scLik.nd rfl (Or.inl rfl) (Or.inl rfl)) (pss_cons (ps_asg (pe_op op_add (pe_ix ix_list (pv 4) (pv 7) (fun _ _ => rfl)) (pv 8)) (pg_sub (pv 4) (pv 7) set_list))
  (pss_cons (ps_asg (pe_op op_sub (pe_ix ix_list (pv 4) (pe_ix ix_list (pv 1) (pv 7) (fun _ _ => rfl)) (fun _ _ => rfl)) (pv 8)) (pg_sub (pv 4) (pe_ix ix_list (pv 1) (pv 7) (fun _ _ => rfl)) set_list))
  (pss_one (ps_set (i := 8) scLik.nd rfl (Or.inl rfl) (pe_op op_add (pv 8) (pv 8)))))))
  (pss_one (ps_ret (pe_tup (pa_cons (pe_callTy call_tuple_of rfl M.tuple_ bt_tuple (pa_cons (pv 4) pa_nil)) (pa_cons pe_int pa_nil))))))))))))), ?_⟩
 have hz : (2000 : Nat) < sizeLine := by decide
 have lr := Paired.length hrP
 have lc : (cs.map V.int).length = cs.length := jQ ..
 refine ⟨_, rfl, t, _, _, _, rfl, rfl, ht, at1, c, _, rfl, .inr hc, ?_⟩
 refine ⟨_, rfl, _, "list", true, rfl, .list, .inr ⟨⟨_, hlt⟩, rfl⟩, _, rfl, iteF ?_⟩
 refine ⟨_, rfl, l, ts, rfl, hlt, by omega, fun D1 qs hD1 hq _ => ?_⟩
 have s1 := same_new' hD1 (.lst (qs.map V.int))
 have h1 : upd H D1 (.lst (qs.map V.int)) D1 = some (.lst (qs.map V.int)) := upd_same
 generalize upd H D1 (.lst (qs.map V.int)) = H1 at s1 h1 ⊢
 refine ⟨_, rfl, _, rfl, fun r hr0 => ⟨r, _, rfl, upd_same, by omega, by omega, fun l2 hl2 => ?_⟩⟩
 have s2 := (same_new' hr0 (.rng 0 (((cs.map V.int).length : Nat) : Int))).trans (same_new' hl2 (.lst ((List.range (Int.toNat (((cs.map V.int).length : Nat) : Int))).map fun i : Nat => V.int (i : Int))))
 have h2 : upd (upd H1 r (.rng 0 (((cs.map V.int).length : Nat) : Int))) l2 (.lst ((List.range (Int.toNat (((cs.map V.int).length : Nat) : Int))).map fun i : Nat => V.int (i : Int))) l2 = some (.lst (((List.range (Int.toNat (((cs.map V.int).length : Nat) : Int))).map fun i : Nat => (i : Int)).map V.int)) := by rw [upd_same, List.map_map]; rfl
 generalize upd (upd H1 r (.rng 0 (((cs.map V.int).length : Nat) : Int))) l2 (.lst ((List.range (Int.toNat (((cs.map V.int).length : Nat) : Int))).map fun i : Nat => V.int (i : Int))) = H2 at s2 h2 ⊢
 refine ⟨D1, l2, _, _, rfl, rfl, lstD (sqL_new (s2 _ _ h1)), lstD (sqL_new h2), alikeLst _ _, fun cc _ => ⟨_, rfl, ite2 (fun _ => q.1 _ (s1.trans s2)) (fun _ => ?_)⟩⟩
 have s02 := s1.trans s2
 clear h1 h2
 refine ⟨by show 0 ≤ sizeLine; decide, fun R hR => ?_⟩
 have s3 := same_new' hR (.lst [])
 have h3 : upd H2 R (.lst []) R = some (.lst []) := upd_same
 generalize upd H2 R (.lst []) = H3 at s3 h3 ⊢
 have s03 := s02.trans s3
 have RH : H R = none := by
  cases e5 : H R with
  | none => rfl
  | some o => rw [s02 _ _ e5] at hR; cases hR
 let Pv15 : Nat → St → Hp → Prop := fun i σ H4 => ∃ (ws : List V) (rs' : List (List Int × Int)) (v4 v5 v6 v7 : Option V), σ = [some (.ref t), some (.ref l), some (.int (((cs.map V.int).length : Nat) : Int)), some (.ref R), v4, v5, v6, v7, none] ∧ H4 R = some (.lst ws) ∧ RowsAre K H4 ws rs' ∧ ws.length = i ∧ Same H H4
 refine ⟨_, rfl, t, _, _, _, rfl, rfl, s03.tup ht, at0, lP, rfl, ⟨_, s03.seq hlP⟩, for_list (K := K) (a := lP) (xs := vP) Pv15 ⟨[], [], none, none, none, none, rfl, h3, .nil, rfl, s03⟩ (fun i σ H4 _ h => ?_) ?_ ?_⟩
 ·obtain ⟨_, _, _, _, _, _, rfl, _, _, _, s4⟩ := h
  exact s4.seq hlP
 ·rintro i x σ H4 e1 ⟨ws, rs', v4, v5, v6, v7, rfl, hR4, hrw4, lw4, s4⟩
  have hi : i < vP.length := (kQ.mp e1).1
  obtain ⟨rw0, er0, tr, rfl, ⟨pr, hr1, hr2⟩⟩ := L2.paired_get hrP e1
  have hrl0 := hrl rw0 (zZ er0)
  refine ⟨tr, _, rfl, s4.tup hr1, rfl, _, _, rfl, _, _, rfl, rfl, ?_⟩
  refine ⟨by show 1 ≤ sizeLine; decide, fun pA hpA => ?_⟩
  have aA := same_new' hpA (.lst [.int 0])
  have bA : upd H4 pA (.lst [.int 0]) pA = some (.lst [.int 0]) := upd_same
  generalize upd H4 pA (.lst [.int 0]) = YA at aA bA ⊢
  refine ⟨_, rfl, pA, (((cs.map V.int).length : Nat) : Int), _, rfl, rfl, bA, by omega, by omega, by show 1 * ((((cs.map V.int).length : Nat) : Int)).toNat ≤ sizeLine; omega, fun gA hgA => ?_⟩
  rw [rep0]
  have dA := aA.trans (same_new' hgA (.lst ((List.replicate (cs.map V.int).length (0 : Int)).map V.int)))
  have eA : upd YA gA (.lst ((List.replicate (cs.map V.int).length (0 : Int)).map V.int)) gA = some (.lst ((List.replicate (cs.map V.int).length (0 : Int)).map V.int)) := upd_same
  have fA : H4 gA = none := by
   cases e5 : H4 gA with
   | none => rfl
   | some o => rw [aA _ _ e5] at hgA; cases hgA
  generalize upd YA gA (.lst ((List.replicate (cs.map V.int).length (0 : Int)).map V.int)) = ZA at dA eA ⊢
  have lA : (List.replicate (cs.map V.int).length (0 : Int)).length = cs.length := by rw [jYb, lc]
  generalize List.replicate (cs.map V.int).length (0 : Int) = zsA at eA lA
  have sA := s4.trans dA
  have gA0 : H gA = none := by
   cases e5 : H gA with
   | none => rfl
   | some o => rw [s4 _ _ e5] at fA; cases fA
  have gR : gA ≠ R := fun e => by rw [e, hR4] at fA; cases fA
  refine ⟨_, rfl, _, rfl, by omega, by omega, for_range (lo := 0) (n := Int.toNat (((cs.map V.int).length : Nat) : Int)) (fun j σ H5 => ∃ (v7 : Option V) (zs : List Int), σ = [some (.ref t), some (.ref l), some (.int (((cs.map V.int).length : Nat) : Int)), some (.ref R), some (.ref pr), some (.int rw0.2), some (.ref gA), v7, none] ∧ H5 gA = some (.lst (zs.map V.int)) ∧ zs.length = cs.length ∧ H5 R = some (.lst ws) ∧ RowsAre K H5 ws rs' ∧ Same H H5) ⟨v7, zsA, rfl, eA, lA, dA _ _ hR4, hrw4.imp fun _ _ z => z.same dA, sA⟩ ?_ ?_⟩
  ·rintro j σ H5 hj ⟨v7, zs, rfl, hg5, hl5, hR5, hrw5, s5⟩
   have hj' : j < cs.length := by rw [lc] at hj; omega
   obtain ⟨y, ey⟩ := atNsI (ns := rw0.1) (k := 0 + (j : Int)) (by omega) (by omega)
   obtain ⟨m, hm1, em⟩ := turn_at hts htn (k := 0 + (j : Int)) (by omega) (by omega)
   refine ⟨_, rfl, _, rfl, pr, _, _, _, rfl, rfl, s5.tup hr2, ey, _, rfl, _, rfl, _, rfl, l, _, _, _, rfl, rfl, s5.seq hlt, em, gA, _, _, m, rfl, rfl, hg5, ixNat (by rw [jQ]; omega), ?_⟩
   refine ⟨_, zs.set m y, rfl, by rw [upd_same, kXb], by rw [jXa]; exact hl5, by rw [upd_ne gR.symm]; exact hR5, hrw5.imp fun _ _ z => z.upd hg5, fun b o e => ?_⟩
   rw [upd_ne (ne_of_none e gA0)]; exact s5 _ _ e
  ·rintro σ H5 ⟨v7, zs, rfl, hg5, hl5, hR5, hrw5, s5⟩
   refine ⟨_, rfl, .inl ⟨rfl, _, sqL_new hR5⟩, _, rfl, gA, _, rfl, .inl ⟨sqL_new hg5, fun l3 hl3 => ⟨_, rfl, by show 2 ≤ sizeLine; decide, fun t3 ht3 => ?_⟩⟩⟩
   have s6 := (same_new' hl3 (.tup (zs.map V.int))).trans (same_new' ht3 (.tup [.ref l3, .int rw0.2]))
   have h6 : RowAt K (upd (upd H5 l3 (.tup (zs.map V.int))) t3 (.tup [.ref l3, .int rw0.2])) t3 (zs, rw0.2) := ⟨l3, sqT_new upd_same, (same_new' ht3 _).tup (sqT_new upd_same)⟩
   generalize upd (upd H5 l3 (.tup (zs.map V.int))) t3 (.tup [.ref l3, .int rw0.2]) = H6 at s6 h6 ⊢
   have hR6 := s6 _ _ hR5
   refine ⟨R, _, _, rfl, rfl, hR6, by omega, ws ++ [.ref t3], rs' ++ [(zs, rw0.2)], _, _, _, _, rfl, upd_same, ?_, by rw [jW, lw4]; rfl, fun b o e => ?_⟩
   ·exact RowsAre.snoc (hrw5.imp fun _ _ z => (z.same s6).upd hR6) (RowAt.upd hR6 h6)
   ·rw [upd_ne (ne_of_none e RH)]; exact s6 _ _ (s5 _ _ e)
 rintro σ H4 ⟨ws, rs', v4, v5, v6, v7, rfl, hR4, hrw4, lw4, s4⟩
 refine ⟨_, rfl, R, ws, rs', rfl, sqL_new hR4, hrw4, by omega, fun D4 w4 q4 hD4 hr4 hl4 _ _ => ?_⟩
 have a5 := same_new' hD4 (.lst w4)
 have h5 : upd H4 D4 (.lst w4) D4 = some (.lst w4) := upd_same
 generalize upd H4 D4 (.lst w4) = H5 at a5 h5 ⊢
 have s5 := s4.trans a5
 refine ⟨_, rfl, t, _, _, _, rfl, rfl, s5.tup ht, at0, lP, vP, rs, rfl, s5.seq hlP, hrP.imp fun _ _ z => z.same s5, by omega, fun D6 w6 q6 hD6 hr6 hl6 _ _ => ?_⟩
 have a6 := same_new' hD6 (.lst w6)
 have h6 : upd H5 D6 (.lst w6) D6 = some (.lst w6) := upd_same
 generalize upd H5 D6 (.lst w6) = H6 at a6 h6 ⊢
 have s6 := s5.trans a6
 refine ⟨D4, D6, _, _, rfl, rfl, RowsAre.hasD (sqL_new (a6 _ _ h5)) (hr4.imp fun _ _ z => z.same (a5.trans a6)), RowsAre.hasD (sqL_new h6) (hr6.imp fun _ _ z => z.same a6), alikeRows _ _, fun cc _ => ⟨_, rfl, ite2 (fun _ => iteT (q.1 _ s6)) (fun _ => ?_)⟩⟩
 refine ⟨_, rfl, l, rfl, ⟨_, s6.seq hlt⟩, fun D hD => ?_⟩
 let Pv16 : Nat → St → List V → Hp → Prop := fun i τ ys H7 => ∃ (v : Option V) (zs : List Int), τ = [v, some (.ref t)] ∧ ys = zs.map V.int ∧ zs.length = i ∧ H7 D = some (.lst ys) ∧ Same H6 H7
 refine lc_any (n := ts.length) Pv16 ?_ (fun i τ ys H7 hi h => ?_) (fun i τ ys H7 hi h => ?_) (fun τ ys H7 h => ?_) ?_ ?_
 ·exact ⟨none, [], rfl, rfl, rfl, upd_same, same_new' hD _⟩
 ·obtain ⟨v, zs, rfl, rfl, hl, hE, s7⟩ := h
  exact ⟨hE, by rw [jQ]; omega⟩
 ·obtain ⟨v, zs, rfl, rfl, hl, hE, s7⟩ := h
  exact ⟨_, .int ts[i], (s6.trans s7).seq hlt, by rw [kY, gE hi]; rfl⟩
 ·obtain ⟨v, zs, rfl, rfl, hl, hE, s7⟩ := h
  exact ⟨_, (s6.trans s7).seq hlt, by rw [jQ]; exact jX _⟩
 ·rintro i τ ys H7 x H9 hi ⟨v, zs, rfl, rfl, hl, hE, s7⟩ ⟨rfl, e1⟩
  obtain ⟨z, ez, rfl⟩ := getMapI (e1 _ ((s6.trans s7).seq hlt))
  obtain ⟨z0, z1⟩ := htn z (zZ ez)
  obtain ⟨y, ey⟩ := atNsI (ns := cs) (k := z) z0 z1
  refine ⟨_, rfl, t, _, _, _, rfl, rfl, (s6.trans s7).tup ht, at1, _, rfl, c, _, _, _, rfl, rfl, (s6.trans s7).tup hc, ey, hE, _, zs ++ [_], rfl, by rw [kW]; rfl, by rw [jW]; rw [hl]; rfl, upd_same, fun b o e => by rw [upd_ne (ne_of_none e hD)]; exact s7 _ _ e⟩
 rintro τ ys H7 ⟨v, zs, rfl, rfl, hl, hE, s7⟩
 have s67 := s6.trans s7
 refine ⟨_, rfl, t, _, _, _, rfl, rfl, s67.tup ht, at1, c, _, rfl, .inr (s67.tup hc), fun l8 hl8 => ?_⟩
 have a8 := same_new' hl8 (.lst (cs.map V.int))
 have h8 : upd H7 l8 (.lst (cs.map V.int)) l8 = some (.lst (cs.map V.int)) := upd_same
 generalize upd H7 l8 (.lst (cs.map V.int)) = H8 at a8 h8 ⊢
 have s8 := s67.trans a8
 refine ⟨D, l8, _, _, rfl, rfl, lstD (sqL_new (a8 _ _ hE)), lstD (sqL_new h8), alikeLst _ _, fun cc _ => ⟨_, rfl, ite2 (fun _ => q.1 _ s8) (fun _ => ?_)⟩⟩
 refine ⟨by show 1 ≤ sizeLine; decide, fun pB hpB => ?_⟩
 have aB := same_new' hpB (.lst [.int 0])
 have bB : upd H8 pB (.lst [.int 0]) pB = some (.lst [.int 0]) := upd_same
 generalize upd H8 pB (.lst [.int 0]) = YB at aB bB ⊢
 refine ⟨_, rfl, pB, (((cs.map V.int).length : Nat) : Int), _, rfl, rfl, bB, by omega, by omega, by show 1 * ((((cs.map V.int).length : Nat) : Int)).toNat ≤ sizeLine; omega, fun gB hgB => ?_⟩
 rw [rep0]
 have dB := aB.trans (same_new' hgB (.lst ((List.replicate (cs.map V.int).length (0 : Int)).map V.int)))
 have eB : upd YB gB (.lst ((List.replicate (cs.map V.int).length (0 : Int)).map V.int)) gB = some (.lst ((List.replicate (cs.map V.int).length (0 : Int)).map V.int)) := upd_same
 have fB : H8 gB = none := by
  cases e5 : H8 gB with
  | none => rfl
  | some o => rw [aB _ _ e5] at hgB; cases hgB
 generalize upd YB gB (.lst ((List.replicate (cs.map V.int).length (0 : Int)).map V.int)) = ZB at dB eB ⊢
 have lB : (List.replicate (cs.map V.int).length (0 : Int)).length = cs.length := by rw [jYb, lc]
 generalize List.replicate (cs.map V.int).length (0 : Int) = zsB at eB lB
 have sB := s8.trans dB
 have gB0 : H gB = none := by
  cases e5 : H gB with
  | none => rfl
  | some o => rw [s8 _ _ e5] at fB; cases fB
 refine ⟨_, rfl, _, _, rfl, rfl, _, rfl, _, rfl, ?_⟩
 rw [lc]
 refine ⟨_, _, _, rfl, ⟨by decide, by decide, smallDown (by omega)⟩, for_range3 (lo := (cs.length : Int) - 1) (c := -1) (n := (Builtin.Range.rangeSize ((cs.length : Int) - 1) (-1) (-1)).toNat) (fun i σ H9 => ∃ (v7 : Option V) (zs : List Int) (z : Int), σ = [some (.ref t), some (.ref l), some (.int (cs.length : Int)), some (.ref R), some (.ref gB), v5, v6, v7, some (.int z)] ∧ H9 gB = some (.lst (zs.map V.int)) ∧ zs.length = cs.length ∧ Same H H9) ⟨v7, zsB, 1, rfl, eB, lB, sB⟩ ?_ ?_⟩
 ·rintro i σ H9 hi ⟨v7, zs, z, rfl, hg9, hl9, s9⟩
  rw [rangeDown] at hi
  have ec : (cs.length : Int) - 1 + ((i : Nat) : Int) * (-1) = ((cs.length - 1 - i : Nat) : Int) := by omega
  rw [ec]
  have hcc : cs.length - 1 - i < cs.length := by omega
  generalize cs.length - 1 - i = k at hcc ⊢
  obtain ⟨y, ey⟩ := atNsI (ns := zs) (k := ((k : Nat) : Int)) (by omega) (by omega)
  obtain ⟨m, hm1, em⟩ := turn_at hts htn (k := ((k : Nat) : Int)) (by omega) (by omega)
  refine ⟨_, rfl, _, rfl, gB, _, _, _, rfl, rfl, sqL_new hg9, ey, _, rfl, _, _, rfl, rfl, _, rfl, _, rfl, gB, _, _, k, rfl, rfl, hg9, ixNat (by rw [jQ]; omega), ?_⟩
  have hg10 : upd H9 gB (.lst ((zs.map V.int).set k (.int (y + z)))) gB = some (.lst ((zs.set k (y + z)).map V.int)) := by rw [upd_same, kXb]
  have s10 : Same H (upd H9 gB (.lst ((zs.map V.int).set k (.int (y + z))))) := fun b o e => by rw [upd_ne (ne_of_none e gB0)]; exact s9 _ _ e
  generalize upd H9 gB (.lst ((zs.map V.int).set k (.int (y + z)))) = H10 at hg10 s10 ⊢
  have hl10 : (zs.set k (y + z)).length = cs.length := by rw [jXa]; exact hl9
  generalize zs.set k (y + z) = zs2 at hg10 hl10
  obtain ⟨y2, ey2⟩ := atNsI (ns := zs2) (k := ((m : Nat) : Int)) (by omega) (by omega)
  refine ⟨_, rfl, _, rfl, _, rfl, l, _, _, _, rfl, rfl, s10.seq hlt, em, gB, _, _, _, rfl, rfl, sqL_new hg10, ey2, _, rfl, _, _, rfl, rfl, _, rfl, _, rfl, _, rfl, l, _, _, _, rfl, rfl, s10.seq hlt, em, gB, _, _, m, rfl, rfl, hg10, ixNat (by rw [jQ]; omega), ?_⟩
  refine ⟨_, rfl, _, rfl, _, _, rfl, rfl, _, zs2.set m (y2 - z), _, rfl, by rw [upd_same, kXb], by rw [jXa]; exact hl10, fun b o e => ?_⟩
  rw [upd_ne (ne_of_none e gB0)]; exact s10 _ _ e
 ·rintro σ H9 ⟨v7, zs, z, rfl, hg9, hl9, s9⟩
  refine ⟨_, rfl, gB, _, rfl, .inl ⟨sqL_new hg9, fun l2 hl2 => ⟨by show 2 ≤ sizeLine; decide, fun t2 ht2 => ?_⟩⟩⟩
  exact q.2 t2 (zs, 0) _ ((s9.trans (same_new' hl2 _)).trans (same_new' ht2 _)) ⟨l2, sqT_new upd_same, (same_new' ht2 _).tup (sqT_new upd_same)⟩ hl9
end
abbrev sRow31 : Stmt := top 21
inductive DL where
 | giv (k : Int)
 | low (k : Int)
 | high (k : Int)
 | bet
 | sm (ps : List (Int × Int))
 | shr (o b : Int)
 | sht (o : Int) (hs : List (Int × Int))
 | eit (o p c : Int)
 | lik (ts : List Int)
def DLAt (K : Fg) (H : Hp) (u : Addr) : DL → Prop
 | .giv k => SqT K H u [.str "given", .int k]
 | .low k => SqT K H u [.str "low", .int k]
 | .high k => SqT K H u [.str "high", .int k]
 | .bet => SqT K H u [.str "better"]
 | .sm ps => ∃ l, SqT K H u [.str "sum", .ref l] ∧ HoldsAt K H l ps
 | .shr o b => SqT K H u [.str "share", .int o, .int b]
 | .sht o hs => ∃ l, SqT K H u [.str "shut", .int o, .ref l] ∧ HoldsAt K H l hs
 | .eit o p c => SqT K H u [.str "either", .int o, .int p, .int c]
 | .lik ts => ∃ l, SqT K H u [.str "like", .ref l] ∧ SqL K H l (ts.map V.int)
def DL.names : DL → List Int
 | .sm ps => ps.map (·.1)
 | .shr o _ => [o]
 | .sht o _ => [o]
 | .eit o p _ => [o, p]
 | _ => []
def DLok (n : Nat) : DL → Prop
 | .sm ps => ps.length ≤ 10 ∧ ∀ p ∈ ps, 0 ≤ p.2 ∧ p.2 ≤ 3
 | .shr _ b => 1 ≤ b ∧ b ≤ 3
 | .sht _ hs => HOk n hs
 | .lik ts => ts.length = n ∧ ∀ x ∈ ts, 0 ≤ x ∧ x < ((n : Nat) : Int)
 | _ => True
theorem DLAt.same {K : Fg} {H H' : Hp} {u : Addr} {ln : DL} (h : DLAt K H u ln) (s : Same H H') : DLAt K H' u ln := by
 cases ln with
 | sm ps => obtain ⟨l, h1, h2⟩ := h; exact ⟨l, s.tup h1, h2.same s⟩
 | sht o hs => obtain ⟨l, h1, h2⟩ := h; exact ⟨l, s.tup h1, h2.same s⟩
 | lik ts => obtain ⟨l, h1, h2⟩ := h; exact ⟨l, s.tup h1, s.seq h2⟩
 | giv k => exact s.tup h
 | low k => exact s.tup h
 | high k => exact s.tup h
 | bet => exact s.tup h
 | shr o b => exact s.tup h
 | eit o p c => exact s.tup h
def spRow31 (K : Fg) : Sp := fun vs H Q _ => ∃ (t h u : Addr) (rs hd : List (List Int × Int)) (cs : List Int) (bst : V) (ws : List V) (ln : DL), vs = [.ref t, bst, .ref h, .ref u] ∧ (bst = .non ∨ ∃ b, bst = .int b) ∧ ProbAt K H t rs cs ∧ (∀ r ∈ rs, r.1.length = cs.length) ∧ SqL K H h ws ∧ RowsAre K H ws hd ∧ hd.length ≤ 1000 ∧ (∀ r ∈ hd, r.1.length = cs.length) ∧ DLAt K H u ln ∧ DLok cs.length ln ∧ cs.length ≤ 20 ∧ rs.length ≤ 20 ∧ (∀ H', Same H H' → Q .non H') ∧
 ∀ t' r' H', Same H H' → RowAt K H' t' r' → r'.1.length = cs.length → (∀ i ∈ ln.names, 0 ≤ i ∧ i < ((hd.length : Nat) : Int)) → Q (.ref t') H'
theorem at30 {x y z : V} : atI [x, y, z] 0 = some x := by rfl
theorem at31 {x y z : V} : atI [x, y, z] 1 = some y := by rfl
theorem at32 {x y z : V} : atI [x, y, z] 2 = some z := by rfl
theorem at40 {x y z v : V} : atI [x, y, z, v] 0 = some x := by rfl
theorem at41 {x y z v : V} : atI [x, y, z, v] 1 = some y := by rfl
theorem at42 {x y z v : V} : atI [x, y, z, v] 2 = some z := by rfl
theorem at43 {x y z v : V} : atI [x, y, z, v] 3 = some v := by rfl
section
variable {P : Program} {w : World} {K : Fg} {mg : Str → Option Value} {base : Heap}
theorem scRow31 : FnScope ["_law_problem_here", "_law_best", "_law_heard", "_law_line"] ["_law_problem_here", "_law_best", "_law_heard", "_law_line"] (defScope sRow31) := ⟨rfl, rfl, rfl, by decide +kernel, rfl, by decide +kernel, by decide +kernel⟩
theorem okRow31 (F : Fn K mg "_law_row" sRow31) (M : Mg mg) (cl_simple : Cal P w K mg base 2 "_law_simple" ["_law_problem_here", "_law_best", "_law_line"] (spSim K)) (cl_summed : Cal P w K mg base 2 "_law_summed" ["_law_problem_here", "_law_heard", "_law_parts"] (spSum K)) (cl_like : Cal P w K mg base 1 "_law_like" ["_law_problem_here", "_law_turn_here"] (spLik K)) (cl_is : Cal P w K mg base 1 "_law_is" ["_law_thing", "_law_most_here"] (spIs31)) (cl_shared : Cal P w K mg base 1 "_law_shared" ["_law_row_here", "_law_by"] (spShr K)) (cl_shut : Cal P w K mg base 2 "_law_shut" ["_law_row_here", "_law_holds_here"] (spSht K)) (cl_either : Cal P w K mg base 1 "_law_either" ["_law_one", "_law_other", "_law_at"] (spEit K)) : Cal P w K mg base 3 "_law_row" ["_law_problem_here", "_law_best", "_law_heard", "_law_line"] (spRow31 K) := by
 refine cal_of F scRow31 (fun _ _ _ _ _ _ => bind4 (fun _ _ _ _ => rfl)) (fun vs H Q E h => ?_) (fun f cdv A outer s H vs Q E hr h => ?_)
 ·obtain ⟨t, h, u, rs, hd, cs, bst, ws, ln, rfl, _⟩ := h
  rfl
 obtain ⟨t, h, u, rs, hd, cs, bst, ws, ln, rfl, hbst, hP, hrl, hw, hrw, hd9, hdl, hLn, hok, hn, hm, qn, qr⟩ := h
 have hu : (A.deeper (PyProof.Rows.envOfC "_law_row" (defScope sRow31) s.heap.objs.size f cdv)).units + 1 < cLine := xJ (wK (by decide) _) hr.un
 refine ⟨_, (pss_cons (ps_if (PW.pt (pw_or (pt_not (pt_val (pe_callB call_isiW rfl M.isinstance bt_isinstance (pa_cons (pv 3) (pa_cons (pe_ty M.tuple_ bt_tuple) pa_nil))))) (pw_or1 (pt_cmpR op_eq (pe_callB call_len_seq rfl M.len bt_len (pa_cons (pv 3) pa_nil)) pe_int (nomark _))))) (pss_one (ps_ret pe_non)) pss_nil)
  (pss_cons (ps_if (pt_cmpR op_in_seq (pe_ix ix_tup (pv 3) pe_int (fun _ _ => rfl)) (pe_tup (pa_cons pe_str (pa_cons pe_str (pa_cons pe_str (pa_cons pe_str pa_nil))))) rfl) (pss_one (ps_ret (pe_fn cl_simple (hr.mono (by decide)) (pa_cons (pv 0) (pa_cons (pv 1) (pa_cons (pv 3) pa_nil)))))) pss_nil)
  (pss_cons (ps_if (PW.pt (pw_and (pt_cmpR op_eq (pe_ix ix_tup (pv 3) pe_int (fun _ _ => rfl)) pe_str (nomark _)) (pw_and1 (pt_cmpR op_eq (pe_callB call_len_seq rfl M.len bt_len (pa_cons (pv 3) pa_nil)) pe_int (nomark _))))) (pss_one (ps_ret (pe_fn cl_summed (hr.mono (by decide)) (pa_cons (pv 0) (pa_cons (pv 2) (pa_cons (pe_ix ix_tup (pv 3) pe_int (fun _ _ => rfl)) pa_nil)))))) pss_nil)
  (pss_cons (ps_if (PW.pt (pw_and (pt_cmpR op_eq (pe_ix ix_tup (pv 3) pe_int (fun _ _ => rfl)) pe_str (nomark _)) (pw_and1 (pt_cmpR op_eq (pe_callB call_len_seq rfl M.len bt_len (pa_cons (pv 3) pa_nil)) pe_int (nomark _))))) (pss_one (ps_ret (pe_fn cl_like (hr.mono (by decide)) (pa_cons (pv 0) (pa_cons (pe_ix ix_tup (pv 3) pe_int (fun _ _ => rfl)) pa_nil))))) pss_nil)
  (pss_cons (ps_if (PW.pt (pw_or (pt_cmpR op_lt (pe_callB call_len_seq rfl M.len bt_len (pa_cons (pv 3) pa_nil)) pe_int (nomark _)) (pw_or1 (pt_not (pt_val (pe_fn cl_is (hr.mono (by decide)) (pa_cons (pe_ix ix_tup (pv 3) pe_int (fun _ _ => rfl)) (pa_cons (pe_callB call_len_seq rfl M.len bt_len (pa_cons (pv 2) pa_nil)) pa_nil)))))))) (pss_one (ps_ret pe_non)) pss_nil)
  (pss_cons (ps_if (PW.pt (pw_and (pt_cmpR op_eq (pe_ix ix_tup (pv 3) pe_int (fun _ _ => rfl)) pe_str (nomark _)) (pw_and1 (pt_cmpR op_eq (pe_callB call_len_seq rfl M.len bt_len (pa_cons (pv 3) pa_nil)) pe_int (nomark _))))) (pss_one (ps_ret (pe_fn cl_shared (hr.mono (by decide)) (pa_cons (pe_ix ix_list (pv 2) (pe_ix ix_tup (pv 3) pe_int (fun _ _ => rfl)) (fun _ _ => rfl)) (pa_cons (pe_ix ix_tup (pv 3) pe_int (fun _ _ => rfl)) pa_nil))))) pss_nil)
  (pss_cons (ps_if (PW.pt (pw_and (pt_cmpR op_eq (pe_ix ix_tup (pv 3) pe_int (fun _ _ => rfl)) pe_str (nomark _)) (pw_and1 (pt_cmpR op_eq (pe_callB call_len_seq rfl M.len bt_len (pa_cons (pv 3) pa_nil)) pe_int (nomark _))))) (pss_one (ps_ret (pe_fn cl_shut (hr.mono (by decide)) (pa_cons (pe_ix ix_list (pv 2) (pe_ix ix_tup (pv 3) pe_int (fun _ _ => rfl)) (fun _ _ => rfl)) (pa_cons (pe_ix ix_tup (pv 3) pe_int (fun _ _ => rfl)) pa_nil))))) pss_nil)
  (pss_cons (ps_if (PW.pt (pw_and (pt_cmpR op_eq (pe_ix ix_tup (pv 3) pe_int (fun _ _ => rfl)) pe_str (nomark _)) (pw_and (pt_cmpR op_eq (pe_callB call_len_seq rfl M.len bt_len (pa_cons (pv 3) pa_nil)) pe_int (nomark _)) (pw_and (pt_val (pe_fn cl_is (hr.mono (by decide)) (pa_cons (pe_ix ix_tup (pv 3) pe_int (fun _ _ => rfl)) (pa_cons (pe_callB call_len_seq rfl M.len bt_len (pa_cons (pv 2) pa_nil)) pa_nil)))) (pw_and1 (pt_val (pe_fn cl_is (hr.mono (by decide)) (pa_cons (pe_ix ix_tup (pv 3) pe_int (fun _ _ => rfl)) (pa_cons (pe_callB call_len_seq rfl M.len bt_len (pa_cons (pe_ix ix_tup (pv 0) pe_int (fun _ _ => rfl)) pa_nil)) pa_nil))))))))) (pss_one (ps_ret (pe_fn cl_either (hr.mono (by decide)) (pa_cons (pe_ix ix_list (pv 2) (pe_ix ix_tup (pv 3) pe_int (fun _ _ => rfl)) (fun _ _ => rfl)) (pa_cons (pe_ix ix_list (pv 2) (pe_ix ix_tup (pv 3) pe_int (fun _ _ => rfl)) (fun _ _ => rfl)) (pa_cons (pe_ix ix_tup (pv 3) pe_int (fun _ _ => rfl)) pa_nil)))))) pss_nil)
  (pss_one (ps_ret pe_non)))))))))), ?_⟩
 refine seq_let9 ?_
 intro rT9 rT8 rT7 rT6 rT5 rT4 rT3 rT2
 obtain ⟨lP, cP, vP, p1, p2, p3, p4⟩ := id hP
 have lw := Paired.length hrw
 cases ln with
 | giv k =>
  have hu : SqT K H u _ := hLn
  refine ⟨_, rfl, _, "tuple", true, rfl, .tuple, .inl ⟨⟨_, hu⟩, rfl⟩, _, rfl, iteF ⟨_, rfl, u, _, rfl, .inr hu, rfl, _, rfl, iteF ?_⟩⟩
  refine ⟨_, rfl, u, _, _, _, rfl, rfl, hu, at0, by show 4 ≤ sizeLine; decide, fun T fT => ?_⟩
  have sT := same_new' fT (.tup [.str "given", .str "low", .str "high", .str "better"])
  refine ⟨T, _, rfl, .inr (sqT_new upd_same), rfl, rfl, _, rfl, ite2 (fun _ => ?_) (fun e => absurd (by decide +kernel) e)⟩
  exact ⟨_, rfl, _, rfl, _, rfl, t, u, rs, cs, bst, rfl, hbst, ProbAt.same sT hP, hrl, .inr ⟨k, .inl (sT.tup hu)⟩, by omega, by omega, fun H' s' => qn H' (sT.trans s'), fun t' r' H' s' hr' hl' => qr t' r' H' (sT.trans s') hr' hl' fun _ h => (nomatch h)⟩
 | low k =>
  have hu : SqT K H u _ := hLn
  refine ⟨_, rfl, _, "tuple", true, rfl, .tuple, .inl ⟨⟨_, hu⟩, rfl⟩, _, rfl, iteF ⟨_, rfl, u, _, rfl, .inr hu, rfl, _, rfl, iteF ?_⟩⟩
  refine ⟨_, rfl, u, _, _, _, rfl, rfl, hu, at0, by show 4 ≤ sizeLine; decide, fun T fT => ?_⟩
  have sT := same_new' fT (.tup [.str "given", .str "low", .str "high", .str "better"])
  refine ⟨T, _, rfl, .inr (sqT_new upd_same), rfl, rfl, _, rfl, ite2 (fun _ => ?_) (fun e => absurd (by decide +kernel) e)⟩
  exact ⟨_, rfl, _, rfl, _, rfl, t, u, rs, cs, bst, rfl, hbst, ProbAt.same sT hP, hrl, .inr ⟨k, .inr (.inl (sT.tup hu))⟩, by omega, by omega, fun H' s' => qn H' (sT.trans s'), fun t' r' H' s' hr' hl' => qr t' r' H' (sT.trans s') hr' hl' fun _ h => (nomatch h)⟩
 | high k =>
  have hu : SqT K H u _ := hLn
  refine ⟨_, rfl, _, "tuple", true, rfl, .tuple, .inl ⟨⟨_, hu⟩, rfl⟩, _, rfl, iteF ⟨_, rfl, u, _, rfl, .inr hu, rfl, _, rfl, iteF ?_⟩⟩
  refine ⟨_, rfl, u, _, _, _, rfl, rfl, hu, at0, by show 4 ≤ sizeLine; decide, fun T fT => ?_⟩
  have sT := same_new' fT (.tup [.str "given", .str "low", .str "high", .str "better"])
  refine ⟨T, _, rfl, .inr (sqT_new upd_same), rfl, rfl, _, rfl, ite2 (fun _ => ?_) (fun e => absurd (by decide +kernel) e)⟩
  exact ⟨_, rfl, _, rfl, _, rfl, t, u, rs, cs, bst, rfl, hbst, ProbAt.same sT hP, hrl, .inr ⟨k, .inr (.inr (sT.tup hu))⟩, by omega, by omega, fun H' s' => qn H' (sT.trans s'), fun t' r' H' s' hr' hl' => qr t' r' H' (sT.trans s') hr' hl' fun _ h => (nomatch h)⟩
 | bet =>
  have hu : SqT K H u _ := hLn
  refine ⟨_, rfl, _, "tuple", true, rfl, .tuple, .inl ⟨⟨_, hu⟩, rfl⟩, _, rfl, iteF ⟨_, rfl, u, _, rfl, .inr hu, rfl, _, rfl, iteF ?_⟩⟩
  refine ⟨_, rfl, u, _, _, _, rfl, rfl, hu, at10, by show 4 ≤ sizeLine; decide, fun T fT => ?_⟩
  have sT := same_new' fT (.tup [.str "given", .str "low", .str "high", .str "better"])
  refine ⟨T, _, rfl, .inr (sqT_new upd_same), rfl, rfl, _, rfl, ite2 (fun _ => ?_) (fun e => absurd (by decide +kernel) e)⟩
  exact ⟨_, rfl, _, rfl, _, rfl, t, u, rs, cs, bst, rfl, hbst, ProbAt.same sT hP, hrl, .inl (sT.tup hu), by omega, by omega, fun H' s' => qn H' (sT.trans s'), fun t' r' H' s' hr' hl' => qr t' r' H' (sT.trans s') hr' hl' fun _ h => (nomatch h)⟩
 | sm ps =>
  obtain ⟨l, hu, hl⟩ := id hLn
  refine ⟨_, rfl, _, "tuple", true, rfl, .tuple, .inl ⟨⟨_, hu⟩, rfl⟩, _, rfl, iteF ⟨_, rfl, u, _, rfl, .inr hu, rfl, _, rfl, iteF ?_⟩⟩
  refine ⟨_, rfl, u, _, _, _, rfl, rfl, hu, at0, by show 4 ≤ sizeLine; decide, fun T fT => ?_⟩
  have sT := same_new' fT (.tup [.str "given", .str "low", .str "high", .str "better"])
  refine ⟨T, _, rfl, .inr (sqT_new upd_same), rfl, rfl, _, rfl, ite2 (fun e => absurd e (by decide +kernel)) (fun _ => ?_)⟩
  generalize upd H T (.tup [.str "given", .str "low", .str "high", .str "better"]) = H1 at sT ⊢
  have hu1 := sT.tup hu
  refine ⟨_, rfl, u, _, _, _, rfl, rfl, hu1, at0, rfl, _, rfl, ite2 (fun _ => ?_) (fun e => absurd (by decide +kernel) e)⟩
  refine ⟨_, rfl, u, _, rfl, .inr hu1, rfl, _, rfl, ite2 (fun _ => ?_) (fun e => absurd (by simp) e)⟩
  exact ⟨_, rfl, _, rfl, _, rfl, u, _, _, _, rfl, rfl, hu1, at1, t, h, l, rs, hd, cs, ws, ps, rfl, ProbAt.same sT hP, sT.seq hw, hrw.imp fun _ _ z => z.same sT, hdl, hd9, hl.same sT, hok.2, by omega, fun H' s' => qn H' (sT.trans s'), fun t' r' H' s' hr' hl' hp => qr t' r' H' (sT.trans s') hr' hl' fun i hi => (by
   obtain ⟨p, hp', rfl⟩ := wJ.mp hi
   exact hp p hp')⟩
 | lik ts =>
  obtain ⟨l, hu, hl⟩ := id hLn
  refine ⟨_, rfl, _, "tuple", true, rfl, .tuple, .inl ⟨⟨_, hu⟩, rfl⟩, _, rfl, iteF ⟨_, rfl, u, _, rfl, .inr hu, rfl, _, rfl, iteF ?_⟩⟩
  refine ⟨_, rfl, u, _, _, _, rfl, rfl, hu, at0, by show 4 ≤ sizeLine; decide, fun T fT => ?_⟩
  have sT := same_new' fT (.tup [.str "given", .str "low", .str "high", .str "better"])
  refine ⟨T, _, rfl, .inr (sqT_new upd_same), rfl, rfl, _, rfl, ite2 (fun e => absurd e (by decide +kernel)) (fun _ => ?_)⟩
  generalize upd H T (.tup [.str "given", .str "low", .str "high", .str "better"]) = H1 at sT ⊢
  have hu1 := sT.tup hu
  refine ⟨_, rfl, u, _, _, _, rfl, rfl, hu1, at0, rfl, _, rfl, ite2 (fun e => absurd e (by decide +kernel)) (fun _ => iteF ?_)⟩
  refine ⟨_, rfl, u, _, _, _, rfl, rfl, hu1, at0, rfl, _, rfl, ite2 (fun _ => ?_) (fun e => absurd (by decide +kernel) e)⟩
  refine ⟨_, rfl, u, _, rfl, .inr hu1, rfl, _, rfl, ite2 (fun _ => ?_) (fun e => absurd (by simp) e)⟩
  exact ⟨_, rfl, _, rfl, u, _, _, _, rfl, rfl, hu1, at1, t, l, rs, cs, ts, rfl, ProbAt.same sT hP, hrl, sT.seq hl, hok.1, hok.2, hn, hm, fun H' s' => qn H' (sT.trans s'), fun t' r' H' s' hr' hl' => qr t' r' H' (sT.trans s') hr' hl' fun _ h => (nomatch h)⟩
 | shr o b =>
  have hu : SqT K H u _ := hLn
  refine ⟨_, rfl, _, "tuple", true, rfl, .tuple, .inl ⟨⟨_, hu⟩, rfl⟩, _, rfl, iteF ⟨_, rfl, u, _, rfl, .inr hu, rfl, _, rfl, iteF ?_⟩⟩
  refine ⟨_, rfl, u, _, _, _, rfl, rfl, hu, at30, by show 4 ≤ sizeLine; decide, fun T fT => ?_⟩
  have sT := same_new' fT (.tup [.str "given", .str "low", .str "high", .str "better"])
  refine ⟨T, _, rfl, .inr (sqT_new upd_same), rfl, rfl, _, rfl, ite2 (fun e => absurd e (by decide +kernel)) (fun _ => ?_)⟩
  generalize upd H T (.tup [.str "given", .str "low", .str "high", .str "better"]) = H1 at sT ⊢
  have hu1 := sT.tup hu
  refine ⟨_, rfl, u, _, _, _, rfl, rfl, hu1, at30, rfl, _, rfl, ite2 (fun e => absurd e (by decide +kernel)) (fun _ => iteF ?_)⟩
  refine ⟨_, rfl, u, _, _, _, rfl, rfl, hu1, at30, rfl, _, rfl, ite2 (fun e => absurd e (by decide +kernel)) (fun _ => iteF ?_)⟩
  refine ⟨_, rfl, u, _, rfl, .inr hu1, _, _, rfl, rfl, _, rfl, ite2 (fun e => absurd e (by simp)) (fun _ => ?_)⟩
  refine ⟨_, rfl, u, _, _, _, rfl, rfl, hu1, at31, _, rfl, h, _, rfl, .inl (sT.seq hw), o, _, rfl, fun bb hbb => ⟨_, rfl, ite2 (fun _ => qn _ sT) (fun y => ?_)⟩⟩
  have hbt : bb = true := by
   cases bb with
   | true => rfl
   | false => exact absurd rfl y
  obtain ⟨o0, o1⟩ := hbb.mp hbt
  rw [lw] at o1
  obtain ⟨tr, r, etr, hR, hrm⟩ := row_at (hrw.imp fun _ _ z => z.same sT) o0 o1
  have hrln := hdl r hrm
  refine ⟨_, rfl, u, _, _, _, rfl, rfl, hu1, at30, rfl, _, rfl, ite2 (fun _ => ?_) (fun e => absurd (by decide +kernel) e)⟩
  refine ⟨_, rfl, u, _, rfl, .inr hu1, rfl, _, rfl, ite2 (fun _ => ?_) (fun e => absurd (by simp) e)⟩
  exact ⟨_, rfl, _, rfl, u, _, _, _, rfl, rfl, hu1, at31, h, _, _, _, rfl, rfl, sT.seq hw, etr, _, rfl, u, _, _, _, rfl, rfl, hu1, at32, tr, r, b, rfl, hR, hok.1, hok.2, by omega, fun H' s' => qn H' (sT.trans s'), fun t' r' H' s' hr' hl' => qr t' r' H' (sT.trans s') hr' (hl'.trans hrln) fun i hi => (by rw [kX.mp hi]; exact ⟨o0, o1⟩)⟩
 | sht o hs =>
  obtain ⟨l, hu, hl⟩ := id hLn
  refine ⟨_, rfl, _, "tuple", true, rfl, .tuple, .inl ⟨⟨_, hu⟩, rfl⟩, _, rfl, iteF ⟨_, rfl, u, _, rfl, .inr hu, rfl, _, rfl, iteF ?_⟩⟩
  refine ⟨_, rfl, u, _, _, _, rfl, rfl, hu, at30, by show 4 ≤ sizeLine; decide, fun T fT => ?_⟩
  have sT := same_new' fT (.tup [.str "given", .str "low", .str "high", .str "better"])
  refine ⟨T, _, rfl, .inr (sqT_new upd_same), rfl, rfl, _, rfl, ite2 (fun e => absurd e (by decide +kernel)) (fun _ => ?_)⟩
  generalize upd H T (.tup [.str "given", .str "low", .str "high", .str "better"]) = H1 at sT ⊢
  have hu1 := sT.tup hu
  refine ⟨_, rfl, u, _, _, _, rfl, rfl, hu1, at30, rfl, _, rfl, ite2 (fun e => absurd e (by decide +kernel)) (fun _ => iteF ?_)⟩
  refine ⟨_, rfl, u, _, _, _, rfl, rfl, hu1, at30, rfl, _, rfl, ite2 (fun e => absurd e (by decide +kernel)) (fun _ => iteF ?_)⟩
  refine ⟨_, rfl, u, _, rfl, .inr hu1, _, _, rfl, rfl, _, rfl, ite2 (fun e => absurd e (by simp)) (fun _ => ?_)⟩
  refine ⟨_, rfl, u, _, _, _, rfl, rfl, hu1, at31, _, rfl, h, _, rfl, .inl (sT.seq hw), o, _, rfl, fun bb hbb => ⟨_, rfl, ite2 (fun _ => qn _ sT) (fun y => ?_)⟩⟩
  have hbt : bb = true := by
   cases bb with
   | true => rfl
   | false => exact absurd rfl y
  obtain ⟨o0, o1⟩ := hbb.mp hbt
  rw [lw] at o1
  obtain ⟨tr, r, etr, hR, hrm⟩ := row_at (hrw.imp fun _ _ z => z.same sT) o0 o1
  have hrln := hdl r hrm
  refine ⟨_, rfl, u, _, _, _, rfl, rfl, hu1, at30, rfl, _, rfl, ite2 (fun e => absurd e (by decide +kernel)) (fun _ => iteF ?_)⟩
  refine ⟨_, rfl, u, _, _, _, rfl, rfl, hu1, at30, rfl, _, rfl, ite2 (fun _ => ?_) (fun e => absurd (by decide +kernel) e)⟩
  refine ⟨_, rfl, u, _, rfl, .inr hu1, rfl, _, rfl, ite2 (fun _ => ?_) (fun e => absurd (by simp) e)⟩
  exact ⟨_, rfl, _, rfl, u, _, _, _, rfl, rfl, hu1, at31, h, _, _, _, rfl, rfl, sT.seq hw, etr, _, rfl, u, _, _, _, rfl, rfl, hu1, at32, tr, l, r, hs, rfl, hR, hl.same sT, (by rw [hrln]; exact hok), by omega, fun H' s' => qn H' (sT.trans s'), fun t' r' H' s' hr' hl' => qr t' r' H' (sT.trans s') hr' (hl'.trans hrln) fun i hi => (by rw [kX.mp hi]; exact ⟨o0, o1⟩)⟩
 | eit o p c =>
  have hu : SqT K H u _ := hLn
  refine ⟨_, rfl, _, "tuple", true, rfl, .tuple, .inl ⟨⟨_, hu⟩, rfl⟩, _, rfl, iteF ⟨_, rfl, u, _, rfl, .inr hu, rfl, _, rfl, iteF ?_⟩⟩
  refine ⟨_, rfl, u, _, _, _, rfl, rfl, hu, at40, by show 4 ≤ sizeLine; decide, fun T fT => ?_⟩
  have sT := same_new' fT (.tup [.str "given", .str "low", .str "high", .str "better"])
  refine ⟨T, _, rfl, .inr (sqT_new upd_same), rfl, rfl, _, rfl, ite2 (fun e => absurd e (by decide +kernel)) (fun _ => ?_)⟩
  generalize upd H T (.tup [.str "given", .str "low", .str "high", .str "better"]) = H1 at sT ⊢
  have hu1 := sT.tup hu
  refine ⟨_, rfl, u, _, _, _, rfl, rfl, hu1, at40, rfl, _, rfl, ite2 (fun e => absurd e (by decide +kernel)) (fun _ => iteF ?_)⟩
  refine ⟨_, rfl, u, _, _, _, rfl, rfl, hu1, at40, rfl, _, rfl, ite2 (fun e => absurd e (by decide +kernel)) (fun _ => iteF ?_)⟩
  refine ⟨_, rfl, u, _, rfl, .inr hu1, _, _, rfl, rfl, _, rfl, ite2 (fun e => absurd e (by simp)) (fun _ => ?_)⟩
  refine ⟨_, rfl, u, _, _, _, rfl, rfl, hu1, at41, _, rfl, h, _, rfl, .inl (sT.seq hw), o, _, rfl, fun bb hbb => ⟨_, rfl, ite2 (fun _ => qn _ sT) (fun y => ?_)⟩⟩
  have hbt : bb = true := by
   cases bb with
   | true => rfl
   | false => exact absurd rfl y
  obtain ⟨o0, o1⟩ := hbb.mp hbt
  rw [lw] at o1
  obtain ⟨tr, r, etr, hR, hrm⟩ := row_at (hrw.imp fun _ _ z => z.same sT) o0 o1
  have hrln := hdl r hrm
  refine ⟨_, rfl, u, _, _, _, rfl, rfl, hu1, at40, rfl, _, rfl, ite2 (fun e => absurd e (by decide +kernel)) (fun _ => iteF ?_)⟩
  refine ⟨_, rfl, u, _, _, _, rfl, rfl, hu1, at40, rfl, _, rfl, ite2 (fun e => absurd e (by decide +kernel)) (fun _ => iteF ?_)⟩
  refine ⟨_, rfl, u, _, _, _, rfl, rfl, hu1, at40, rfl, _, rfl, ite2 (fun _ => ?_) (fun e => absurd (by decide +kernel) e)⟩
  refine ⟨_, rfl, u, _, rfl, .inr hu1, rfl, _, rfl, ite2 (fun _ => ?_) (fun e => absurd (by simp) e)⟩
  refine ⟨_, rfl, u, _, _, _, rfl, rfl, hu1, at42, _, rfl, h, _, rfl, .inl (sT.seq hw), p, _, rfl, fun b2 hb2 => ⟨_, rfl, ite2 (fun y2 => ?_) (fun _ => iteF (qn _ sT))⟩⟩
  obtain ⟨q0, q1⟩ := hb2.mp y2
  rw [lw] at q1
  obtain ⟨tr2, r2, etr2, hR2, hrm2⟩ := row_at (hrw.imp fun _ _ z => z.same sT) q0 q1
  refine ⟨_, rfl, u, _, _, _, rfl, rfl, hu1, at43, _, rfl, t, _, _, _, rfl, rfl, sT.tup p1, at1, cP, _, rfl, .inr (sT.tup p4), c, _, rfl, fun b3 hb3 => ⟨_, rfl, ite2 (fun y3 => ?_) (fun _ => qn _ sT)⟩⟩
  obtain ⟨c0, c1⟩ := hb3.mp y3
  rw [jQ] at c1
  obtain ⟨c', rfl⟩ : ∃ c' : Nat, c = (c' : Int) := ⟨c.toNat, by omega⟩
  exact ⟨_, rfl, _, rfl, u, _, _, _, rfl, rfl, hu1, at41, h, _, _, _, rfl, rfl, sT.seq hw, etr, _, rfl, _, rfl, u, _, _, _, rfl, rfl, hu1, at42, h, _, _, _, rfl, rfl, sT.seq hw, etr2, _, rfl, u, _, _, _, rfl, rfl, hu1, at43, tr, tr2, r, r2, c', cs.length, rfl, hR, hR2, hrln, hdl r2 hrm2, by omega, by omega, fun H' s' => qn H' (sT.trans s'), fun t' r' H' s' hr' hl' => qr t' r' H' (sT.trans s') hr' hl' fun i hi => (by
   rcases wY.mp hi with e | e
   ·rw [e]; exact ⟨o0, o1⟩
   ·rw [kX.mp e]; exact ⟨q0, q1⟩)⟩
end
abbrev sTurn : Stmt := top 24
theorem bt_divmod : bootBuiltins "divmod" = some (.builtin "divmod") := by decide +kernel
theorem ins_ints (ns : List Int) (k : Nat) (y : Int) : insV (ns.map V.int) k (.int y) = (ns.take k ++ y :: ns.drop k).map V.int := by
 unfold insV
 rw [kW, xK, List.map_take, List.map_drop]
def spTrn (K : Fg) : Sp := fun vs H Q _ => ∃ (z : Int) (n : Nat), vs = [.int z, .int (n : Int)] ∧ n ≤ 20 ∧ ∀ (l : Addr) (ts : List Int) (H' : Hp), Same H H' → H l = none → H' l = some (.lst (ts.map V.int)) → ts.length = n → (∀ x ∈ ts, 0 ≤ x ∧ x < ((n : Nat) : Int)) → Q (.ref l) H'
def DLN (K : Fg) (H0 H : Hp) (u : Addr) : DL → Prop
 | .sm ps => ∃ l ws, H0 l = none ∧ SqT K H u [.str "sum", .ref l] ∧ H l = some (.lst ws) ∧ PairsAre K H ws (ps.map fun p => (p.1, V.int p.2))
 | .sht o hs => ∃ l ws, H0 l = none ∧ SqT K H u [.str "shut", .int o, .ref l] ∧ H l = some (.lst ws) ∧ PairsAre K H ws (hs.map fun p => (p.1, V.int p.2))
 | .lik ts => ∃ l, H0 l = none ∧ SqT K H u [.str "like", .ref l] ∧ H l = some (.lst (ts.map V.int))
 | ln => DLAt K H u ln
theorem DLN.dlat {K : Fg} {H0 H : Hp} {u : Addr} {ln : DL} (h : DLN K H0 H u ln) : DLAt K H u ln := by
 cases ln with
 | sm ps => obtain ⟨l, ws, _, h1, h2, h3⟩ := h; exact ⟨l, h1, ws, sqL_new h2, h3⟩
 | sht o hs => obtain ⟨l, ws, _, h1, h2, h3⟩ := h; exact ⟨l, h1, ws, sqL_new h2, h3⟩
 | lik ts => obtain ⟨l, _, h1, h2⟩ := h; exact ⟨l, h1, sqL_new h2⟩
 | giv k => exact h
 | low k => exact h
 | high k => exact h
 | bet => exact h
 | shr o b => exact h
 | eit o p c => exact h
theorem PairsAre.updL {K : Fg} {H : Hp} {g : Addr} {xs ys : List V} (hg : H g = some (.lst xs)) {vs : List V} {ps : List (Int × V)} (h : PairsAre K H vs ps) : PairsAre K (upd H g (.lst ys)) vs ps := Paired.mapP h fun _ _ ⟨t, e1, z⟩ => ⟨t, e1, SqT_upd hg z⟩
theorem DLN.updL {K : Fg} {H0 H : Hp} {u g : Addr} {xs ys : List V} {ln : DL} (h : DLN K H0 H u ln) (hg : H g = some (.lst xs)) (h0 : H0 g ≠ none) : DLN K H0 (upd H g (.lst ys)) u ln := by
 have ne : ∀ l, H0 l = none → l ≠ g := fun l e z => h0 (by rw [← z]; exact e)
 cases ln with
 | sm ps => obtain ⟨l, ws, n, h1, h2, h3⟩ := h; exact ⟨l, ws, n, SqT_upd hg h1, by rw [upd_ne (ne l n)]; exact h2, PairsAre.updL hg h3⟩
 | sht o hs => obtain ⟨l, ws, n, h1, h2, h3⟩ := h; exact ⟨l, ws, n, SqT_upd hg h1, by rw [upd_ne (ne l n)]; exact h2, PairsAre.updL hg h3⟩
 | lik ts => obtain ⟨l, n, h1, h2⟩ := h; exact ⟨l, n, SqT_upd hg h1, by rw [upd_ne (ne l n)]; exact h2⟩
 | giv k => exact SqT_upd hg h
 | low k => exact SqT_upd hg h
 | high k => exact SqT_upd hg h
 | bet => exact SqT_upd hg h
 | shr o b => exact SqT_upd hg h
 | eit o p c => exact SqT_upd hg h
theorem DLN.same {K : Fg} {H0 H H' : Hp} {u : Addr} {ln : DL} (h : DLN K H0 H u ln) (s : Same H H') : DLN K H0 H' u ln := by
 cases ln with
 | sm ps => obtain ⟨l, ws, n, h1, h2, h3⟩ := h; exact ⟨l, ws, n, s.tup h1, s _ _ h2, PairsAre.same s h3⟩
 | sht o hs => obtain ⟨l, ws, n, h1, h2, h3⟩ := h; exact ⟨l, ws, n, s.tup h1, s _ _ h2, PairsAre.same s h3⟩
 | lik ts => obtain ⟨l, n, h1, h2⟩ := h; exact ⟨l, n, s.tup h1, s _ _ h2⟩
 | giv k => exact s.tup h
 | low k => exact s.tup h
 | high k => exact s.tup h
 | bet => exact s.tup h
 | shr o b => exact s.tup h
 | eit o p c => exact s.tup h
theorem DLN.older {K : Fg} {H0 H1 H : Hp} {u : Addr} {ln : DL} (h : DLN K H1 H u ln) (d : ∀ l, H1 l = none → H0 l = none) : DLN K H0 H u ln := by
 cases ln with
 | sm ps => obtain ⟨l, ws, n, h1⟩ := h; exact ⟨l, ws, d l n, h1⟩
 | sht o hs => obtain ⟨l, ws, n, h1⟩ := h; exact ⟨l, ws, d l n, h1⟩
 | lik ts => obtain ⟨l, n, h1⟩ := h; exact ⟨l, d l n, h1⟩
 | giv k => exact h
 | low k => exact h
 | high k => exact h
 | bet => exact h
 | shr o b => exact h
 | eit o p c => exact h
def spDrawn (K : Fg) : Sp := fun vs H Q _ => ∃ (t : Addr) (rs : List (List Int × Int)) (cs : List Int) (seen z : Int), vs = [.ref t, .int seen, .int z] ∧ ProbAt K H t rs cs ∧ cs.length ≤ 20 ∧ rs.length ≤ 20 ∧ seen ≤ 1000 ∧ ∀ (u : Addr) (ln : DL) (H' : Hp), Same H H' → DLN K H H' u ln → DLok cs.length ln → Q (.ref u) H'
theorem max1 (x : Int) (h : x ≤ 1000) : 0 < (if x > 1 then x else 1) ∧ (if x > 1 then x else 1) < 1073741824 := by split <;> omega
section
variable {P : Program} {w : World} {K : Fg} {mg : Str → Option Value} {base : Heap} {aT aL : Addr} {fT fL : Str → Option Value}
theorem scTurn : FnScope ["_law_left_here", "_law_many", "_law_turn_here", "_law_k", "_law_place"] ["_law_left_here", "_law_many"] (defScope sTurn) := ⟨rfl, rfl, rfl, by decide +kernel, rfl, by decide +kernel, by decide +kernel⟩
theorem okTurn (F : Fn K mg "_law_turn" sTurn) (M : Mg mg) (DM : mg "divmod" = none) : Cal P w K mg base 1 "_law_turn" ["_law_left_here", "_law_many"] (spTrn K) := by
 refine cal_of F scTurn (fun _ _ _ _ _ _ => bind2 (fun _ _ => rfl)) (fun vs H Q E h => ?_) (fun f cdv A outer s H vs Q E hr h => ?_)
 ·obtain ⟨z, n, rfl, _⟩ := h
  rfl
 obtain ⟨z, n, rfl, hn, q⟩ := h
 refine ⟨_, (pss_cons (ps_set (i := 2) scTurn.nd rfl (Or.inl rfl) (pe_lst pa_nil))
  (pss_cons (ps_for PassesOwn.never rfl (pi_range1 rfl M.range_ (pa_cons (pv 1) pa_nil)) (pg_name (i := 3) scTurn.nd rfl (Or.inl rfl) (Or.inl rfl)) (pss_cons (ps_asg (pe_callB call_divmod rfl DM bt_divmod (pa_cons (pv 0) (pa_cons (pe_op op_add (pv 3) pe_int) pa_nil))) (pg_pair (K := K) (i := 0) (j := 4) rfl rfl scTurn.nd rfl rfl rfl rfl))
  (pss_one (ps_expr (pe_bm PySem.F.plainAttrs_list PySem.F.slot_list_insert PySem.F.type_list_insert mt_insert (pv 2) (pa_cons (pv 4) (pa_cons (pv 3) pa_nil)))))))
  (pss_one (ps_ret (pv 2))))), ?_⟩
 refine seq_let3 ?_
 intro rT3 rT2
 have hz : (2000 : Nat) < sizeLine := by decide
 refine ⟨by show 0 ≤ sizeLine; decide, fun l hl => ?_⟩
 have s1 := same_new' hl (.lst [])
 have h1 : upd H l (.lst []) l = some (.lst []) := upd_same
 generalize upd H l (.lst []) = H1 at s1 h1 ⊢
 let Pv17 : Nat → St → Hp → Prop := fun i σ H2 => ∃ (z : Int) (v3 v4 : Option V) (ts : List Int), σ = [some (.int z), some (.int (n : Int)), some (.ref l), v3, v4] ∧ H2 l = some (.lst (ts.map V.int)) ∧ ts.length = i ∧ (∀ x ∈ ts, 0 ≤ x ∧ x < ((n : Nat) : Int)) ∧ Same H H2
 refine ⟨_, rfl, _, rfl, by omega, by omega, for_range (lo := 0) (n := Int.toNat (n : Int)) Pv17 ⟨z, none, none, [], rfl, h1, rfl, fun _ h => (nomatch h), s1⟩ ?_ ?_⟩
 ·rintro i σ H2 hi ⟨z, v3, v4, ts, rfl, h2, l2, ht, s2⟩
  refine ⟨_, rfl, _, rfl, _, _, rfl, rfl, _, _, rfl, ⟨by show (0 : Int) < 0 + (i : Int) + 1; omega, by show (0 : Int) + (i : Int) + 1 < 1073741824; omega⟩, fun p hp => ?_⟩
  have s3 := same_new' hp (.tup [.int (z / (0 + (i : Int) + 1)), .int (z % (0 + (i : Int) + 1))])
  have h3 := s3 _ _ h2
  have e0 := jZa z (show (0 : Int) + (i : Int) + 1 ≠ 0 by omega)
  have e1 := jQd z (show (0 : Int) < 0 + (i : Int) + 1 by omega)
  refine ⟨p, _, rfl, sqT_new upd_same, rfl, _, _, rfl, _, _, rfl, rfl, ?_⟩
  refine ⟨_, rfl, .inl ⟨rfl, _, sqL_new h3⟩, _, rfl, _, rfl, l, _, _, _, rfl, rfl, h3, e0, by rw [jQ]; omega, by rw [jQ]; omega, ?_⟩
  rw [ins_ints]
  refine ⟨_, _, _, _, rfl, upd_same, by rw [jW, yJ, xQ, jQc]; omega, fun x hx => ?_, fun b o e => ?_⟩
  ·rcases yQ.mp hx with h | h
   ·exact ht x (kQb h)
   ·rcases wY.mp h with h | h
    ·rw [h]; omega
    ·exact ht x (List.mem_of_mem_drop h)
  ·rw [upd_ne (ne_of_none e hl)]; exact s3 _ _ (s2 _ _ e)
 ·rintro σ H2 ⟨z, v3, v4, ts, rfl, h2, l2, ht, s2⟩
  exact ⟨_, rfl, q l ts H2 s2 hl h2 (by omega) ht⟩
end
abbrev sDrawn : Stmt := top 23
section
variable {P : Program} {w : World} {K : Fg} {mg : Str → Option Value} {base : Heap} {aT aL : Addr} {fT fL : Str → Option Value}
theorem scDrawn : FnScope ["_law_problem_here", "_law_many_seen", "_law_cell", "_law_many", "_law_left_here", "_law_word", "_law_one", "_law_other", "_law_choice", "_law_holds_here", "_law_k", "_law_worth"] ["_law_problem_here", "_law_many_seen", "_law_cell"] (defScope sDrawn) := ⟨rfl, rfl, rfl, by decide +kernel, rfl, by decide +kernel, by decide +kernel⟩
theorem okDrawn (F : Fn K mg "_law_drawn" sDrawn) (M : Mg mg) (DM : mg "divmod" = none) (cl_turn : Cal P w K mg base 1 "_law_turn" ["_law_left_here", "_law_many"] (spTrn K)) : Cal P w K mg base 2 "_law_drawn" ["_law_problem_here", "_law_many_seen", "_law_cell"] (spDrawn K) := by
 refine cal_of F scDrawn (fun _ _ _ _ _ _ => bind3 (fun _ _ _ => rfl)) (fun vs H Q E h => ?_) (fun f cdv A outer s H vs Q E hr h => ?_)
 ·obtain ⟨t, rs, cs, seen, z, rfl, _⟩ := h
  rfl
 obtain ⟨t, rs, cs, seen, z, rfl, ⟨lP, c, vP, ht, hlP, hrP, hc⟩, hn, hm, hse, q⟩ := h
 have hu : (A.deeper (PyProof.Rows.envOfC "_law_drawn" (defScope sDrawn) s.heap.objs.size f cdv)).units + 1 < cLine := xJ (wK (by decide) _) hr.un
 refine ⟨_, (pss_cons (ps_set (i := 3) scDrawn.nd rfl (Or.inl rfl) (pe_callB call_len_seq rfl M.len bt_len (pa_cons (pe_ix ix_tup (pv 0) pe_int (fun _ _ => rfl)) pa_nil)))
  (pss_cons (ps_asg (pe_callB call_divmod rfl DM bt_divmod (pa_cons (pv 2) (pa_cons pe_int pa_nil))) (pg_pair (K := K) (i := 4) (j := 5) rfl rfl scDrawn.nd rfl rfl rfl rfl))
  (pss_cons (ps_asg (pe_callB call_divmod rfl DM bt_divmod (pa_cons (pv 4) (pa_cons (pe_callB (call_max2 rfl) rfl M.max bt_max (pa_cons pe_int (pa_cons (pv 1) pa_nil))) pa_nil))) (pg_pair (K := K) (i := 4) (j := 6) rfl rfl scDrawn.nd rfl rfl rfl rfl))
  (pss_cons (ps_asg (pe_callB call_divmod rfl DM bt_divmod (pa_cons (pv 4) (pa_cons (pe_callB (call_max2 rfl) rfl M.max bt_max (pa_cons pe_int (pa_cons (pv 1) pa_nil))) pa_nil))) (pg_pair (K := K) (i := 4) (j := 7) rfl rfl scDrawn.nd rfl rfl rfl rfl))
  (pss_cons (ps_asg (pe_callB call_divmod rfl DM bt_divmod (pa_cons (pv 4) (pa_cons (pe_callB (call_max2 rfl) rfl M.max bt_max (pa_cons pe_int (pa_cons (pv 3) pa_nil))) pa_nil))) (pg_pair (K := K) (i := 4) (j := 8) rfl rfl scDrawn.nd rfl rfl rfl rfl))
  (pss_cons (ps_if (pt_cmpR op_eq (pv 5) pe_int (nomark _)) (pss_one (ps_ret (pe_tup (pa_cons pe_str (pa_cons (pe_op op_mod (pv 4) (pe_callB (call_max2 rfl) rfl M.max bt_max (pa_cons pe_int (pa_cons (pe_callB call_len_seq rfl M.len bt_len (pa_cons (pe_ix ix_tup (pv 0) pe_int (fun _ _ => rfl)) pa_nil)) pa_nil)))) pa_nil))))) pss_nil)
  (pss_cons (ps_if (pt_cmpR op_in_seq (pv 5) (pe_tup (pa_cons pe_int (pa_cons pe_int pa_nil))) rfl) (pss_one (ps_ret (pe_tup (pa_cons (pe_ix ix_list (pe_lst (pa_cons pe_str (pa_cons pe_str pa_nil))) (pe_op op_sub (pv 5) pe_int) (fun _ _ => rfl)) (pa_cons (pv 8) pa_nil))))) pss_nil)
  (pss_cons (ps_if (pt_cmpR op_eq (pv 5) pe_int (nomark _)) (pss_one (ps_ret (pe_tup (pa_cons pe_str pa_nil)))) pss_nil)
  (pss_cons (ps_if (pt_cmpR op_eq (pv 5) pe_int (nomark _)) (pss_one (ps_ret (pe_tup (pa_cons pe_str (pa_cons (pe_slice sl_list (pe_lst (pa_cons (pe_tup (pa_cons (pv 6) (pa_cons (pe_op op_mod (pv 4) pe_int) pa_nil))) (pa_cons (pe_tup (pa_cons (pv 7) (pa_cons (pe_op op_mod (pe_op op_fdiv (pv 4) pe_int) pe_int) pa_nil))) pa_nil))) po_none (po_some (pe_op op_add pe_int (pe_op op_mod (pe_op op_fdiv (pv 4) pe_int) pe_int)))) pa_nil))))) pss_nil)
  (pss_cons (ps_if (pt_cmpR op_eq (pv 5) pe_int (nomark _)) (pss_one (ps_ret (pe_tup (pa_cons pe_str (pa_cons (pv 6) (pa_cons (pe_op op_add pe_int (pe_op op_mod (pv 4) pe_int)) pa_nil)))))) pss_nil)
  (pss_cons (ps_if (pt_cmpR op_eq (pv 5) pe_int (nomark _)) (pss_one (ps_ret (pe_ix ix_list (pe_lst (pa_cons (pe_tup (pa_cons pe_str (pa_cons (pv 6) (pa_cons (pv 7) (pa_cons (pv 8) pa_nil))))) (pa_cons (pe_tup (pa_cons pe_str (pa_cons (pe_fn cl_turn (hr.mono (by decide)) (pa_cons (pe_op op_fdiv (pv 4) pe_int) (pa_cons (pv 3) pa_nil))) pa_nil))) pa_nil))) (pe_op op_mod (pv 4) pe_int) (fun _ _ => rfl)))) pss_nil)
  (pss_cons (ps_set (i := 9) scDrawn.nd rfl (Or.inl rfl) (pe_lst pa_nil))
  (pss_cons (ps_for PassesOwn.never rfl (pi_range1 rfl M.range_ (pa_cons (pv 3) pa_nil)) (pg_name (i := 10) scDrawn.nd rfl (Or.inl rfl) (Or.inl rfl)) (pss_cons (ps_asg (pe_callB call_divmod rfl DM bt_divmod (pa_cons (pv 4) (pa_cons pe_int pa_nil))) (pg_pair (K := K) (i := 4) (j := 11) rfl rfl scDrawn.nd rfl rfl rfl rfl))
  (pss_one (ps_if (pt_cmpR op_lt (pv 11) pe_int (nomark _)) (pss_one (ps_expr (pe_bm PySem.F.plainAttrs_list PySem.F.slot_list_append PySem.F.type_list_append mt_append (pv 9) (pa_cons (pe_tup (pa_cons (pv 10) (pa_cons (pv 11) pa_nil))) pa_nil)))) pss_nil))))
  (pss_one (ps_ret (pe_tup (pa_cons pe_str (pa_cons (pv 6) (pa_cons (pv 9) pa_nil))))))))))))))))))), ?_⟩
 have hz : (2000 : Nat) < sizeLine := by decide
 have lr := Paired.length hrP
 have lc : (cs.map V.int).length = cs.length := jQ ..
 refine ⟨_, rfl, t, _, _, _, rfl, rfl, ht, at1, c, _, rfl, .inr hc, ?_⟩
 refine ⟨_, rfl, _, _, rfl, ⟨by decide, by decide⟩, fun p1 hp1 => ?_⟩
 have s1 := same_new' hp1 (.tup [.int (z / 8), .int (z % 8)])
 have h1 : upd H p1 (.tup [.int (z / 8), .int (z % 8)]) p1 = some (.tup [.int (z / 8), .int (z % 8)]) := upd_same
 generalize upd H p1 (.tup [.int (z / 8), .int (z % 8)]) = H1 at s1 h1 ⊢
 refine ⟨p1, _, rfl, sqT_new h1, rfl, _, _, rfl, _, _, rfl, rfl, ?_⟩
 have hw0 := jZa z (show (8 : Int) ≠ 0 by decide)
 have hw1 := jQd z (show (0 : Int) < 8 by decide)
 generalize z % 8 = w at hw0 hw1 h1 ⊢
 generalize z / 8 = y1 at h1 ⊢
 obtain ⟨j2, j3⟩ := max1 seen hse
 refine ⟨_, rfl, _, rfl, _, _, rfl, _, _, rfl, ⟨j2, j3⟩, fun p2 hp2 => ?_⟩
 generalize (if seen > 1 then seen else 1) = m at j2 j3 hp2 ⊢
 have s2 := s1.trans (same_new' hp2 (.tup [.int (y1 / m), .int (y1 % m)]))
 have h2 : upd H1 p2 (.tup [.int (y1 / m), .int (y1 % m)]) p2 = some (.tup [.int (y1 / m), .int (y1 % m)]) := upd_same
 generalize upd H1 p2 (.tup [.int (y1 / m), .int (y1 % m)]) = H2 at s2 h2 ⊢
 refine ⟨p2, _, rfl, sqT_new h2, rfl, _, _, rfl, _, _, rfl, rfl, ?_⟩
 generalize y1 % m = o1 at h2 ⊢
 generalize y1 / m = y2 at h2 ⊢
 obtain ⟨j4, j5⟩ := max1 seen hse
 refine ⟨_, rfl, _, rfl, _, _, rfl, _, _, rfl, ⟨j4, j5⟩, fun p3 hp3 => ?_⟩
 generalize (if seen > 1 then seen else 1) = m at j4 j5 hp3 ⊢
 have s3 := s2.trans (same_new' hp3 (.tup [.int (y2 / m), .int (y2 % m)]))
 have h3 : upd H2 p3 (.tup [.int (y2 / m), .int (y2 % m)]) p3 = some (.tup [.int (y2 / m), .int (y2 % m)]) := upd_same
 generalize upd H2 p3 (.tup [.int (y2 / m), .int (y2 % m)]) = H3 at s3 h3 ⊢
 refine ⟨p3, _, rfl, sqT_new h3, rfl, _, _, rfl, _, _, rfl, rfl, ?_⟩
 generalize y2 % m = o2 at h3 ⊢
 generalize y2 / m = y3 at h3 ⊢
 obtain ⟨j6, j7⟩ := max1 (((cs.map V.int).length : Nat) : Int) (by omega)
 refine ⟨_, rfl, _, rfl, _, _, rfl, _, _, rfl, ⟨j6, j7⟩, fun p4 hp4 => ?_⟩
 generalize (if (((cs.map V.int).length : Nat) : Int) > 1 then (((cs.map V.int).length : Nat) : Int) else 1) = m at j6 j7 hp4 ⊢
 have s4 := s3.trans (same_new' hp4 (.tup [.int (y3 / m), .int (y3 % m)]))
 have h4 : upd H3 p4 (.tup [.int (y3 / m), .int (y3 % m)]) p4 = some (.tup [.int (y3 / m), .int (y3 % m)]) := upd_same
 generalize upd H3 p4 (.tup [.int (y3 / m), .int (y3 % m)]) = H4 at s4 h4 ⊢
 refine ⟨p4, _, rfl, sqT_new h4, rfl, _, _, rfl, _, _, rfl, rfl, ?_⟩
 generalize y3 % m = ch at h4 ⊢
 generalize y3 / m = y at h4 ⊢
 clear h1 h2 h3 h4
 have new : ∀ l, H4 l = none → H l = none := fun l e => by
  cases e5 : H l with
  | none => rfl
  | some o => rw [s4 _ _ e5] at e; cases e
 refine ⟨_, rfl, rfl, _, rfl, ite2 (fun _ => ?_) (fun _ => ?_)⟩
 ·obtain ⟨j8, j9⟩ := max1 ((vP.length : Nat) : Int) (by omega)
  refine ⟨_, rfl, _, rfl, t, _, _, _, rfl, rfl, s4.tup ht, at0, lP, _, rfl, .inl (s4.seq hlP), _, _, rfl, _, _, rfl, rfl, j8, by show 2 ≤ sizeLine; decide, fun u hu => ?_⟩
  exact q u (.giv _) _ (s4.trans (same_new' hu _)) (sqT_new upd_same) trivial
 refine ⟨_, rfl, by show 2 ≤ sizeLine; decide, fun T hT => ?_⟩
 have s5 := s4.trans (same_new' hT (.tup [.int 1, .int 2]))
 have hT5 : SqT K (upd H4 T (.tup [.int 1, .int 2])) T [.int 1, .int 2] := sqT_new upd_same
 generalize upd H4 T (.tup [.int 1, .int 2]) = H5 at s5 hT5 ⊢
 refine ⟨T, _, rfl, .inr hT5, rfl, rfl, _, rfl, ite2 (fun y => ?_) (fun _ => ?_)⟩
 ·have hy : w = 1 ∨ w = 2 := by
   have y' : ((1 : Int) == w || ((2 : Int) == w || false)) = true := y
   simp only [jZe, beq_iff_eq, wX, or_false] at y'
   omega
  refine ⟨by show 2 ≤ sizeLine; decide, fun L hL => ?_⟩
  have s6 := s5.trans (same_new' hL (.lst [.str "low", .str "high"]))
  have hL6 : upd H5 L (.lst [.str "low", .str "high"]) L = some (.lst [.str "low", .str "high"]) := upd_same
  generalize upd H5 L (.lst [.str "low", .str "high"]) = H6 at s6 hL6 ⊢
  rcases hy with rfl | rfl
  ·refine ⟨_, rfl, _, _, rfl, rfl, L, _, _, _, rfl, rfl, sqL_new hL6, (show atI [V.str "low", V.str "high"] ((0 : Nat) : Int) = some (.str "low") from rfl), _, rfl, by show 2 ≤ sizeLine; decide, fun u hu => ?_⟩
   exact q u (.low ch) _ (s6.trans (same_new' hu _)) (sqT_new upd_same) trivial
  ·refine ⟨_, rfl, _, _, rfl, rfl, L, _, _, _, rfl, rfl, sqL_new hL6, (show atI [V.str "low", V.str "high"] ((1 : Nat) : Int) = some (.str "high") from rfl), _, rfl, by show 2 ≤ sizeLine; decide, fun u hu => ?_⟩
   exact q u (.high ch) _ (s6.trans (same_new' hu _)) (sqT_new upd_same) trivial
 have new5 : ∀ l, H5 l = none → H l = none := fun l e => by
  cases e5 : H l with
  | none => rfl
  | some o => rw [s5 _ _ e5] at e; cases e
 refine ⟨_, rfl, rfl, _, rfl, ite2 (fun _ => ?_) (fun _ => ?_)⟩
 ·refine ⟨by show 1 ≤ sizeLine; decide, fun u hu => ?_⟩
  exact q u .bet _ (s5.trans (same_new' hu _)) (sqT_new upd_same) trivial
 refine ⟨_, rfl, rfl, _, rfl, ite2 (fun _ => ?_) (fun _ => ?_)⟩
 ·refine ⟨_, rfl, _, rfl, _, _, rfl, rfl, by show (0 : Int) < 3; decide, by show 2 ≤ sizeLine; decide, fun ta hta => ?_⟩
  have a1 := same_new' hta (.tup [.int o1, .int (y % 3)])
  have h6 : upd H5 ta (.tup [.int o1, .int (y % 3)]) ta = some (.tup [.int o1, .int (y % 3)]) := upd_same
  generalize upd H5 ta (.tup [.int o1, .int (y % 3)]) = H6 at a1 h6 ⊢
  refine ⟨_, rfl, _, rfl, _, _, rfl, rfl, ⟨by decide, by decide⟩, _, _, rfl, rfl, by show (0 : Int) < 4; decide, by show 2 ≤ sizeLine; decide, fun tb htb => ?_⟩
  have a2 := same_new' htb (.tup [.int o2, .int (y / 3 % 4)])
  have h7 : upd H6 tb (.tup [.int o2, .int (y / 3 % 4)]) tb = some (.tup [.int o2, .int (y / 3 % 4)]) := upd_same
  generalize upd H6 tb (.tup [.int o2, .int (y / 3 % 4)]) = H7 at a2 h7 ⊢
  refine ⟨by show 2 ≤ sizeLine; decide, fun L hL => ?_⟩
  have a3 := same_new' hL (.lst [.ref ta, .ref tb])
  have h8 : upd H7 L (.lst [.ref ta, .ref tb]) L = some (.lst [.ref ta, .ref tb]) := upd_same
  generalize upd H7 L (.lst [.ref ta, .ref tb]) = H8 at a3 h8 ⊢
  have s8 := s5.trans ((a1.trans a2).trans a3)
  have ta8 : SqT K H8 ta [.int o1, .int (y % 3)] := sqT_new (a3 _ _ (a2 _ _ h6))
  have tb8 : SqT K H8 tb [.int o2, .int (y / 3 % 4)] := sqT_new (a3 _ _ h7)
  refine ⟨_, rfl, _, _, rfl, rfl, ⟨by decide, by decide⟩, _, _, rfl, rfl, by show (0 : Int) < 2; decide, _, _, rfl, rfl, _, rfl, L, _, rfl, sqL_new h8, fun l2 hl2 => ?_⟩
  have l20 : H l2 = none := by
   cases e5 : H l2 with
   | none => rfl
   | some o => rw [s8 _ _ e5] at hl2; cases hl2
  have b0 : 0 ≤ y % 3 ∧ y % 3 ≤ 3 := by omega
  have b1 : 0 ≤ y / 3 % 4 ∧ y / 3 % 4 ≤ 3 := by omega
  rcases (show y / 12 % 2 = 0 ∨ y / 12 % 2 = 1 by omega) with e | e
  ·rw [e, show cutV [V.ref ta, V.ref tb] none (some (1 + 0)) = [.ref ta] from rfl]
   have a4 := same_new' hl2 (.lst [.ref ta])
   have h9 : upd H8 l2 (.lst [.ref ta]) l2 = some (.lst [.ref ta]) := upd_same
   generalize upd H8 l2 (.lst [.ref ta]) = H9 at a4 h9 ⊢
   refine ⟨by show 2 ≤ sizeLine; decide, fun u hu => ?_⟩
   have a5 := same_new' hu (.tup [.str "sum", .ref l2])
   refine q u (.sm [(o1, y % 3)]) _ ((s8.trans a4).trans a5) ⟨l2, _, l20, sqT_new upd_same, a5 _ _ h9, .cons ⟨ta, rfl, a5.tup (a4.tup ta8)⟩ .nil⟩ ⟨by show 1 ≤ 10; decide, fun p hp => ?_⟩
   rw [kX.mp hp]; exact b0
  ·rw [e, show cutV [V.ref ta, V.ref tb] none (some (1 + 1)) = [.ref ta, .ref tb] from rfl]
   have a4 := same_new' hl2 (.lst [.ref ta, .ref tb])
   have h9 : upd H8 l2 (.lst [.ref ta, .ref tb]) l2 = some (.lst [.ref ta, .ref tb]) := upd_same
   generalize upd H8 l2 (.lst [.ref ta, .ref tb]) = H9 at a4 h9 ⊢
   refine ⟨by show 2 ≤ sizeLine; decide, fun u hu => ?_⟩
   have a5 := same_new' hu (.tup [.str "sum", .ref l2])
   refine q u (.sm [(o1, y % 3), (o2, y / 3 % 4)]) _ ((s8.trans a4).trans a5) ⟨l2, _, l20, sqT_new upd_same, a5 _ _ h9, .cons ⟨ta, rfl, a5.tup (a4.tup ta8)⟩ (.cons ⟨tb, rfl, a5.tup (a4.tup tb8)⟩ .nil)⟩ ⟨by show 2 ≤ 10; decide, fun p hp => ?_⟩
   rcases wY.mp hp with h | h
   ·rw [h]; exact b0
   ·rw [kX.mp h]; exact b1
 refine ⟨_, rfl, rfl, _, rfl, ite2 (fun _ => ?_) (fun _ => ?_)⟩
 ·refine ⟨_, rfl, _, rfl, _, _, rfl, rfl, by show (0 : Int) < 3; decide, _, _, rfl, rfl, by show 3 ≤ sizeLine; decide, fun u hu => ?_⟩
  exact q u (.shr o1 (1 + y % 3)) _ (s5.trans (same_new' hu _)) (sqT_new upd_same) ⟨by omega, by omega⟩
 refine ⟨_, rfl, rfl, _, rfl, ite2 (fun _ => ?_) (fun _ => ?_)⟩
 ·refine ⟨_, rfl, _, rfl, _, rfl, by show 4 ≤ sizeLine; decide, fun ta hta => ?_⟩
  have a1 := same_new' hta (.tup [.str "either", .int o1, .int o2, .int ch])
  have h6 : upd H5 ta (.tup [.str "either", .int o1, .int o2, .int ch]) ta = some (.tup [.str "either", .int o1, .int o2, .int ch]) := upd_same
  generalize upd H5 ta (.tup [.str "either", .int o1, .int o2, .int ch]) = H6 at a1 h6 ⊢
  refine ⟨_, rfl, _, _, rfl, rfl, ⟨by decide, by decide⟩, _, rfl, y / 2, cs.length, by rw [lc]; rfl, hn, fun l ts H7 s7 hl0 hl7 hts htx => ?_⟩
  refine ⟨by show 2 ≤ sizeLine; decide, fun tb htb => ?_⟩
  have a8 := same_new' htb (.tup [.str "like", .ref l])
  have h8 : upd H7 tb (.tup [.str "like", .ref l]) tb = some (.tup [.str "like", .ref l]) := upd_same
  generalize upd H7 tb (.tup [.str "like", .ref l]) = H8 at a8 h8 ⊢
  refine ⟨by show 2 ≤ sizeLine; decide, fun L hL => ?_⟩
  have a9 := same_new' hL (.lst [.ref ta, .ref tb])
  have h9 : upd H8 L (.lst [.ref ta, .ref tb]) L = some (.lst [.ref ta, .ref tb]) := upd_same
  generalize upd H8 L (.lst [.ref ta, .ref tb]) = H9 at a9 h9 ⊢
  have s9 := (s5.trans a1).trans ((s7.trans a8).trans a9)
  have l0 : H l = none := new5 l (by
   cases e5 : H5 l with
   | none => rfl
   | some o => rw [a1 _ _ e5] at hl0; cases hl0)
  rcases (show y % 2 = 0 ∨ y % 2 = 1 by omega) with e | e
  ·exact ⟨_, rfl, _, _, rfl, rfl, by show (0 : Int) < 2; decide, L, _, _, _, rfl, rfl, sqL_new h9, (show atI [V.ref ta, V.ref tb] (y % 2) = some (.ref ta) by rw [e]; rfl), q ta (.eit o1 o2 ch) _ s9 (sqT_new (((s7.trans a8).trans a9) _ _ h6)) trivial⟩
  ·exact ⟨_, rfl, _, _, rfl, rfl, by show (0 : Int) < 2; decide, L, _, _, _, rfl, rfl, sqL_new h9, (show atI [V.ref ta, V.ref tb] (y % 2) = some (.ref tb) by rw [e]; rfl), q tb (.lik ts) _ s9 ⟨l, l0, sqT_new (a9 _ _ h8), (a8.trans a9) _ _ hl7⟩ ⟨hts, htx⟩⟩
 refine ⟨by show 0 ≤ sizeLine; decide, fun g hg => ?_⟩
 have a6 := same_new' hg (.lst [])
 have h6 : upd H5 g (.lst []) g = some (.lst []) := upd_same
 generalize upd H5 g (.lst []) = H6 at a6 h6 ⊢
 have g0 := new5 g hg
 refine ⟨_, rfl, _, rfl, by omega, by omega, for_range (lo := 0) (n := Int.toNat (((cs.map V.int).length : Nat) : Int)) (fun i σ H7 => ∃ (y : Int) (v10 v11 : Option V) (ws : List V) (hs : List (Int × Int)), σ = [some (.ref t), some (.int seen), some (.int z), some (.int (((cs.map V.int).length : Nat) : Int)), some (.int y), some (.int w), some (.int o1), some (.int o2), some (.int ch), some (.ref g), v10, v11] ∧ H7 g = some (.lst ws) ∧ PairsAre K H7 ws (hs.map fun p => (p.1, V.int p.2)) ∧ hs.length ≤ i ∧ (∀ p ∈ hs, 0 ≤ p.1 ∧ p.1 < ((cs.length : Nat) : Int) ∧ (p.2 = 0 ∨ p.2 = 1)) ∧ Same H H7) ⟨y, none, none, [], [], rfl, h6, .nil, jX _, fun _ h => (nomatch h), s5.trans a6⟩ ?_ ?_⟩
 ·rintro i σ H7 hi ⟨y, v10, v11, ws, hs, rfl, h7, hpa, hl, hok, s7⟩
  have hi' : i < cs.length := by rw [lc] at hi; omega
  have lv := Paired.length hpa
  rw [jQ] at lv
  refine ⟨_, rfl, _, _, rfl, ⟨by decide, by decide⟩, fun p hp => ?_⟩
  have a8 := same_new' hp (.tup [.int (y / 3), .int (y % 3)])
  have h8 : upd H7 p (.tup [.int (y / 3), .int (y % 3)]) p = some (.tup [.int (y / 3), .int (y % 3)]) := upd_same
  generalize upd H7 p (.tup [.int (y / 3), .int (y % 3)]) = H8 at a8 h8 ⊢
  refine ⟨p, _, rfl, sqT_new h8, rfl, _, _, rfl, _, _, rfl, rfl, ?_⟩
  refine ⟨_, rfl, _, _, rfl, rfl, _, rfl, ite2 (fun yy => ?_) (fun _ => ⟨_, _, _, ws, hs, rfl, a8 _ _ h7, PairsAre.same a8 hpa, by omega, hok, s7.trans a8⟩)⟩
  have yy' : y % 3 < 2 := zQ yy
  refine ⟨_, rfl, .inl ⟨rfl, _, sqL_new (a8 _ _ h7)⟩, _, rfl, _, rfl, by show 2 ≤ sizeLine; decide, fun tk htk => ?_⟩
  have a9 := same_new' htk (.tup [.int (0 + (i : Int)), .int (y % 3)])
  have h9 : upd H8 tk (.tup [.int (0 + (i : Int)), .int (y % 3)]) tk = some (.tup [.int (0 + (i : Int)), .int (y % 3)]) := upd_same
  generalize upd H8 tk (.tup [.int (0 + (i : Int)), .int (y % 3)]) = H9 at a9 h9 ⊢
  have hg9 := a9 _ _ (a8 _ _ h7)
  refine ⟨g, _, _, rfl, rfl, hg9, by omega, _, _, _, ws ++ [.ref tk], hs ++ [(0 + (i : Int), y % 3)], rfl, upd_same, ?_, by rw [jW]; exact Nat.succ_le_succ hl, fun q' hq' => ?_, fun b o e => ?_⟩
  ·rw [kW]
   exact Paired.snoc (PairsAre.updL hg9 (PairsAre.same (a8.trans a9) hpa)) ⟨tk, rfl, SqT_upd hg9 (sqT_new h9)⟩
  ·rcases yQ.mp hq' with h | h
   ·exact hok q' h
   ·rw [kX.mp h]; exact ⟨by show (0 : Int) ≤ 0 + (i : Int); omega, by show (0 : Int) + (i : Int) < _; omega, by show y % 3 = 0 ∨ y % 3 = 1; omega⟩
  ·rw [upd_ne (ne_of_none e g0)]; exact (a8.trans a9) _ _ (s7 _ _ e)
 ·rintro σ H7 ⟨y, v10, v11, ws, hs, rfl, h7, hpa, hl, hok, s7⟩
  refine ⟨_, rfl, _, rfl, by show 3 ≤ sizeLine; decide, fun u hu => ?_⟩
  have a8 := same_new' hu (.tup [.str "shut", .int o1, .ref g])
  exact q u (.sht o1 hs) _ (s7.trans a8) ⟨g, ws, g0, sqT_new upd_same, a8 _ _ h7, PairsAre.same a8 hpa⟩ ⟨by omega, hok⟩
end
abbrev sPaper : Stmt := top 25
def LinesAt (K : Fg) (H : Hp) : List V → List DL → Prop := Paired fun v ln => ∃ u, v = .ref u ∧ DLAt K H u ln
theorem LinesAt.same {K : Fg} {H H' : Hp} {us : List V} {lns : List DL} (h : LinesAt K H us lns) (s : Same H H') : LinesAt K H' us lns := Paired.mapP h fun _ _ ⟨u, e, z⟩ => ⟨u, e, z.same s⟩
def Few : DL → Prop
 | .sm ps => ps.length ≤ 100
 | _ => True
theorem few_ok {n : Nat} {ln : DL} (h : DLok n ln) : Few ln := by
 cases ln with
 | sm ps => exact jQe h.1 (by decide)
 | _ => trivial
def NamesOk (lns : List DL) : Prop := ∀ (i : Nat) (ln : DL), lns[i]? = some ln → Few ln ∧ ∀ k ∈ ln.names, 0 ≤ k ∧ k < ((i : Nat) : Int)
theorem NamesOk.snoc {lns : List DL} {ln : DL} (h : NamesOk lns) (h0 : Few ln) (h1 : ∀ k ∈ ln.names, 0 ≤ k ∧ k < ((lns.length : Nat) : Int)) : NamesOk (lns ++ [ln]) := fun i l e => by
 by_cases hi : i < lns.length
 ·rw [jJb hi] at e
  exact h i l e
 ·have hl := (kQ.mp e).1
  rw [jW] at hl
  have : i = lns.length := by have : ([ln] : List DL).length = 1 := rfl; omega
  subst this
  rw [jZf (jX _), Nat.sub_self] at e
  cases e
  exact ⟨h0, h1⟩
def spPaper (K : Fg) : Sp := fun vs H Q _ => ∃ (t c : Addr) (rs : List (List Int × Int)) (cs : List Int) (bst : V) (zs : List Int), vs = [.ref t, bst, .ref c] ∧ (bst = .non ∨ ∃ b, bst = .int b) ∧ ProbAt K H t rs cs ∧ (∀ r ∈ rs, r.1.length = cs.length) ∧ SqL K H c (zs.map V.int) ∧ zs.length ≤ 100 ∧ cs.length ≤ 20 ∧ rs.length ≤ 20 ∧
 ∀ (g : Addr) (us : List V) (lns : List DL) (H' : Hp), Same H H' → H' g = some (.lst us) → LinesAt K H' us lns → NamesOk lns → lns.length ≤ 100 → Q (.ref g) H'
def LinesN (K : Fg) (H0 H : Hp) : List V → List DL → Prop := Paired fun v ln => ∃ u, v = .ref u ∧ DLN K H0 H u ln
theorem LinesN.imp {K : Fg} {H0 H H' : Hp} {us : List V} {lns : List DL} (h : LinesN K H0 H us lns) (f : ∀ u ln, DLN K H0 H u ln → DLN K H0 H' u ln) : LinesN K H0 H' us lns := Paired.mapP h fun _ _ ⟨u, e, w⟩ => ⟨u, e, f _ _ w⟩
def spNamed (K : Fg) : Sp := fun vs H Q _ => ∃ (u : Addr) (ln : DL), vs = [.ref u] ∧ DLAt K H u ln ∧ Few ln ∧ ∀ (l : Addr) (H' : Hp), Same H H' → H' l = some (.lst (ln.names.map V.int)) → Q (.ref l) H'
def spLong (K : Fg) : Sp := fun vs H Q _ => vs = [] ∧ ∀ (g : Addr) (us : List V) (lns : List DL) (H' : Hp), Same H H' → H' g = some (.lst us) → LinesAt K H' us lns → NamesOk lns → lns.length ≤ 1501 → Q (.ref g) H'
section
variable {P : Program} {w : World} {K : Fg} {mg : Str → Option Value} {base : Heap} {aT aL : Addr} {fT fL : Str → Option Value}
theorem scPaper : FnScope ["_law_problem_here", "_law_best", "_law_cells", "_law_paper_here", "_law_heard", "_law_cell", "_law_line", "_law_row_here"] ["_law_problem_here", "_law_best", "_law_cells"] (defScope sPaper) := ⟨rfl, rfl, rfl, by decide +kernel, rfl, by decide +kernel, by decide +kernel⟩
theorem okPaper (F : Fn K mg "_law_paper" sPaper) (M : Mg mg) (cl_drawn : Cal P w K mg base 2 "_law_drawn" ["_law_problem_here", "_law_many_seen", "_law_cell"] (spDrawn K)) (cl_row : Cal P w K mg base 3 "_law_row" ["_law_problem_here", "_law_best", "_law_heard", "_law_line"] (spRow31 K)) : Cal P w K mg base 4 "_law_paper" ["_law_problem_here", "_law_best", "_law_cells"] (spPaper K) := by
 refine cal_of F scPaper (fun _ _ _ _ _ _ => bind3 (fun _ _ _ => rfl)) (fun vs H Q E h => ?_) (fun f cdv A outer s H vs Q E hr h => ?_)
 ·obtain ⟨t, c, rs, cs, bst, zs, rfl, _⟩ := h
  rfl
 obtain ⟨t, c, rs, cs, bst, zs, rfl, hbst, hP, hrl, hc, hz9, hn, hm, q⟩ := h
 refine ⟨_, (pss_cons (ps_set (i := 3) scPaper.nd rfl (Or.inl rfl) (pe_lst pa_nil))
  (pss_cons (ps_set (i := 4) scPaper.nd rfl (Or.inl rfl) (pe_lst pa_nil))
  (pss_cons (ps_for PassesOwn.never rfl (pi_list (pv 2)) (pg_name (i := 5) scPaper.nd rfl (Or.inl rfl) (Or.inl rfl)) (pss_cons (ps_set (i := 6) scPaper.nd rfl (Or.inl rfl) (pe_fn cl_drawn (hr.mono (by decide)) (pa_cons (pv 0) (pa_cons (pe_callB call_len_seq rfl M.len bt_len (pa_cons (pv 4) pa_nil)) (pa_cons (pv 5) pa_nil)))))
  (pss_cons (ps_set (i := 7) scPaper.nd rfl (Or.inl rfl) (pe_fn cl_row (hr.mono (by decide)) (pa_cons (pv 0) (pa_cons (pv 1) (pa_cons (pv 4) (pa_cons (pv 6) pa_nil))))))
  (pss_one (ps_if (pt_cmpR op_notN (pv 7) pe_non (nomark _)) (pss_cons (ps_expr (pe_bm PySem.F.plainAttrs_list PySem.F.slot_list_append PySem.F.type_list_append mt_append (pv 3) (pa_cons (pv 6) pa_nil)))
  (pss_one (ps_expr (pe_bm PySem.F.plainAttrs_list PySem.F.slot_list_append PySem.F.type_list_append mt_append (pv 4) (pa_cons (pv 7) pa_nil))))) pss_nil)))))
  (pss_one (ps_ret (pv 3)))))), ?_⟩
 refine seq_let4 ?_
 intro rT4 rT3 rT2
 have hz : (2000 : Nat) < sizeLine := by decide
 refine ⟨by show 0 ≤ sizeLine; decide, fun g hg => ?_⟩
 have s1 := same_new' hg (.lst [])
 have h1 : upd H g (.lst []) g = some (.lst []) := upd_same
 generalize upd H g (.lst []) = H1 at s1 h1 ⊢
 refine ⟨by show 0 ≤ sizeLine; decide, fun hh hhh => ?_⟩
 have s2 := same_new' hhh (.lst [])
 have h2 : upd H1 hh (.lst []) hh = some (.lst []) := upd_same
 have g2 := s2 _ _ h1
 have hhH : H hh = none := by
  cases e5 : H hh with
  | none => rfl
  | some o => rw [s1 _ _ e5] at hhh; cases hhh
 have ghh : g ≠ hh := fun e => by rw [e, hhh] at h1; cases h1
 generalize upd H1 hh (.lst []) = H2 at s2 h2 g2 ⊢
 have s02 := s1.trans s2
 let Pv18 : Nat → St → Hp → Prop := fun i σ H3 => ∃ (us ws : List V) (lns : List DL) (hd : List (List Int × Int)) (v5 v6 v7 : Option V), σ = [some (.ref t), some bst, some (.ref c), some (.ref g), some (.ref hh), v5, v6, v7] ∧ H3 g = some (.lst us) ∧ H3 hh = some (.lst ws) ∧ LinesN K H2 H3 us lns ∧ RowsAre K H3 ws hd ∧ hd.length = lns.length ∧ lns.length ≤ i ∧ (∀ r ∈ hd, r.1.length = cs.length) ∧ NamesOk lns ∧ (∀ l, H3 l = none → H2 l = none) ∧ Same H H3
 refine ⟨_, rfl, c, rfl, ⟨_, s02.seq hc⟩, for_list (K := K) (a := c) (xs := zs.map V.int) Pv18 ⟨[], [], [], [], none, none, none, rfl, g2, h2, .nil, .nil, rfl, jX _, fun _ h => (nomatch h), fun _ _ h => (nomatch h), fun _ h => h, s02⟩ (fun i σ H3 _ h => ?_) ?_ ?_⟩
 ·obtain ⟨_, _, _, _, _, _, _, rfl, _, _, _, _, _, _, _, _, _, s3⟩ := h
  exact s3.seq hc
 ·rintro i x σ H3 e1 ⟨us, ws, lns, hd, v5, v6, v7, rfl, hg3, hh3, hL3, hR3, hdl, hli, hrl3, hnm, hdom, s3⟩
  have hi := (kQ.mp e1).1
  rw [jQ] at hi
  obtain ⟨z, ez, rfl⟩ := getMapI e1
  have lw := Paired.length hR3
  have lu := Paired.length hL3
  refine ⟨_, rfl, _, rfl, hh, _, rfl, .inl (sqL_new hh3), _, rfl, t, rs, cs, _, z, rfl, ProbAt.same s3 hP, hn, hm, by omega, fun u ln H4 s4 hD hok => ?_⟩
  have s34 := s3.trans s4
  refine ⟨_, rfl, _, rfl, _, rfl, _, rfl, t, hh, u, rs, hd, cs, bst, ws, ln, rfl, hbst, ProbAt.same s34 hP, hrl, sqL_new (s4 _ _ hh3), hR3.imp fun _ _ w => w.same s4, by omega, hrl3, hD.dlat, hok, hn, hm, fun H5 s5 => ?_, fun t' r' H5 s5 hr' hl' hnn => ?_⟩
  ·have s45 := s4.trans s5
   refine ⟨_, rfl, rfl, _, rfl, ite2 (fun y => absurd y (by decide)) (fun _ => ?_)⟩
   exact ⟨us, ws, lns, hd, _, _, _, rfl, s45 _ _ hg3, s45 _ _ hh3, Paired.mapP hL3 fun _ _ ⟨u, e, w⟩ => ⟨u, e, w.same s45⟩, hR3.imp fun _ _ w => w.same s45, hdl, by omega, hrl3, hnm, fun l e => hdom l (by
    cases e5 : H3 l with
    | none => rfl
    | some o => rw [s45 _ _ e5] at e; cases e), s3.trans s45⟩
  ·have s45 := s4.trans s5
   refine ⟨_, rfl, rfl, _, rfl, ite2 (fun _ => ?_) (fun y => absurd (show (!decide (V.ref t' = V.non)) = true from rfl) y)⟩
   have hg5 := s45 _ _ hg3
   have hh5 := s45 _ _ hh3
   refine ⟨_, rfl, .inl ⟨rfl, _, sqL_new hg5⟩, _, rfl, g, _, _, rfl, rfl, hg5, by omega, ?_⟩
   have hh6 : upd H5 g (.lst (us ++ [.ref u])) hh = some (.lst ws) := by rw [upd_ne ghh.symm]; exact hh5
   have hg6 : upd H5 g (.lst (us ++ [.ref u])) g = some (.lst (us ++ [.ref u])) := upd_same
   have hL6 : LinesN K H2 (upd H5 g (.lst (us ++ [.ref u]))) (us ++ [.ref u]) (lns ++ [ln]) := Paired.snoc (Paired.mapP hL3 fun _ _ ⟨u, e, w⟩ => ⟨u, e, (w.same s45).updL hg5 (by rw [g2]; intro z; cases z)⟩) ⟨u, rfl, ((hD.same s5).older hdom).updL hg5 (by rw [g2]; intro z; cases z)⟩
   have hR6 : RowsAre K (upd H5 g (.lst (us ++ [.ref u]))) ws hd := hR3.imp fun _ _ w => (w.same s45).upd hg5
   have hr6 : RowAt K (upd H5 g (.lst (us ++ [.ref u]))) t' r' := RowAt.upd hg5 hr'
   have s6 : Same H (upd H5 g (.lst (us ++ [.ref u]))) := fun b o e => by rw [upd_ne (ne_of_none e hg)]; exact (s3.trans s45) _ _ e
   have d6 : ∀ l, upd H5 g (.lst (us ++ [.ref u])) l = none → H2 l = none := fun l e => by
    by_cases el : l = g
    ·rw [el, upd_same] at e; cases e
    ·rw [upd_ne el] at e
     exact hdom l (by
      cases e5 : H3 l with
      | none => rfl
      | some o => rw [s45 _ _ e5] at e; cases e)
   generalize upd H5 g (.lst (us ++ [.ref u])) = H6 at hh6 hg6 hL6 hR6 hr6 s6 d6 ⊢
   refine ⟨_, rfl, .inl ⟨rfl, _, sqL_new hh6⟩, _, rfl, hh, _, _, rfl, rfl, hh6, by omega, ?_⟩
   refine ⟨us ++ [.ref u], ws ++ [.ref t'], lns ++ [ln], hd ++ [r'], _, _, _, rfl, by rw [upd_ne ghh]; exact hg6, upd_same, hL6.imp fun _ _ w => w.updL hh6 (by rw [h2]; intro z; cases z), RowsAre.snoc (hR6.imp fun _ _ w => w.upd hh6) (RowAt.upd hh6 hr6), by rw [jW, jW, hdl]; rfl, by rw [jW]; exact Nat.succ_le_succ hli, fun r hr => ?_, hnm.snoc (few_ok hok) (by rw [← hdl]; exact hnn), fun l e => ?_, fun b o e => ?_⟩
   ·rcases yQ.mp hr with w | w
    ·exact hrl3 r w
    ·rw [kX.mp w]; exact hl'
   ·by_cases el : l = hh
    ·rw [el, upd_same] at e; cases e
    ·rw [upd_ne el] at e; exact d6 l e
   ·rw [upd_ne (ne_of_none e hhH)]; exact s6 _ _ e
 ·rintro σ H3 ⟨us, ws, lns, hd, v5, v6, v7, rfl, hg3, hh3, hL3, hR3, hdl, hli, hrl3, hnm, hdom, s3⟩
  rw [jQ] at hli
  exact ⟨_, rfl, q g us lns H3 s3 hg3 (Paired.mapP hL3 fun _ _ ⟨u, e, w⟩ => ⟨u, e, w.dlat⟩) hnm (by omega)⟩
end
abbrev sNamed : Stmt := top 26
section
variable {P : Program} {w : World} {K : Fg} {mg : Str → Option Value} {base : Heap} {aT aL : Addr} {fT fL : Str → Option Value}
theorem scNamed : FnScope ["_law_line"] ["_law_line"] (defScope sNamed) := ⟨rfl, rfl, rfl, by decide +kernel, rfl, by decide +kernel, by decide +kernel⟩
theorem okNamed (F : Fn K mg "_law_named" sNamed) (M : Mg mg) : Cal P w K mg base 1 "_law_named" ["_law_line"] (spNamed K) := by
 refine cal_of F scNamed (fun _ _ _ _ _ _ => bind1 (fun _ => rfl)) (fun vs H Q E h => ?_) (fun f cdv A outer s H vs Q E hr h => ?_)
 ·obtain ⟨u, ln, rfl, _⟩ := h
  rfl
 obtain ⟨u, ln, rfl, hLn, h100, q⟩ := h
 have hu : (A.deeper (PyProof.Rows.envOfC "_law_named" (defScope sNamed) s.heap.objs.size f cdv)).units + 1 < cLine := xJ (wK (by decide) _) hr.un
 refine ⟨_, (pss_cons (ps_if (pt_cmpR op_eq (pe_ix ix_tup (pv 0) pe_int (fun _ _ => rfl)) pe_str (nomark _)) (pss_one (ps_ret (pe_lc ["_law_part"] [none] rfl (pi_list (pe_ix ix_tup (pv 0) pe_int (fun _ _ => rfl))) (fun _ _ _ => (pg_name (i := 0) (show (["_law_part"] : List Str).Nodup by decide +kernel) rfl (Or.inl rfl) (Or.inr rfl))) (fun _ _ _ => pf_nil) (fun _ _ _ => (pe_ix (ix_tupK (K := K) rfl) (pv 0) pe_int (fun _ _ => rfl)))))) pss_nil)
  (pss_cons (ps_if (pt_cmpR op_eq (pe_ix ix_tup (pv 0) pe_int (fun _ _ => rfl)) pe_str (nomark _)) (pss_one (ps_ret (pe_lst (pa_cons (pe_ix ix_tup (pv 0) pe_int (fun _ _ => rfl)) (pa_cons (pe_ix ix_tup (pv 0) pe_int (fun _ _ => rfl)) pa_nil))))) pss_nil)
  (pss_one (ps_ret (pe_op op_rep (pe_callTy call_list_of rfl M.list_ bt_list (pa_cons (pe_slice sl_tup (pv 0) (po_some pe_int) (po_some pe_int)) pa_nil)) (pe_callTy call_int1 rfl M.int_ bt_int (pa_cons (pe_cmpR op_in_seq (pe_ix ix_tup (pv 0) pe_int (fun _ _ => rfl)) (pe_tup (pa_cons pe_str (pa_cons pe_str pa_nil))) rfl) pa_nil))))))), ?_⟩
 refine seq_let3 ?_
 intro rT3 rT2
 have hz : (2000 : Nat) < sizeLine := by decide
 cases ln with
 | giv k =>
  have hu : SqT K H u _ := hLn
  refine ⟨_, rfl, u, _, _, _, rfl, rfl, hu, at0, rfl, _, rfl, ite2 (fun e => absurd e (by decide +kernel)) (fun _ => ?_)⟩
  refine ⟨_, rfl, u, _, _, _, rfl, rfl, hu, at0, rfl, _, rfl, ite2 (fun e => absurd e (by decide +kernel)) (fun _ => ?_)⟩
  refine ⟨_, rfl, _, rfl, _, rfl, u, _, rfl, hu, fun z => wW 0 z.1, fun p1 hp1 => ?_⟩
  rw [show cutV [V.str "given", .int k] (some 1) (some 2) = [.int k] from rfl]
  have a1 := same_new' hp1 (.tup [.int k])
  have b1 : upd H p1 (.tup [.int k]) p1 = some (.tup [.int k]) := upd_same
  generalize upd H p1 (.tup [.int k]) = H1 at a1 b1 ⊢
  refine ⟨p1, _, rfl, .inr (sqT_new b1), fun l2 hl2 => ?_⟩
  have a2 := same_new' hl2 (.lst [.int k])
  have b2 : upd H1 l2 (.lst [.int k]) l2 = some (.lst [.int k]) := upd_same
  generalize upd H1 l2 (.lst [.int k]) = H2 at a2 b2 ⊢
  refine ⟨_, rfl, u, _, _, _, rfl, rfl, (a1.trans a2).tup hu, at0, by show 2 ≤ sizeLine; decide, fun T hT => ?_⟩
  have a3 := same_new' hT (.tup [.str "share", .str "shut"])
  have b3 : SqT K (upd H2 T (.tup [.str "share", .str "shut"])) T [.str "share", .str "shut"] := sqT_new upd_same
  generalize upd H2 T (.tup [.str "share", .str "shut"]) = H3 at a3 b3 ⊢
  refine ⟨T, _, rfl, .inr b3, rfl, rfl, .inr ⟨_, rfl, ?_⟩⟩
  rw [if_neg (by decide +kernel)]
  refine ⟨l2, 0, _, rfl, rfl, a3 _ _ b2, by decide, by decide, by show 0 ≤ sizeLine; decide, fun g hg => ?_⟩
  exact q g _ (((a1.trans a2).trans a3).trans (same_new' hg _)) upd_same
 | low k =>
  have hu : SqT K H u _ := hLn
  refine ⟨_, rfl, u, _, _, _, rfl, rfl, hu, at0, rfl, _, rfl, ite2 (fun e => absurd e (by decide +kernel)) (fun _ => ?_)⟩
  refine ⟨_, rfl, u, _, _, _, rfl, rfl, hu, at0, rfl, _, rfl, ite2 (fun e => absurd e (by decide +kernel)) (fun _ => ?_)⟩
  refine ⟨_, rfl, _, rfl, _, rfl, u, _, rfl, hu, fun z => wW 0 z.1, fun p1 hp1 => ?_⟩
  rw [show cutV [V.str "low", .int k] (some 1) (some 2) = [.int k] from rfl]
  have a1 := same_new' hp1 (.tup [.int k])
  have b1 : upd H p1 (.tup [.int k]) p1 = some (.tup [.int k]) := upd_same
  generalize upd H p1 (.tup [.int k]) = H1 at a1 b1 ⊢
  refine ⟨p1, _, rfl, .inr (sqT_new b1), fun l2 hl2 => ?_⟩
  have a2 := same_new' hl2 (.lst [.int k])
  have b2 : upd H1 l2 (.lst [.int k]) l2 = some (.lst [.int k]) := upd_same
  generalize upd H1 l2 (.lst [.int k]) = H2 at a2 b2 ⊢
  refine ⟨_, rfl, u, _, _, _, rfl, rfl, (a1.trans a2).tup hu, at0, by show 2 ≤ sizeLine; decide, fun T hT => ?_⟩
  have a3 := same_new' hT (.tup [.str "share", .str "shut"])
  have b3 : SqT K (upd H2 T (.tup [.str "share", .str "shut"])) T [.str "share", .str "shut"] := sqT_new upd_same
  generalize upd H2 T (.tup [.str "share", .str "shut"]) = H3 at a3 b3 ⊢
  refine ⟨T, _, rfl, .inr b3, rfl, rfl, .inr ⟨_, rfl, ?_⟩⟩
  rw [if_neg (by decide +kernel)]
  refine ⟨l2, 0, _, rfl, rfl, a3 _ _ b2, by decide, by decide, by show 0 ≤ sizeLine; decide, fun g hg => ?_⟩
  exact q g _ (((a1.trans a2).trans a3).trans (same_new' hg _)) upd_same
 | high k =>
  have hu : SqT K H u _ := hLn
  refine ⟨_, rfl, u, _, _, _, rfl, rfl, hu, at0, rfl, _, rfl, ite2 (fun e => absurd e (by decide +kernel)) (fun _ => ?_)⟩
  refine ⟨_, rfl, u, _, _, _, rfl, rfl, hu, at0, rfl, _, rfl, ite2 (fun e => absurd e (by decide +kernel)) (fun _ => ?_)⟩
  refine ⟨_, rfl, _, rfl, _, rfl, u, _, rfl, hu, fun z => wW 0 z.1, fun p1 hp1 => ?_⟩
  rw [show cutV [V.str "high", .int k] (some 1) (some 2) = [.int k] from rfl]
  have a1 := same_new' hp1 (.tup [.int k])
  have b1 : upd H p1 (.tup [.int k]) p1 = some (.tup [.int k]) := upd_same
  generalize upd H p1 (.tup [.int k]) = H1 at a1 b1 ⊢
  refine ⟨p1, _, rfl, .inr (sqT_new b1), fun l2 hl2 => ?_⟩
  have a2 := same_new' hl2 (.lst [.int k])
  have b2 : upd H1 l2 (.lst [.int k]) l2 = some (.lst [.int k]) := upd_same
  generalize upd H1 l2 (.lst [.int k]) = H2 at a2 b2 ⊢
  refine ⟨_, rfl, u, _, _, _, rfl, rfl, (a1.trans a2).tup hu, at0, by show 2 ≤ sizeLine; decide, fun T hT => ?_⟩
  have a3 := same_new' hT (.tup [.str "share", .str "shut"])
  have b3 : SqT K (upd H2 T (.tup [.str "share", .str "shut"])) T [.str "share", .str "shut"] := sqT_new upd_same
  generalize upd H2 T (.tup [.str "share", .str "shut"]) = H3 at a3 b3 ⊢
  refine ⟨T, _, rfl, .inr b3, rfl, rfl, .inr ⟨_, rfl, ?_⟩⟩
  rw [if_neg (by decide +kernel)]
  refine ⟨l2, 0, _, rfl, rfl, a3 _ _ b2, by decide, by decide, by show 0 ≤ sizeLine; decide, fun g hg => ?_⟩
  exact q g _ (((a1.trans a2).trans a3).trans (same_new' hg _)) upd_same
 | bet =>
  have hu : SqT K H u _ := hLn
  refine ⟨_, rfl, u, _, _, _, rfl, rfl, hu, at10, rfl, _, rfl, ite2 (fun e => absurd e (by decide +kernel)) (fun _ => ?_)⟩
  refine ⟨_, rfl, u, _, _, _, rfl, rfl, hu, at10, rfl, _, rfl, ite2 (fun e => absurd e (by decide +kernel)) (fun _ => ?_)⟩
  refine ⟨_, rfl, _, rfl, _, rfl, u, _, rfl, hu, fun z => wW 0 z.1, fun p1 hp1 => ?_⟩
  rw [show cutV [V.str "better"] (some 1) (some 2) = [] from rfl]
  have a1 := same_new' hp1 (.tup [])
  have b1 : upd H p1 (.tup []) p1 = some (.tup []) := upd_same
  generalize upd H p1 (.tup []) = H1 at a1 b1 ⊢
  refine ⟨p1, _, rfl, .inr (sqT_new b1), fun l2 hl2 => ?_⟩
  have a2 := same_new' hl2 (.lst [])
  have b2 : upd H1 l2 (.lst []) l2 = some (.lst []) := upd_same
  generalize upd H1 l2 (.lst []) = H2 at a2 b2 ⊢
  refine ⟨_, rfl, u, _, _, _, rfl, rfl, (a1.trans a2).tup hu, at10, by show 2 ≤ sizeLine; decide, fun T hT => ?_⟩
  have a3 := same_new' hT (.tup [.str "share", .str "shut"])
  have b3 : SqT K (upd H2 T (.tup [.str "share", .str "shut"])) T [.str "share", .str "shut"] := sqT_new upd_same
  generalize upd H2 T (.tup [.str "share", .str "shut"]) = H3 at a3 b3 ⊢
  refine ⟨T, _, rfl, .inr b3, rfl, rfl, .inr ⟨_, rfl, ?_⟩⟩
  rw [if_neg (by decide +kernel)]
  refine ⟨l2, 0, _, rfl, rfl, a3 _ _ b2, by decide, by decide, by show 0 ≤ sizeLine; decide, fun g hg => ?_⟩
  exact q g _ (((a1.trans a2).trans a3).trans (same_new' hg _)) upd_same
 | lik ts =>
  obtain ⟨l, hu, hl⟩ := id hLn
  refine ⟨_, rfl, u, _, _, _, rfl, rfl, hu, at0, rfl, _, rfl, ite2 (fun e => absurd e (by decide +kernel)) (fun _ => ?_)⟩
  refine ⟨_, rfl, u, _, _, _, rfl, rfl, hu, at0, rfl, _, rfl, ite2 (fun e => absurd e (by decide +kernel)) (fun _ => ?_)⟩
  refine ⟨_, rfl, _, rfl, _, rfl, u, _, rfl, hu, fun z => wW 0 z.1, fun p1 hp1 => ?_⟩
  rw [show cutV [V.str "like", .ref l] (some 1) (some 2) = [.ref l] from rfl]
  have a1 := same_new' hp1 (.tup [.ref l])
  have b1 : upd H p1 (.tup [.ref l]) p1 = some (.tup [.ref l]) := upd_same
  generalize upd H p1 (.tup [.ref l]) = H1 at a1 b1 ⊢
  refine ⟨p1, _, rfl, .inr (sqT_new b1), fun l2 hl2 => ?_⟩
  have a2 := same_new' hl2 (.lst [.ref l])
  have b2 : upd H1 l2 (.lst [.ref l]) l2 = some (.lst [.ref l]) := upd_same
  generalize upd H1 l2 (.lst [.ref l]) = H2 at a2 b2 ⊢
  refine ⟨_, rfl, u, _, _, _, rfl, rfl, (a1.trans a2).tup hu, at0, by show 2 ≤ sizeLine; decide, fun T hT => ?_⟩
  have a3 := same_new' hT (.tup [.str "share", .str "shut"])
  have b3 : SqT K (upd H2 T (.tup [.str "share", .str "shut"])) T [.str "share", .str "shut"] := sqT_new upd_same
  generalize upd H2 T (.tup [.str "share", .str "shut"]) = H3 at a3 b3 ⊢
  refine ⟨T, _, rfl, .inr b3, rfl, rfl, .inr ⟨_, rfl, ?_⟩⟩
  rw [if_neg (by decide +kernel)]
  refine ⟨l2, 0, _, rfl, rfl, a3 _ _ b2, by decide, by decide, by show 0 ≤ sizeLine; decide, fun g hg => ?_⟩
  exact q g _ (((a1.trans a2).trans a3).trans (same_new' hg _)) upd_same
 | shr o b =>
  have hu : SqT K H u _ := hLn
  refine ⟨_, rfl, u, _, _, _, rfl, rfl, hu, at30, rfl, _, rfl, ite2 (fun e => absurd e (by decide +kernel)) (fun _ => ?_)⟩
  refine ⟨_, rfl, u, _, _, _, rfl, rfl, hu, at30, rfl, _, rfl, ite2 (fun e => absurd e (by decide +kernel)) (fun _ => ?_)⟩
  refine ⟨_, rfl, _, rfl, _, rfl, u, _, rfl, hu, fun z => wW 0 z.1, fun p1 hp1 => ?_⟩
  rw [show cutV [V.str "share", .int o, .int b] (some 1) (some 2) = [.int o] from rfl]
  have a1 := same_new' hp1 (.tup [.int o])
  have b1 : upd H p1 (.tup [.int o]) p1 = some (.tup [.int o]) := upd_same
  generalize upd H p1 (.tup [.int o]) = H1 at a1 b1 ⊢
  refine ⟨p1, _, rfl, .inr (sqT_new b1), fun l2 hl2 => ?_⟩
  have a2 := same_new' hl2 (.lst [.int o])
  have b2 : upd H1 l2 (.lst [.int o]) l2 = some (.lst [.int o]) := upd_same
  generalize upd H1 l2 (.lst [.int o]) = H2 at a2 b2 ⊢
  refine ⟨_, rfl, u, _, _, _, rfl, rfl, (a1.trans a2).tup hu, at30, by show 2 ≤ sizeLine; decide, fun T hT => ?_⟩
  have a3 := same_new' hT (.tup [.str "share", .str "shut"])
  have b3 : SqT K (upd H2 T (.tup [.str "share", .str "shut"])) T [.str "share", .str "shut"] := sqT_new upd_same
  generalize upd H2 T (.tup [.str "share", .str "shut"]) = H3 at a3 b3 ⊢
  refine ⟨T, _, rfl, .inr b3, rfl, rfl, .inr ⟨_, rfl, ?_⟩⟩
  rw [if_pos (by decide +kernel)]
  refine ⟨l2, 1, _, rfl, rfl, a3 _ _ b2, by decide, by decide, by show 1 ≤ sizeLine; decide, fun g hg => ?_⟩
  exact q g _ (((a1.trans a2).trans a3).trans (same_new' hg _)) upd_same
 | sht o hs =>
  obtain ⟨l, hu, hl⟩ := id hLn
  refine ⟨_, rfl, u, _, _, _, rfl, rfl, hu, at30, rfl, _, rfl, ite2 (fun e => absurd e (by decide +kernel)) (fun _ => ?_)⟩
  refine ⟨_, rfl, u, _, _, _, rfl, rfl, hu, at30, rfl, _, rfl, ite2 (fun e => absurd e (by decide +kernel)) (fun _ => ?_)⟩
  refine ⟨_, rfl, _, rfl, _, rfl, u, _, rfl, hu, fun z => wW 0 z.1, fun p1 hp1 => ?_⟩
  rw [show cutV [V.str "shut", .int o, .ref l] (some 1) (some 2) = [.int o] from rfl]
  have a1 := same_new' hp1 (.tup [.int o])
  have b1 : upd H p1 (.tup [.int o]) p1 = some (.tup [.int o]) := upd_same
  generalize upd H p1 (.tup [.int o]) = H1 at a1 b1 ⊢
  refine ⟨p1, _, rfl, .inr (sqT_new b1), fun l2 hl2 => ?_⟩
  have a2 := same_new' hl2 (.lst [.int o])
  have b2 : upd H1 l2 (.lst [.int o]) l2 = some (.lst [.int o]) := upd_same
  generalize upd H1 l2 (.lst [.int o]) = H2 at a2 b2 ⊢
  refine ⟨_, rfl, u, _, _, _, rfl, rfl, (a1.trans a2).tup hu, at30, by show 2 ≤ sizeLine; decide, fun T hT => ?_⟩
  have a3 := same_new' hT (.tup [.str "share", .str "shut"])
  have b3 : SqT K (upd H2 T (.tup [.str "share", .str "shut"])) T [.str "share", .str "shut"] := sqT_new upd_same
  generalize upd H2 T (.tup [.str "share", .str "shut"]) = H3 at a3 b3 ⊢
  refine ⟨T, _, rfl, .inr b3, rfl, rfl, .inr ⟨_, rfl, ?_⟩⟩
  rw [if_pos (by decide +kernel)]
  refine ⟨l2, 1, _, rfl, rfl, a3 _ _ b2, by decide, by decide, by show 1 ≤ sizeLine; decide, fun g hg => ?_⟩
  exact q g _ (((a1.trans a2).trans a3).trans (same_new' hg _)) upd_same
 | eit o p c =>
  have hu : SqT K H u _ := hLn
  refine ⟨_, rfl, u, _, _, _, rfl, rfl, hu, at40, rfl, _, rfl, ite2 (fun e => absurd e (by decide +kernel)) (fun _ => ?_)⟩
  refine ⟨_, rfl, u, _, _, _, rfl, rfl, hu, at40, rfl, _, rfl, ite2 (fun _ => ?_) (fun e => absurd (by decide +kernel) e)⟩
  refine ⟨_, rfl, u, _, _, _, rfl, rfl, hu, at41, _, rfl, u, _, _, _, rfl, rfl, hu, at42, by show 2 ≤ sizeLine; decide, fun g hg => ?_⟩
  exact q g _ (same_new' hg _) upd_same
 | sm ps =>
  obtain ⟨l, hu, ws, hlw, hpa⟩ := id hLn
  have lv := hpa.length
  rw [jQ] at lv
  have h10 : ps.length ≤ 100 := h100
  refine ⟨_, rfl, u, _, _, _, rfl, rfl, hu, at0, rfl, _, rfl, ite2 (fun _ => ?_) (fun e => absurd (by decide +kernel) e)⟩
  refine ⟨_, rfl, u, _, _, _, rfl, rfl, hu, at1, l, rfl, ⟨_, hlw⟩, fun D hD => ?_⟩
  let Pv19 : Nat → St → List V → Hp → Prop := fun i τ ys H2 => ∃ v : Option V, τ = [v] ∧ ys = ((ps.map (·.1)).take i).map V.int ∧ H2 D = some (.lst ys) ∧ Same H H2
  refine lc_any (n := ps.length) Pv19 ?_ (fun i τ ys H2 hi h => ?_) (fun i τ ys H2 hi h => ?_) (fun τ ys H2 h => ?_) ?_ ?_
  ·exact ⟨none, rfl, rfl, upd_same, same_new' hD _⟩
  ·obtain ⟨v, rfl, rfl, hE, s2⟩ := h
   exact ⟨hE, by rw [jQ, xQ]; omega⟩
  ·obtain ⟨v, rfl, rfl, hE, s2⟩ := h
   exact ⟨ws, ws[i]'(by omega), s2.seq hlw, gE (by omega)⟩
  ·obtain ⟨v, rfl, rfl, hE, s2⟩ := h
   exact ⟨ws, s2.seq hlw, by omega⟩
  ·rintro i τ ys H2 x H3 hi ⟨v, rfl, rfl, hE, s2⟩ ⟨rfl, e1⟩
   obtain ⟨T, c, w, rfl, ec, hT⟩ := holds_get hpa (e1 _ (s2.seq hlw)) s2
   refine ⟨_, rfl, T, _, _, _, rfl, rfl, hT, at0, hE, _, rfl, ?_, upd_same, fun b o e => ?_⟩
   ·rw [takeS (show (ps.map (·.1))[i]? = some c by rw [kY, ec]; rfl), kW]; rfl
   ·rw [upd_ne (ne_of_none e hD)]; exact s2 _ _ e
  rintro τ ys H2 ⟨v, rfl, rfl, hE, s2⟩
  rw [jXc (by rw [jQ]; exact jX _)] at hE
  exact q D H2 s2 hE
end
abbrev sNamedBy : Stmt := top 1
section
variable {P : Program} {w : World} {K : Fg} {mg : Str → Option Value} {base : Heap} {aT aL : Addr} {fT fL : Str → Option Value}
theorem scNamedBy : FnScope ["line"] ["line"] (defScope sNamedBy) := ⟨rfl, rfl, rfl, by decide +kernel, rfl, by decide +kernel, by decide +kernel⟩
theorem okNamedBy (F : Fn K mg "named_by" sNamedBy) (M : Mg mg) : Cal P w K mg base 1 "named_by" ["line"] (spNamed K) := by
 refine cal_of F scNamedBy (fun _ _ _ _ _ _ => bind1 (fun _ => rfl)) (fun vs H Q E h => ?_) (fun f cdv A outer s H vs Q E hr h => ?_)
 ·obtain ⟨u, ln, rfl, _⟩ := h
  rfl
 obtain ⟨u, ln, rfl, hLn, h100, q⟩ := h
 have hu : (A.deeper (PyProof.Rows.envOfC "named_by" (defScope sNamedBy) s.heap.objs.size f cdv)).units + 1 < cLine := xJ (wK (by decide) _) hr.un
 refine ⟨_, (pss_cons (ps_if (pt_cmpR op_eq (pe_ix ix_tup (pv 0) pe_int (fun _ _ => rfl)) pe_str (nomark _)) (pss_one (ps_ret (pe_lc ["place", "many"] [none, none] rfl (pi_list (pe_ix ix_tup (pv 0) pe_int (fun _ _ => rfl))) (fun _ _ _ => (pg_pair (K := K) (i := 0) (j := 1) rfl rfl (show (["place", "many"] : List Str).Nodup by decide +kernel) rfl rfl rfl rfl)) (fun _ _ _ => pf_nil) (fun _ _ _ => (pv 0))))) pss_nil)
  (pss_cons (ps_if (pt_cmpR op_in_seq (pe_ix ix_tup (pv 0) pe_int (fun _ _ => rfl)) (pe_tup (pa_cons pe_str (pa_cons pe_str pa_nil))) rfl) (pss_one (ps_ret (pe_lst (pa_cons (pe_ix ix_tup (pv 0) pe_int (fun _ _ => rfl)) pa_nil)))) pss_nil)
  (pss_one (ps_ret (pe_ifExp (pt_cmpR op_eq (pe_ix ix_tup (pv 0) pe_int (fun _ _ => rfl)) pe_str (nomark _)) (pe_callTy call_list_of rfl M.list_ bt_list (pa_cons (pe_slice sl_tup (pv 0) (po_some pe_int) (po_some pe_int)) pa_nil)) (pe_lst pa_nil)))))), ?_⟩
 refine seq_let3 ?_
 intro rT3 rT2
 have hz : (2000 : Nat) < sizeLine := by decide
 cases ln with
 | giv k =>
  have hu : SqT K H u _ := hLn
  refine ⟨_, rfl, u, _, _, _, rfl, rfl, hu, at0, rfl, _, rfl, ite2 (fun e => absurd e (by decide +kernel)) (fun _ => ?_)⟩
  refine ⟨_, rfl, u, _, _, _, rfl, rfl, hu, at0, by show 2 ≤ sizeLine; decide, fun T hT => ?_⟩
  have a1 := same_new' hT (.tup [.str "share", .str "shut"])
  have b1 : SqT K (upd H T (.tup [.str "share", .str "shut"])) T [.str "share", .str "shut"] := sqT_new upd_same
  generalize upd H T (.tup [.str "share", .str "shut"]) = H1 at a1 b1 ⊢
  have hu1 := a1.tup hu
  refine ⟨T, _, rfl, .inr b1, rfl, rfl, _, rfl, ite2 (fun e => absurd e (by decide +kernel)) (fun _ => ?_)⟩
  refine ⟨_, rfl, u, _, _, _, rfl, rfl, hu1, at0, rfl, _, rfl, ite2 (fun e => absurd e (by decide +kernel)) (fun _ => ?_)⟩
  refine ⟨by show 0 ≤ sizeLine; decide, fun g hg => ?_⟩
  exact q g _ (a1.trans (same_new' hg _)) upd_same
 | low k =>
  have hu : SqT K H u _ := hLn
  refine ⟨_, rfl, u, _, _, _, rfl, rfl, hu, at0, rfl, _, rfl, ite2 (fun e => absurd e (by decide +kernel)) (fun _ => ?_)⟩
  refine ⟨_, rfl, u, _, _, _, rfl, rfl, hu, at0, by show 2 ≤ sizeLine; decide, fun T hT => ?_⟩
  have a1 := same_new' hT (.tup [.str "share", .str "shut"])
  have b1 : SqT K (upd H T (.tup [.str "share", .str "shut"])) T [.str "share", .str "shut"] := sqT_new upd_same
  generalize upd H T (.tup [.str "share", .str "shut"]) = H1 at a1 b1 ⊢
  have hu1 := a1.tup hu
  refine ⟨T, _, rfl, .inr b1, rfl, rfl, _, rfl, ite2 (fun e => absurd e (by decide +kernel)) (fun _ => ?_)⟩
  refine ⟨_, rfl, u, _, _, _, rfl, rfl, hu1, at0, rfl, _, rfl, ite2 (fun e => absurd e (by decide +kernel)) (fun _ => ?_)⟩
  refine ⟨by show 0 ≤ sizeLine; decide, fun g hg => ?_⟩
  exact q g _ (a1.trans (same_new' hg _)) upd_same
 | high k =>
  have hu : SqT K H u _ := hLn
  refine ⟨_, rfl, u, _, _, _, rfl, rfl, hu, at0, rfl, _, rfl, ite2 (fun e => absurd e (by decide +kernel)) (fun _ => ?_)⟩
  refine ⟨_, rfl, u, _, _, _, rfl, rfl, hu, at0, by show 2 ≤ sizeLine; decide, fun T hT => ?_⟩
  have a1 := same_new' hT (.tup [.str "share", .str "shut"])
  have b1 : SqT K (upd H T (.tup [.str "share", .str "shut"])) T [.str "share", .str "shut"] := sqT_new upd_same
  generalize upd H T (.tup [.str "share", .str "shut"]) = H1 at a1 b1 ⊢
  have hu1 := a1.tup hu
  refine ⟨T, _, rfl, .inr b1, rfl, rfl, _, rfl, ite2 (fun e => absurd e (by decide +kernel)) (fun _ => ?_)⟩
  refine ⟨_, rfl, u, _, _, _, rfl, rfl, hu1, at0, rfl, _, rfl, ite2 (fun e => absurd e (by decide +kernel)) (fun _ => ?_)⟩
  refine ⟨by show 0 ≤ sizeLine; decide, fun g hg => ?_⟩
  exact q g _ (a1.trans (same_new' hg _)) upd_same
 | bet =>
  have hu : SqT K H u _ := hLn
  refine ⟨_, rfl, u, _, _, _, rfl, rfl, hu, at10, rfl, _, rfl, ite2 (fun e => absurd e (by decide +kernel)) (fun _ => ?_)⟩
  refine ⟨_, rfl, u, _, _, _, rfl, rfl, hu, at10, by show 2 ≤ sizeLine; decide, fun T hT => ?_⟩
  have a1 := same_new' hT (.tup [.str "share", .str "shut"])
  have b1 : SqT K (upd H T (.tup [.str "share", .str "shut"])) T [.str "share", .str "shut"] := sqT_new upd_same
  generalize upd H T (.tup [.str "share", .str "shut"]) = H1 at a1 b1 ⊢
  have hu1 := a1.tup hu
  refine ⟨T, _, rfl, .inr b1, rfl, rfl, _, rfl, ite2 (fun e => absurd e (by decide +kernel)) (fun _ => ?_)⟩
  refine ⟨_, rfl, u, _, _, _, rfl, rfl, hu1, at10, rfl, _, rfl, ite2 (fun e => absurd e (by decide +kernel)) (fun _ => ?_)⟩
  refine ⟨by show 0 ≤ sizeLine; decide, fun g hg => ?_⟩
  exact q g _ (a1.trans (same_new' hg _)) upd_same
 | lik ts =>
  obtain ⟨l, hu, hl⟩ := id hLn
  refine ⟨_, rfl, u, _, _, _, rfl, rfl, hu, at0, rfl, _, rfl, ite2 (fun e => absurd e (by decide +kernel)) (fun _ => ?_)⟩
  refine ⟨_, rfl, u, _, _, _, rfl, rfl, hu, at0, by show 2 ≤ sizeLine; decide, fun T hT => ?_⟩
  have a1 := same_new' hT (.tup [.str "share", .str "shut"])
  have b1 : SqT K (upd H T (.tup [.str "share", .str "shut"])) T [.str "share", .str "shut"] := sqT_new upd_same
  generalize upd H T (.tup [.str "share", .str "shut"]) = H1 at a1 b1 ⊢
  have hu1 := a1.tup hu
  refine ⟨T, _, rfl, .inr b1, rfl, rfl, _, rfl, ite2 (fun e => absurd e (by decide +kernel)) (fun _ => ?_)⟩
  refine ⟨_, rfl, u, _, _, _, rfl, rfl, hu1, at0, rfl, _, rfl, ite2 (fun e => absurd e (by decide +kernel)) (fun _ => ?_)⟩
  refine ⟨by show 0 ≤ sizeLine; decide, fun g hg => ?_⟩
  exact q g _ (a1.trans (same_new' hg _)) upd_same
 | shr o b =>
  have hu : SqT K H u _ := hLn
  refine ⟨_, rfl, u, _, _, _, rfl, rfl, hu, at30, rfl, _, rfl, ite2 (fun e => absurd e (by decide +kernel)) (fun _ => ?_)⟩
  refine ⟨_, rfl, u, _, _, _, rfl, rfl, hu, at30, by show 2 ≤ sizeLine; decide, fun T hT => ?_⟩
  have a1 := same_new' hT (.tup [.str "share", .str "shut"])
  have b1 : SqT K (upd H T (.tup [.str "share", .str "shut"])) T [.str "share", .str "shut"] := sqT_new upd_same
  generalize upd H T (.tup [.str "share", .str "shut"]) = H1 at a1 b1 ⊢
  have hu1 := a1.tup hu
  refine ⟨T, _, rfl, .inr b1, rfl, rfl, _, rfl, ite2 (fun _ => ?_) (fun e => absurd (by decide +kernel) e)⟩
  refine ⟨_, rfl, u, _, _, _, rfl, rfl, hu1, at31, by show 1 ≤ sizeLine; decide, fun g hg => ?_⟩
  exact q g _ (a1.trans (same_new' hg _)) upd_same
 | sht o hs =>
  obtain ⟨l, hu, hl⟩ := id hLn
  refine ⟨_, rfl, u, _, _, _, rfl, rfl, hu, at30, rfl, _, rfl, ite2 (fun e => absurd e (by decide +kernel)) (fun _ => ?_)⟩
  refine ⟨_, rfl, u, _, _, _, rfl, rfl, hu, at30, by show 2 ≤ sizeLine; decide, fun T hT => ?_⟩
  have a1 := same_new' hT (.tup [.str "share", .str "shut"])
  have b1 : SqT K (upd H T (.tup [.str "share", .str "shut"])) T [.str "share", .str "shut"] := sqT_new upd_same
  generalize upd H T (.tup [.str "share", .str "shut"]) = H1 at a1 b1 ⊢
  have hu1 := a1.tup hu
  refine ⟨T, _, rfl, .inr b1, rfl, rfl, _, rfl, ite2 (fun _ => ?_) (fun e => absurd (by decide +kernel) e)⟩
  refine ⟨_, rfl, u, _, _, _, rfl, rfl, hu1, at31, by show 1 ≤ sizeLine; decide, fun g hg => ?_⟩
  exact q g _ (a1.trans (same_new' hg _)) upd_same
 | eit o p c =>
  have hu : SqT K H u _ := hLn
  refine ⟨_, rfl, u, _, _, _, rfl, rfl, hu, at40, rfl, _, rfl, ite2 (fun e => absurd e (by decide +kernel)) (fun _ => ?_)⟩
  refine ⟨_, rfl, u, _, _, _, rfl, rfl, hu, at40, by show 2 ≤ sizeLine; decide, fun T hT => ?_⟩
  have a1 := same_new' hT (.tup [.str "share", .str "shut"])
  have b1 : SqT K (upd H T (.tup [.str "share", .str "shut"])) T [.str "share", .str "shut"] := sqT_new upd_same
  generalize upd H T (.tup [.str "share", .str "shut"]) = H1 at a1 b1 ⊢
  have hu1 := a1.tup hu
  refine ⟨T, _, rfl, .inr b1, rfl, rfl, _, rfl, ite2 (fun e => absurd e (by decide +kernel)) (fun _ => ?_)⟩
  refine ⟨_, rfl, u, _, _, _, rfl, rfl, hu1, at40, rfl, _, rfl, ite2 (fun _ => ?_) (fun e => absurd (by decide +kernel) e)⟩
  refine ⟨_, rfl, _, rfl, _, rfl, u, _, rfl, hu1, fun z => wW 0 z.1, fun p1 hp1 => ?_⟩
  rw [show cutV [V.str "either", .int o, .int p, .int c] (some 1) (some 3) = [.int o, .int p] from rfl]
  have a2 := same_new' hp1 (.tup [.int o, .int p])
  refine ⟨p1, _, rfl, .inr (sqT_new upd_same), fun l2 hl2 => ?_⟩
  exact q l2 _ ((a1.trans a2).trans (same_new' hl2 _)) upd_same
 | sm ps =>
  obtain ⟨l, hu, ws, hlw, hpa⟩ := id hLn
  have lv := hpa.length
  rw [jQ] at lv
  have h10 : ps.length ≤ 100 := h100
  refine ⟨_, rfl, u, _, _, _, rfl, rfl, hu, at0, rfl, _, rfl, ite2 (fun _ => ?_) (fun e => absurd (by decide +kernel) e)⟩
  refine ⟨_, rfl, u, _, _, _, rfl, rfl, hu, at1, l, rfl, ⟨_, hlw⟩, fun D hD => ?_⟩
  let Pv20 : Nat → St → List V → Hp → Prop := fun i τ ys H2 => ∃ v v2 : Option V, τ = [v, v2] ∧ ys = ((ps.map (·.1)).take i).map V.int ∧ H2 D = some (.lst ys) ∧ Same H H2
  refine lc_any (n := ps.length) Pv20 ?_ (fun i τ ys H2 hi h => ?_) (fun i τ ys H2 hi h => ?_) (fun τ ys H2 h => ?_) ?_ ?_
  ·exact ⟨none, none, rfl, rfl, upd_same, same_new' hD _⟩
  ·obtain ⟨v, v2, rfl, rfl, hE, s2⟩ := h
   exact ⟨hE, by rw [jQ, xQ]; omega⟩
  ·obtain ⟨v, v2, rfl, rfl, hE, s2⟩ := h
   exact ⟨ws, ws[i]'(by omega), s2.seq hlw, gE (by omega)⟩
  ·obtain ⟨v, v2, rfl, rfl, hE, s2⟩ := h
   exact ⟨ws, s2.seq hlw, by omega⟩
  ·rintro i τ ys H2 x H3 hi ⟨v, v2, rfl, rfl, hE, s2⟩ ⟨rfl, e1⟩
   obtain ⟨T, c, w, rfl, ec, hT⟩ := holds_get hpa (e1 _ (s2.seq hlw)) s2
   refine ⟨T, _, rfl, hT, rfl, _, _, rfl, _, _, rfl, rfl, _, rfl, hE, _, _, rfl, ?_, upd_same, fun b o e => ?_⟩
   ·rw [takeS (show (ps.map (·.1))[i]? = some c by rw [kY, ec]; rfl), kW]; rfl
   ·rw [upd_ne (ne_of_none e hD)]; exact s2 _ _ e
  rintro τ ys H2 ⟨v, v2, rfl, rfl, hE, s2⟩
  rw [jXc (by rw [jQ]; exact jX _)] at hE
  exact q D H2 s2 hE
end
abbrev sLong : Stmt := top 27
theorem bind0 {F : List Value → Prop} (h : F []) : ∀ us : List Value, us.length = 0 → F us := fun us hl => by rw [kYd.mp hl]; exact h
section
variable {P : Program} {w : World} {K : Fg} {mg : Str → Option Value} {base : Heap} {aT aL : Addr} {fT fL : Str → Option Value}
theorem scLong : FnScope ["_law_paper_here", "_law_k"] [] (defScope sLong) := ⟨rfl, rfl, rfl, by decide +kernel, rfl, by decide +kernel, by decide +kernel⟩
theorem okLong (F : Fn K mg "_law_long" sLong) (M : Mg mg) : Cal P w K mg base 1 "_law_long" [] (spLong K) := by
 refine cal_of F scLong (fun _ _ _ _ _ _ => bind0 rfl) (fun vs H Q E h => ?_) (fun f cdv A outer s H vs Q E hr h => ?_)
 ·obtain ⟨rfl, _⟩ := h
  rfl
 obtain ⟨rfl, q⟩ := h
 refine ⟨_, (pss_cons (ps_set (i := 0) scLong.nd rfl (Or.inl rfl) (pe_lst (pa_cons (pe_tup (pa_cons pe_str (pa_cons pe_int pa_nil))) pa_nil)))
  (pss_cons (ps_for PassesOwn.never rfl (pi_range1 rfl M.range_ (pa_cons pe_int pa_nil)) (pg_name (i := 1) scLong.nd rfl (Or.inl rfl) (Or.inl rfl)) (pss_one (ps_expr (pe_bm PySem.F.plainAttrs_list PySem.F.slot_list_append PySem.F.type_list_append mt_append (pv 0) (pa_cons (pe_tup (pa_cons pe_str (pa_cons (pe_lst (pa_cons (pe_tup (pa_cons (pv 1) (pa_cons (pe_op op_add pe_int (pe_op op_mod (pv 1) pe_int)) pa_nil))) pa_nil)) pa_nil))) pa_nil)))))
  (pss_one (ps_ret (pv 0))))), ?_⟩
 refine seq_let3 ?_
 intro rT3 rT2
 have hz : (2000 : Nat) < sizeLine := by decide
 refine ⟨by show 2 ≤ sizeLine; decide, fun p hp => ?_⟩
 have a1 := same_new' hp (.tup [.str "low", .int 0])
 have b1 : upd H p (.tup [.str "low", .int 0]) p = some (.tup [.str "low", .int 0]) := upd_same
 generalize upd H p (.tup [.str "low", .int 0]) = H1 at a1 b1 ⊢
 refine ⟨by show 1 ≤ sizeLine; decide, fun g hg => ?_⟩
 have a2 := same_new' hg (.lst [.ref p])
 have b2 : upd H1 g (.lst [.ref p]) g = some (.lst [.ref p]) := upd_same
 have gH : H g = none := by
  cases e5 : H g with
  | none => rfl
  | some o => rw [a1 _ _ e5] at hg; cases hg
 generalize upd H1 g (.lst [.ref p]) = H2 at a2 b2 ⊢
 let Pv21 : Nat → St → Hp → Prop := fun i σ H3 => ∃ (us : List V) (lns : List DL) (v1 : Option V), σ = [some (.ref g), v1] ∧ H3 g = some (.lst us) ∧ LinesN K H2 H3 us lns ∧ lns.length = i + 1 ∧ NamesOk lns ∧ (∀ l, H3 l = none → H2 l = none) ∧ Same H H3
 refine ⟨1500, rfl, by decide, by decide, for_range (lo := 0) (n := Int.toNat 1500) Pv21 ⟨_, [.low 0], none, rfl, b2, .cons ⟨p, rfl, sqT_new (a2 _ _ b1)⟩ .nil, rfl, fun i ln e => (by
  cases i with
  | zero => cases e; exact ⟨trivial, fun _ h => (nomatch h)⟩
  | succ i => exact nomatch e), fun _ h => h, a1.trans a2⟩ ?_ ?_⟩
 ·rintro i σ H3 hi ⟨us, lns, v1, rfl, hg3, hL3, hli, hnm, hdom, s3⟩
  have hi' : i < 1500 := hi
  have lu := Paired.length hL3
  refine ⟨_, rfl, .inl ⟨rfl, _, sqL_new hg3⟩, _, rfl, _, rfl, _, _, rfl, rfl, by show (0 : Int) < 2; decide, _, _, rfl, rfl, by show 2 ≤ sizeLine; decide, fun p1 hp1 => ?_⟩
  have a4 := same_new' hp1 (.tup [.int (0 + (i : Int)), .int (1 + (0 + (i : Int)) % 2)])
  have b4 : upd H3 p1 (.tup [.int (0 + (i : Int)), .int (1 + (0 + (i : Int)) % 2)]) p1 = some (.tup [.int (0 + (i : Int)), .int (1 + (0 + (i : Int)) % 2)]) := upd_same
  generalize upd H3 p1 (.tup [.int (0 + (i : Int)), .int (1 + (0 + (i : Int)) % 2)]) = H4 at a4 b4 ⊢
  refine ⟨by show 1 ≤ sizeLine; decide, fun L hL => ?_⟩
  have a5 := same_new' hL (.lst [.ref p1])
  have b5 : upd H4 L (.lst [.ref p1]) L = some (.lst [.ref p1]) := upd_same
  have L0 : H2 L = none := hdom L (by
   cases e5 : H3 L with
   | none => rfl
   | some o => rw [a4 _ _ e5] at hL; cases hL)
  generalize upd H4 L (.lst [.ref p1]) = H5 at a5 b5 ⊢
  refine ⟨by show 2 ≤ sizeLine; decide, fun t ht => ?_⟩
  have a6 := same_new' ht (.tup [.str "sum", .ref L])
  have b6 : upd H5 t (.tup [.str "sum", .ref L]) t = some (.tup [.str "sum", .ref L]) := upd_same
  generalize upd H5 t (.tup [.str "sum", .ref L]) = H6 at a6 b6 ⊢
  have s36 := (a4.trans a5).trans a6
  have hg6 := s36 _ _ hg3
  have hN : DLN K H2 H6 t (.sm [(0 + (i : Int), 1 + (0 + (i : Int)) % 2)]) := ⟨L, _, L0, sqT_new b6, a6 _ _ b5, .cons ⟨p1, rfl, sqT_new ((a5.trans a6) _ _ b4)⟩ .nil⟩
  have g2 : H2 g ≠ none := by rw [b2]; intro z; cases z
  refine ⟨g, _, _, rfl, rfl, hg6, by omega, us ++ [.ref t], lns ++ [.sm [(0 + (i : Int), 1 + (0 + (i : Int)) % 2)]], _, rfl, upd_same, Paired.snoc ((hL3.imp fun _ _ w => (w.same s36).updL hg6 g2)) ⟨t, rfl, hN.updL hg6 g2⟩, by rw [jW, hli]; rfl, hnm.snoc (show Few (.sm [(0 + (i : Int), 1 + (0 + (i : Int)) % 2)]) from (show 1 ≤ 100 by decide)) fun k hk => ?_, fun l e => ?_, fun b o e => ?_⟩
  ·have hk' : k ∈ [0 + (i : Int)] := hk
   rw [kX.mp hk', hli]
   omega
  ·by_cases el : l = g
   ·rw [el, upd_same] at e; cases e
   ·rw [upd_ne el] at e
    exact hdom l (by
     cases e5 : H3 l with
     | none => rfl
     | some o => rw [s36 _ _ e5] at e; cases e)
  ·rw [upd_ne (ne_of_none e gH)]; exact s36 _ _ (s3 _ _ e)
 ·rintro σ H3 ⟨us, lns, v1, rfl, hg3, hL3, hli, hnm, hdom, s3⟩
  exact ⟨_, rfl, q g us lns H3 s3 hg3 (Paired.mapP hL3 fun _ _ ⟨u, e, w⟩ => ⟨u, e, w.dlat⟩) hnm (by rw [hli]; decide)⟩
end
abbrev sRests : Stmt := top 3
def nmAt (lns : List DL) (i : Nat) : List Int := ((lns[i]?).map DL.names).getD []
def mkd (lns : List DL) : Nat → Int → Bool
 | 0, p => decide (p = ((lns.length : Nat) : Int) - 1)
 | i + 1, p => mkd lns i p || (mkd lns i ((lns.length : Nat) - 1 - (i : Int)) && decide (p ∈ nmAt lns (lns.length - 1 - i)))
theorem nmAt_of {lns : List DL} {i : Nat} {ln : DL} (h : lns[i]? = some ln) : nmAt lns i = ln.names := by unfold nmAt; rw [h]; rfl
theorem mkd_in {lns : List DL} (hn : NamesOk lns) (h0 : 0 < lns.length) : ∀ (i : Nat) (p : Int), mkd lns i p = true → 0 ≤ p ∧ p < ((lns.length : Nat) : Int)
 | 0, p, h => by
  have h' : p = ((lns.length : Nat) : Int) - 1 := zQ h
  omega
 | i + 1, p, h => by
  have h' : (mkd lns i p || (mkd lns i ((lns.length : Nat) - 1 - (i : Int)) && decide (p ∈ nmAt lns (lns.length - 1 - i)))) = true := h
  rcases jZe _ _ ▸ h' with h1 | h1
  ·exact mkd_in hn h0 i p h1
  ·have h2 := zQ (yW _ _ ▸ h1).2
   cases e : lns[lns.length - 1 - i]? with
   | none => unfold nmAt at h2; rw [e] at h2; exact nomatch h2
   | some ln =>
    rw [nmAt_of e] at h2
    have h3 := (hn _ ln e).2 p h2
    omega
def dueL (lns : List DL) : List Int := ((List.range lns.length).filter fun k : Nat => mkd lns lns.length (k : Int)).map fun k : Nat => (k : Int)
theorem dueL_mem {lns : List DL} {p : Int} (hp : mkd lns lns.length p = true → 0 ≤ p ∧ p < ((lns.length : Nat) : Int)) : p ∈ dueL lns ↔ mkd lns lns.length p = true := by
 unfold dueL
 rw [wJ]
 refine ⟨fun ⟨k, hk, e⟩ => by rw [← e]; exact (kZa.mp hk).2, fun h => ?_⟩
 obtain ⟨p0, p1⟩ := hp h
 refine ⟨p.toNat, kZa.mpr ⟨jZb.mpr (by omega), ?_⟩, by omega⟩
 show mkd lns lns.length ((p.toNat : Nat) : Int) = true
 rw [show ((p.toNat : Nat) : Int) = p by omega]
 exact h
theorem dueL_sorted (lns : List DL) : (dueL lns).Pairwise (· < ·) := by
 unfold dueL
 rw [List.pairwise_map]
 exact (List.pairwise_lt_range.sublist List.filter_sublist).imp fun h => by omega
theorem dueL_eq {lns : List DL} (hn : NamesOk lns) (h0 : 0 < lns.length) {ss qs : List Int} (nd : ss.Nodup) (hs : ∀ p, p ∈ ss ↔ mkd lns lns.length p = true) (hq : qs.Perm ss) (ho : qs.Pairwise (· ≤ ·)) : qs = dueL lns := by
 refine List.Perm.eq_of_pairwise (le := (· ≤ ·)) (fun a b _ _ h1 h2 => by omega) ho ((dueL_sorted lns).imp fun h => by omega) (hq.trans ?_)
 refine (List.perm_ext_iff_of_nodup nd ((dueL_sorted lns).imp fun h => by omega)).mpr fun p => ?_
 rw [hs, dueL_mem (mkd_in hn h0 _ p)]
theorem put_keys {kvs : List (Key × V)} {ss : List Int} {k : Int} {v : V} (h : kvs.map (·.1) = ss.map Sum.inl) : ∃ ss' : List Int, (putK kvs (Sum.inl k) v).map (·.1) = ss'.map Sum.inl ∧ (∀ p, p ∈ ss' ↔ p ∈ ss ∨ p = k) ∧ (ss.Nodup → ss'.Nodup) := by
 unfold putK
 by_cases a : (kvs.any fun kv => decide (kv.1 = Sum.inl k)) = true
 ·rw [if_pos a]
  have hk : k ∈ ss := by
   obtain ⟨p, hp, e⟩ := List.any_eq_true.mp a
   have h5 : Sum.inl k ∈ kvs.map (·.1) := wJ.mpr ⟨p, hp, zQ e⟩
   rw [h] at h5
   obtain ⟨x, hx, e2⟩ := wJ.mp h5
   rw [← Sum.inl.inj e2]; exact hx
  refine ⟨ss, ?_, fun p => ⟨.inl, fun z => z.elim id fun e => by rw [e]; exact hk⟩, id⟩
  rw [← h, List.map_map]
  exact List.map_congr_left fun p _ => by
   show (if p.1 = Sum.inl k then (p.1, v) else p).1 = p.1
   split <;> rfl
 ·rw [if_neg a]
  refine ⟨ss ++ [k], by rw [kW, kW, h]; rfl, fun p => by rw [yQ, kX], fun nd => ?_⟩
  refine List.nodup_append.mpr ⟨nd, jZd.mpr ⟨fun z => (nomatch z), List.nodup_nil⟩, fun x hx y hy e => a ?_⟩
  have e6 : x = k := e.trans (kX.mp hy)
  have h5 : Sum.inl k ∈ kvs.map (·.1) := by rw [h]; exact wJ.mpr ⟨x, hx, by rw [e6]⟩
  obtain ⟨p, hp, ep⟩ := wJ.mp h5
  exact List.any_eq_true.mpr ⟨p, hp, yZ ep⟩
theorem val_iff {kvs : List (Key × V)} {ss : List Int} {k : Int} (h : kvs.map (·.1) = ss.map Sum.inl) : (valV kvs (Sum.inl k)).isSome = true ↔ k ∈ ss := by
 rw [← valV_any, List.any_eq_true]
 constructor
 ·rintro ⟨p, hp, e⟩
  have h5 : Sum.inl k ∈ kvs.map (·.1) := wJ.mpr ⟨p, hp, zQ e⟩
  rw [h] at h5
  obtain ⟨x, hx, e2⟩ := wJ.mp h5
  rw [← Sum.inl.inj e2]; exact hx
 ·intro hk
  have h5 : Sum.inl k ∈ kvs.map (·.1) := by rw [h]; exact wJ.mpr ⟨k, hk, rfl⟩
  obtain ⟨p, hp, ep⟩ := wJ.mp h5
  exact ⟨p, hp, yZ ep⟩
theorem nd_le {α : Type} [DecidableEq α] : ∀ {l m : List α}, l.Nodup → (∀ x ∈ l, x ∈ m) → l.length ≤ m.length
 | [], _, _, _ => wV _
 | a :: l, m, nd, h => by
  obtain ⟨n1, n2⟩ := jZd.mp nd
  have ha := h a xZ
  have := nd_le (m := m.erase a) n2 fun x hx => (List.mem_erase_of_ne (fun e => n1 (by rw [← e]; exact hx))).mpr (h x (zY _ hx))
  rw [List.length_erase_of_mem ha] at this
  have := List.length_pos_of_mem ha
  rw [yJ]
  omega
theorem few_keys {ss : List Int} {n : Nat} (nd : ss.Nodup) (h : ∀ p ∈ ss, 0 ≤ p ∧ p < ((n : Nat) : Int)) : ss.length ≤ n := by
 have := nd_le nd (m := (List.range n).map fun k : Nat => (k : Int)) fun x hx => by
  obtain ⟨h0, h1⟩ := h x hx
  exact wJ.mpr ⟨x.toNat, jZb.mpr (by omega), by omega⟩
 rwa [jQ, jQa] at this
def spRests (K : Fg) : Sp := fun vs H Q _ => ∃ (L : Addr) (us : List V) (lns : List DL), vs = [.ref L] ∧ SqL K H L us ∧ LinesAt K H us lns ∧ NamesOk lns ∧ lns.length ≤ 2000 ∧ ∀ (g : Addr) (H' : Hp), Same H H' → H g = none → H' g = some (.lst ((dueL lns).map V.int)) → Q (.ref g) H'
theorem line_at {K : Fg} {H : Hp} {us : List V} {lns : List DL} (h : LinesAt K H us lns) {i : Nat} (hi : i < lns.length) : ∃ u ln, us[i]? = some (.ref u) ∧ lns[i]? = some ln ∧ DLAt K H u ln := by
 have lu := Paired.length h
 obtain ⟨ln, el, u, e, z⟩ := L2.paired_get h (gE (show i < us.length by omega))
 exact ⟨u, ln, by rw [gE (show i < us.length by omega), e], el, z⟩
section
variable {P : Program} {w : World} {K : Fg} {mg : Str → Option Value} {base : Heap} {aT aL : Addr} {fT fL : Str → Option Value}
theorem scRests : FnScope ["paper", "wanted", "number", "other"] ["paper"] (defScope sRests) := ⟨rfl, rfl, rfl, by decide +kernel, rfl, by decide +kernel, by decide +kernel⟩
theorem okRests (F : Fn K mg "rests_on" sRests) (M : Mg mg) (c_named_by : Cal P w K mg base 1 "named_by" ["line"] (spNamed K)) : Cal P w K mg base 2 "rests_on" ["paper"] (spRests K) := by
 refine cal_of F scRests (fun _ _ _ _ _ _ => bind1 (fun _ => rfl)) (fun vs H Q E h => ?_) (fun f cdv A outer s H vs Q E hr h => ?_)
 ·obtain ⟨L, us, lns, rfl, _⟩ := h
  rfl
 obtain ⟨L, us, lns, rfl, hL, hLn, hnm, h2k, q⟩ := h
 have hu : (A.deeper (PyProof.Rows.envOfC "rests_on" (defScope sRests) s.heap.objs.size f cdv)).units + 1 < cLine := xJ (wK (by decide) _) hr.un
 refine ⟨_, (pss_cons (ps_if (pt_cmpR op_eq (pe_callB call_len_seq rfl M.len bt_len (pa_cons (pv 0) pa_nil)) pe_int (nomark _)) (pss_one (ps_ret (pe_lst pa_nil))) pss_nil)
  (pss_cons (ps_set (i := 1) scRests.nd rfl (Or.inl rfl) (pe_disp (pps_cons (pe_op op_sub (pe_callB call_len_seq rfl M.len bt_len (pa_cons (pv 0) pa_nil)) pe_int) pe_bl pps_nil) rfl rfl (List.cons_ne_nil _ _) (by decide)))
  (pss_cons (ps_for PassesOwn.never rfl (pi_range3 rfl M.range_ (pa_cons (pe_op op_sub (pe_callB call_len_seq rfl M.len bt_len (pa_cons (pv 0) pa_nil)) pe_int) (pa_cons (pe_un un_neg pe_int) (pa_cons (pe_un un_neg pe_int) pa_nil)))) (pg_name (i := 2) scRests.nd rfl (Or.inl rfl) (Or.inl rfl)) (pss_one (ps_if (pt_cmp (pc_din hu (pv 2) (pv 1))) (pss_one (ps_for PassesOwn.never rfl (pi_list (pe_fn c_named_by (hr.mono (by decide)) (pa_cons (pe_ix ix_list (pv 0) (pv 2) (fun _ _ => rfl)) pa_nil))) (pg_name (i := 3) scRests.nd rfl (Or.inl rfl) (Or.inl rfl)) (pss_one (ps_dput hu (pv 1) (pv 3) pe_bl rfl)))) pss_nil)))
  (pss_one (ps_ret (pe_callB (call_sortedDI rfl) rfl M.sorted bt_sorted (pa_cons (pv 1) pa_nil))))))), ?_⟩
 have hz : (5000 : Nat) < sizeLine := by decide
 have lu := Paired.length hLn
 refine ⟨_, rfl, L, _, rfl, .inl hL, rfl, _, rfl, ite2 (fun y => ?_) (fun y => ?_)⟩
 ·have h0 : lns = [] := by
   have y' := zQ y
   injection y' with y2
   exact kYd.mp (by omega)
  subst h0
  exact ⟨by show 0 ≤ sizeLine; decide, fun g hg => q g _ (same_new' hg _) hg upd_same⟩
 have h0 : 0 < lns.length := by
  cases e : lns with
  | cons a b => exact Nat.succ_pos _
  | nil =>
   rw [e] at lu
   exact absurd (yZ (by rw [show us.length = 0 from lu]; rfl)) y
 intro W hW
 have s1 := same_new' hW (.dK [])
 have b1 : upd H W (.dK []) W = some (.dK []) := upd_same
 refine ⟨_, rfl, L, _, rfl, .inl (s1.seq hL), _, _, rfl, rfl, b1, [(Sum.inl (((us.length : Nat) : Int) - 1), .bl true)], rfl, by show 1 ≤ 15; decide, ?_⟩
 have s2 : Same H (upd (upd H W (.dK [])) W (.dK (mergeK [] [(Sum.inl (((us.length : Nat) : Int) - 1), .bl true)]))) := fun b o e => by rw [upd_ne (ne_of_none e hW)]; exact s1 _ _ e
 have b2 : upd (upd H W (.dK [])) W (.dK (mergeK [] [(Sum.inl (((us.length : Nat) : Int) - 1), .bl true)])) W = some (.dK [(Sum.inl (((us.length : Nat) : Int) - 1), .bl true)]) := upd_same
 generalize upd (upd H W (.dK [])) W (.dK (mergeK [] [(Sum.inl (((us.length : Nat) : Int) - 1), .bl true)])) = H2 at s2 b2 ⊢
 clear b1 s1
 refine ⟨_, rfl, L, _, rfl, .inl (s2.seq hL), _, _, rfl, rfl, _, rfl, _, rfl, ?_⟩
 rw [lu] at b2 ⊢
 refine ⟨_, _, _, rfl, ⟨by decide, by decide, smallDown (by omega)⟩, for_range3 (lo := (lns.length : Int) - 1) (c := -1) (n := (Builtin.Range.rangeSize ((lns.length : Int) - 1) (-1) (-1)).toNat) (fun i σ H3 => ∃ (v2 v3 : Option V) (kvs : List (Key × V)) (ss : List Int), σ = [some (.ref L), some (.ref W), v2, v3] ∧ H3 W = some (.dK kvs) ∧ kvs.map (·.1) = ss.map Sum.inl ∧ ss.Nodup ∧ (∀ p, p ∈ ss ↔ mkd lns i p = true) ∧ Same H H3) ⟨none, none, _, [((lns.length : Nat) : Int) - 1], rfl, b2, rfl, jZd.mpr ⟨fun z => (nomatch z), List.nodup_nil⟩, fun p => ?_, s2⟩ ?_ ?_⟩
 ·rw [kX]
  exact ⟨fun e => yZ e, fun e => zQ e⟩
 ·rintro i σ H3 hi ⟨v2, v3, kvs, ss, rfl, hW3, hk3, nd3, hm3, s3⟩
  rw [rangeDown] at hi
  have ec : (lns.length : Int) - 1 + ((i : Nat) : Int) * (-1) = ((lns.length - 1 - i : Nat) : Int) := by omega
  rw [ec]
  have ec' : ((lns.length : Nat) : Int) - 1 - (i : Int) = ((lns.length - 1 - i : Nat) : Int) := by omega
  obtain ⟨u, ln, eu, el, hD⟩ := line_at hLn (i := lns.length - 1 - i) (by omega)
  have hmk : ∀ p, mkd lns (i + 1) p = (mkd lns i p || (mkd lns i ((lns.length - 1 - i : Nat) : Int) && decide (p ∈ ln.names))) := fun p => by
   show (mkd lns i p || (mkd lns i (((lns.length : Nat) : Int) - 1 - (i : Int)) && decide (p ∈ nmAt lns (lns.length - 1 - i)))) = _
   rw [ec', nmAt_of el]
  have hnl := hnm _ ln el
  have lk3 : kvs.length ≤ lns.length := by
   have := congrArg List.length hk3
   rw [jQ, jQ] at this
   have := few_keys nd3 fun p hp => mkd_in hnm h0 i p ((hm3 p).mp hp)
   omega
  generalize lns.length - 1 - i = num at eu el hmk hnl ⊢
  refine ⟨_, rfl, _, rfl, W, _, rfl, DGet.k (k := Sum.inl ((num : Nat) : Int)) hW3, _, rfl, ite2 (fun y => ?_) (fun y => ?_)⟩
  ·have hy : mkd lns i ((num : Nat) : Int) = true := (hm3 _).mp ((val_iff hk3).mp y)
   refine ⟨_, rfl, _, rfl, L, _, _, _, rfl, rfl, s3.seq hL, atI_nat eu, u, ln, rfl, hD.same s3, hnl.1, fun l4 H4 s4 hl4 => ?_⟩
   let Pv22 : Nat → St → Hp → Prop := fun j σ H5 => ∃ (v3 : Option V) (kvs : List (Key × V)) (ss : List Int), σ = [some (.ref L), some (.ref W), some (.int ((num : Nat) : Int)), v3] ∧ H5 W = some (.dK kvs) ∧ kvs.map (·.1) = ss.map Sum.inl ∧ ss.Nodup ∧ (∀ p, p ∈ ss ↔ mkd lns i p = true ∨ p ∈ ln.names.take j) ∧ H5 l4 = some (.lst (ln.names.map V.int)) ∧ Same H H5
   refine ⟨l4, rfl, ⟨_, sqL_new hl4⟩, for_list (K := K) (a := l4) (xs := ln.names.map V.int) Pv22 ⟨v3, kvs, ss, rfl, s4 _ _ hW3, hk3, nd3, fun p => ?_, hl4, s3.trans s4⟩ (fun j σ H5 _ h => ?_) ?_ ?_⟩
   ·rw [hm3]; exact ⟨.inl, fun z => z.elim id fun z => nomatch z⟩
   ·obtain ⟨_, _, _, rfl, _, _, _, _, hl5, _⟩ := h
    exact sqL_new hl5
   ·rintro j x σ H5 ex ⟨v3, kvs, ss, rfl, hW5, hk5, nd5, hm5, hl5, s5⟩
    obtain ⟨k, ek, rfl⟩ := getMapI ex
    have lk5 : kvs.length ≤ lns.length := by
     have := congrArg List.length hk5
     rw [jQ, jQ] at this
     have := few_keys (n := lns.length) nd5 fun p hp => (by
      rcases (hm5 p).mp hp with z | z
      ·exact mkd_in hnm h0 i p z
      ·have h6 := hnl.2 p (kQb z)
       have h7 := (kQ.mp el).1
       omega)
     omega
    obtain ⟨ss', k1, k2, k3⟩ := put_keys (k := k) (v := .bl true) hk5
    refine ⟨_, rfl, _, rfl, W, _, rfl, DPut.k (k := Sum.inl k) hW5 (by omega), _, _, ss', rfl, upd_same, k1, k3 nd5, fun p => ?_, by rw [upd_ne (ne_of hl5 hW5 (by intro z; cases z))]; exact hl5, fun b o e => ?_⟩
    ·rw [k2, hm5, takeS ek, yQ, kX, or_assoc]
    ·rw [upd_ne (ne_of_none e hW)]; exact s5 _ _ e
   ·rintro σ H5 ⟨v3, kvs, ss, rfl, hW5, hk5, nd5, hm5, hl5, s5⟩
    rw [jQ, jXf] at hm5
    refine ⟨_, _, kvs, ss, rfl, hW5, hk5, nd5, fun p => ?_, s5⟩
    rw [hm5, hmk, hy, jZe, Bool.true_and, decide_eq_true_iff]
  ·have hy : mkd lns i ((num : Nat) : Int) = false := by
    cases e : mkd lns i ((num : Nat) : Int) with
    | false => rfl
    | true => exact absurd ((val_iff hk3).mpr ((hm3 _).mpr e)) y
   refine ⟨_, _, kvs, ss, rfl, hW3, hk3, nd3, fun p => ?_, s3⟩
   rw [hm3, hmk, hy, Bool.false_and, Bool.or_false]
 ·rintro σ H3 ⟨v2, v3, kvs, ss, rfl, hW3, hk3, nd3, hm3, s3⟩
  rw [rangeDown] at hm3
  have lk3 : kvs.length ≤ lns.length := by
   have := congrArg List.length hk3
   rw [jQ, jQ] at this
   have := few_keys nd3 fun p hp => mkd_in hnm h0 _ p ((hm3 p).mp hp)
   omega
  refine ⟨_, rfl, W, kvs, ss, rfl, hW3, hk3, by omega, fun D qs hD hq ho => ?_⟩
  have eq := dueL_eq hnm h0 nd3 hm3 hq ho
  have D0 : H D = none := by
   cases e5 : H D with
   | none => rfl
   | some o => rw [s3 _ _ e5] at hD; cases hD
  exact q D _ (s3.trans (same_new' hD _)) D0 (by rw [upd_same, eq])
end
end Nb
namespace L2
open PySem PySem.Spec PySem.W PyProof.Rows
open PySem.SeqAt
section
variable {prog : Program} {w : World} {A : Around} {E : Value → Shared → Prop} {s : Shared}
end
section
variable {prog : Program} {w : World} {A : Around} {R : Result → Shared → Prop} {I : Addr} {fp wr : List Addr} {P : Nat → Value → Prop} {St : Nat → Heap → Prop}
end
section
variable {prog : Program} {w : World} {A : Around} {E : Value → Shared → Prop} {s : Shared}
end
section
variable {X : Cx}
end
end L2
namespace L2
open PySem PySem.Spec PySem.W PyProof.Rows
open PySem.SeqAt
section
variable {A : Around} {s : Shared}
end
section
variable {prog : Program} {w : World} {A : Around} {R : Result → Shared → Prop} {I : Addr} {fp wr : List Addr} {n : Nat} {P : Nat → Value → Prop} {St : Nat → Heap → Prop}
end
section
variable {prog : Program} {w : World} {A : Around} {E : Value → Shared → Prop} {s : Shared} {l : Addr}
end
section
variable {X : Cx}
open Classical in
end
section
variable {X : Cx}
theorem op_neSame {K : Fg} {n : Nat} (hK : X.K = K) (hu : X.A.units + n < cLine) : OpR X (compareOp .NotEq) (fun x y H Q => ∃ (a b : Addr) (xs : List V), x = .ref a ∧ y = .ref b ∧ SqL K H a xs ∧ SqL K H b xs ∧ (∀ x ∈ xs, ∃ c, x = .ref c) ∧ Q (.bl false) H) := by
 subst hK
 intro pins s σ H x y v u Q I rx ry h
 obtain ⟨a, b, xs, rfl, rfl, h1, h2, hr, q⟩ := h
 cases rx
 cases ry
 obtain ⟨its, r, pt, _⟩ := I.list h1
 obtain ⟨its', r', pt', _⟩ := I.list h2
 have l1 := r.length
 have l2 := r'.length
 have e : its = its' := ext_all (by omega) fun i x y ex ey => by
  obtain ⟨z, ez⟩ : ∃ z, xs[i]? = some z := ⟨_, gE (by have := (kQ.mp ex).1; omega)⟩
  obtain ⟨c, rfl⟩ := hr z (zZ ez)
  obtain ⟨u1, e1, r1⟩ := r.get ez
  obtain ⟨u2, e2, r2⟩ := r'.get ez
  rw [ex] at e1
  rw [ey] at e2
  cases e1
  cases e2
  cases r1
  cases r2
  rfl
 subst e
 have key : ∀ j (h1 : j < its.toArray.size) (h2 : j < its.toArray.size), EqAt X.A.in1 s its.toArray[j] its.toArray[j] ((fun _ => true) j) := fun j _ _ => EqAt.same _
 have hh := RcNeAt.lists (A := X.A) (s := s) pt.isList pt'.isList rfl (by omega) key
 have ea : ((List.range its.toArray.size).all fun _ => true) = true := jZc.mpr fun _ _ => rfl
 rw [ea] at hh
 exact hh _ _ _ _ ⟨.bl false, H, I, rfl, q⟩
end
end L2
namespace Nb
open PySem L2
abbrev sLaw : Stmt := top 28
def spLawB (K : Fg) : Sp := fun vs H Q _ => ∃ (a : Addr) (ns : List Int), vs = [.ref a] ∧ SqL K H a (ns.map V.int) ∧ ns.length ≤ 63 ∧ (∀ n ∈ ns, Bits n) ∧ ∀ H', Q (.bl true) H'
theorem pe_fn0 {X : Cx} {k : Nat} {x : Str} {ps : List Str} {sp : Sp} {p pos : Pos} (C : Cal X.prog X.w X.K X.mg X.base k x ps sp) (hr : Room k X.A) (hg : autoParam (Gl X x) L2.aRfl._auto_1) (hdb : autoParam ((x == ("__debug__" : Str)) = false) L2.aDec._auto_1) : PE X (.Call (.Name x p) [] [] pos) (tCall sp [] E0 tNil) := by
 obtain ⟨f, fd, F, m, kp, b⟩ := C.ex
 exact pe_call0 F hr hg m kp b .nil pass0 hdb
theorem name_cut {t1 t2 : TS} {D : Ends} {i : Nat} {x : V} {σ : St} {H : Hp} (Pv : St → Hp → Prop) (h2 : ∀ σ' H', Pv σ' H' → t2 D σ' H') (h1 : (∀ σ' H', Pv σ' H' → t2 D σ' H') → t1 { D with nx := t2 D } (σ.set i (some x)) H) : gName i x σ H ({ D with nx := tSeq t1 t2 D } : Ends).nx := h1 h2
theorem cut_ints (ns : List Int) (lo hi : Option Int) : ∃ zs : List Int, cutV (ns.map V.int) lo hi = zs.map V.int ∧ zs.length ≤ ns.length := by
 unfold cutV
 rw [jQ]
 exact ⟨(ns.drop (HT.sIx ns.length 0 lo)).take (HT.sIx ns.length ns.length hi - HT.sIx ns.length 0 lo), by rw [List.map_take, List.map_drop], by rw [xQ, jQc]; omega⟩
theorem cut_take (us : List V) (hi : Option Int) : ∃ m, cutV us none hi = us.take m := ⟨_, by unfold cutV; rw [HT.sIx_none, List.drop_zero]⟩
theorem paired_take {α β : Type} {R : α → β → Prop} {xs : List α} {ys : List β} (h : Paired R xs ys) : ∀ m, Paired R (xs.take m) (ys.take m) := by
 induction h with
 | nil => intro m; rw [List.take_nil, List.take_nil]; exact .nil
 | cons z _ ih =>
  intro m
  cases m with
  | zero => exact .nil
  | succ m => exact .cons z (ih m)
theorem NamesOk.take {lns : List DL} (h : NamesOk lns) (m : Nat) : NamesOk (lns.take m) := fun i ln e => by
 rw [List.getElem?_take] at e
 split at e
 ·exact h i ln e
 ·cases e
theorem two_of {v x y : V} {z : Int} (h : 0 ≤ z) (h1 : z < 2) : atI [x, y] z = some x ∨ atI [x, y] z = some y := by
 rcases (show z = 0 ∨ z = 1 by omega) with e | e
 ·rw [e]; exact .inl rfl
 ·rw [e]; exact .inr rfl
theorem range_at {N k : Nat} {g : Nat → V} (h : k < N) : atI ((List.range N).map g) ((k : Nat) : Int) = some (g k) := atI_nat (by rw [kY, kQe h]; rfl)
theorem range_set {N k : Nat} {g : Nat → V} {v : V} : ((List.range N).map g).set k v = (List.range N).map (fun d => if d = k then v else g d) := by
 refine List.ext_getElem (by simp) fun i h1 h2 => ?_
 rw [List.getElem_set]
 by_cases e : k = i
 ·subst e; simp
 ·rw [if_neg e]
  simp [show ¬ i = k from fun z => e z.symm]
section
variable {P : Program} {w : World} {K : Fg} {mg : Str → Option Value} {base : Heap} {aT aL : Addr} {fT fL : Str → Option Value}
theorem scLaw : FnScope ["_law_script", "_law_problem_here", "_law_best", "_law_paper_here", "_law_marks", "_law_k", "_law_place", "_law_due", "_law_handed", "_law_turn_here", "_law_found"] ["_law_script"] (defScope sLaw) := ⟨rfl, rfl, rfl, by decide +kernel, rfl, by decide +kernel, by decide +kernel⟩
theorem okLaw {f : Addr} {fd : FuncData} (F : Fun K "law" "law" sLaw f fd) (M : Mg mg) (cl_problem : Cal P w K mg base 3 "_law_problem" ["_law_script", "_law_most_here", "_law_rows_most"] (spProblem20 K)) (cl_cell_at : Cal P w K mg base 1 "_law_cell_at" ["_law_script", "_law_k"] (spCellB K)) (cl_paper : Cal P w K mg base 4 "_law_paper" ["_law_problem_here", "_law_best", "_law_cells"] (spPaper K)) (cl_long : Cal P w K mg base 1 "_law_long" [] (spLong K)) (cl_named : Cal P w K mg base 1 "_law_named" ["_law_line"] (spNamed K)) (c_rests_on : Cal P w K mg base 2 "rests_on" ["paper"] (spRests K)) : FnOk P w K mg base CX0 5 f fd ["_law_script"] (spLawB K) := by
 refine F.ok scLaw (fun vs H Q E h => ?_) (fun cdv A outer s H vs Q E hr h => ?_)
 ·obtain ⟨a, ns, rfl, _⟩ := h
  rfl
 obtain ⟨a, ns, rfl, hS, h63, hB, q⟩ := h
 have hu6 : (A.deeper (PyProof.Rows.envOfC "law" (defScope sLaw) s.heap.objs.size f cdv)).units + 6 < cLine := xJ (wK (by decide) _) hr.un
 refine ⟨_, (pss_cons (ps_set (i := 1) scLaw.nd rfl (Or.inl rfl) (pe_fn cl_problem (hr.mono (by decide)) (pa_cons (pv 0) (pa_cons pe_int (pa_cons pe_int pa_nil)))))
  (pss_cons (ps_set (i := 2) scLaw.nd rfl (Or.inl rfl) (pe_ix ix_list (pe_lst (pa_cons pe_non (pa_cons (pe_op op_sub (pe_op op_mod (pe_op op_fdiv (pe_fn cl_cell_at (hr.mono (by decide)) (pa_cons (pv 0) (pa_cons pe_int pa_nil))) pe_int) pe_int) pe_int) pa_nil))) (pe_op op_mod (pe_fn cl_cell_at (hr.mono (by decide)) (pa_cons (pv 0) (pa_cons pe_int pa_nil))) pe_int) (fun _ _ => rfl)))
  (pss_cons (ps_set (i := 3) scLaw.nd rfl (Or.inr rfl) (pe_fn cl_paper (hr.mono (by decide)) (pa_cons (pv 1) (pa_cons (pv 2) (pa_cons (pe_slice sl_list (pv 0) (po_some pe_int) (po_some pe_int)) pa_nil)))))
  (pss_cons (ps_set (i := 3) scLaw.nd rfl (Or.inr rfl) (pe_slice sl_list (pv 3) po_none (po_some (pe_op op_mod (pe_fn cl_cell_at (hr.mono (by decide)) (pa_cons (pv 0) (pa_cons pe_int pa_nil))) (pe_op op_add (pe_callB call_len_seq rfl M.len bt_len (pa_cons (pv 3) pa_nil)) pe_int)))))
  (pss_cons (ps_if (PW.pt (pw_and (pt_cmpR op_gt (pe_callB call_len_seq rfl M.len bt_len (pa_cons (pe_ix ix_tup (pv 1) pe_int (fun _ _ => rfl)) pa_nil)) pe_int (nomark _)) (pw_and1 (pt_cmpR op_eq (pe_op op_mod (pe_fn cl_cell_at (hr.mono (by decide)) (pa_cons (pv 0) (pa_cons pe_int pa_nil))) pe_int) pe_int (nomark _))))) (pss_one (ps_set (i := 3) scLaw.nd rfl (Or.inr rfl) (pe_fn0 cl_long (hr.mono (by decide))))) pss_nil)
  (pss_cons (ps_set (i := 4) scLaw.nd rfl (Or.inr rfl) (pe_lc ["_law_k", "_law_paper_here"] [none, some 3] rfl (pi_range1 rfl M.range_ (pa_cons (pe_callB call_len_seq rfl M.len bt_len (pa_cons (pv 3) pa_nil)) pa_nil)) (fun _ _ _ => (pg_name (i := 0) (show (["_law_k", "_law_paper_here"] : List Str).Nodup by decide +kernel) rfl (Or.inl rfl) (Or.inr rfl))) (fun _ _ _ => pf_nil) (fun _ _ _ => (pe_cmpR op_eq (pv 0) (pe_op op_sub (pe_callB (call_len_seqK (K := K) rfl) rfl M.len bt_len (pa_cons (pv 1) pa_nil)) pe_int) (nomark _)))))
  (pss_cons (ps_for PassesOwn.never rfl (pi_range3 rfl M.range_ (pa_cons (pe_op op_sub (pe_callB call_len_seq rfl M.len bt_len (pa_cons (pv 3) pa_nil)) pe_int) (pa_cons (pe_un un_neg pe_int) (pa_cons (pe_un un_neg pe_int) pa_nil)))) (pg_name (i := 5) scLaw.nd rfl (Or.inl rfl) (Or.inl rfl)) (pss_one (ps_if (pt_val (pe_ix ix_list (pv 4) (pv 5) (fun _ _ => rfl))) (pss_one (ps_for PassesOwn.never rfl (pi_list (pe_fn cl_named (hr.mono (by decide)) (pa_cons (pe_ix ix_list (pv 3) (pv 5) (fun _ _ => rfl)) pa_nil))) (pg_name (i := 6) scLaw.nd rfl (Or.inl rfl) (Or.inl rfl)) (pss_one (ps_asg pe_bl (pg_sub (pv 4) (pv 6) set_list))))) pss_nil)))
  (pss_cons (ps_setC (i := 7) ["_law_k", "_law_marks"] [none, some 4] rfl scLaw.nd rfl (Or.inl rfl) (pi_range1 rfl M.range_ (pa_cons (pe_callB call_len_seq rfl M.len bt_len (pa_cons (pv 3) pa_nil)) pa_nil)) (fun _ _ _ => (pg_name (i := 0) (show (["_law_k", "_law_marks"] : List Str).Nodup by decide +kernel) rfl (Or.inl rfl) (Or.inr rfl))) (fun _ _ _ => (pf_one (pt_val (pe_ix (ix_listK (K := K) rfl) (pv 1) (pv 0) (fun _ _ => rfl))))) (fun _ _ _ => (pv 0)))
  (pss_cons (ps_set (i := 8) scLaw.nd rfl (Or.inl rfl) (pe_callTy call_list_of rfl M.list_ bt_list (pa_cons (pv 3) pa_nil)))
  (pss_cons (ps_for PassesOwn.never rfl (pi_range1 rfl M.range_ (pa_cons pe_int pa_nil)) (pg_name (i := 9) scLaw.nd rfl (Or.inl rfl) (Or.inl rfl)) (pss_cons (ps_set (i := 10) scLaw.nd rfl (Or.inl rfl) (pe_fn c_rests_on (hr.mono (by decide)) (pa_cons (pv 8) pa_nil)))
  (pss_cons (ps_if (PW.pt (pw_or (pt_not (pt_val (pe_callB call_isiW rfl M.isinstance bt_isinstance (pa_cons (pv 10) (pa_cons (pe_ty M.list_ bt_list) pa_nil))))) (pw_or (pt_cmpR (op_neD (n := 6) hu6) (pv 10) (pv 7) (nomark _)) (pw_or1 (pt_cmpR (op_neSame (K := K) (n := 6) rfl hu6) (pv 8) (pv 3) (nomark _)))))) (pss_one (ps_ret pe_bl)) pss_nil)
  (pss_cons (ps_if (pt_cmpR op_gt (pe_callB call_len_seq rfl M.len bt_len (pa_cons (pe_lc ["_law_place"] [none] rfl (pi_list (pv 10)) (fun _ _ _ => (pg_name (i := 0) (show (["_law_place"] : List Str).Nodup by decide +kernel) rfl (Or.inl rfl) (Or.inr rfl))) (fun _ _ _ => (pf_one (PW.pt (pw_or (pt_val (pe_callB (call_isiWK (K := K) rfl) rfl M.isinstance bt_isinstance (pa_cons (pv 0) (pa_cons (pe_ty M.bool_ bt_bool) pa_nil)))) (pw_or1 (pt_not (pt_val (pe_callB (call_isiWK (K := K) rfl) rfl M.isinstance bt_isinstance (pa_cons (pv 0) (pa_cons (pe_ty M.int_ bt_int) pa_nil)))))))))) (fun _ _ _ => (pv 0))) pa_nil)) pe_int (nomark _)) (pss_one (ps_ret pe_bl)) pss_nil)
  (pss_one (ps_expr (pe_bm PySem.F.plainAttrs_list PySem.F.slot_list_append PySem.F.type_list_append mt_append (pv 10) (pa_cons (pe_un un_neg pe_int) pa_nil))))))))
  (pss_one (ps_ret pe_bl)))))))))))), ?_⟩
 have hz : (5000 : Nat) < sizeLine := by decide
 refine ⟨_, rfl, a, ns, 6, 6, rfl, hS, hB, by decide, by decide, by decide, by decide, fun t rs cs H1 s1 pt hr1 hcl hrl => ?_⟩
 obtain ⟨lP, cP, vP, ht, hlP, hrP, hcP⟩ := id pt
 refine ⟨_, rfl, a, ns, 9, rfl, s1.seq hS, hB, by decide, fun z9 _ => ?_⟩
 refine ⟨_, _, rfl, rfl, ⟨by decide, by decide⟩, _, _, rfl, rfl, by show (0 : Int) < 9; decide, _, _, rfl, rfl, by show 2 ≤ sizeLine; decide, fun p2 hp2 => ?_⟩
 have a2 := same_new' hp2 (.lst [.non, .int (z9 / 2 % 9 - 4)])
 have b2 : upd H1 p2 (.lst [.non, .int (z9 / 2 % 9 - 4)]) p2 = some (.lst [.non, .int (z9 / 2 % 9 - 4)]) := upd_same
 generalize upd H1 p2 (.lst [.non, .int (z9 / 2 % 9 - 4)]) = H2 at a2 b2 ⊢
 have s2 := s1.trans a2
 refine ⟨_, rfl, a, ns, 9, rfl, s2.seq hS, hB, by decide, fun y9 _ => ?_⟩
 have e0 := jZa y9 (show (2 : Int) ≠ 0 by decide)
 have e1 := jQd y9 (show (0 : Int) < 2 by decide)
 obtain ⟨bst, ebst, hbst⟩ : ∃ bst : V, atI [V.non, .int (z9 / 2 % 9 - 4)] (y9 % 2) = some bst ∧ (bst = .non ∨ ∃ b, bst = .int b) := by
  rcases two_of (v := .non) (x := V.non) (y := .int (z9 / 2 % 9 - 4)) e0 e1 with e | e
  ·exact ⟨_, e, .inl rfl⟩
  ·exact ⟨_, e, .inr ⟨_, rfl⟩⟩
 refine ⟨_, _, rfl, rfl, by show (0 : Int) < 2; decide, p2, _, _, _, rfl, rfl, sqL_new b2, ebst, ?_⟩
 refine ⟨_, rfl, _, rfl, _, rfl, _, rfl, _, rfl, a, _, rfl, s2.seq hS, fun c3 hc3 => ?_⟩
 obtain ⟨zs, ezs, lzs⟩ := cut_ints ns (some 20) (some 63)
 rw [ezs]
 have a3 := same_new' hc3 (.lst (zs.map V.int))
 have b3 : upd H2 c3 (.lst (zs.map V.int)) c3 = some (.lst (zs.map V.int)) := upd_same
 generalize upd H2 c3 (.lst (zs.map V.int)) = H3 at a3 b3 ⊢
 have s3 := s2.trans a3
 have pt3 := ProbAt.same (a2.trans a3) pt
 refine ⟨t, c3, rs, cs, bst, zs, rfl, hbst, pt3, hr1, sqL_new b3, by omega, by omega, by omega, fun g0 us0 lns0 H4 s4 hg4 hL4 hn4 hl4 => ?_⟩
 have s04 := s3.trans s4
 refine ⟨_, rfl, _, rfl, a, ns, 10, rfl, s04.seq hS, hB, by decide, fun z10 _ => ?_⟩
 refine ⟨_, rfl, g0, _, rfl, .inl (sqL_new hg4), _, _, rfl, rfl, _, _, rfl, rfl, by show (0 : Int) < _; omega, _, rfl, g0, _, rfl, sqL_new hg4, fun g5 hg5 => ?_⟩
 obtain ⟨m, em⟩ := cut_take us0 (some (z10 % (((us0.length : Nat) : Int) + 1)))
 rw [em]
 have a5 := same_new' hg5 (.lst (us0.take m))
 have b5 : upd H4 g5 (.lst (us0.take m)) g5 = some (.lst (us0.take m)) := upd_same
 have hL5 : LinesAt K (upd H4 g5 (.lst (us0.take m))) (us0.take m) (lns0.take m) := LinesAt.same (paired_take hL4 m) a5
 generalize upd H4 g5 (.lst (us0.take m)) = H5 at a5 b5 hL5 ⊢
 have s05 := s04.trans a5
 refine name_cut (fun σ' H' => ∃ (g : Addr) (us : List V) (lns : List DL), σ' = [some (.ref a), some (.ref t), some bst, some (.ref g), none, none, none, none, none, none, none] ∧ H' g = some (.lst us) ∧ LinesAt K H' us lns ∧ NamesOk lns ∧ lns.length ≤ 1501 ∧ Same H H') ?_ fun REST => ?_
 rotate_left
 ·have none5 := REST _ _ ⟨g5, _, _, rfl, b5, hL5, hn4.take m, by rw [xQ]; omega, s05⟩
  have s15 := (a2.trans a3).trans (s4.trans a5)
  refine ⟨_, rfl, t, _, _, _, rfl, rfl, s15.tup ht, at1, cP, _, rfl, .inr (s15.tup hcP), _, _, rfl, rfl, _, rfl, ite2 (fun _ => ?_) (fun _ => iteF none5)⟩
  refine ⟨_, rfl, a, ns, 11, rfl, s05.seq hS, hB, by decide, fun z11 _ => ⟨_, _, rfl, rfl, by show (0 : Int) < 16; decide, rfl, _, rfl, ite2 (fun _ => ?_) (fun _ => none5)⟩⟩
  exact ⟨rfl, fun g us lns H6 s6 hg6 hL6 hn6 hl6 => REST _ _ ⟨g, us, lns, rfl, hg6, hL6, hn6, hl6, s05.trans s6⟩⟩
 clear hL5 hL4 b5 b3 b2
 rintro σ' H6 ⟨g, us, lns, rfl, hg6, hL6, hnm, hl6, s6⟩
 have lu := Paired.length hL6
 refine ⟨_, rfl, g, _, rfl, .inl (sqL_new hg6), _, rfl, by omega, by omega, fun D hD => ?_⟩
 let Pv23 : Nat → St → List V → Hp → Prop := fun i τ ys H7 => ∃ v : Option V, τ = [v, some (.ref g)] ∧ ys = (List.range i).map (fun k : Nat => V.bl (mkd lns 0 (k : Int))) ∧ H7 D = some (.lst ys) ∧ Same H6 H7
 refine lc_any (n := lns.length) Pv23 ?_ (fun i τ ys H7 hi h => ?_) (fun i τ ys H7 hi h => ?_) (fun τ ys H7 h => ?_) ?_ ?_
 ·exact ⟨none, rfl, rfl, upd_same, same_new' hD _⟩
 ·obtain ⟨v, rfl, rfl, hE, s7⟩ := h
  exact ⟨hE, by rw [jQ, jQa]; omega⟩
 ·show i < Int.toNat _; omega
 ·show Int.toNat _ ≤ _; omega
 ·rintro i τ ys H7 x H9 hi ⟨v, rfl, rfl, hE, s7⟩ ⟨rfl, rfl⟩
  refine ⟨_, rfl, _, rfl, g, _, rfl, .inl (sqL_new (s7 _ _ hg6)), _, _, rfl, rfl, rfl, hE, _, rfl, ?_, upd_same, fun b o e => ?_⟩
  ·rw [List.range_succ, kW]
   congr 1
   show [V.bl (decide (V.int (0 + (i : Int)) = V.int (((us.length : Nat) : Int) - 1)))] = [V.bl (decide ((i : Int) = ((lns.length : Nat) : Int) - 1))]
   rw [lu]
   congr 2
   exact decide_eq_decide.mpr ⟨fun z => (by injection z with z; omega), fun z => (by rw [show (0 : Int) + (i : Int) = (i : Int) by omega, z])⟩
  ·rw [upd_ne (ne_of_none e hD)]; exact s7 _ _ e
 rintro τ ys H7 ⟨v, rfl, rfl, hD7, s7⟩
 have s07 := s6.trans s7
 have DH : H D = none := by
  cases e5 : H D with
  | none => rfl
  | some o => rw [s6 _ _ e5] at hD; cases hD
 have g7 := s7 _ _ hg6
 have gD : g ≠ D := fun e => by rw [e, hD] at hg6; cases hg6
 refine ⟨_, rfl, g, _, rfl, .inl (sqL_new g7), _, _, rfl, rfl, _, rfl, _, rfl, ?_⟩
 rw [lu]
 refine ⟨_, _, _, rfl, ⟨by decide, by decide, smallDown (by omega)⟩, for_range3 (lo := (lns.length : Int) - 1) (c := -1) (n := (Builtin.Range.rangeSize ((lns.length : Int) - 1) (-1) (-1)).toNat) (fun i σ H8 => ∃ v5 v6 : Option V, σ = [some (.ref a), some (.ref t), some bst, some (.ref g), some (.ref D), v5, v6, none, none, none, none] ∧ H8 D = some (.lst ((List.range lns.length).map fun k : Nat => V.bl (mkd lns i (k : Int)))) ∧ Same H6 H8) ⟨none, none, rfl, hD7, s7⟩ ?_ ?_⟩
 ·rintro i σ H8 hi ⟨v5, v6, rfl, hD8, k8⟩
  rw [rangeDown] at hi
  have g8 : H8 g = some (.lst us) := k8 _ _ hg6
  have ec : (lns.length : Int) - 1 + ((i : Nat) : Int) * (-1) = ((lns.length - 1 - i : Nat) : Int) := by omega
  rw [ec]
  have ec' : ((lns.length : Nat) : Int) - 1 - (i : Int) = ((lns.length - 1 - i : Nat) : Int) := by omega
  obtain ⟨u, ln, eu, el, hD0⟩ := line_at hL6 (i := lns.length - 1 - i) (by omega)
  have hmk : ∀ p, mkd lns (i + 1) p = (mkd lns i p || (mkd lns i ((lns.length - 1 - i : Nat) : Int) && decide (p ∈ ln.names))) := fun p => by
   show (mkd lns i p || (mkd lns i (((lns.length : Nat) : Int) - 1 - (i : Int)) && decide (p ∈ nmAt lns (lns.length - 1 - i)))) = _
   rw [ec', nmAt_of el]
  have hnl := hnm _ ln el
  have hnum : lns.length - 1 - i < lns.length := by omega
  generalize lns.length - 1 - i = num at eu el hmk hnl hnum ⊢
  refine ⟨_, rfl, _, rfl, D, _, _, _, rfl, rfl, sqL_new hD8, range_at hnum, _, rfl, ite2 (fun y => ?_) (fun y => ?_)⟩
  ·have hy : mkd lns i ((num : Nat) : Int) = true := y
   refine ⟨_, rfl, _, rfl, g, _, _, _, rfl, rfl, sqL_new g8, atI_nat eu, u, ln, rfl, hD0.same k8, hnl.1, fun l9 H9 s9 hl9 => ?_⟩
   have D9 := s9 _ _ hD8
   have ne : l9 ≠ D := fun e => by
    rw [e, D9] at hl9
    injection hl9 with h5
    injection h5 with h5
    have h6 := congrArg (fun l : List V => l[0]?) h5
    have h7 : ((List.range lns.length).map fun k : Nat => V.bl (mkd lns i (k : Int)))[0]? = (ln.names.map V.int)[0]? := h6
    rw [kY, kQe (by omega), kY] at h7
    cases e7 : ln.names[0]? with
    | none => rw [e7] at h7; cases h7
    | some k => rw [e7] at h7; cases h7
   let Pv24 : Nat → St → Hp → Prop := fun j σ H10 => ∃ v6 : Option V, σ = [some (.ref a), some (.ref t), some bst, some (.ref g), some (.ref D), some (.int ((num : Nat) : Int)), v6, none, none, none, none] ∧ H10 D = some (.lst ((List.range lns.length).map fun k : Nat => V.bl (mkd lns i (k : Int) || decide ((k : Int) ∈ ln.names.take j)))) ∧ H10 l9 = some (.lst (ln.names.map V.int)) ∧ Same H6 H10
   refine ⟨l9, rfl, ⟨_, sqL_new hl9⟩, for_list (K := K) (a := l9) (xs := ln.names.map V.int) Pv24 ⟨v6, rfl, ?_, hl9, k8.trans s9⟩ (fun j σ H10 _ h => ?_) ?_ ?_⟩
   ·rw [D9]
    refine congrArg (fun f => some (HO.lst ((List.range lns.length).map f))) (funext fun k => ?_)
    rw [List.take_zero, yX (fun z => nomatch z), Bool.or_false]
   ·obtain ⟨_, rfl, _, hl10, _⟩ := h
    exact sqL_new hl10
   ·rintro j x σ H10 ex ⟨v6, rfl, hD10, hl10, s10⟩
    obtain ⟨k, ek, rfl⟩ := getMapI ex
    obtain ⟨k0, k1⟩ := hnl.2 k (zZ ek)
    refine ⟨_, rfl, _, rfl, D, _, _, k.toNat, rfl, rfl, hD10, by rw [show k = ((k.toNat : Nat) : Int) by omega]; exact ixNat (by rw [jQ, jQa]; omega), ?_⟩
    refine ⟨_, rfl, ?_, by rw [upd_ne ne]; exact hl10, fun b o e => ?_⟩
    ·rw [upd_same, range_set]
     refine congrArg (fun f => some (HO.lst ((List.range lns.length).map f))) (funext fun d => ?_)
     rw [takeS ek]
     by_cases ed : d = k.toNat
     ·rw [if_pos ed]
      congr 1
      rw [yZ (yQ.mpr (.inr (kX.mpr (by omega)))), Bool.or_true]
     ·rw [if_neg ed]
      congr 2
      exact decide_eq_decide.mpr ⟨fun z => yQ.mpr (.inl z), fun z => (yQ.mp z).elim id fun z => absurd (kX.mp z) (by omega)⟩
    ·rw [upd_ne (ne_of_none e hD)]; exact s10 _ _ e
   ·rintro σ H10 ⟨v6, rfl, hD10, hl10, s10⟩
    rw [jQ, jXf] at hD10
    refine ⟨_, _, rfl, ?_, s10⟩
    rw [hD10]
    refine congrArg (fun f => some (HO.lst ((List.range lns.length).map f))) (funext fun k => ?_)
    rw [hmk, hy, Bool.true_and]
  ·have hy : mkd lns i ((num : Nat) : Int) = false := by
    cases e : mkd lns i ((num : Nat) : Int) with
    | false => rfl
    | true => exact absurd e y
   refine ⟨_, _, rfl, ?_, k8⟩
   rw [hD8]
   refine congrArg (fun f => some (HO.lst ((List.range lns.length).map f))) (funext fun k => ?_)
   rw [hmk, hy, Bool.false_and, Bool.or_false]
 rintro σ H8 ⟨v5, v6, rfl, hD8, k8⟩
 rw [rangeDown] at hD8
 have g8 := k8 _ _ hg6
 refine ⟨_, rfl, g, _, rfl, .inl (sqL_new g8), _, rfl, by omega, by omega, fun D9 hD9 => ?_⟩
 let Pv25 : Nat → St → List V → Hp → Prop := fun i τ ys H9 => ∃ v : Option V, τ = [v, some (.ref D)] ∧ ys = (((List.range i).filter fun k : Nat => mkd lns lns.length (k : Int)).map fun k : Nat => (k : Int)).map V.int ∧ H9 D9 = some (.lst ys) ∧ Same H8 H9
 refine lc_any (n := lns.length) Pv25 ?_ (fun i τ ys H9 hi h => ?_) (fun i τ ys H9 hi h => ?_) (fun τ ys H9 h => ?_) ?_ ?_
 ·exact ⟨none, rfl, rfl, upd_same, same_new' hD9 _⟩
 ·obtain ⟨v, rfl, rfl, hE, s9⟩ := h
  have := List.length_filter_le (fun k : Nat => mkd lns lns.length (k : Int)) (List.range i)
  rw [jQa] at this
  exact ⟨hE, by rw [jQ, jQ]; omega⟩
 ·show i < Int.toNat _; omega
 ·show Int.toNat _ ≤ _; omega
 ·rintro i τ ys H9 x H10 hi ⟨v, rfl, rfl, hE, s9⟩ ⟨rfl, rfl⟩
  have ez : (0 : Int) + (i : Int) = ((i : Nat) : Int) := by omega
  rw [ez]
  refine ⟨_, rfl, _, rfl, D, _, _, _, rfl, rfl, sqL_new (s9 _ _ hD8), range_at hi, _, rfl, ite2 (fun y => ⟨_, rfl, hE, _, rfl, ?_, upd_same, fun b o e => ?_⟩) (fun y => ⟨_, rfl, ?_, hE, s9⟩)⟩
  ·rw [List.range_succ, List.filter_append, kW, kW, List.filter_cons_of_pos (p := fun k : Nat => mkd lns lns.length (k : Int)) y]; rfl
  ·rw [upd_ne (ne_of_none e hD9)]; exact s9 _ _ e
  ·rw [List.range_succ, List.filter_append, kW, kW, List.filter_cons_of_neg (p := fun k : Nat => mkd lns lns.length (k : Int)) y]
   simp
 rintro τ ys H9 ⟨v, rfl, rfl, hE9, s9⟩
 have hE9' : H9 D9 = some (.lst ((dueL lns).map V.int)) := hE9
 have g9 := s9 _ _ g8
 refine ⟨_, rfl, g, _, rfl, .inl (sqL_new g9), fun h hh => ?_⟩
 have a10 := same_new' hh (.lst us)
 have h10 : upd H9 h (.lst us) h = some (.lst us) := upd_same
 generalize upd H9 h (.lst us) = H10 at a10 h10 ⊢
 have s610 := (k8.trans s9).trans a10
 have hL10 := LinesAt.same hL6 s610
 have g10 := a10 _ _ g9
 have d10 := a10 _ _ hE9'
 let Pv26 : Nat → St → Hp → Prop := fun i σ H11 => ∃ v9 v10 : Option V, σ = [some (.ref a), some (.ref t), some bst, some (.ref g), some (.ref D), v5, v6, some (.ref D9), some (.ref h), v9, v10] ∧ Same H10 H11
 refine ⟨2, rfl, by decide, by decide, for_range (lo := 0) (n := Int.toNat 2) Pv26 ⟨none, none, rfl, Same.refl _⟩ ?_ ?_⟩
 ·rintro i σ H11 hi ⟨v9, v10, rfl, s11⟩
  refine ⟨_, rfl, h, us, lns, rfl, sqL_new (s11 _ _ h10), LinesAt.same hL10 s11, hnm, by omega, fun f12 H12 s12 hf0 hf => ?_⟩
  have s1112 := s11.trans s12
  refine ⟨_, rfl, _, "list", true, rfl, .list, .inr ⟨⟨_, sqL_new hf⟩, rfl⟩, _, rfl, iteF ?_⟩
  refine ⟨_, rfl, _, rfl, f12, D9, _, _, rfl, rfl, lstD (sqL_new hf), lstD (sqL_new (s1112 _ _ d10)), alikeLst _ _, fun cc hcc => ?_⟩
  rw [hcc.mpr rfl]
  refine ⟨_, rfl, iteF ?_⟩
  refine ⟨_, rfl, _, rfl, h, g, us, rfl, rfl, sqL_new (s1112 _ _ h10), sqL_new (s1112 _ _ g10), fun x hx => ?_, _, rfl, iteF ?_⟩
  ·obtain ⟨k, ek⟩ := List.mem_iff_getElem?.mp hx
   obtain ⟨ln, _, u, e, _⟩ := L2.paired_get hL6 ek
   exact ⟨u, e⟩
  refine ⟨_, rfl, f12, rfl, ⟨_, sqL_new hf⟩, fun D13 hD13 => ?_⟩
  let Pv27 : Nat → St → List V → Hp → Prop := fun i τ ys H13 => ∃ v : Option V, τ = [v] ∧ ys = [] ∧ H13 D13 = some (.lst ys) ∧ Same H12 H13
  refine lc_any (n := (dueL lns).length) Pv27 ?_ (fun i τ ys H13 hi h => ?_) (fun i τ ys H13 hi h => ?_) (fun τ ys H13 h => ?_) ?_ ?_
  ·exact ⟨none, rfl, rfl, upd_same, same_new' hD13 _⟩
  ·obtain ⟨v, rfl, rfl, hE, s13⟩ := h
   exact ⟨hE, by decide⟩
  ·obtain ⟨v, rfl, rfl, hE, s13⟩ := h
   exact ⟨_, .int (dueL lns)[i], sqL_new (s13 _ _ hf), by rw [kY, gE hi]; rfl⟩
  ·obtain ⟨v, rfl, rfl, hE, s13⟩ := h
   exact ⟨_, sqL_new (s13 _ _ hf), by rw [jQ]; exact jX _⟩
  ·rintro i τ ys H13 x H14 hi ⟨v, rfl, rfl, hE, s13⟩ ⟨rfl, e1⟩
   obtain ⟨z, ez, rfl⟩ := getMapI (e1 _ (sqL_new (s13 _ _ hf)))
   exact ⟨_, rfl, _, "bool", false, rfl, .bool, rfl, _, rfl, iteF ⟨_, rfl, _, "int", true, rfl, .int, rfl, _, rfl, iteF ⟨_, rfl, rfl, hE, s13⟩⟩⟩
  rintro τ ys H13 ⟨v, rfl, rfl, hE, s13⟩
  refine ⟨D13, _, rfl, .inl (sqL_new hE), _, _, rfl, rfl, _, rfl, ite2 (fun y => absurd (zQ y) (by show ¬ ((0 : Nat) : Int) > 0; decide)) (fun _ => ?_)⟩
  have hf13 := s13 _ _ hf
  have hdl : (dueL lns).length ≤ lns.length := by
   unfold dueL
   have := List.length_filter_le (fun k : Nat => mkd lns lns.length (k : Int)) (List.range lns.length)
   rw [jQa] at this
   rw [jQ]; exact this
  refine ⟨_, rfl, .inl ⟨rfl, _, sqL_new hf13⟩, _, rfl, f12, _, _, rfl, rfl, hf13, by rw [jQ]; omega, _, _, rfl, fun b o e => ?_⟩
  rw [upd_ne (ne_of_none (s11 _ _ e) hf0)]; exact s13 _ _ (s1112 _ _ e)
 ·rintro σ H11 ⟨v9, v10, rfl, s11⟩
  exact q H11
end
def htop (i : Nat) : Stmt := PySem.Challenge.pw_nonebetter_k31_what_a_paper_rests_on.main.body.getD i (.Pass ⟨0, 0, 0, 0⟩)
def hob0 (i : Nat) (P : Params) : Obj :=
 bif Nat.beq i 2 then .mk .none none (.dict #[]) #[] else
 bif Nat.beq i 3 then .mk (.type "dict") none (.dict #[.mk (PyData.keyHash P "__name__") (.str "__name__" 165) (.str "law_nonebetter_k31_what_a_paper_rests_on" 207), .mk (PyData.keyHash P "__doc__") (.str "__doc__" 166) .none, .mk (PyData.keyHash P "__package__") (.str "__package__" 167) .none, .mk (PyData.keyHash P "__loader__") (.str "__loader__" 168) (.builtin "__main__.__loader__#opaque"), .mk (PyData.keyHash P "__spec__") (.str "__spec__" 169) .none, .mk (PyData.keyHash P "__annotations__") (.str "__annotations__" 170) (.ref 6), .mk (PyData.keyHash P "__builtins__") (.str "__builtins__" 171) (.ref 4), .mk (PyData.keyHash P "__file__") (.str "__file__" 173) (.str "/claim/cut.py" 172), .mk (PyData.keyHash P "__cached__") (.str "__cached__" 174) .none, .mk (PyData.keyHash P "named_by") (.str "named_by" 194) (.ref 19), .mk (PyData.keyHash P "rests_on") (.str "rests_on" 206) (.ref 26), .mk (PyData.keyHash P "_law_mix") (.str "_law_mix" 217) (.ref 33), .mk (PyData.keyHash P "_law_cell_at") (.str "_law_cell_at" 225) (.ref 40), .mk (PyData.keyHash P "_law_left") (.str "_law_left" 233) (.ref 47), .mk (PyData.keyHash P "_law_draw") (.str "_law_draw" 242) (.ref 54), .mk (PyData.keyHash P "_law_problem") (.str "_law_problem" 248) (.ref 59), .mk (PyData.keyHash P "_law_holds") (.str "_law_holds" 260) (.ref 66), .mk (PyData.keyHash P "_law_copy") (.str "_law_copy" 267) (.ref 73), .mk (PyData.keyHash P "_law_is") (.str "_law_is" 275) (.ref 80), .mk (PyData.keyHash P "_law_simple") (.str "_law_simple" 281) (.ref 85), .mk (PyData.keyHash P "_law_summed") (.str "_law_summed" 287) (.ref 90), .mk (PyData.keyHash P "_law_shared") (.str "_law_shared" 293) (.ref 95), .mk (PyData.keyHash P "_law_most") (.str "_law_most" 299) (.ref 100), .mk (PyData.keyHash P "_law_shut_out") (.str "_law_shut_out" 305) (.ref 105), .mk (PyData.keyHash P "_law_shut") (.str "_law_shut" 311) (.ref 110), .mk (PyData.keyHash P "_law_either") (.str "_law_either" 321) (.ref 117), .mk (PyData.keyHash P "_law_like") (.str "_law_like" 327) (.ref 122), .mk (PyData.keyHash P "_law_row") (.str "_law_row" 337) (.ref 129), .mk (PyData.keyHash P "_law_told") (.str "_law_told" 349) (.ref 136), .mk (PyData.keyHash P "_law_drawn") (.str "_law_drawn" 367) (.ref 143), .mk (PyData.keyHash P "_law_turn") (.str "_law_turn" 378) (.ref 150), .mk (PyData.keyHash P "_law_paper") (.str "_law_paper" 392) (.ref 157), .mk (PyData.keyHash P "_law_named") (.str "_law_named" 398) (.ref 162), .mk (PyData.keyHash P "_law_long") (.str "_law_long" 406) (.ref 169), .mk (PyData.keyHash P "law") (.str "law" 412) (.ref 174)] 35) #[] else
 bif Nat.beq i 15 then .mk (.type "tuple") none (.seq #[]) #[] else
 bif Nat.beq i 18 then .mk (.type "code") none (.fields #[.str "named_by" 189, .str "named_by" 190, .str "/claim/cut.py" 191, .int 2 0, .int 1 0, .int 0 0, .int 0 0, .int 3 0, .ref 15, .bool Bool.true, .int 181 0, .ref 16, .none, .none, .none, .ref 17, .int 192 0, .int 2 0, .str "/claim/cut.py" 193]) #[] else
 .mk (.type "function") (none) (.func (.mk "named_by" "named_by" (L2.defArgs (htop 1)) (.stmts (L2.defBody (htop 1))) (L2.defScope (htop 1)) (3) ([]) (.none) (.none) (.none) (.str "nonebetter.lines" 187) (none) (.ref 18) (.none) (0))) (#[])
def hob1 (i : Nat) (P : Params) : Obj :=
 bif Nat.beq i 20 then .mk (.type "tuple") none (.seq #[]) #[] else
 bif Nat.beq i 22 then .mk (.type "tuple") none (.seq #[.str "paper" 200, .str "wanted" 201, .str "number" 202, .str "other" 203]) #[] else
 bif Nat.beq i 23 then .mk (.type "tuple") none (.seq #[]) #[] else
 bif Nat.beq i 25 then .mk (.type "code") none (.fields #[.str "rests_on" 197, .str "rests_on" 198, .str "/claim/cut.py" 199, .int 9 0, .int 1 0, .int 0 0, .int 0 0, .int 3 0, .ref 20, .bool Bool.true, .int 181 0, .ref 21, .none, .ref 22, .ref 23, .ref 24, .int 204 0, .int 9 0, .str "/claim/cut.py" 205]) #[] else
 .mk (.type "function") (none) (.func (.mk "rests_on" "rests_on" (L2.defArgs (htop 3)) (.stmts (L2.defBody (htop 3))) (L2.defScope (htop 3)) (3) ([]) (.none) (.none) (.none) (.str "nonebetter.shorter" 195) (none) (.ref 25) (.none) (0))) (#[])
def hob2 (i : Nat) (P : Params) : Obj :=
 bif Nat.beq i 27 then .mk (.type "tuple") none (.seq #[]) #[] else
 bif Nat.beq i 29 then .mk (.type "tuple") none (.seq #[.str "_law_number" 212, .str "_law_k" 213, .str "_law_mixed" 214]) #[] else
 bif Nat.beq i 30 then .mk (.type "tuple") none (.seq #[]) #[] else
 bif Nat.beq i 32 then .mk (.type "code") none (.fields #[.str "_law_mix" 209, .str "_law_mix" 210, .str "/claim/cut.py" 211, .int 19 0, .int 2 0, .int 0 0, .int 0 0, .int 3 0, .ref 27, .bool Bool.true, .int 181 0, .ref 28, .none, .ref 29, .ref 30, .ref 31, .int 215 0, .int 19 0, .str "/claim/cut.py" 216]) #[] else
 .mk (.type "function") (none) (.func (.mk "_law_mix" "_law_mix" (L2.defArgs (htop 5)) (.stmts (L2.defBody (htop 5))) (L2.defScope (htop 5)) (3) ([]) (.none) (.none) (.none) (.str "law_nonebetter_k31_what_a_paper_rests_on" 207) (none) (.ref 32) (.none) (0))) (#[])
def hob3 (i : Nat) (P : Params) : Obj :=
 bif Nat.beq i 34 then .mk (.type "tuple") none (.seq #[]) #[] else
 bif Nat.beq i 36 then .mk (.type "tuple") none (.seq #[.str "_law_script" 221, .str "_law_k" 222]) #[] else
 bif Nat.beq i 37 then .mk (.type "tuple") none (.seq #[]) #[] else
 bif Nat.beq i 39 then .mk (.type "code") none (.fields #[.str "_law_cell_at" 218, .str "_law_cell_at" 219, .str "/claim/cut.py" 220, .int 22 0, .int 2 0, .int 0 0, .int 0 0, .int 3 0, .ref 34, .bool Bool.true, .int 181 0, .ref 35, .none, .ref 36, .ref 37, .ref 38, .int 223 0, .int 22 0, .str "/claim/cut.py" 224]) #[] else
 .mk (.type "function") (none) (.func (.mk "_law_cell_at" "_law_cell_at" (L2.defArgs (htop 6)) (.stmts (L2.defBody (htop 6))) (L2.defScope (htop 6)) (3) ([]) (.none) (.none) (.none) (.str "law_nonebetter_k31_what_a_paper_rests_on" 207) (none) (.ref 39) (.none) (0))) (#[])
def hob4 (i : Nat) (P : Params) : Obj :=
 bif Nat.beq i 41 then .mk (.type "tuple") none (.seq #[]) #[] else
 bif Nat.beq i 43 then .mk (.type "tuple") none (.seq #[.str "_law_script" 229, .str "_law_k" 230]) #[] else
 bif Nat.beq i 44 then .mk (.type "tuple") none (.seq #[]) #[] else
 bif Nat.beq i 46 then .mk (.type "code") none (.fields #[.str "_law_left" 226, .str "_law_left" 227, .str "/claim/cut.py" 228, .int 26 0, .int 2 0, .int 0 0, .int 0 0, .int 3 0, .ref 41, .bool Bool.true, .int 181 0, .ref 42, .none, .ref 43, .ref 44, .ref 45, .int 231 0, .int 26 0, .str "/claim/cut.py" 232]) #[] else
 .mk (.type "function") (none) (.func (.mk "_law_left" "_law_left" (L2.defArgs (htop 7)) (.stmts (L2.defBody (htop 7))) (L2.defScope (htop 7)) (3) ([]) (.none) (.none) (.none) (.str "law_nonebetter_k31_what_a_paper_rests_on" 207) (none) (.ref 46) (.none) (0))) (#[])
def hob5 (i : Nat) (P : Params) : Obj :=
 bif Nat.beq i 48 then .mk (.type "tuple") none (.seq #[]) #[] else
 bif Nat.beq i 50 then .mk (.type "tuple") none (.seq #[.str "_law_left_here" 237, .str "_law_base" 238, .str "_law_digit" 239]) #[] else
 bif Nat.beq i 51 then .mk (.type "tuple") none (.seq #[]) #[] else
 bif Nat.beq i 53 then .mk (.type "code") none (.fields #[.str "_law_draw" 234, .str "_law_draw" 235, .str "/claim/cut.py" 236, .int 28 0, .int 2 0, .int 0 0, .int 0 0, .int 3 0, .ref 48, .bool Bool.true, .int 181 0, .ref 49, .none, .ref 50, .ref 51, .ref 52, .int 240 0, .int 28 0, .str "/claim/cut.py" 241]) #[] else
 .mk (.type "function") (none) (.func (.mk "_law_draw" "_law_draw" (L2.defArgs (htop 8)) (.stmts (L2.defBody (htop 8))) (L2.defScope (htop 8)) (3) ([]) (.none) (.none) (.none) (.str "law_nonebetter_k31_what_a_paper_rests_on" 207) (none) (.ref 53) (.none) (0))) (#[])
def hob6 (i : Nat) (P : Params) : Obj :=
 bif Nat.beq i 55 then .mk (.type "tuple") none (.seq #[]) #[] else
 bif Nat.beq i 58 then .mk (.type "code") none (.fields #[.str "_law_problem" 243, .str "_law_problem" 244, .str "/claim/cut.py" 245, .int 35 0, .int 3 0, .int 0 0, .int 0 0, .int 3 0, .ref 55, .bool Bool.true, .int 181 0, .ref 56, .none, .none, .none, .ref 57, .int 246 0, .int 35 0, .str "/claim/cut.py" 247]) #[] else
 bif Nat.beq i 59 then .mk (.type "function") (none) (.func (.mk "_law_problem" "_law_problem" (L2.defArgs (htop 9)) (.stmts (L2.defBody (htop 9))) (L2.defScope (htop 9)) (3) ([]) (.none) (.none) (.none) (.str "law_nonebetter_k31_what_a_paper_rests_on" 207) (none) (.ref 58) (.none) (0))) (#[]) else
 bif Nat.beq i 74 then .mk (.type "tuple") none (.seq #[]) #[] else
 .mk (.type "tuple") none (.seq #[.str "_law_thing" 271, .str "_law_most_here" 272]) #[]
def hob7 (i : Nat) (P : Params) : Obj :=
 bif Nat.beq i 77 then .mk (.type "tuple") none (.seq #[]) #[] else
 bif Nat.beq i 79 then .mk (.type "code") none (.fields #[.str "_law_is" 268, .str "_law_is" 269, .str "/claim/cut.py" 270, .int 56 0, .int 2 0, .int 0 0, .int 0 0, .int 3 0, .ref 74, .bool Bool.true, .int 181 0, .ref 75, .none, .ref 76, .ref 77, .ref 78, .int 273 0, .int 56 0, .str "/claim/cut.py" 274]) #[] else
 bif Nat.beq i 80 then .mk (.type "function") (none) (.func (.mk "_law_is" "_law_is" (L2.defArgs (htop 12)) (.stmts (L2.defBody (htop 12))) (L2.defScope (htop 12)) (3) ([]) (.none) (.none) (.none) (.str "law_nonebetter_k31_what_a_paper_rests_on" 207) (none) (.ref 79) (.none) (0))) (#[]) else
 bif Nat.beq i 81 then .mk (.type "tuple") none (.seq #[]) #[] else
 .mk (.type "code") none (.fields #[.str "_law_simple" 276, .str "_law_simple" 277, .str "/claim/cut.py" 278, .int 58 0, .int 3 0, .int 0 0, .int 0 0, .int 3 0, .ref 81, .bool Bool.true, .int 181 0, .ref 82, .none, .none, .none, .ref 83, .int 279 0, .int 58 0, .str "/claim/cut.py" 280]) #[]
def hob8 (i : Nat) (P : Params) : Obj :=
 bif Nat.beq i 85 then .mk (.type "function") (none) (.func (.mk "_law_simple" "_law_simple" (L2.defArgs (htop 13)) (.stmts (L2.defBody (htop 13))) (L2.defScope (htop 13)) (3) ([]) (.none) (.none) (.none) (.str "law_nonebetter_k31_what_a_paper_rests_on" 207) (none) (.ref 84) (.none) (0))) (#[]) else
 bif Nat.beq i 86 then .mk (.type "tuple") none (.seq #[]) #[] else
 bif Nat.beq i 89 then .mk (.type "code") none (.fields #[.str "_law_summed" 282, .str "_law_summed" 283, .str "/claim/cut.py" 284, .int 75 0, .int 3 0, .int 0 0, .int 0 0, .int 3 0, .ref 86, .bool Bool.true, .int 181 0, .ref 87, .none, .none, .none, .ref 88, .int 285 0, .int 75 0, .str "/claim/cut.py" 286]) #[] else
 bif Nat.beq i 90 then .mk (.type "function") (none) (.func (.mk "_law_summed" "_law_summed" (L2.defArgs (htop 14)) (.stmts (L2.defBody (htop 14))) (L2.defScope (htop 14)) (3) ([]) (.none) (.none) (.none) (.str "law_nonebetter_k31_what_a_paper_rests_on" 207) (none) (.ref 89) (.none) (0))) (#[]) else
 .mk (.type "tuple") none (.seq #[]) #[]
def hob9 (i : Nat) (P : Params) : Obj :=
 bif Nat.beq i 94 then .mk (.type "code") none (.fields #[.str "_law_shared" 288, .str "_law_shared" 289, .str "/claim/cut.py" 290, .int 89 0, .int 2 0, .int 0 0, .int 0 0, .int 3 0, .ref 91, .bool Bool.true, .int 181 0, .ref 92, .none, .none, .none, .ref 93, .int 291 0, .int 89 0, .str "/claim/cut.py" 292]) #[] else
 bif Nat.beq i 95 then .mk (.type "function") (none) (.func (.mk "_law_shared" "_law_shared" (L2.defArgs (htop 15)) (.stmts (L2.defBody (htop 15))) (L2.defScope (htop 15)) (3) ([]) (.none) (.none) (.none) (.str "law_nonebetter_k31_what_a_paper_rests_on" 207) (none) (.ref 94) (.none) (0))) (#[]) else
 bif Nat.beq i 96 then .mk (.type "tuple") none (.seq #[]) #[] else
 bif Nat.beq i 99 then .mk (.type "code") none (.fields #[.str "_law_most" 294, .str "_law_most" 295, .str "/claim/cut.py" 296, .int 96 0, .int 2 0, .int 0 0, .int 0 0, .int 3 0, .ref 96, .bool Bool.true, .int 181 0, .ref 97, .none, .none, .none, .ref 98, .int 297 0, .int 96 0, .str "/claim/cut.py" 298]) #[] else
 .mk (.type "function") (none) (.func (.mk "_law_most" "_law_most" (L2.defArgs (htop 16)) (.stmts (L2.defBody (htop 16))) (L2.defScope (htop 16)) (3) ([]) (.none) (.none) (.none) (.str "law_nonebetter_k31_what_a_paper_rests_on" 207) (none) (.ref 99) (.none) (0))) (#[])
def hob10 (i : Nat) (P : Params) : Obj :=
 bif Nat.beq i 101 then .mk (.type "tuple") none (.seq #[]) #[] else
 bif Nat.beq i 104 then .mk (.type "code") none (.fields #[.str "_law_shut_out" 300, .str "_law_shut_out" 301, .str "/claim/cut.py" 302, .int 100 0, .int 2 0, .int 0 0, .int 0 0, .int 3 0, .ref 101, .bool Bool.true, .int 181 0, .ref 102, .none, .none, .none, .ref 103, .int 303 0, .int 100 0, .str "/claim/cut.py" 304]) #[] else
 bif Nat.beq i 105 then .mk (.type "function") (none) (.func (.mk "_law_shut_out" "_law_shut_out" (L2.defArgs (htop 17)) (.stmts (L2.defBody (htop 17))) (L2.defScope (htop 17)) (3) ([]) (.none) (.none) (.none) (.str "law_nonebetter_k31_what_a_paper_rests_on" 207) (none) (.ref 104) (.none) (0))) (#[]) else
 bif Nat.beq i 106 then .mk (.type "tuple") none (.seq #[]) #[] else
 .mk (.type "code") none (.fields #[.str "_law_shut" 306, .str "_law_shut" 307, .str "/claim/cut.py" 308, .int 105 0, .int 2 0, .int 0 0, .int 0 0, .int 3 0, .ref 106, .bool Bool.true, .int 181 0, .ref 107, .none, .none, .none, .ref 108, .int 309 0, .int 105 0, .str "/claim/cut.py" 310]) #[]
def hob11 (i : Nat) (P : Params) : Obj :=
 bif Nat.beq i 110 then .mk (.type "function") (none) (.func (.mk "_law_shut" "_law_shut" (L2.defArgs (htop 18)) (.stmts (L2.defBody (htop 18))) (L2.defScope (htop 18)) (3) ([]) (.none) (.none) (.none) (.str "law_nonebetter_k31_what_a_paper_rests_on" 207) (none) (.ref 109) (.none) (0))) (#[]) else
 bif Nat.beq i 111 then .mk (.type "tuple") none (.seq #[]) #[] else
 bif Nat.beq i 113 then .mk (.type "tuple") none (.seq #[.str "_law_one" 315, .str "_law_other" 316, .str "_law_at" 317, .str "_law_k" 318]) #[] else
 bif Nat.beq i 114 then .mk (.type "tuple") none (.seq #[]) #[] else
 .mk (.type "code") none (.fields #[.str "_law_either" 312, .str "_law_either" 313, .str "/claim/cut.py" 314, .int 115 0, .int 3 0, .int 0 0, .int 0 0, .int 3 0, .ref 111, .bool Bool.true, .int 181 0, .ref 112, .none, .ref 113, .ref 114, .ref 115, .int 319 0, .int 115 0, .str "/claim/cut.py" 320]) #[]
def hob12 (i : Nat) (P : Params) : Obj :=
 bif Nat.beq i 117 then .mk (.type "function") (none) (.func (.mk "_law_either" "_law_either" (L2.defArgs (htop 19)) (.stmts (L2.defBody (htop 19))) (L2.defScope (htop 19)) (3) ([]) (.none) (.none) (.none) (.str "law_nonebetter_k31_what_a_paper_rests_on" 207) (none) (.ref 116) (.none) (0))) (#[]) else
 bif Nat.beq i 118 then .mk (.type "tuple") none (.seq #[]) #[] else
 bif Nat.beq i 121 then .mk (.type "code") none (.fields #[.str "_law_like" 322, .str "_law_like" 323, .str "/claim/cut.py" 324, .int 120 0, .int 2 0, .int 0 0, .int 0 0, .int 3 0, .ref 118, .bool Bool.true, .int 181 0, .ref 119, .none, .none, .none, .ref 120, .int 325 0, .int 120 0, .str "/claim/cut.py" 326]) #[] else
 bif Nat.beq i 122 then .mk (.type "function") (none) (.func (.mk "_law_like" "_law_like" (L2.defArgs (htop 20)) (.stmts (L2.defBody (htop 20))) (L2.defScope (htop 20)) (3) ([]) (.none) (.none) (.none) (.str "law_nonebetter_k31_what_a_paper_rests_on" 207) (none) (.ref 121) (.none) (0))) (#[]) else
 .mk (.type "tuple") none (.seq #[]) #[]
def hob13 (i : Nat) (P : Params) : Obj :=
 bif Nat.beq i 125 then .mk (.type "tuple") none (.seq #[.str "_law_problem_here" 331, .str "_law_best" 332, .str "_law_heard" 333, .str "_law_line" 334]) #[] else
 bif Nat.beq i 126 then .mk (.type "tuple") none (.seq #[]) #[] else
 bif Nat.beq i 128 then .mk (.type "code") none (.fields #[.str "_law_row" 328, .str "_law_row" 329, .str "/claim/cut.py" 330, .int 139 0, .int 4 0, .int 0 0, .int 0 0, .int 3 0, .ref 123, .bool Bool.true, .int 181 0, .ref 124, .none, .ref 125, .ref 126, .ref 127, .int 335 0, .int 139 0, .str "/claim/cut.py" 336]) #[] else
 bif Nat.beq i 129 then .mk (.type "function") (none) (.func (.mk "_law_row" "_law_row" (L2.defArgs (htop 21)) (.stmts (L2.defBody (htop 21))) (L2.defScope (htop 21)) (3) ([]) (.none) (.none) (.none) (.str "law_nonebetter_k31_what_a_paper_rests_on" 207) (none) (.ref 128) (.none) (0))) (#[]) else
 .mk (.type "tuple") none (.seq #[]) #[]
def hob14 (i : Nat) (P : Params) : Obj :=
 bif Nat.beq i 139 then .mk (.type "tuple") none (.seq #[.str "_law_problem_here" 353, .str "_law_many_seen" 354, .str "_law_cell" 355, .str "_law_many" 356, .str "_law_left_here" 357, .str "_law_word" 358, .str "_law_one" 359, .str "_law_other" 360, .str "_law_choice" 361, .str "_law_holds_here" 362, .str "_law_k" 363, .str "_law_worth" 364]) #[] else
 bif Nat.beq i 140 then .mk (.type "tuple") none (.seq #[]) #[] else
 bif Nat.beq i 142 then .mk (.type "code") none (.fields #[.str "_law_drawn" 350, .str "_law_drawn" 351, .str "/claim/cut.py" 352, .int 167 0, .int 3 0, .int 0 0, .int 0 0, .int 3 0, .ref 137, .bool Bool.true, .int 181 0, .ref 138, .none, .ref 139, .ref 140, .ref 141, .int 365 0, .int 167 0, .str "/claim/cut.py" 366]) #[] else
 bif Nat.beq i 143 then .mk (.type "function") (none) (.func (.mk "_law_drawn" "_law_drawn" (L2.defArgs (htop 23)) (.stmts (L2.defBody (htop 23))) (L2.defScope (htop 23)) (3) ([]) (.none) (.none) (.none) (.str "law_nonebetter_k31_what_a_paper_rests_on" 207) (none) (.ref 142) (.none) (0))) (#[]) else
 .mk (.type "tuple") none (.seq #[]) #[]
def hob15 (i : Nat) (P : Params) : Obj :=
 bif Nat.beq i 146 then .mk (.type "tuple") none (.seq #[.str "_law_left_here" 371, .str "_law_many" 372, .str "_law_turn_here" 373, .str "_law_k" 374, .str "_law_place" 375]) #[] else
 bif Nat.beq i 147 then .mk (.type "tuple") none (.seq #[]) #[] else
 bif Nat.beq i 149 then .mk (.type "code") none (.fields #[.str "_law_turn" 368, .str "_law_turn" 369, .str "/claim/cut.py" 370, .int 191 0, .int 2 0, .int 0 0, .int 0 0, .int 3 0, .ref 144, .bool Bool.true, .int 181 0, .ref 145, .none, .ref 146, .ref 147, .ref 148, .int 376 0, .int 191 0, .str "/claim/cut.py" 377]) #[] else
 bif Nat.beq i 150 then .mk (.type "function") (none) (.func (.mk "_law_turn" "_law_turn" (L2.defArgs (htop 24)) (.stmts (L2.defBody (htop 24))) (L2.defScope (htop 24)) (3) ([]) (.none) (.none) (.none) (.str "law_nonebetter_k31_what_a_paper_rests_on" 207) (none) (.ref 149) (.none) (0))) (#[]) else
 .mk (.type "tuple") none (.seq #[]) #[]
def hob16 (i : Nat) (P : Params) : Obj :=
 bif Nat.beq i 153 then .mk (.type "tuple") none (.seq #[.str "_law_problem_here" 382, .str "_law_best" 383, .str "_law_cells" 384, .str "_law_paper_here" 385, .str "_law_heard" 386, .str "_law_cell" 387, .str "_law_line" 388, .str "_law_row_here" 389]) #[] else
 bif Nat.beq i 154 then .mk (.type "tuple") none (.seq #[]) #[] else
 bif Nat.beq i 156 then .mk (.type "code") none (.fields #[.str "_law_paper" 379, .str "_law_paper" 380, .str "/claim/cut.py" 381, .int 197 0, .int 3 0, .int 0 0, .int 0 0, .int 3 0, .ref 151, .bool Bool.true, .int 181 0, .ref 152, .none, .ref 153, .ref 154, .ref 155, .int 390 0, .int 197 0, .str "/claim/cut.py" 391]) #[] else
 bif Nat.beq i 157 then .mk (.type "function") (none) (.func (.mk "_law_paper" "_law_paper" (L2.defArgs (htop 25)) (.stmts (L2.defBody (htop 25))) (L2.defScope (htop 25)) (3) ([]) (.none) (.none) (.none) (.str "law_nonebetter_k31_what_a_paper_rests_on" 207) (none) (.ref 156) (.none) (0))) (#[]) else
 .mk (.type "tuple") none (.seq #[]) #[]
def hob17 (i : Nat) (P : Params) : Obj :=
 bif Nat.beq i 161 then .mk (.type "code") none (.fields #[.str "_law_named" 393, .str "_law_named" 394, .str "/claim/cut.py" 395, .int 207 0, .int 1 0, .int 0 0, .int 0 0, .int 3 0, .ref 158, .bool Bool.true, .int 181 0, .ref 159, .none, .none, .none, .ref 160, .int 396 0, .int 207 0, .str "/claim/cut.py" 397]) #[] else
 bif Nat.beq i 162 then .mk (.type "function") (none) (.func (.mk "_law_named" "_law_named" (L2.defArgs (htop 26)) (.stmts (L2.defBody (htop 26))) (L2.defScope (htop 26)) (3) ([]) (.none) (.none) (.none) (.str "law_nonebetter_k31_what_a_paper_rests_on" 207) (none) (.ref 161) (.none) (0))) (#[]) else
 bif Nat.beq i 163 then .mk (.type "tuple") none (.seq #[]) #[] else
 bif Nat.beq i 165 then .mk (.type "tuple") none (.seq #[.str "_law_paper_here" 402, .str "_law_k" 403]) #[] else
 .mk (.type "tuple") none (.seq #[]) #[]
def hob18 (i : Nat) (P : Params) : Obj :=
 bif Nat.beq i 168 then .mk (.type "code") none (.fields #[.str "_law_long" 399, .str "_law_long" 400, .str "/claim/cut.py" 401, .int 213 0, .int 0 0, .int 0 0, .int 0 0, .int 3 0, .ref 163, .bool Bool.true, .int 181 0, .ref 164, .none, .ref 165, .ref 166, .ref 167, .int 404 0, .int 213 0, .str "/claim/cut.py" 405]) #[] else
 bif Nat.beq i 169 then .mk (.type "function") (none) (.func (.mk "_law_long" "_law_long" (L2.defArgs (htop 27)) (.stmts (L2.defBody (htop 27))) (L2.defScope (htop 27)) (3) ([]) (.none) (.none) (.none) (.str "law_nonebetter_k31_what_a_paper_rests_on" 207) (none) (.ref 168) (.none) (0))) (#[]) else
 bif Nat.beq i 170 then .mk (.type "tuple") none (.seq #[]) #[] else
 bif Nat.beq i 173 then .mk (.type "code") none (.fields #[.str "law" 407, .str "law" 408, .str "/claim/cut.py" 409, .int 218 0, .int 1 0, .int 0 0, .int 0 0, .int 3 0, .ref 170, .bool Bool.true, .int 181 0, .ref 171, .none, .none, .none, .ref 172, .int 410 0, .int 218 0, .str "/claim/cut.py" 411]) #[] else
 .mk (.type "function") (none) (.func (.mk "law" "law" (L2.defArgs (htop 28)) (.stmts (L2.defBody (htop 28))) (L2.defScope (htop 28)) (3) ([]) (.none) (.none) (.none) (.str "law_nonebetter_k31_what_a_paper_rests_on" 207) (none) (.ref 173) (.none) (0))) (#[])
def hob (i : Nat) (P : Params) : Obj := (bif Nat.ble i 91 then (bif Nat.ble i 40 then (bif Nat.ble i 26 then (bif Nat.ble i 19 then hob0 i P else hob1 i P) else (bif Nat.ble i 33 then hob2 i P else hob3 i P)) else (bif Nat.ble i 54 then (bif Nat.ble i 47 then hob4 i P else hob5 i P) else (bif Nat.ble i 76 then hob6 i P else (bif Nat.ble i 84 then hob7 i P else hob8 i P)))) else (bif Nat.ble i 137 then (bif Nat.ble i 109 then (bif Nat.ble i 100 then hob9 i P else hob10 i P) else (bif Nat.ble i 116 then hob11 i P else (bif Nat.ble i 123 then hob12 i P else hob13 i P))) else (bif Nat.ble i 151 then (bif Nat.ble i 144 then hob14 i P else hob15 i P) else (bif Nat.ble i 158 then hob16 i P else (bif Nat.ble i 166 then hob17 i P else hob18 i P)))))
def heapK : Params → W.Frag := fun P => (nat_lit 2, hob (nat_lit 2) P) :: (nat_lit 3, hob (nat_lit 3) P) :: (nat_lit 15, hob (nat_lit 15) P) :: (nat_lit 18, hob (nat_lit 18) P) :: (nat_lit 19, hob (nat_lit 19) P) :: (nat_lit 20, hob (nat_lit 20) P) :: (nat_lit 22, hob (nat_lit 22) P) :: (nat_lit 23, hob (nat_lit 23) P) :: (nat_lit 25, hob (nat_lit 25) P) :: (nat_lit 26, hob (nat_lit 26) P) :: (nat_lit 27, hob (nat_lit 27) P) :: (nat_lit 29, hob (nat_lit 29) P) :: (nat_lit 30, hob (nat_lit 30) P) :: (nat_lit 32, hob (nat_lit 32) P) :: (nat_lit 33, hob (nat_lit 33) P) :: (nat_lit 34, hob (nat_lit 34) P) :: (nat_lit 36, hob (nat_lit 36) P) :: (nat_lit 37, hob (nat_lit 37) P) :: (nat_lit 39, hob (nat_lit 39) P) :: (nat_lit 40, hob (nat_lit 40) P) :: (nat_lit 41, hob (nat_lit 41) P) :: (nat_lit 43, hob (nat_lit 43) P) :: (nat_lit 44, hob (nat_lit 44) P) :: (nat_lit 46, hob (nat_lit 46) P) :: (nat_lit 47, hob (nat_lit 47) P) :: (nat_lit 48, hob (nat_lit 48) P) :: (nat_lit 50, hob (nat_lit 50) P) :: (nat_lit 51, hob (nat_lit 51) P) :: (nat_lit 53, hob (nat_lit 53) P) :: (nat_lit 54, hob (nat_lit 54) P) :: (nat_lit 55, hob (nat_lit 55) P) :: (nat_lit 58, hob (nat_lit 58) P) :: (nat_lit 59, hob (nat_lit 59) P) :: (nat_lit 74, hob (nat_lit 74) P) :: (nat_lit 76, hob (nat_lit 76) P) :: (nat_lit 77, hob (nat_lit 77) P) :: (nat_lit 79, hob (nat_lit 79) P) :: (nat_lit 80, hob (nat_lit 80) P) :: (nat_lit 81, hob (nat_lit 81) P) :: (nat_lit 84, hob (nat_lit 84) P) :: (nat_lit 85, hob (nat_lit 85) P) :: (nat_lit 86, hob (nat_lit 86) P) :: (nat_lit 89, hob (nat_lit 89) P) :: (nat_lit 90, hob (nat_lit 90) P) :: (nat_lit 91, hob (nat_lit 91) P) :: (nat_lit 94, hob (nat_lit 94) P) :: (nat_lit 95, hob (nat_lit 95) P) :: (nat_lit 96, hob (nat_lit 96) P) :: (nat_lit 99, hob (nat_lit 99) P) :: (nat_lit 100, hob (nat_lit 100) P) :: (nat_lit 101, hob (nat_lit 101) P) :: (nat_lit 104, hob (nat_lit 104) P) :: (nat_lit 105, hob (nat_lit 105) P) :: (nat_lit 106, hob (nat_lit 106) P) :: (nat_lit 109, hob (nat_lit 109) P) :: (nat_lit 110, hob (nat_lit 110) P) :: (nat_lit 111, hob (nat_lit 111) P) :: (nat_lit 113, hob (nat_lit 113) P) :: (nat_lit 114, hob (nat_lit 114) P) :: (nat_lit 116, hob (nat_lit 116) P) :: (nat_lit 117, hob (nat_lit 117) P) :: (nat_lit 118, hob (nat_lit 118) P) :: (nat_lit 121, hob (nat_lit 121) P) :: (nat_lit 122, hob (nat_lit 122) P) :: (nat_lit 123, hob (nat_lit 123) P) :: (nat_lit 125, hob (nat_lit 125) P) :: (nat_lit 126, hob (nat_lit 126) P) :: (nat_lit 128, hob (nat_lit 128) P) :: (nat_lit 129, hob (nat_lit 129) P) :: (nat_lit 137, hob (nat_lit 137) P) :: (nat_lit 139, hob (nat_lit 139) P) :: (nat_lit 140, hob (nat_lit 140) P) :: (nat_lit 142, hob (nat_lit 142) P) :: (nat_lit 143, hob (nat_lit 143) P) :: (nat_lit 144, hob (nat_lit 144) P) :: (nat_lit 146, hob (nat_lit 146) P) :: (nat_lit 147, hob (nat_lit 147) P) :: (nat_lit 149, hob (nat_lit 149) P) :: (nat_lit 150, hob (nat_lit 150) P) :: (nat_lit 151, hob (nat_lit 151) P) :: (nat_lit 153, hob (nat_lit 153) P) :: (nat_lit 154, hob (nat_lit 154) P) :: (nat_lit 156, hob (nat_lit 156) P) :: (nat_lit 157, hob (nat_lit 157) P) :: (nat_lit 158, hob (nat_lit 158) P) :: (nat_lit 161, hob (nat_lit 161) P) :: (nat_lit 162, hob (nat_lit 162) P) :: (nat_lit 163, hob (nat_lit 163) P) :: (nat_lit 165, hob (nat_lit 165) P) :: (nat_lit 166, hob (nat_lit 166) P) :: (nat_lit 168, hob (nat_lit 168) P) :: (nat_lit 169, hob (nat_lit 169) P) :: (nat_lit 170, hob (nat_lit 170) P) :: (nat_lit 173, hob (nat_lit 173) P) :: (nat_lit 174, hob (nat_lit 174) P) :: []
theorem all_ok {P : Program} {w : World} {K : Fg} {mg : Str → Option Value} {base : Heap} (M : Mg mg) (DM : mg "divmod" = none) (F1 : Fn K mg "_law_mix" sMixB) (F2 : Fn K mg "_law_cell_at" sCell) (F3 : Fn K mg "_law_left" sLeftB) (F4 : Fn K mg "_law_draw" sDraw) (F5 : Fn K mg "_law_problem" sProblem20) (F6 : Fn K mg "_law_is" sIs) (F7 : Fn K mg "_law_simple" sSim) (F8 : Fn K mg "_law_summed" sSum) (F9 : Fn K mg "_law_like" sLik) (F10 : Fn K mg "_law_shared" sShr) (F11 : Fn K mg "_law_most" sMst) (F12 : Fn K mg "_law_shut_out" sSho) (F13 : Fn K mg "_law_shut" sSht) (F14 : Fn K mg "_law_either" sEit) (F15 : Fn K mg "_law_row" sRow31) (F16 : Fn K mg "_law_turn" sTurn) (F17 : Fn K mg "_law_drawn" sDrawn) (F18 : Fn K mg "_law_paper" sPaper) (F19 : Fn K mg "_law_named" sNamed) (F20 : Fn K mg "_law_long" sLong) (F21 : Fn K mg "named_by" sNamedBy) (F22 : Fn K mg "rests_on" sRests) {f : Addr} {fd : FuncData} (F23 : Fun K "law" "law" sLaw f fd) : FnOk P w K mg base CX0 5 f fd ["_law_script"] (spLawB K) := by
 have h_cl_mix := okMixB (P := P) (w := w) (base := base) F1 M
 have h_cl_cell_at := okCell (P := P) (w := w) (base := base) F2 M
 have h_cl_left := okLeftB (P := P) (w := w) (base := base) F3 M h_cl_cell_at
 have h_cl_draw := okDraw (P := P) (w := w) (base := base) F4 M h_cl_mix
 have h_cl_problem := okProblem20 (P := P) (w := w) (base := base) F5 M h_cl_cell_at h_cl_left h_cl_draw
 have h_cl_is := okIs (P := P) (w := w) (base := base) F6 M
 have h_cl_simple := okSim (P := P) (w := w) (base := base) F7 M h_cl_is
 have h_cl_summed := okSum (P := P) (w := w) (base := base) F8 M h_cl_is
 have h_cl_like := okLik (P := P) (w := w) (base := base) F9 M
 have h_cl_shared := okShr (P := P) (w := w) (base := base) F10 M
 have h_cl_most := okMst (P := P) (w := w) (base := base) F11 M
 have h_cl_shut_out := okSho (P := P) (w := w) (base := base) F12 M
 have h_cl_shut := okSht (P := P) (w := w) (base := base) F13 M h_cl_is h_cl_most h_cl_shut_out
 have h_cl_either := okEit (P := P) (w := w) (base := base) F14 M
 have h_cl_row := okRow31 (P := P) (w := w) (base := base) F15 M h_cl_simple h_cl_summed h_cl_like h_cl_is h_cl_shared h_cl_shut h_cl_either
 have h_cl_turn := okTurn (P := P) (w := w) (base := base) F16 M DM
 have h_cl_drawn := okDrawn (P := P) (w := w) (base := base) F17 M DM h_cl_turn
 have h_cl_paper := okPaper (P := P) (w := w) (base := base) F18 M h_cl_drawn h_cl_row
 have h_cl_named := okNamed (P := P) (w := w) (base := base) F19 M
 have h_cl_long := okLong (P := P) (w := w) (base := base) F20 M
 have h_c_named_by := okNamedBy (P := P) (w := w) (base := base) F21 M
 have h_c_rests_on := okRests (P := P) (w := w) (base := base) F22 M h_c_named_by
 have h_c_law := okLaw (P := P) (w := w) (base := base) F23 M h_cl_problem h_cl_cell_at h_cl_paper h_cl_long h_cl_named h_c_rests_on
 exact h_c_law
theorem walk {l : PySem.W.OpenLaw} {q : Program} {loose : List Str} {XP : (Str → Option Value) → Heap → Prop} {YP : World → Heap → Prop} {d : DefRec} {K : Params → Fg} (hn : l.most = some 63) (hdf : d.params.defaults = [])
  (hY : ∀ (w : World) (h : Heap), YP w h → (K w.params).In h)
  (F : ∀ (w : World) (mg : Str → Option Value) (fa : Addr) (h : Heap), (K w.params).In h → h.Ns mainGlobals mg → mg d.name = some (.ref fa) →
   ∃ fd : FuncData, (∀ (s : Shared) (u : Value), BindsTo s fd ⟨[u], []⟩ [("_law_script", u)]) ∧ ∀ base : Heap, (K w.params).In base → base.Ns mainGlobals mg → FnOk l.prog w (K w.params) mg base CX0 5 fa fd ["_law_script"] (spLawB (K w.params))) :
  PySem.W.WalkO q loose XP YP l.row.toRowW d [] (fun f vs => PySem.call f vs) :=
 L2.walk_ofB (n := 63) (k := 5) (x := "_law_script") (CX := fun _ => CX0) (sp := fun w => spLawB (K w.params)) hn (by decide) hdf ⟨rfl, by decide, by decide⟩ hY F (fun _ _ a ns hl hb hS => ⟨a, ns, rfl, hS, hl, hb, fun _ => rfl⟩) fun _ _ _ _ _ z => z
end Nb
def Nb.pwv : PySem.Program := { PySem.Challenge.pw_nonebetter_k31_what_a_paper_rests_on with main := { PySem.Challenge.pw_nonebetter_k31_what_a_paper_rests_on.main with body := [Nb.htop 0, Nb.htop 1, Nb.htop 2, Nb.htop 3, Nb.htop 4, Nb.htop 5, Nb.htop 6, Nb.htop 7, Nb.htop 8, Nb.htop 9, Nb.htop 10, Nb.htop 11, Nb.htop 12, Nb.htop 13, Nb.htop 14, Nb.htop 15, Nb.htop 16, Nb.htop 17, Nb.htop 18, Nb.htop 19, Nb.htop 20, Nb.htop 21, Nb.htop 22, Nb.htop 23, Nb.htop 24, Nb.htop 25, Nb.htop 26, Nb.htop 27, Nb.htop 28] } }
def PySem.W.Fast.tw1653918685017820470 : Nat → PySem.Params → PySem.Obj := Nb.hob
theorem PySem.W.Fast.te1653918685017820470 : Nb.hob = PySem.W.Fast.tw1653918685017820470 := rfl
def PySem.W.Fast.tw14973997182485432711 : PySem.Program := PySem.Challenge.pw_nonebetter_k31_what_a_paper_rests_on
theorem PySem.W.Fast.te14973997182485432711 : PySem.Challenge.pw_nonebetter_k31_what_a_paper_rests_on = PySem.W.Fast.tw14973997182485432711 := rfl
def PySem.W.Fast.tw9401860820342270615 : PySem.Program := Nb.pwv
theorem PySem.W.Fast.te9401860820342270615 : Nb.pwv = PySem.W.Fast.tw9401860820342270615 := rfl
def PySem.W.Fast.tw11570947652754012800 : Nat → PySem.Stmt := Nb.htop
theorem PySem.W.Fast.te11570947652754012800 : Nb.htop = PySem.W.Fast.tw11570947652754012800 := rfl
namespace PySem.W.Fast
def tw11207062269041705903 := 0
def tw10034501492304459902 := 0
def tw7682103565195691963 := 0
def tw9169155526915608055 := 0
end PySem.W.Fast
open PySem PySem.W PyProof.Rows
set_option maxRecDepth 100000 in
set_option maxHeartbeats 0 in
theorem PySem.Challenge.cw_nonebetter_k31_what_a_paper_rests_on_holds : PySem.Challenge.rw_nonebetter_k31_what_a_paper_rests_on.Holds := by
 w_on; o_law; show PySem.W.OpenRow.Holds { PySem.Challenge.rw_nonebetter_k31_what_a_paper_rests_on.row with prog := Nb.pwv }; o_head (PySem.W.kHook Nb.heapK (nat_lit 2 :: nat_lit 3 :: nat_lit 15 :: nat_lit 18 :: nat_lit 19 :: nat_lit 20 :: nat_lit 22 :: nat_lit 23 :: nat_lit 25 :: nat_lit 26 :: nat_lit 27 :: nat_lit 29 :: nat_lit 30 :: nat_lit 32 :: nat_lit 33 :: nat_lit 34 :: nat_lit 36 :: nat_lit 37 :: nat_lit 39 :: nat_lit 40 :: nat_lit 41 :: nat_lit 43 :: nat_lit 44 :: nat_lit 46 :: nat_lit 47 :: nat_lit 48 :: nat_lit 50 :: nat_lit 51 :: nat_lit 53 :: nat_lit 54 :: nat_lit 55 :: nat_lit 58 :: nat_lit 59 :: nat_lit 74 :: nat_lit 76 :: nat_lit 77 :: nat_lit 79 :: nat_lit 80 :: nat_lit 81 :: nat_lit 84 :: nat_lit 85 :: nat_lit 86 :: nat_lit 89 :: nat_lit 90 :: nat_lit 91 :: nat_lit 94 :: nat_lit 95 :: nat_lit 96 :: nat_lit 99 :: nat_lit 100 :: nat_lit 101 :: nat_lit 104 :: nat_lit 105 :: nat_lit 106 :: nat_lit 109 :: nat_lit 110 :: nat_lit 111 :: nat_lit 113 :: nat_lit 114 :: nat_lit 116 :: nat_lit 117 :: nat_lit 118 :: nat_lit 121 :: nat_lit 122 :: nat_lit 123 :: nat_lit 125 :: nat_lit 126 :: nat_lit 128 :: nat_lit 129 :: nat_lit 137 :: nat_lit 139 :: nat_lit 140 :: nat_lit 142 :: nat_lit 143 :: nat_lit 144 :: nat_lit 146 :: nat_lit 147 :: nat_lit 149 :: nat_lit 150 :: nat_lit 151 :: nat_lit 153 :: nat_lit 154 :: nat_lit 156 :: nat_lit 157 :: nat_lit 158 :: nat_lit 161 :: nat_lit 162 :: nat_lit 163 :: nat_lit 165 :: nat_lit 166 :: nat_lit 168 :: nat_lit 169 :: nat_lit 170 :: nat_lit 173 :: nat_lit 174 :: []) (fun _ => by kernel_rfl)); (case hw => w_witness2)
 k_fill
 refine Nb.walk (l := PySem.Challenge.rw_nonebetter_k31_what_a_paper_rests_on) rfl rfl (fun w h Y => PySem.W.kIn_of Y) ?F
 case F =>
  intro w mg fa h KX G hmg
  have F1 : L2.Fn (L2.KOf KX) mg "_law_mix" Nb.sMixB := by
   dsimp only [L2.KOf]
   refine' L2.fn_mk KX G ?a ?l ?c ?k
   (case a => k_is); (case l => k_is); (case c => k_is); (case k => k_is)
  have F2 : L2.Fn (L2.KOf KX) mg "_law_cell_at" Nb.sCell := by
   dsimp only [L2.KOf]
   refine' L2.fn_mk KX G ?a ?l ?c ?k
   (case a => k_is); (case l => k_is); (case c => k_is); (case k => k_is)
  have F3 : L2.Fn (L2.KOf KX) mg "_law_left" Nb.sLeftB := by
   dsimp only [L2.KOf]
   refine' L2.fn_mk KX G ?a ?l ?c ?k
   (case a => k_is); (case l => k_is); (case c => k_is); (case k => k_is)
  have F4 : L2.Fn (L2.KOf KX) mg "_law_draw" Nb.sDraw := by
   dsimp only [L2.KOf]
   refine' L2.fn_mk KX G ?a ?l ?c ?k
   (case a => k_is); (case l => k_is); (case c => k_is); (case k => k_is)
  have F5 : L2.Fn (L2.KOf KX) mg "_law_problem" Nb.sProblem20 := by
   dsimp only [L2.KOf]
   refine' L2.fn_mk KX G ?a ?l ?c ?k
   (case a => k_is); (case l => k_is); (case c => k_is); (case k => k_is)
  have F6 : L2.Fn (L2.KOf KX) mg "_law_is" Nb.sIs := by
   dsimp only [L2.KOf]
   refine' L2.fn_mk KX G ?a ?l ?c ?k
   (case a => k_is); (case l => k_is); (case c => k_is); (case k => k_is)
  have F7 : L2.Fn (L2.KOf KX) mg "_law_simple" Nb.sSim := by
   dsimp only [L2.KOf]
   refine' L2.fn_mk KX G ?a ?l ?c ?k
   (case a => k_is); (case l => k_is); (case c => k_is); (case k => k_is)
  have F8 : L2.Fn (L2.KOf KX) mg "_law_summed" Nb.sSum := by
   dsimp only [L2.KOf]
   refine' L2.fn_mk KX G ?a ?l ?c ?k
   (case a => k_is); (case l => k_is); (case c => k_is); (case k => k_is)
  have F9 : L2.Fn (L2.KOf KX) mg "_law_like" Nb.sLik := by
   dsimp only [L2.KOf]
   refine' L2.fn_mk KX G ?a ?l ?c ?k
   (case a => k_is); (case l => k_is); (case c => k_is); (case k => k_is)
  have F10 : L2.Fn (L2.KOf KX) mg "_law_shared" Nb.sShr := by
   dsimp only [L2.KOf]
   refine' L2.fn_mk KX G ?a ?l ?c ?k
   (case a => k_is); (case l => k_is); (case c => k_is); (case k => k_is)
  have F11 : L2.Fn (L2.KOf KX) mg "_law_most" Nb.sMst := by
   dsimp only [L2.KOf]
   refine' L2.fn_mk KX G ?a ?l ?c ?k
   (case a => k_is); (case l => k_is); (case c => k_is); (case k => k_is)
  have F12 : L2.Fn (L2.KOf KX) mg "_law_shut_out" Nb.sSho := by
   dsimp only [L2.KOf]
   refine' L2.fn_mk KX G ?a ?l ?c ?k
   (case a => k_is); (case l => k_is); (case c => k_is); (case k => k_is)
  have F13 : L2.Fn (L2.KOf KX) mg "_law_shut" Nb.sSht := by
   dsimp only [L2.KOf]
   refine' L2.fn_mk KX G ?a ?l ?c ?k
   (case a => k_is); (case l => k_is); (case c => k_is); (case k => k_is)
  have F14 : L2.Fn (L2.KOf KX) mg "_law_either" Nb.sEit := by
   dsimp only [L2.KOf]
   refine' L2.fn_mk KX G ?a ?l ?c ?k
   (case a => k_is); (case l => k_is); (case c => k_is); (case k => k_is)
  have F15 : L2.Fn (L2.KOf KX) mg "_law_row" Nb.sRow31 := by
   dsimp only [L2.KOf]
   refine' L2.fn_mk KX G ?a ?l ?c ?k
   (case a => k_is); (case l => k_is); (case c => k_is); (case k => k_is)
  have F16 : L2.Fn (L2.KOf KX) mg "_law_turn" Nb.sTurn := by
   dsimp only [L2.KOf]
   refine' L2.fn_mk KX G ?a ?l ?c ?k
   (case a => k_is); (case l => k_is); (case c => k_is); (case k => k_is)
  have F17 : L2.Fn (L2.KOf KX) mg "_law_drawn" Nb.sDrawn := by
   dsimp only [L2.KOf]
   refine' L2.fn_mk KX G ?a ?l ?c ?k
   (case a => k_is); (case l => k_is); (case c => k_is); (case k => k_is)
  have F18 : L2.Fn (L2.KOf KX) mg "_law_paper" Nb.sPaper := by
   dsimp only [L2.KOf]
   refine' L2.fn_mk KX G ?a ?l ?c ?k
   (case a => k_is); (case l => k_is); (case c => k_is); (case k => k_is)
  have F19 : L2.Fn (L2.KOf KX) mg "_law_named" Nb.sNamed := by
   dsimp only [L2.KOf]
   refine' L2.fn_mk KX G ?a ?l ?c ?k
   (case a => k_is); (case l => k_is); (case c => k_is); (case k => k_is)
  have F20 : L2.Fn (L2.KOf KX) mg "_law_long" Nb.sLong := by
   dsimp only [L2.KOf]
   refine' L2.fn_mk KX G ?a ?l ?c ?k
   (case a => k_is); (case l => k_is); (case c => k_is); (case k => k_is)
  have F21 : L2.Fn (L2.KOf KX) mg "named_by" Nb.sNamedBy := by
   dsimp only [L2.KOf]
   refine' L2.fn_mk KX G ?a ?l ?c ?k
   (case a => k_is); (case l => k_is); (case c => k_is); (case k => k_is)
  have F22 : L2.Fn (L2.KOf KX) mg "rests_on" Nb.sRests := by
   dsimp only [L2.KOf]
   refine' L2.fn_mk KX G ?a ?l ?c ?k
   (case a => k_is); (case l => k_is); (case c => k_is); (case k => k_is)
  have F23 : L2.Fn (L2.KOf KX) mg "law" Nb.sLaw := by
   dsimp only [L2.KOf]
   refine' L2.fn_mk KX G ?a ?l ?c ?k
   (case a => k_is); (case l => k_is); (case c => k_is); (case k => k_is)
  have M : Nb.Mg mg := by
   refine' ⟨PySem.W.mg_none_of KX G ?m_len, PySem.W.mg_none_of KX G ?m_min, PySem.W.mg_none_of KX G ?m_max, PySem.W.mg_none_of KX G ?m_sum, PySem.W.mg_none_of KX G ?m_all, PySem.W.mg_none_of KX G ?m_any, PySem.W.mg_none_of KX G ?m_abs, PySem.W.mg_none_of KX G ?m_isinstance, PySem.W.mg_none_of KX G ?m_sorted, PySem.W.mg_none_of KX G ?m_range_, PySem.W.mg_none_of KX G ?m_zip_, PySem.W.mg_none_of KX G ?m_tuple_, PySem.W.mg_none_of KX G ?m_list_, PySem.W.mg_none_of KX G ?m_int_, PySem.W.mg_none_of KX G ?m_bool_, PySem.W.mg_none_of KX G ?m_dict_, PySem.W.mg_none_of KX G ?m_enumerate_, PySem.W.mg_none_of KX G ?m_reversed_, PySem.W.mg_none_of KX G ?m_ValueError_, PySem.W.mg_none_of KX G ?m_set_, PySem.W.mg_none_of KX G ?m_str_⟩
   (case m_len => k_is)
   (case m_min => k_is)
   (case m_max => k_is)
   (case m_sum => k_is)
   (case m_all => k_is)
   (case m_any => k_is)
   (case m_abs => k_is)
   (case m_isinstance => k_is)
   (case m_sorted => k_is)
   (case m_range_ => k_is)
   (case m_zip_ => k_is)
   (case m_tuple_ => k_is)
   (case m_list_ => k_is)
   (case m_int_ => k_is)
   (case m_bool_ => k_is)
   (case m_dict_ => k_is)
   (case m_enumerate_ => k_is)
   (case m_reversed_ => k_is)
   (case m_ValueError_ => k_is)
   (case m_set_ => k_is)
   (case m_str_ => k_is)
  have DM : mg "divmod" = none := by
   refine' PySem.W.mg_none_of KX G ?m
   (case m => k_is)
  obtain ⟨f, fd, FF, hm⟩ := F23
  have e0 := hmg.symm.trans hm
  cases e0
  refine' ⟨fd, ?b, fun base kb nb => Nb.all_ok M DM F1 F2 F3 F4 F5 F6 F7 F8 F9 F10 F11 F12 F13 F14 F15 F16 F17 F18 F19 F20 F21 F22 FF⟩
  obtain ⟨oc, od, kV, doc, pm, an, cdv, ct, osl, rfl, lk, hcd⟩ := FF.ex
  exact fun s u => .of_eq rfl

