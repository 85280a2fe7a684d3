import PyProof.Rows.All
import Wide.All
import OpenK.AllK
import Wide.FinOn
import Lean
import PyProof.EqAt
import PyProof.EqKinds
import PyProof.TupleCall
import KE.KDictOf
import KE.KRevIter
import KE.KTryDeep
import KE.KIsAll
import KE.KSortTup
import KE.KMinKey
import KE.KEqDict
import KE.KPairComp
import PyProof.NeKinds
import KE.KDictList
import KE.KDictSum
import PyProof.Rows.SortStr
import PyProof.Rows.SortShellK
import OpenK.KTop
import PySem.Challenge.RW_nonebetter_k27_choices_exchanged
noncomputable section
abbrev Fg := PySem.W.Frag
section
open PySem PySem.Spec PySem.W PyProof.Rows
abbrev jQ := @wpAny_bind
abbrev jX := @List.length_map
abbrev jY := @Heap.get?_push_of_some
abbrev jZ := @wpAny_pure
abbrev jJ := @List.getD_eq_getElem?_getD
abbrev jK := @Nat.le_refl
abbrev jV := @List.size_toArray
abbrev jW := @Bool.false_ne_true
abbrev kQ := @List.getElem?_map
abbrev kX := @List.getElem?_eq_some_iff
abbrev kY := @Heap.lt_size
abbrev kZ := @Heap.get?_push_size
abbrev kJ := @decide_eq_false
abbrev kK := @List.mem_cons_of_mem
abbrev kW := @decide_eq_true
abbrev yQ := @Nat.lt_of_lt_of_le
abbrev yX := @List.mem_cons_self
abbrev yY := @List.length_append
abbrev yZ := @Nat.ne_of_lt
abbrev yJ := @List.mem_append_right
abbrev yK := @Option.map_eq_some_iff
abbrev yV := @List.mem_range
abbrev yW := @List.all_eq_true
abbrev zQ := @Bool.false_eq_true
abbrev zX := @Array.length_toList
abbrev zY := @Nat.lt_of_le_of_lt
abbrev zZ := @List.mem_cons
abbrev zJ := @Nat.add_le_add_left
abbrev zK := @List.map_cons
abbrev zV := @List.getElem?_eq_none
abbrev zW := @List.map_append
abbrev xQ := @List.lookup_cons
abbrev xX := @List.length_range
abbrev xY := @List.mem_of_getElem?
abbrev xZ := @List.length_cons
abbrev xJ := @Bool.eq_iff_iff
abbrev xK := @Bool.and_eq_true
abbrev xV := @of_decide_eq_true
abbrev xW := @Nat.lt_irrefl
abbrev wQ := @Option.isSome_iff_exists
abbrev wX := @List.replicate_succ
abbrev wY := @List.getElem?_range
abbrev wZ := @Array.getD_eq_getD_getElem?
abbrev wJ := @List.length_set
abbrev wK := @Nat.le_trans
abbrev wV := @Nat.zero_le
abbrev wW := @Nat.lt_succ_of_lt
abbrev jQa := @List.mem_singleton
abbrev jQb := @Nat.eq_zero_of_not_pos
abbrev jQc := @List.mem_append
abbrev jQd := @List.range_succ
abbrev jQe := @Bool.not_true
abbrev jQf := @List.mem_nil_iff
abbrev jXa := @Array.getElem?_eq_getElem
abbrev jXb := @Int.emod_lt_of_pos
abbrev jXc := @List.getElem?_set_self
abbrev jXd := @List.flatten_cons
abbrev jXe := @Heap.size_push
abbrev jXf := @List.ext_getElem?
abbrev jYa := @List.map_set
abbrev jYb := @List.length_take
abbrev jYc := @List.getElem_mem
abbrev jYd := @List.getElem?_set_ne
abbrev jYe := @List.append_nil
abbrev jYf := @List.nodup_cons
abbrev jZa := @Bool.or_eq_true
abbrev jZb := @Int.emod_nonneg
abbrev jZc := @Heap.get?_update_ne
abbrev jZd := @List.map_congr_left
abbrev jZe := @List.mem_map
abbrev jZf := @Array.perm_iff_toList_perm
abbrev jJa := @List.pairwise_iff_getElem
abbrev jJb := @Int.toNat_natCast
abbrev jJc := @Int.le_refl
abbrev jJd := @List.pairwise_map
abbrev jJe := @List.any_eq_true
abbrev jJf := @List.take_length
abbrev jKa := @List.map_map
abbrev jKb := @List.find?_cons
abbrev jKc := @Option.map_some
abbrev jKd := @List.length_replicate
abbrev jKe := @Heap.get?_update_self
abbrev jKf := @List.length_singleton
abbrev kQa := @List.filterMap_cons
abbrev kQb := @List.getElem_of_mem
abbrev kQc := @List.perm_iff_count
end
abbrev gE := @List.getElem?_eq_getElem
set_option Elab.async false
set_option linter.all false
set_option maxRecDepth 100000
set_option maxHeartbeats 4000000
set_option bootstrap.genMatcherCode false
set_option genSizeOfSpec false
set_option compiler.extract_closed false
namespace L2
theorem aRfl (h : True := by rfl) : True := h
theorem aDec (h : True := by decide) : True := h
theorem aFst (h : True := by first | exact .inl rfl | exact .inr rfl | assumption) : True := h
theorem aIrf (h : True := by intro _; rfl) : True := h
end L2
namespace L2
open PySem PySem.Spec PyProof.Rows
abbrev Key := Sum Int Str
def keyIs : Key → Value → Bool
 | .inl k, v => Value.isInt k v
 | .inr x, v => Value.isStrOf x v
def keyH (w : World) : Key → Int
 | .inl k => hashInt k
 | .inr x => hashStr w x
theorem Qy : ∀ {k : Key} {v : Value}, keyIs k v = true → (∃ i t, k = Sum.inl i ∧ v = Value.int i t) ∨ (∃ x t, k = Sum.inr x ∧ v = Value.str x t)
 | .inl i, v, h => by
  obtain ⟨t, e⟩ := Value.isInt_shape (k := i) (v := v) h
  exact .inl ⟨i, t, rfl, e⟩
 | .inr x, v, h => by
  obtain ⟨t, e⟩ := Value.isStrOf_shape (x := x) (v := v) h
  exact .inr ⟨x, t, rfl, e⟩
theorem key_ll (a b : Int) : decide ((Sum.inl a : Key) = Sum.inl b) = (a == b) := by
 by_cases e : a = b
 ·subst e; simp
 ·have h : ¬ (Sum.inl a : Key) = Sum.inl b := fun q => e (Sum.inl.inj q)
  rw [kJ h]
  exact (beq_eq_false_iff_ne.mpr e).symm
theorem key_rr (a b : Str) : decide ((Sum.inr a : Key) = Sum.inr b) = decide (a = b) := by
 by_cases e : a = b
 ·subst e; simp
 ·have h : ¬ (Sum.inr a : Key) = Sum.inr b := fun q => e (Sum.inr.inj q)
  rw [kJ h, kJ e]
theorem key_lr (a : Int) (b : Str) : decide ((Sum.inl a : Key) = Sum.inr b) = false := kJ (fun q => nomatch q)
theorem key_rl (a : Str) (b : Int) : decide ((Sum.inr a : Key) = Sum.inl b) = false := kJ (fun q => nomatch q)
def Qbz (prog : Program) (w : World) : PySem.KeyKind prog w Key where
 is := keyIs
 hash := keyH w
 inj := fun v a b ha hb => by
  rcases Qy ha with ⟨i, t, rfl, rfl⟩ | ⟨x, t, rfl, rfl⟩
  ·rcases Qy hb with ⟨j, u, rfl, e⟩ | ⟨y, u, rfl, e⟩
   ·injection e with e1 _; rw [e1]
   ·exact nomatch e
  ·rcases Qy hb with ⟨j, u, rfl, e⟩ | ⟨y, u, rfl, e⟩
   ·exact nomatch e
   ·injection e with e1 _; rw [e1]
 byValue := fun k v h => by
  rcases Qy h with ⟨i, t, rfl, rfl⟩ | ⟨x, t, rfl, rfl⟩ <;> rfl
 pyHash := fun hv h => by
  rcases Qy hv with ⟨i, t, rfl, rfl⟩ | ⟨x, t, rfl, rfl⟩
  ·exact wpAny_pyHash_int h
  ·exact wpAny_pyHash_str h
 eqBool := fun hu hv h => by
  rcases Qy hu with ⟨i, t, rfl, rfl⟩ | ⟨x, t, rfl, rfl⟩
  ·rcases Qy hv with ⟨j, u, rfl, rfl⟩ | ⟨y, u, rfl, rfl⟩
   ·rw [key_ll] at h; exact wpAny_eqBool_int h
   ·rw [key_lr] at h; exact SeqAt.EqAt.int_str i t y u _ _ _ _ h
  ·rcases Qy hv with ⟨j, u, rfl, rfl⟩ | ⟨y, u, rfl, rfl⟩
   ·rw [key_rl] at h; exact SeqAt.EqAt.str_int x t j u _ _ _ _ h
   ·rw [key_rr] at h; exact wpAny_eqBool_str h
 «strs» := fun k x t v h => by
  rcases Qy h with ⟨i, u, rfl, e⟩ | ⟨y, u, rfl, e⟩
  ·exact nomatch e
  ·injection e with e1 _
   subst e1
   cases v <;> rfl
inductive V where
 | non | bl (b : Bool) | int (i : Int) | str (x : Str) | byt (b : Array UInt8) | flt (b : UInt64) | ref (a : Addr) | ty (n : String)
 deriving DecidableEq
def RelV : V → Value → Prop
 | .non, u => u = Value.none
 | .bl b, u => u = Value.bool b
 | .int i, u => ∃ t, u = Value.int i t
 | .str x, u => ∃ t, u = Value.str x t
 | .byt b, u => ∃ t, u = Value.bytes b t
 | .flt b, u => ∃ t, u = Value.float b t
 | .ref a, u => u = Value.ref a
 | .ty n, u => u = Value.type n
abbrev Vals : List V → List Value → Prop := Paired RelV
theorem Vals.length {xs : List V} {us : List Value} (r : Vals xs us) : xs.length = us.length := Paired.length r
theorem Vals.get : ∀ {xs : List V} {us : List Value} {i : Nat} {x : V}, Vals xs us → xs[i]? = some x → ∃ u, us[i]? = some u ∧ RelV x u
 | _, _, _, _, .nil, e => by simp at e
 | _, _, 0, _, .cons r _, e => by simp at e; subst e; exact ⟨_, rfl, r⟩
 | _, _, i + 1, x, .cons _ t, e => by
  obtain ⟨u, h1, h2⟩ := Vals.get (i := i) (x := x) t (by simpa using e)
  exact ⟨u, by simpa using h1, h2⟩
theorem Vals.set {x : V} {u : Value} (r : RelV x u) : ∀ {xs : List V} {us : List Value} (i : Nat), Vals xs us → Vals (xs.set i x) (us.set i u)
 | _, _, _, .nil => .nil
 | _, _, 0, .cons _ t => .cons r t
 | _, _, i + 1, .cons q t => .cons q (Vals.set r i t)
theorem Vals.append {xs ys : List V} {us ws : List Value} (h : Vals xs us) (g : Vals ys ws) : Vals (xs ++ ys) (us ++ ws) := by
 induction h with
 | nil => exact g
 | cons r t ih => exact .cons r ih
theorem Vals.take : ∀ {xs : List V} {us : List Value} (n : Nat), Vals xs us → Vals (xs.take n) (us.take n)
 | _, _, 0, _ => .nil
 | _, _, _ + 1, .nil => .nil
 | _, _, n + 1, .cons r t => .cons r (Vals.take n t)
theorem Vals.drop : ∀ {xs : List V} {us : List Value} (n : Nat), Vals xs us → Vals (xs.drop n) (us.drop n)
 | _, _, 0, r => r
 | _, _, _ + 1, .nil => .nil
 | _, _, n + 1, .cons _ t => Vals.drop n t
def RelO : Option V → Option Value → Prop
 | some v, some u => RelV v u
 | none, none => True
 | _, _ => False
def KV {κ : Type} : List (κ × V) → List (κ × Value) → Prop := Paired fun (p : κ × V) (q : κ × Value) => p.1 = q.1 ∧ RelV p.2 q.2
def kV : Key → V
 | .inl i => .int i
 | .inr x => .str x
inductive HO where
 /-- a list -/
 | lst (xs : List V)
 /-- a tuple (never changes) -/
 | tup (xs : List V)
 /-- a dict whose keys are ints and texts; one whose keys are tuples of ints and texts (the empty one is both) -/
 | dK (kvs : List (Key × V)) | dT (kvs : List (List Key × V))
 /-- a set of ints: its members, its size -/
 | set (S : Int → Bool) (n : Nat)
 /-- an instance of the class at C, its dict at dx, its attributes -/
 | ins (C dx : Addr) (fs : List (Str × V))
 /-- the dict of the instance at x -/
 | own (x : Addr)
 /-- the dict of an exception -/
 | xd (fs : List (Str × V))
 /-- a bound method, f of x -/
 | met (f x : Addr)
 /-- a range object lo, lo + 1, .. below hi -/
 | rng (lo hi : Int)
 /-- a thing that is known to the object (the script; a dict while a loop walks it): read, never written while it is so -/
 | frz (o : Obj) (u : HO)
 /-- a code object's table -/
 | tbl (ps : Array Value)
 /-- any other thing, by what is true of its one object (a def of one's own: SetO a S n := HO.ext fun h => ..) -/
 | ext (φ : Heap → Prop)
abbrev Hp := Addr → Option HO
def upd (H : Hp) (a : Addr) (o : HO) : Hp := fun b => if b = a then some o else H b
theorem Qb {H : Hp} {a : Addr} {o : HO} : upd H a o a = some o := by unfold upd; rw [if_pos rfl]
theorem Qi {H : Hp} {a b : Addr} {o : HO} (h : b ≠ a) : upd H a o b = H b := by unfold upd; rw [if_neg h]
theorem Qes {H : Hp} {a b : Addr} {o u : HO} (h : H a = some o) (h' : H b = some u) (d : o ≠ u) : a ≠ b := by
 intro e; subst e; rw [h] at h'; exact d (Option.some.inj h')
theorem Qf {H : Hp} {a b : Addr} {o : HO} (h : H a = some o) (h' : H b = none) : a ≠ b := by
 intro e; subst e; rw [h] at h'; cases h'
section
variable (P : Program) (w : World)
def ObjOk (H : Hp) (h : Heap) (a : Addr) : HO → Prop
 | .lst xs => xs.length ≤ sizeLine ∧ ∃ (its : List Value) (n : Nat), Vals xs its ∧ h.get? a = some { cls := .type "list", data := .seq its.toArray n }
 | .tup xs => xs.length ≤ sizeLine ∧ ∃ its : List Value, Vals xs its ∧ IsTup h a its.toArray
 | .dK kvs => kvs.length ≤ sizeLine ∧ (a == sysModules) = false ∧ ∃ vs, KV kvs vs ∧ h.DictOf (Qbz P w) a vs
 | .dT kvs => kvs.length ≤ sizeLine ∧ (a == sysModules) = false ∧ ∃ xs : List (List Key × Addr × Value),
   Paired (fun (p : List Key × V) (q : List Key × Addr × Value) => p.1 = q.1 ∧ H q.2.1 = some (.tup (p.1.map kV)) ∧ RelV p.2 q.2.2) kvs xs ∧
   ∃ o es ep, h.get? a = some o ∧ o.ExactDict ∧ o.data = .dict es ep ∧ es.toList = xs.map (entryOfKey (tupleKind (Qbz P w))) ∧ (xs.map (·.1)).Nodup
 | .set S n => h.SetOf (intKind P w) a S n
 | .ins C dx fs => H dx = some (.own a) ∧ fs.length ≤ 1000 ∧ dx ≠ a ∧ h.get? a = some (PySem.W.instObj C dx) ∧
   ∃ mA, h.Ns1 dx mA ∧ (∀ f, RelO (fs.lookup f) (mA f)) ∧ PySem.Within mA (fs.map (·.1))
 | .own _ => ∃ o, h.get? a = some o
 | .xd fs => ∃ mA, h.Ns1 a mA ∧ ∀ f, RelO (fs.lookup f) (mA f)
 | .rng lo hi => ∃ t u v, h.get? a = some { cls := .type "range", data := .fields #[.int lo t, .int hi u, .int 1 v] }
 | .frz o u => h.get? a = some o ∧ ObjOk H h a u
 | .tbl ps => h.get? a = some { cls := .none, data := .fields ps }
 | .met f x => h.get? a = some (PySem.W.methodObj (.ref f) (.ref x))
 | .ext φ => φ h ∧ (∃ o, h.get? a = some o) ∧ ∀ h1 h2 : Heap, φ h1 → (∀ o, h1.get? a = some o → h2.get? a = some o) → φ h2
def HOk (H : Hp) (h : Heap) : Prop := ∀ a o, H a = some o → ObjOk P w H h a o
end
section
variable {P : Program} {w : World} {H H' : Hp} {h h' : Heap} {a : Addr} {o : HO}
theorem ObjOk.lt (x : ObjOk P w H h a o) : a < h.objs.size := by
 cases o with
 | lst xs => obtain ⟨_, _, _, _, e⟩ := x; exact kY e
 | tup xs => obtain ⟨_, _, _, p⟩ := x; exact p.lt
 | dK kvs => obtain ⟨_, _, _, _, o, _, _, e, _⟩ := x; exact kY e
 | dT kvs => obtain ⟨_, _, _, _, o, _, _, e, _⟩ := x; exact kY e
 | set S n => obtain ⟨o, _, _, _, e, _⟩ := x; exact kY e
 | ins C dx fs => obtain ⟨_, _, _, e, _⟩ := x; exact kY e
 | own y => obtain ⟨_, e⟩ := x; exact kY e
 | xd fs => obtain ⟨_, ⟨_, _, _, e, _⟩, _⟩ := x; exact kY e
 | rng lo hi => obtain ⟨_, _, _, e⟩ := x; exact kY e
 | frz ob u => obtain ⟨e, _⟩ := x; exact kY e
 | tbl ps => exact kY (show h.get? a = some _ from x)
 | met f y => exact kY (show h.get? a = some _ from x)
 | ext φ => obtain ⟨_, ⟨_, e⟩, _⟩ := x; exact kY e
theorem Paired.mapP {α β : Type} {F G : α → β → Prop} {l₁ : List α} {l₂ : List β} (h : Paired F l₁ l₂) (f : ∀ a b, F a b → G a b) : Paired G l₁ l₂ := by
 induction h with
 | nil => exact .nil
 | cons r t ih => exact .cons (f _ _ r) ih
theorem Paired.imp' {α β : Type} {F G : α → β → Prop} (f : ∀ a b, F a b → G a b) {l₁ : List α} {l₂ : List β} (r : Paired F l₁ l₂) : Paired G l₁ l₂ := Paired.mapP r f
theorem ObjOk.stay (x : ObjOk P w H h a o) (k : ∀ b u, (b = a ∨ H b = some (.own a)) → h.get? b = some u → h'.get? b = some u)
  (ho : ∀ b, H b = some (.own a) → H' b = some (.own a)) (ht : ∀ b xs, H b = some (.tup xs) → H' b = some (.tup xs)) : ObjOk P w H' h' a o := by
 induction o with
 | lst xs => obtain ⟨z, its, n, r, e⟩ := x; exact ⟨z, its, n, r, k _ _ (.inl rfl) e⟩
 | tup xs => obtain ⟨z, its, r, ob, e, c⟩ := x; exact ⟨z, its, r, ob, k _ _ (.inl rfl) e, c⟩
 | dK kvs => obtain ⟨z, y, vs, r, ob, es, ep, e, c⟩ := x; exact ⟨z, y, vs, r, ob, es, ep, k _ _ (.inl rfl) e, c⟩
 | dT kvs =>
  obtain ⟨z, y, xs, r, ob, es, ep, e, c⟩ := x
  exact ⟨z, y, xs, Paired.mapP r fun p q z => ⟨z.1, ht _ _ z.2.1, z.2.2⟩, ob, es, ep, k _ _ (.inl rfl) e, c⟩
 | set S n => obtain ⟨ob, es, ep, t, e, c⟩ := x; exact ⟨ob, es, ep, t, k _ _ (.inl rfl) e, c⟩
 | ins C dx fs =>
  obtain ⟨d, z, ne, e, mA, ⟨od, es, ep, e2, c⟩, r⟩ := x
  exact ⟨ho _ d, z, ne, k _ _ (.inl rfl) e, mA, ⟨od, es, ep, k _ _ (.inr d) e2, c⟩, r⟩
 | own y => obtain ⟨ob, e⟩ := x; exact ⟨ob, k _ _ (.inl rfl) e⟩
 | xd fs => obtain ⟨mA, ⟨od, es, ep, e, c⟩, r⟩ := x; exact ⟨mA, ⟨od, es, ep, k _ _ (.inl rfl) e, c⟩, r⟩
 | rng lo hi => obtain ⟨t, u, v, e⟩ := x; exact ⟨t, u, v, k _ _ (.inl rfl) e⟩
 | frz ob u ih => obtain ⟨e, q⟩ := x; exact ⟨k _ _ (.inl rfl) e, ih q⟩
 | tbl ps =>
  have e : h.get? a = some { cls := .none, data := .fields ps } := x
  show h'.get? a = some { cls := .none, data := .fields ps }
  exact k a _ (.inl rfl) e
 | met f y =>
  have e : h.get? a = some (PySem.W.methodObj (.ref f) (.ref y)) := x
  show h'.get? a = some (PySem.W.methodObj (.ref f) (.ref y))
  exact k a _ (.inl rfl) e
 | ext φ => obtain ⟨p, ⟨o, e⟩, st⟩ := x; exact ⟨st _ _ p fun o q => k _ _ (.inl rfl) q, ⟨o, k _ _ (.inl rfl) e⟩, st⟩
theorem HOk.lt (x : HOk P w H h) (e : H a = some o) : a < h.objs.size := (x a o e).lt
theorem HOk.fresh (x : HOk P w H h) (e : h.objs.size ≤ a) : H a = none := by
 cases q : H a with
 | none => rfl
 | some u => exact absurd (yQ (x.lt q) e) (xW _)
theorem HOk.kept (x : HOk P w H h) (k : ∀ b u, h.get? b = some u → h'.get? b = some u) : HOk P w H h' := fun a o e =>
 (x a o e).stay (fun b u _ q => k b u q) (fun _ q => q) fun _ _ q => q
theorem HOk.laid (x : HOk P w H h) (k : ∀ b u, h.get? b = some u → h'.get? b = some u) (hp : h.objs.size ≤ a) (new : ObjOk P w (upd H a o) h' a o) : HOk P w (upd H a o) h' := fun b u e => by
 have hn := x.fresh hp
 by_cases hb : b = a
 ·subst hb; rw [Qb] at e; cases e; exact new
 ·rw [Qi hb] at e
  exact (x b u e).stay (fun c v _ q => k c v q) (fun c q => by rw [Qi (Qf q hn)]; exact q) fun c xs q => by rw [Qi (Qf q hn)]; exact q
end
def Rd (H : Hp) (a : Addr) (u : HO) : Prop := H a = some u ∨ ∃ o, H a = some (.frz o u)
theorem Rd.ok {P : Program} {w : World} {H : Hp} {h : Heap} {a : Addr} {u : HO} (r : Rd H a u) (x : HOk P w H h) : ObjOk P w H h a u := by
 rcases r with r | ⟨o, r⟩
 ·exact x a u r
 ·obtain ⟨_, q⟩ := x a _ r
  exact q
def Mut : Option HO → Prop
 | some (.lst _) => True
 | some (.dK _) => True
 | some (.dT _) => True
 | some (.set _ _) => True
 | some (.ins _ _ _) => True
 | some (.ext _) => True
 | _ => False
section
variable {P : Program} {w : World} {H : Hp} {h h' : Heap} {x e : Addr} {o' : HO}
theorem HOk.write (ok : HOk P w H h) (mu : Mut (H x)) (he : e = x ∨ H e = some (.own x)) (k : ∀ b u, b ≠ e → h.get? b = some u → h'.get? b = some u) (heo : ∃ u, h'.get? e = some u)
  (new : ObjOk P w (upd H x o') h' x o') : HOk P w (upd H x o') h' := fun b u q => by
 have nown : ∀ c y, H c = some (.own y) → c ≠ x := fun c y r z => by subst z; rw [r] at mu; exact mu
 have ntup : ∀ c xs, H c = some (.tup xs) → c ≠ x := fun c xs r z => by subst z; rw [r] at mu; exact mu
 by_cases hb : b = x
 ·subst hb; rw [Qb] at q; cases q; exact new
 ·rw [Qi hb] at q
  by_cases hbe : b = e
  ·have q' : H b = some (.own x) := by
    rcases he with z | z
    ·exact absurd (hbe.trans z) hb
    ·rw [hbe]; exact z
   rw [q] at q'; cases q'
   obtain ⟨v, hv⟩ := heo
   exact ⟨v, by rw [hbe]; exact hv⟩
  ·refine (ok b u q).stay (fun c v hc r => k c v ?_ r) (fun c r => by rw [Qi (nown c b r)]; exact r) fun c xs r => by rw [Qi (ntup c xs r)]; exact r
   rcases hc with rfl | hc
   ·exact hbe
   ·rintro rfl
    rcases he with z | z
    ·exact nown c b hc z
    ·rw [hc] at z; cases z; exact hb rfl
end
structure Un (fs ex : List Addr) (H H' : Hp) (h h' : Heap) : Prop where
 keep : ∀ b o, h.get? b = some o → H b = none → b ∉ fs → b ∉ ex → h'.get? b = some o
 slot : ∀ b o, h.get? b = some o → H b = none → b ∈ fs → b ∉ ex → ∃ sl, h'.get? b = some { o with slots := sl }
 free : ∀ b o, h.get? b = some o → H b = none → b ∉ ex → H' b = none
 there : ∀ b o, h.get? b = some o → b ∉ ex → ∃ o', h'.get? b = some o'
 tups : ∀ b xs, H b = some (.tup xs) → H' b = some (.tup xs)
 frzs : ∀ b o u, H b = some (.frz o u) → H' b = some (.frz o u)
 tbls : ∀ b ps, H b = some (.tbl ps) → ∃ more, H' b = some (.tbl (ps ++ more))
section
variable {fs fs' ex ex' : List Addr} {H H1 H2 : Hp} {h h1 h2 h' : Heap} {a x e : Addr} {o : HO}
theorem Un.any (u : Un fs ex H H1 h h1) {b : Addr} {ob : Obj} (q : h.get? b = some ob) (n : H b = none) (hx : b ∉ ex) : ∃ sl, h1.get? b = some { ob with slots := sl } := by
 by_cases hb : b ∈ fs
 ·exact u.slot b ob q n hb hx
 ·exact ⟨ob.slots, u.keep b ob q n hb hx⟩
theorem Un.kept (k : ∀ b u, h.get? b = some u → h'.get? b = some u) : Un fs ex H H h h' :=
 ⟨fun b ob q _ _ _ => k b ob q, fun b ob q _ _ _ => ⟨ob.slots, k b ob q⟩, fun _ _ _ n _ => n, fun b ob q _ => ⟨ob, k b ob q⟩, fun _ _ q => q, fun _ _ _ q => q, fun _ ps q => ⟨#[], by rw [q]; simp⟩⟩
theorem Un.refl : Un fs ex H H h h := Un.kept fun _ _ q => q
theorem Un.laid (k : ∀ b u, h.get? b = some u → h'.get? b = some u) (hp : h.objs.size ≤ a) (hn : H a = none) : Un fs ex H (upd H a o) h h' where
 keep := fun b u q _ _ _ => k b u q
 slot := fun b u q _ _ _ => ⟨u.slots, k b u q⟩
 free := fun b u q n _ => by rw [Qi (yZ (yQ (kY q) hp))]; exact n
 there := fun b u q _ => ⟨u, k b u q⟩
 tups := fun b xs q => by rw [Qi (Qf q hn)]; exact q
 frzs := fun b u xs q => by rw [Qi (Qf q hn)]; exact q
 tbls := fun b ps q => ⟨#[], by rw [Qi (Qf q hn), q]; simp⟩
theorem Un.write (mu : Mut (H x)) (he : e = x ∨ H e = some (.own x)) (k : ∀ b u, b ≠ e → h.get? b = some u → h'.get? b = some u) (heo : ∃ u, h'.get? e = some u) : Un fs ex H (upd H x o) h h' := by
 have hx : ∀ b, H b = none → b ≠ x := fun b n z => by subst z; rw [n] at mu; exact mu
 have hb : ∀ b, H b = none → b ≠ e := fun b n z => by
  subst z
  rcases he with r | r
  ·exact hx b n r
  ·rw [n] at r; cases r
 have hm : ∀ b u, H b = some u → ¬ Mut (some u) → b ≠ x := fun b u q nm z => by subst z; rw [q] at mu; exact nm mu
 refine ⟨fun b u q n _ _ => k b u (hb b n) q, fun b u q n _ _ => ⟨u.slots, k b u (hb b n) q⟩, fun b u q n _ => by rw [Qi (hx b n)]; exact n, fun b u q _ => ?_,
  fun b xs q => by rw [Qi (hm b _ q fun z => z)]; exact q, fun b u xs q => by rw [Qi (hm b _ q fun z => z)]; exact q, fun b ps q => ⟨#[], by rw [Qi (hm b _ q fun z => z), q]; simp⟩⟩
 by_cases hbe : b = e
 ·subst hbe; exact heo
 ·exact ⟨u, k b u hbe q⟩
end
def trk (h : Heap) (H : Hp) : List Addr := (List.range h.objs.size).filter fun a => (H a).isSome
def hidT (h : Heap) (H : Hp) : Heap := PySem.W.hideAll h (trk h H)
theorem Qca (h : Heap) (H : Hp) : (hidT h H).objs.size = h.objs.size := PySem.W.hideAll_size _ _
theorem Qet {h : Heap} {H : Hp} {b : Addr} {o : Obj} (e : h.get? b = some o) (n : H b = none) : (hidT h H).get? b = some o :=
 PySem.W.hideAll_get _ e fun hm => by
  have q : (H b).isSome = true := (List.mem_filter.mp hm).2
  rw [n] at q; simp at q
theorem Qho {h : Heap} {H : Hp} {b : Addr} {o : Obj} (e : (hidT h H).get? b = some o) : h.get? b = some o ∧ H b = none := by
 have e' : h.get? b = some o := PySem.W.of_hideAll (trk h H) e
 refine ⟨e', ?_⟩
 cases q : H b with
 | none => rfl
 | some x =>
  have hm : b ∈ trk h H := List.mem_filter.mpr ⟨yV.mpr (kY e'), by simp [q]⟩
  have z : (hidT h H).get? b = none := PySem.W.hideAll_none (trk h H) hm
  rw [z] at e; cases e
structure Mod (K : Fg) (mg : Str → Option Value) (base : Heap) : Prop where
 kin : K.In base
 glob : base.Ns mainGlobals mg
 blt : ∃ mb, base.Ns builtinsNs mb ∧ ∀ x : Str, x ≠ "__name__" → mb x = bootBuiltins x
 nolimit : base.NoLimit
set_option genInjectivity false in
set_option genInjectivity false in
structure Cx where
 prog : Program
 w : World
 K : Fg
 mg : Str → Option Value
 base : Heap
 A : Around
 N : List Str
 s₀ : Shared
 H₀ : Hp
 env : Env
 outer : List Env
 stack : List Env
 ex : List Addr
 fn : Str → Bool
 calm : Bool
 pn : List (Addr × Obj)
 xe : Value → Shared → Prop
def frs (l : List Env) : List Addr := l.filterMap (·.frame)
abbrev Cx.fs (X : Cx) : List Addr := frs X.outer
def Vis (sc : Scope) (x : Str) : Prop := sc.names.lookup x = some .local ∨ sc.names.lookup x = some .cell ∨ sc.names.lookup x = some .free
def Loc (sc : Scope) (x : Str) : Prop := sc.names.lookup x = some .local ∨ sc.names.lookup x = some .cell
def Look (env : Env) (h : Heap) (m : Str → Option Value) (x : Str) (u : Value) : Prop :=
 (env.kindOf x = some .local ∧ m x = some u) ∨ ((env.kindOf x = some .cell ∨ env.kindOf x = some .free) ∧ ∃ c, env.cells.lookup x = some c ∧ h.IsCell c (some u))
structure Cx.Ok (X : Cx) : Prop where
 mod : Mod X.K X.mg X.base
 kind : X.env.scope.kind = .function
 glob : X.env.globals = mainGlobals
 blt : X.env.builtins = builtinsNs
 above : X.s₀.heap.objs.size ≤ X.env.locals
 inj : ∀ x y c, X.env.cells.lookup x = some c → X.env.cells.lookup y = some c → x = y
 has : ∀ x, (X.env.kindOf x = some .cell ∨ X.env.kindOf x = some .free) → ∃ c, X.env.cells.lookup x = some c
 cab : ∀ x c, X.fn x = true → X.env.cells.lookup x = some c → X.s₀.heap.objs.size ≤ c
 hd : X.calm = true → X.A.handled = none
 frames : X.A.frames = some X.stack
 stk : X.stack = X.outer ∨ (X.stack = X.env :: X.outer ∧ X.env.frame = some X.env.locals)
 exf : ∀ b ∈ X.ex, b ≠ X.env.locals ∧ ∀ x c, X.env.cells.lookup x = some c → c ≠ b
 bs : ∀ b o, X.base.get? b = some o → X.s₀.heap.get? b = some o ∧ X.H₀ b = none
 bsz : X.base.objs.size ≤ X.s₀.heap.objs.size
 noex : ∀ b o, X.base.get? b = some o → b ∉ X.ex
 exfs : ∀ b ∈ X.ex, b ∉ X.fs
 funs : X.s₀.heap.FunFrames X.base X.outer
 frf : ∀ b ∈ X.fs, X.H₀ b = none
structure Inv (X : Cx) (pins : List (Addr × Obj)) (σ : List (Option V)) (H : Hp) (s : Shared) : Prop where
 ok : X.Ok
 os : s.os = X.s₀.os
 bare : AllBare s.gens
 base : Un X.fs X.ex X.H₀ H X.s₀.heap s.heap
 loc : ∃ m, s.heap.Ns X.env.locals m ∧ ∀ (i : Nat) (x : Str) (v : V), X.N[i]? = some x → σ[i]? = some (some v) → Vis X.env.scope x → ∃ u, RelV v u ∧ Look X.env s.heap m x u
 cell : ∀ x c, X.env.cells.lookup x = some c → ∃ v, s.heap.IsCell c v
 free : H X.env.locals = none
 freeC : ∀ x c, X.env.cells.lookup x = some c → H c = none
 pin : ∀ p ∈ X.pn ++ pins, s.heap.get? p.1 = some p.2 ∧ H p.1 = none ∧ p.1 ≠ X.env.locals ∧ p.1 ∉ X.fs ∧ ∀ v, p.2.data ≠ .cell v
 hok : HOk X.prog X.w H s.heap
 len : σ.length = X.N.length
section
variable {X : Cx} {pins : List (Addr × Obj)} {σ : List (Option V)} {H H' : Hp} {s : Shared} {h' : Heap}
theorem Cx.Ok.nofr (ok : X.Ok) {b : Addr} {o : Obj} (e : X.base.get? b = some o) : b ∉ X.fs := fun hb => by
 have := (ok.funs.mem hb).1
 rw [e] at this; cases this
theorem Inv.bs (I : Inv X pins σ H s) : ∀ b o, X.base.get? b = some o → s.heap.get? b = some o ∧ H b = none := fun b o e =>
 ⟨I.base.keep b o (I.ok.bs b o e).1 (I.ok.bs b o e).2 (I.ok.nofr e) (I.ok.noex b o e), I.base.free b o (I.ok.bs b o e).1 (I.ok.bs b o e).2 (I.ok.noex b o e)⟩
theorem Inv.bk (I : Inv X pins σ H s) : ∀ b o, X.base.get? b = some o → s.heap.get? b = some o := fun b o e => (I.bs b o e).1
theorem Inv.mod (I : Inv X pins σ H s) : Mod X.K X.mg X.base := I.ok.mod
theorem Inv.kIn (I : Inv X pins σ H s) : X.K.In s.heap := I.ok.mod.kin.keeps I.bk
theorem Inv.lt (I : Inv X pins σ H s) : X.env.locals < s.heap.objs.size := by obtain ⟨_, hn, _⟩ := I.loc; exact hn.lt
theorem Inv.sz (I : Inv X pins σ H s) : X.s₀.heap.objs.size ≤ s.heap.objs.size := wK I.ok.above (Nat.le_of_lt I.lt)
theorem Inv.nofs (I : Inv X pins σ H s) {a : Addr} (h : s.heap.objs.size ≤ a) : a ∉ X.fs := fun hb => by
 obtain ⟨_, o, ho, _⟩ := I.ok.funs.mem hb
 exact absurd (yQ (kY ho) (wK I.sz h)) (xW _)
theorem Inv.cne (I : Inv X pins σ H s) : ∀ x c, X.env.cells.lookup x = some c → c ≠ X.env.locals := fun x c e z => by
 obtain ⟨v, o, ho, hd⟩ := I.cell x c e
 obtain ⟨m, ⟨o', es, ep, ho', hd', _⟩, _⟩ := I.loc
 rw [z, ho'] at ho; cases ho; rw [hd'] at hd; cases hd
theorem Inv.funs (I : Inv X pins σ H s) : s.heap.FunFrames X.base X.outer := by
 have all : ∀ (l : List Env), (∀ b ∈ frs l, b ∈ X.fs) → X.s₀.heap.FunFrames X.base l → s.heap.FunFrames X.base l := by
  intro l
  induction l with
  | nil => intro _ _; trivial
  | cons env r ih =>
   intro hs hl
   obtain ⟨hk, ⟨L, o, hf, hn, ho, hd⟩, hr⟩ := hl
   have hL : L ∈ X.fs := hs L (by unfold frs; rw [kQa, hf]; exact yX)
   obtain ⟨sl, e⟩ := I.base.slot L o ho (I.ok.frf L hL) hL fun z => I.ok.exfs L z hL
   exact ⟨hk, ⟨L, _, hf, hn, e, hd⟩, ih (fun b hb => hs b (by unfold frs; rw [kQa, hf]; exact kK _ hb)) hr⟩
 exact all X.outer (fun _ hb => hb) I.ok.funs
theorem Inv.stack (I : Inv X pins σ H s) : s.heap.FunFrames X.base X.stack := by
 rcases I.ok.stk with e | ⟨e, hf⟩
 ·rw [e]; exact I.funs
 ·rw [e]
  obtain ⟨m, hn, _⟩ := I.loc
  refine .cons (by rw [I.ok.kind]; decide) hf hn ?_ I.funs
  exact Heap.get?_none_of_le (wK I.ok.bsz I.ok.above)
theorem Inv.stkSub (I : Inv X pins σ H s) : ∀ b ∈ frs X.stack, b ∈ X.env.locals :: X.fs := fun b hb => by
 rcases I.ok.stk with e | ⟨e, hf⟩
 ·rw [e] at hb; exact kK _ hb
 ·rw [e] at hb
  unfold frs at hb
  rw [kQa, hf] at hb
  exact hb
theorem Inv.stkFree (I : Inv X pins σ H s) : ∀ b ∈ frs X.stack, H b = none := fun b hb => by
 rcases zZ.mp (I.stkSub b hb) with e | hb
 ·rw [e]; exact I.free
 ·obtain ⟨_, o, ho, _⟩ := I.ok.funs.mem hb
  exact I.base.free b o ho (I.ok.frf b hb) fun z => I.ok.exfs b z hb
theorem Inv.step {g' : Array GenState} {t' : Nat} {d' : Drawn} {ch : List Addr} (I : Inv X pins σ H s)
  (hch : ∀ b ∈ ch, (b ∈ X.ex ∨ X.s₀.heap.objs.size ≤ b) ∧ b ≠ X.env.locals ∧ (∀ x c, X.env.cells.lookup x = some c → c ≠ b) ∧ ∀ p ∈ X.pn ++ pins, p.1 ≠ b)
  (keep : ∀ b o, b ≠ X.env.locals → b ∉ X.fs → b ∉ ch → s.heap.get? b = some o → H b = none → h'.get? b = some o)
  (slot : ∀ b o, b ≠ X.env.locals → b ∈ X.fs → b ∉ ch → s.heap.get? b = some o → H b = none → ∃ sl, h'.get? b = some { o with slots := sl }) (free : ∀ b o, b ∉ ch → s.heap.get? b = some o → H b = none → H' b = none)
  (there : ∀ b o, b ∉ ch → s.heap.get? b = some o → ∃ o', h'.get? b = some o')
  (tups : ∀ b xs, H b = some (.tup xs) → H' b = some (.tup xs)) (frzs : ∀ b o u, H b = some (.frz o u) → H' b = some (.frz o u)) (tbls : ∀ b ps, H b = some (.tbl ps) → ∃ more, H' b = some (.tbl (ps ++ more)))
  (ns : ∀ m, s.heap.Ns X.env.locals m → h'.Ns X.env.locals m) (hok : HOk X.prog X.w H' h') (hg : AllBare g') :
  Inv X pins σ H' { s with heap := h', gens := g', drawn := d', toks := t' } := by
 have neL : ∀ b o, X.s₀.heap.get? b = some o → b ≠ X.env.locals := fun b o e => yZ (yQ (kY e) I.ok.above)
 have neC : ∀ b o, X.s₀.heap.get? b = some o → b ∉ X.ex → b ∉ ch := fun b o e hx hb => by
  rcases (hch b hb).1 with z | z
  ·exact hx z
  ·exact absurd (yQ (kY e) z) (xW _)
 have cellK : ∀ x c, X.env.cells.lookup x = some c → ∀ v, s.heap.IsCell c v → h'.IsCell c v := fun x c e v ⟨o, ho, hd⟩ => by
  have nch : c ∉ ch := fun z => (hch c z).2.2.1 x c e rfl
  by_cases hc : c ∈ X.fs
  ·obtain ⟨sl, q⟩ := slot c o (I.cne x c e) hc nch ho (I.freeC x c e)
   exact ⟨_, q, hd⟩
  ·exact ⟨o, keep c o (I.cne x c e) hc nch ho (I.freeC x c e), hd⟩
 refine ⟨I.ok, I.os, hg, ⟨fun b o e n hb hx => ?_, fun b o e n hb hx => ?_, fun b o e n hx => ?_, fun b o e hx => ?_, fun b xs e => tups b xs (I.base.tups b xs e), fun b o xs e => frzs b o xs (I.base.frzs b o xs e), fun b ps e => ?_⟩, ?_, fun x c e => ?_, ?_, fun x c e => ?_, fun p hp => ?_, hok, I.len⟩
 ·exact keep b o (neL b o e) hb (neC b o e hx) (I.base.keep b o e n hb hx) (I.base.free b o e n hx)
 ·obtain ⟨sl, e1⟩ := I.base.slot b o e n hb hx
  obtain ⟨sl', e2⟩ := slot b _ (neL b o e) hb (neC b o e hx) e1 (I.base.free b o e n hx)
  exact ⟨sl', e2⟩
 ·obtain ⟨o', e1⟩ := I.base.there b o e hx
  exact free b o' (neC b o e hx) e1 (I.base.free b o e n hx)
 ·obtain ⟨o', e1⟩ := I.base.there b o e hx
  exact there b o' (neC b o e hx) e1
 ·obtain ⟨m1, e1⟩ := I.base.tbls b ps e
  obtain ⟨m2, e2⟩ := tbls b _ e1
  exact ⟨m1 ++ m2, by rw [e2, Array.append_assoc]⟩
 ·obtain ⟨m, hn, hl⟩ := I.loc
  refine ⟨m, ns m hn, fun i x v e1 e2 e3 => ?_⟩
  obtain ⟨u, r, l⟩ := hl i x v e1 e2 e3
  refine ⟨u, r, ?_⟩
  rcases l with l | ⟨k, c, e, z⟩
  ·exact .inl l
  ·exact .inr ⟨k, c, e, cellK x c e _ z⟩
 ·obtain ⟨v, z⟩ := I.cell x c e
  exact ⟨v, cellK x c e v z⟩
 ·obtain ⟨m, ⟨o, _, _, ho, _⟩, _⟩ := I.loc
  exact free _ o (fun z => (hch _ z).2.1 rfl) ho I.free
 ·obtain ⟨v, o, ho, hd⟩ := I.cell x c e
  exact free c o (fun z => (hch c z).2.2.1 x c e rfl) ho (I.freeC x c e)
 ·obtain ⟨e, n, ne, nf, d⟩ := I.pin p hp
  have nch : p.1 ∉ ch := fun z => (hch p.1 z).2.2.2 p hp rfl
  exact ⟨keep p.1 p.2 ne nf nch e n, free p.1 p.2 nch e n, ne, nf, d⟩
theorem Inv.un {t' : Nat} (I : Inv X pins σ H s) (u : Un X.fs [] H H' s.heap h') (hok : HOk X.prog X.w H' h') : Inv X pins σ H' { s with heap := h', toks := t' } := by
 obtain ⟨m, ⟨o, es, ep, ho, r⟩, _⟩ := id I.loc
 obtain ⟨sl, hL⟩ := u.any ho I.free (by simp)
 exact I.step (g' := s.gens) (d' := s.drawn) (ch := []) (fun _ z => nomatch z) (fun b o _ hb _ e n => u.keep b o e n hb (by simp)) (fun b o _ hb _ e n => u.slot b o e n hb (by simp)) (fun b o _ e n => u.free b o e n (by simp)) (fun b o _ e => u.there b o e (by simp)) u.tups u.frzs u.tbls (fun m' hm => by
  obtain ⟨o', es', ep', ho', r'⟩ := hm
  rw [ho] at ho'; cases ho'
  exact ⟨_, es', ep', hL, r'⟩) hok I.bare
theorem Inv.call {g' : Array GenState} {t' : Nat} {d' : Drawn} {ch : List Addr} (I : Inv X pins σ H s) (u : Un (frs X.stack) ch H H' s.heap h') (hok : HOk X.prog X.w H' h') (hg : AllBare g')
  (hch : ∀ b ∈ ch, (b ∈ X.ex ∨ X.s₀.heap.objs.size ≤ b) ∧ b ≠ X.env.locals ∧ (∀ x c, X.env.cells.lookup x = some c → c ≠ b) ∧ ∀ p ∈ X.pn ++ pins, p.1 ≠ b) :
  Inv X pins σ H' { s with heap := h', gens := g', drawn := d', toks := t' } := by
 obtain ⟨m, ⟨o, es, ep, ho, r⟩, _⟩ := id I.loc
 obtain ⟨sl, hL⟩ := u.any ho I.free fun z => (hch _ z).2.1 rfl
 exact I.step (ch := ch) hch (fun b o hL hb hc e n => u.keep b o e n (fun z => (zZ.mp (I.stkSub b z)).elim hL hb) hc) (fun b o _ _ hc e n => u.any e n hc) (fun b o hc e n => u.free b o e n hc) (fun b o hc e => u.there b o e hc) u.tups u.frzs u.tbls (fun m' hm => by
  obtain ⟨o', es', ep', ho', r'⟩ := hm
  rw [ho] at ho'; cases ho'
  exact ⟨_, es', ep', hL, r'⟩) hok hg
theorem Inv.turned {t' : Nat} {it : Addr} (I : Inv X pins σ H s) (k : ∀ b o, b ≠ it → s.heap.get? b = some o → h'.get? b = some o) (hn : H it = none) (hL : it ≠ X.env.locals)
  (h1 : it ∈ X.ex ∨ X.s₀.heap.objs.size ≤ it) (h2 : ∀ x c, X.env.cells.lookup x = some c → c ≠ it) (h3 : ∀ p ∈ X.pn ++ pins, p.1 ≠ it) : Inv X pins σ H { s with heap := h', toks := t' } := by
 have nit : ∀ b u, H b = some u → b ≠ it := fun b u e z => by rw [z, hn] at e; cases e
 refine I.step (g' := s.gens) (d' := s.drawn) (ch := [it]) (fun b hb => ?_) (fun b o _ _ hc e _ => k b o (fun z => hc (by simp [z])) e) (fun b o _ _ hc e _ => ⟨o.slots, k b o (fun z => hc (by simp [z])) e⟩) (fun _ _ _ _ n => n)
  (fun b o hc e => ⟨o, k b o (fun z => hc (by simp [z])) e⟩) (fun _ _ e => e) (fun _ _ _ e => e) (fun b ps e => ⟨#[], by rw [e]; simp⟩) (fun m hm => ?_) (fun b u e => ?_) I.bare
 ·have e : b = it := by simpa using hb
  subst e
  exact ⟨h1, hL, h2, h3⟩
 ·obtain ⟨o, es, ep, ho, r⟩ := hm
  exact ⟨o, es, ep, k _ o (Ne.symm hL) ho, r⟩
 ·refine (I.hok b u e).stay (fun c v hc q => k c v ?_ q) (fun _ q => q) fun _ _ q => q
  rcases hc with z | z
  ·rw [z]; exact nit b u e
  ·exact nit c _ z
theorem Inv.tok (I : Inv X pins σ H s) (t : Nat) : Inv X pins σ H { s with toks := t } := I.un (h' := s.heap) (t' := t) Un.refl I.hok
theorem Inv.kept {t' : Nat} (I : Inv X pins σ H s) (k : ∀ b u, s.heap.get? b = some u → h'.get? b = some u) : Inv X pins σ H { s with heap := h', toks := t' } := I.un (Un.kept k) (I.hok.kept k)
theorem Inv.laid {a : Addr} {o : HO} {t' : Nat} (I : Inv X pins σ H s) (k : ∀ b u, s.heap.get? b = some u → h'.get? b = some u) (hp : s.heap.objs.size ≤ a) (new : ObjOk X.prog X.w (upd H a o) h' a o) :
  Inv X pins σ (upd H a o) { s with heap := h', toks := t' } := I.un (Un.laid k hp (I.hok.fresh hp)) (I.hok.laid k hp new)
theorem Inv.write {x e : Addr} {o : HO} {t' : Nat} (I : Inv X pins σ H s) (mu : Mut (H x)) (he : e = x ∨ H e = some (.own x)) (k : ∀ b u, b ≠ e → s.heap.get? b = some u → h'.get? b = some u) (heo : ∃ u, h'.get? e = some u)
  (new : ObjOk X.prog X.w (upd H x o) h' x o) : Inv X pins σ (upd H x o) { s with heap := h', toks := t' } := I.un (Un.write mu he k heo) (I.hok.write mu he k heo new)
theorem Inv.pins_of {pins' : List (Addr × Obj)} (I : Inv X pins σ H s) (h : ∀ p ∈ pins', s.heap.get? p.1 = some p.2 ∧ H p.1 = none ∧ p.1 ≠ X.env.locals ∧ p.1 ∉ X.fs ∧ ∀ v, p.2.data ≠ .cell v) : Inv X pins' σ H s :=
 ⟨I.ok, I.os, I.bare, I.base, I.loc, I.cell, I.free, I.freeC, fun p hp => (jQc.mp hp).elim (fun z => I.pin p (List.mem_append_left _ z)) (h p), I.hok, I.len⟩
theorem Qac {N : List Str} (hN : N.Nodup) {i j : Nat} {x : Str} (a : N[i]? = some x) (b : N[j]? = some x) : i = j := by
 obtain ⟨h1, e1⟩ := kX.mp a
 obtain ⟨h2, e2⟩ := kX.mp b
 exact (List.getElem_inj hN).mp (e1.trans e2.symm)
theorem Jg {M : Model} {A : Around} {E : Value → Shared → Prop} {i : Nat} {x : Str} {v : V} {u : Value} {Q : Unit → Shared → Prop} (I : Inv X pins σ H s) (hN : X.N.Nodup) (hi : X.N[i]? = some x) (hx : Loc X.env.scope x) (r : RelV v u)
  (h : ∀ s', Inv X pins (σ.set i (some v)) H s' → (∃ a, Heap.SameBut a s.heap s'.heap ∧ (a = X.env.locals ∨ X.env.cells.lookup x = some a)) → Q () s') (hf : autoParam (X.fn x = true ∨ X.env.scope.names.lookup x = some .local) L2.aFst._auto_1) : wpAny M A (storeName X.env x u) Q E s := by
 obtain ⟨m, hn, hl⟩ := id I.loc
 have hcls : (X.env.scope.kind == .class || (X.env.scope.kind == .module && X.env.locals != X.env.globals)) = false := by rw [I.ok.kind]; rfl
 have hiσ : i < σ.length := by rw [I.len]; exact (kX.mp hi).1
 have cne := I.cne
 have tracked : ∀ {a : Addr} {h' : Heap}, (∃ o, s.heap.get? a = some o ∧ H a = none) → Heap.SameBut a s.heap h' → HOk X.prog X.w H h' := fun {a h'} ha hs b ob e => by
  obtain ⟨_, _, hfree⟩ := ha
  refine (I.hok b ob e).stay (fun c w' hc q => (hs.2 c ?_).trans q) (fun _ q => q) fun _ _ q => q
  rintro rfl
  rcases hc with rfl | hc
  ·rw [hfree] at e; cases e
  ·rw [hfree] at hc; cases hc
 rcases hx with hk | hk
 ·refine wpAny_storeName_local hk hn (fun h' hn' hs => ?_) hcls
  obtain ⟨oL, _, _, hoL, _⟩ := id hn
  refine h _ ⟨I.ok, I.os, I.bare, ⟨fun b o e n hb hx => ?_, fun b o e n hb hx => ?_, I.base.free, fun b o e hx => ?_, I.base.tups, I.base.frzs, I.base.tbls⟩, ⟨_, hn', fun j y v' e1 e2 e3 => ?_⟩, fun y c e => ?_, I.free, I.freeC, fun p hp => ?_, tracked ⟨oL, hoL, I.free⟩ hs, by simpa using I.len⟩ ⟨_, hs, .inl rfl⟩
  ·exact (hs.2 b (yZ (yQ (kY e) I.ok.above))).trans (I.base.keep b o e n hb hx)
  ·obtain ⟨sl, e1⟩ := I.base.slot b o e n hb hx
   exact ⟨sl, (hs.2 b (yZ (yQ (kY e) I.ok.above))).trans e1⟩
  ·obtain ⟨o', e1⟩ := I.base.there b o e hx
   exact ⟨o', (hs.2 b (yZ (yQ (kY e) I.ok.above))).trans e1⟩
  ·by_cases hj : j = i
   ·subst hj
    rw [hi] at e1; cases e1
    rw [jXc hiσ] at e2
    cases e2
    exact ⟨u, r, .inl ⟨hk, by simp⟩⟩
   ·rw [jYd (Ne.symm hj)] at e2
    obtain ⟨u', r', q⟩ := hl j y v' e1 e2 e3
    refine ⟨u', r', ?_⟩
    rcases q with ⟨k, e⟩ | ⟨k, c, e, z⟩
    ·refine .inl ⟨k, ?_⟩
     have : y ≠ x := fun e => hj (Qac hN e1 (e ▸ hi))
     simp [this, e]
    ·exact .inr ⟨k, c, e, z.sameBut hs (cne y c e)⟩
  ·obtain ⟨w', z⟩ := I.cell y c e
   exact ⟨w', z.sameBut hs (cne y c e)⟩
  ·obtain ⟨e, n, ne, nf, d⟩ := I.pin p hp
   exact ⟨(hs.2 p.1 ne).trans e, n, ne, nf, d⟩
 ·have hfn : X.fn x = true := by
   rcases hf with z | z
   ·exact z
   ·rw [z] at hk; cases hk
  obtain ⟨c, hc⟩ := I.ok.has x (.inl hk)
  obtain ⟨w', z⟩ := I.cell x c hc
  refine wpAny_storeName_cell I.ok.kind hk hc z (fun h' hc' hs => ?_)
  obtain ⟨oc, hoc, hocd⟩ := id z
  refine h { s with heap := h' } ⟨I.ok, I.os, I.bare, ⟨fun b o e n hb hx => ?_, fun b o e n hb hx => ?_, I.base.free, fun b o e hx => ?_, I.base.tups, I.base.frzs, I.base.tbls⟩, ⟨m, hn.sameBut hs (Ne.symm (cne x c hc)), fun j y v' e1 e2 e3 => ?_⟩, fun y c' e => ?_, I.free, I.freeC, fun p hp => ?_, tracked ⟨oc, hoc, I.freeC x c hc⟩ hs, by simpa using I.len⟩ ⟨c, hs, .inr hc⟩
  ·exact (hs.2 b (yZ (yQ (kY e) (I.ok.cab x c hfn hc)))).trans (I.base.keep b o e n hb hx)
  ·obtain ⟨sl, e1⟩ := I.base.slot b o e n hb hx
   exact ⟨sl, (hs.2 b (yZ (yQ (kY e) (I.ok.cab x c hfn hc)))).trans e1⟩
  ·obtain ⟨o', e1⟩ := I.base.there b o e hx
   exact ⟨o', (hs.2 b (yZ (yQ (kY e) (I.ok.cab x c hfn hc)))).trans e1⟩
  ·by_cases hj : j = i
   ·subst hj
    rw [hi] at e1; cases e1
    rw [jXc hiσ] at e2
    cases e2
    exact ⟨u, r, .inr ⟨.inl hk, c, hc, hc'⟩⟩
   ·rw [jYd (Ne.symm hj)] at e2
    obtain ⟨u', r', q⟩ := hl j y v' e1 e2 e3
    refine ⟨u', r', ?_⟩
    rcases q with q | ⟨k, c', e, z'⟩
    ·exact .inl q
    ·refine .inr ⟨k, c', e, z'.sameBut hs ?_⟩
     rintro rfl
     exact hj (Qac hN e1 (I.ok.inj _ _ _ e hc ▸ hi))
  ·by_cases hcc : c' = c
   ·subst hcc; exact ⟨_, hc'⟩
   ·obtain ⟨w2, z2⟩ := I.cell y c' e
    exact ⟨w2, z2.sameBut hs hcc⟩
  ·obtain ⟨e, n, ne, nf, d⟩ := I.pin p hp
   refine ⟨(hs.2 p.1 ?_).trans e, n, ne, nf, d⟩
   intro q
   rw [q, hoc] at e
   have q' : oc = p.2 := Option.some.inj e
   exact d w' (by rw [← q']; exact hocd)
theorem Qad {M : Model} {A : Around} {E : Value → Shared → Prop} {i : Nat} {x : Str} {v : V} {u : Value} {Q : Unit → Shared → Prop} (I : Inv X pins σ H s) (hN : X.N.Nodup) (hi : X.N[i]? = some x) (hx : Loc X.env.scope x) (r : RelV v u)
  (h : ∀ s', Inv X pins (σ.set i (some v)) H s' → Q () s') (hf : autoParam (X.fn x = true ∨ X.env.scope.names.lookup x = some .local) L2.aFst._auto_1) : wpAny M A (storeName X.env x u) Q E s :=
 Jg I hN hi hx r (fun s' I' _ => h s' I') hf
theorem Inv.call' {s' : Shared} {ch : List Addr} (I : Inv X pins σ H s) (ho : s'.os = s.os) (u : Un (frs X.stack) ch H H' s.heap s'.heap) (hok : HOk X.prog X.w H' s'.heap) (hg : AllBare s'.gens)
  (hch : ∀ b ∈ ch, (b ∈ X.ex ∨ X.s₀.heap.objs.size ≤ b) ∧ b ≠ X.env.locals ∧ (∀ x c, X.env.cells.lookup x = some c → c ≠ b) ∧ ∀ p ∈ X.pn ++ pins, p.1 ≠ b) : Inv X pins σ H' s' := by
 obtain ⟨h', g', d', t', o'⟩ := s'
 have e : o' = s.os := ho
 subst e
 exact I.call (g' := g') (t' := t') (d' := d') u hok hg hch
end
abbrev XK := Value → Option Addr → Hp → Prop
abbrev St := List (Option V)
abbrev VK := V → Hp → Prop
abbrev TE := St → Hp → VK → Prop
abbrev TT := St → Hp → (Bool → Hp → Prop) → Prop
abbrev TA := St → Hp → (List V → Hp → Prop) → Prop
set_option genInjectivity false in
set_option genInjectivity false in
structure Ends where
 nx : St → Hp → Prop
 rt : VK
 bk : St → Hp → Prop := fun _ _ => False
 ct : St → Hp → Prop := fun _ _ => False
abbrev TS := Ends → St → Hp → Prop
def EP (X : Cx) (pins : List (Addr × Obj)) (σ : St) (Q : VK) (u : Value) (s' : Shared) : Prop := ∃ v H', Inv X pins σ H' s' ∧ RelV v u ∧ Q v H'
def TP (X : Cx) (pins : List (Addr × Obj)) (σ : St) (Q : Bool → Hp → Prop) (b : Bool) (s' : Shared) : Prop := ∃ H', Inv X pins σ H' s' ∧ Q b H'
def AP (X : Cx) (pins : List (Addr × Obj)) (σ : St) (Q : List V → Hp → Prop) (us : List Value) (s' : Shared) : Prop := ∃ vs H', Inv X pins σ H' s' ∧ Vals vs us ∧ Q vs H'
def SP (X : Cx) (pins : List (Addr × Obj)) (D : Ends) (f : Flow) (s' : Shared) : Prop :=
 match f with
 | .next => ∃ σ' H', Inv X pins σ' H' s' ∧ D.nx σ' H'
 | .brk => ∃ σ' H', Inv X pins σ' H' s' ∧ D.bk σ' H'
 | .cont => ∃ σ' H', Inv X pins σ' H' s' ∧ D.ct σ' H'
 | .ret u => ∃ v σ' H', Inv X pins σ' H' s' ∧ RelV v u ∧ D.rt v H'
def PE (X : Cx) (e : Expr) (t : TE) : Prop :=
 ∀ (pins : List (Addr × Obj)) (s : Shared) (σ : St) (H : Hp) (Q : VK), Inv X pins σ H s → t σ H Q → wpAny (model X.prog X.w) X.A (eval e X.env) (EP X pins σ Q) X.xe s
def PT (X : Cx) (e : Expr) (t : TT) : Prop :=
 ∀ (pins : List (Addr × Obj)) (s : Shared) (σ : St) (H : Hp) (Q : Bool → Hp → Prop), Inv X pins σ H s → t σ H Q → wpAny (model X.prog X.w) X.A (isTrue e X.env (eval e X.env)) (TP X pins σ Q) X.xe s
def PW (X : Cx) (e : Expr) (t : TT) : Prop :=
 ∀ (whole : Sem Value) (pins : List (Addr × Obj)) (s : Shared) (σ : St) (H : Hp) (Q : Bool → Hp → Prop), Inv X pins σ H s → t σ H Q → wpAny (model X.prog X.w) X.A (isTrue e X.env whole) (TP X pins σ Q) X.xe s
theorem PW.pt {X : Cx} {e : Expr} {t : TT} (h : PW X e t) : PT X e t := h _
def PA (X : Cx) (es : List Expr) (t : TA) : Prop :=
 ∀ (pos : Pos) (pins : List (Addr × Obj)) (s : Shared) (σ : St) (H : Hp) (Q : List V → Hp → Prop), Inv X pins σ H s → t σ H Q → wpAny (model X.prog X.w) X.A (spliced (backTo pos (starEach es X.env))) (AP X pins σ Q) X.xe s
def PS (X : Cx) (st : Stmt) (t : TS) : Prop :=
 ∀ (pins : List (Addr × Obj)) (s : Shared) (σ : St) (H : Hp) (D : Ends), Inv X pins σ H s → t D σ H → wpAny (model X.prog X.w) X.A (exec st X.env) (SP X pins D) X.xe s
def PSs (X : Cx) (st : List Stmt) (t : TS) : Prop :=
 ∀ (pins : List (Addr × Obj)) (s : Shared) (σ : St) (H : Hp) (D : Ends), Inv X pins σ H s → t D σ H → wpAny (model X.prog X.w) X.A (execs st X.env) (SP X pins D) X.xe s
theorem thn {α : Type} {t : Sem α} {Q Q' : α → Shared → Prop} {M : Model} {A : Around} {E : Value → Shared → Prop} {s : Shared} (h : wpAny M A t Q E s) (hQ : ∀ a s, Q a s → Q' a s) : wpAny M A t Q' E s := wpAny_mono h hQ fun _ _ x => x
section
variable {X : Cx}
def tVar (i : Nat) : TE := fun σ H Q => ∃ v, σ[i]? = some (some v) ∧ Q v H
def tC (v : V) : TE := fun _ H Q => Q v H
theorem pe_var {i : Nat} {x : Str} {pos : Pos} (hN : X.N[i]? = some x) (hv : Vis X.env.scope x) (hd : autoParam ((x == ("__debug__" : Str)) = false) L2.aDec._auto_1) (hcd : autoParam ((x == ("__classdict__" : Str)) = false) L2.aDec._auto_1) : PE X (.Name x pos) (tVar i) := by
 intro pins s σ H Q I h
 obtain ⟨v, e, h⟩ := h
 obtain ⟨m, hn, hl⟩ := I.loc
 obtain ⟨u, r, l⟩ := hl i x v hN e hv
 have fin : EP X pins σ Q u s := ⟨v, H, I, r, h⟩
 rcases l with ⟨hk, hm⟩ | ⟨hk, c, hc, hcell⟩
 ·exact wpAny_Name (wpAny_loadName_local I.ok.kind hk hn hm fin) hd
 ·rcases hk with hk | hk
  ·exact wpAny_Name (wpAny_loadName_cell I.ok.kind hk hc hcell fin) hd
  ·exact wpAny_Name (wpAny_loadName_free I.ok.kind hk hc hcell fin hcd) hd
theorem Qg {i j pos} : PE X (.Constant (.int i) j pos) (tC (.int i)) := fun _ _ _ H _ I h => wpAny_Constant_int ⟨.int i, H, I.tok _, ⟨_, rfl⟩, h⟩
theorem Qcb {b j pos} : PE X (.Constant (.bool b) j pos) (tC (.bl b)) := fun _ _ _ H _ I h => Constant_bool ⟨.bl b, H, I, rfl, h⟩
def Gl (X : Cx) (x : Str) : Prop := X.env.kindOf x = some .globalImplicit
theorem Qhp {E : Value → Shared → Prop} {pins : List (Addr × Obj)} {s : Shared} {σ : St} {H : Hp} {x : Str} {u : Value} {pos : Pos} {Q : Value → Shared → Prop} (I : Inv X pins σ H s) (hg : Gl X x) (hm : X.mg x = some u) (h : Q u s)
  (hd : autoParam ((x == ("__debug__" : Str)) = false) L2.aDec._auto_1) : wpAny (model X.prog X.w) X.A (eval (.Name x pos) X.env) Q E s :=
 Calls.Name_function_global I.ok.kind hg (Calls.loadGlobal_global (by rw [I.ok.glob]; exact I.mod.glob.keeps I.bk) hm h) hd
theorem Zu {E : Value → Shared → Prop} {pins : List (Addr × Obj)} {s : Shared} {σ : St} {H : Hp} {x : Str} {u : Value} {pos : Pos} {Q : Value → Shared → Prop} (I : Inv X pins σ H s) (hg : Gl X x) (hm : X.mg x = none) (hv : bootBuiltins x = some u) (h : Q u s)
  (hn : autoParam (x ≠ "__name__") L2.aDec._auto_1) (hd : autoParam ((x == ("__debug__" : Str)) = false) L2.aDec._auto_1) : wpAny (model X.prog X.w) X.A (eval (.Name x pos) X.env) Q E s := by
 obtain ⟨mb, h1, h2⟩ := I.mod.blt
 exact Calls.Name_function_global I.ok.kind hg (Calls.loadGlobal_builtin (by rw [I.ok.glob]; exact I.mod.glob.keeps I.bk) hm (by rw [I.ok.blt]; exact h1.keeps I.bk) ((h2 x hn).trans hv) h) hd
theorem Qhq {x : Str} {v : V} {u : Value} {pos : Pos} (hg : Gl X x) (hm : X.mg x = none) (hv : bootBuiltins x = some u) (r : RelV v u) (hn : autoParam (x ≠ "__name__") L2.aDec._auto_1) (hd : autoParam ((x == ("__debug__" : Str)) = false) L2.aDec._auto_1) : PE X (.Name x pos) (tC v) :=
 fun _ _ _ H _ I h => Zu I hg hm hv ⟨v, H, I, r, h⟩ hn hd
variable {a b : Expr} {ta tb : TE} {pos : Pos}
def tB (t : TE) : TT := fun σ H Q => t σ H fun x H1 => ∃ c, x = .bl c ∧ Q c H1
theorem Qae {e : Expr} {t : TE} (h : PE X e t) (he : autoParam (∀ whole, isTrue e X.env whole = (do let v ← whole; standAt e.pos; holding [v] (truthy v))) L2.aIrf._auto_1) : PT X e (tB t) := by
 intro pins s σ H Q I hw
 refine isTrue_plain (thn (h pins s σ H _ I hw) fun v s1 hqP => ?_) (he _)
 obtain ⟨x, H1, I1, r1, q1⟩ := hqP
 obtain ⟨d, rfl, q⟩ := q1
 cases r1
 exact wpAny_truthy_bool ⟨H1, I1, q⟩
variable {tA tB' : TT} {rest : List Expr}
def tAnd (t u : TT) : TT := fun σ H Q => t σ H fun c H1 => if c = true then u σ H1 Q else Q false H1
def tOr (t u : TT) : TT := fun σ H Q => t σ H fun c H1 => if c = true then Q true H1 else u σ H1 Q
def tNot (t : TT) : TT := fun σ H Q => t σ H fun c H1 => Q (!c) H1
theorem Wl (ha : PT X a tA) : PW X (.BoolOp .And [a] pos) tA := by
 intro wh pins s σ H Q I h
 refine isTrue_and (thn (ha pins s σ H Q I h) fun c s1 e => ?_)
 cases c with
 | true => exact isTrue_and_nil e
 | false => exact e
theorem pw_or1 (ha : PT X a tA) : PW X (.BoolOp .Or [a] pos) tA := by
 intro wh pins s σ H Q I h
 refine isTrue_or (thn (ha pins s σ H Q I h) fun c s1 e => ?_)
 cases c with
 | false => exact isTrue_or_nil e
 | true => exact e
theorem Qcc (ha : PT X a tA) (hb : PW X (.BoolOp .And (b :: rest) pos) tB') : PW X (.BoolOp .And (a :: b :: rest) pos) (tAnd tA tB') := by
 intro wh pins s σ H Q I h
 refine isTrue_and (thn (ha pins s σ H _ I h) fun c s1 hqP => ?_)
 obtain ⟨H1, I1, q1⟩ := hqP
 cases c with
 | true => exact hb wh pins s1 σ H1 Q I1 q1
 | false => exact ⟨H1, I1, q1⟩
theorem pw_or (ha : PT X a tA) (hb : PW X (.BoolOp .Or (b :: rest) pos) tB') : PW X (.BoolOp .Or (a :: b :: rest) pos) (tOr tA tB') := by
 intro wh pins s σ H Q I h
 refine isTrue_or (thn (ha pins s σ H _ I h) fun c s1 hqP => ?_)
 obtain ⟨H1, I1, q1⟩ := hqP
 cases c with
 | true => exact ⟨H1, I1, q1⟩
 | false => exact hb wh pins s1 σ H1 Q I1 q1
theorem Qgw (ha : PT X a tA) : PT X (.UnaryOp .Not a pos) (tNot tA) := by
 intro pins s σ H Q I h
 exact isTrue_not (ha pins s σ H (fun c H1 => Q (!c) H1) I h)
def tAndV (ta tb : TE) : TE := fun σ H Q => ta σ H fun x H1 => ∃ c, x = .bl c ∧ if c = true then tb σ H1 Q else Q (.bl false) H1
def tNotV (ta : TE) : TE := fun σ H Q => ta σ H fun x H1 => ∃ c, x = .bl c ∧ Q (.bl (!c)) H1
theorem Qgx {op} {t : TE} (h : PE X a t) : PE X (.BoolOp op [a] pos) t := fun pins s σ H Q I hw => BoolOp_one (h pins s σ H Q I hw)
theorem Qcd (ha : PE X a ta) (hb : PE X (.BoolOp .And (b :: rest) pos) tb) : PE X (.BoolOp .And (a :: b :: rest) pos) (tAndV ta tb) := by
 intro pins s σ H Q I h
 refine BoolOp_and (thn (ha pins s σ H _ I h) fun v s1 hqP => ?_)
 obtain ⟨x, H1, I1, r1, q1⟩ := hqP
 obtain ⟨c, rfl, q1⟩ := q1
 cases r1
 refine wpAny_truthy_bool ?_
 cases c with
 | true => exact hb pins s1 σ H1 Q I1 q1
 | false => exact ⟨.bl false, H1, I1, rfl, q1⟩
theorem pe_not (ha : PE X a ta) : PE X (.UnaryOp .Not a pos) (tNotV ta) := by
 intro pins s σ H Q I h
 refine UnaryOp_ (thn (ha pins s σ H _ I h) fun v s1 hqP => ?_)
 obtain ⟨x, H1, I1, r1, q1⟩ := hqP
 obtain ⟨c, rfl, q1⟩ := q1
 cases r1
 exact not_of (wpAny_truthy_bool ⟨.bl (!c), H1, I1, rfl, q1⟩)
end
def SqL (K : Fg) (H : Hp) (a : Addr) (xs : List V) : Prop :=
 Rd H a (.lst xs) ∨
  ∃ (o : Obj) (its : Array Value) (n : Nat), K.lookup a = some o ∧ o.cls = .type "list" ∧ o.dict = none ∧ o.data = .seq its n ∧ its.size ≤ sizeLine ∧ Vals xs its.toList
def SqT (K : Fg) (H : Hp) (a : Addr) (xs : List V) : Prop :=
 Rd H a (.tup xs) ∨
  ∃ (o : Obj) (its : Array Value) (n : Nat), K.lookup a = some o ∧ o.cls = .type "tuple" ∧ o.data = .seq its n ∧ its.size ≤ sizeLine ∧ Vals xs its.toList
def absV : Value → Option V
 | .none => some .non
 | .bool b => some (.bl b)
 | .int i _ => some (.int i)
 | .str x _ => some (.str x)
 | .bytes b _ => some (.byt b)
 | .float b _ => some (.flt b)
 | .ref a => some (.ref a)
 | .type n => some (.ty n)
 | _ => none
theorem RelV.abs {x : V} {u : Value} (r : RelV x u) : absV u = some x := by
 cases x with
 | non => cases r; rfl
 | bl _ => cases r; rfl
 | int _ => obtain ⟨t, rfl⟩ := r; rfl
 | str _ => obtain ⟨t, rfl⟩ := r; rfl
 | byt _ => obtain ⟨t, rfl⟩ := r; rfl
 | flt _ => obtain ⟨t, rfl⟩ := r; rfl
 | ref _ => cases r; rfl
 | ty _ => cases r; rfl
theorem RelV.inj {x y : V} {u : Value} (r : RelV x u) (q : RelV y u) : x = y := Option.some.inj (r.abs.symm.trans q.abs)
theorem Vals.inj {xs ys : List V} {us : List Value} (h : Vals xs us) (g : Vals ys us) : xs = ys := by
 induction h generalizing ys with
 | nil => cases g; rfl
 | cons r t ih =>
  cases g with
  | cons r' t' => rw [r.inj r', ih t']
section
variable {X : Cx} {pins : List (Addr × Obj)} {σ : St} {H : Hp} {s : Shared} {a : Addr} {xs ys : List V}
theorem Inv.list (I : Inv X pins σ H s) (h : SqL X.K H a xs) : ∃ its : List Value, Vals xs its ∧ PlainL s.heap a its.toArray ∧ xs.length ≤ sizeLine := by
 rcases h with h | ⟨o, its, n, hk, hc, hd, hs, hz, r⟩
 ·obtain ⟨z, its, n, r, e⟩ := h.ok I.hok
  exact ⟨its, r, ⟨_, n, e, rfl, rfl, rfl⟩, z⟩
 ·refine ⟨its.toList, r, ⟨o, n, I.kIn a o hk, hc, hd, by simpa using hs⟩, ?_⟩
  have e := r.length
  simp only [zX] at e
  omega
theorem Inv.tuple (I : Inv X pins σ H s) (h : SqT X.K H a xs) : ∃ its : List Value, Vals xs its ∧ IsTup s.heap a its.toArray ∧ xs.length ≤ sizeLine := by
 rcases h with h | ⟨o, its, n, hk, hc, hs, hz, r⟩
 ·obtain ⟨z, its, r, p⟩ := h.ok I.hok
  exact ⟨its, r, p, z⟩
 ·refine ⟨its.toList, r, ⟨o, I.kIn a o hk, hc, n, by simpa using hs⟩, ?_⟩
  have e := r.length
  simp only [zX] at e
  omega
theorem Inv.list_inj (I : Inv X pins σ H s) (h : SqL X.K H a xs) (h' : SqL X.K H a ys) : xs = ys := by
 obtain ⟨its, r, ⟨o, n, e, _, _, d⟩, _⟩ := I.list h
 obtain ⟨its', r', ⟨o', n', e', _, _, d'⟩, _⟩ := I.list h'
 rw [e] at e'; cases e'
 rw [d] at d'
 injection d' with d1 _
 have : its = its' := by simpa using congrArg Array.toList d1
 subst this
 exact r.inj r'
theorem Inv.tuple_inj (I : Inv X pins σ H s) (h : SqT X.K H a xs) (h' : SqT X.K H a ys) : xs = ys := by
 obtain ⟨its, r, ⟨o, e, _, n, d⟩, _⟩ := I.tuple h
 obtain ⟨its', r', ⟨o', e', _, n', d'⟩, _⟩ := I.tuple h'
 rw [e] at e'; cases e'
 rw [d] at d'
 injection d' with d1 _
 have : its = its' := by simpa using congrArg Array.toList d1
 subst this
 exact r.inj r'
end
abbrev Cx.wish (X : Cx) (E : Value → Shared → Prop) : Cx := { X with xe := E }
abbrev Cx.nox (X : Cx) : Cx := X.wish fun _ _ => False
theorem Cx.Ok.wish {X : Cx} (ok : X.Ok) (E : Value → Shared → Prop) : (X.wish E).Ok :=
 ⟨ok.mod, ok.kind, ok.glob, ok.blt, ok.above, ok.inj, ok.has, ok.cab, ok.hd, ok.frames, ok.stk, ok.exf, ok.bs, ok.bsz, ok.noex, ok.exfs, ok.funs, ok.frf⟩
theorem Cx.Ok.unwish {X : Cx} {E : Value → Shared → Prop} (ok : (X.wish E).Ok) : X.Ok :=
 ⟨ok.mod, ok.kind, ok.glob, ok.blt, ok.above, ok.inj, ok.has, ok.cab, ok.hd, ok.frames, ok.stk, ok.exf, ok.bs, ok.bsz, ok.noex, ok.exfs, ok.funs, ok.frf⟩
section
variable {X : Cx} {pins : List (Addr × Obj)} {σ : St} {H : Hp} {s : Shared} {E : Value → Shared → Prop}
theorem Inv.wish (I : Inv X pins σ H s) (E : Value → Shared → Prop) : Inv (X.wish E) pins σ H s := ⟨I.ok.wish E, I.os, I.bare, I.base, I.loc, I.cell, I.free, I.freeC, I.pin, I.hok, I.len⟩
theorem Inv.unwish (I : Inv (X.wish E) pins σ H s) : Inv X pins σ H s := ⟨I.ok.unwish, I.os, I.bare, I.base, I.loc, I.cell, I.free, I.freeC, I.pin, I.hok, I.len⟩
theorem SP.unwish {D : Ends} {f : Flow} {s' : Shared} (h : SP (X.wish E) pins D f s') : SP X pins D f s' := by
 cases f with
 | next => obtain ⟨σ', H', I, q⟩ := h; exact ⟨σ', H', I.unwish, q⟩
 | brk => obtain ⟨σ', H', I, q⟩ := h; exact ⟨σ', H', I.unwish, q⟩
 | cont => obtain ⟨σ', H', I, q⟩ := h; exact ⟨σ', H', I.unwish, q⟩
 | ret u => obtain ⟨v, σ', H', I, r, q⟩ := h; exact ⟨v, σ', H', I.unwish, r, q⟩
theorem PSs.nox {st : List Stmt} {t : TS} (h : PSs X.nox st t) : PSs X st t := fun pins s σ H D I hw =>
 wpAny_mono (h pins s σ H D (I.wish _) hw) (fun _ _ q => q.unwish) fun _ _ z => False.elim z
end
section
variable {X : Cx} {st : Stmt} {rest : List Stmt} {t u : TS} {e : Expr} {te : TE} {pos : Pos}
def tNext : TS := fun D σ H => D.nx σ H
def tSeq (t u : TS) : TS := fun D σ H => t { D with nx := u D } σ H
theorem Ye : PSs X [] tNext := fun _ _ σ H _ I h => wpAny_execs_nil ⟨σ, H, I, h⟩
theorem Qe (h1 : PS X st t) (h2 : PSs X rest u) : PSs X (st :: rest) (tSeq t u) := by
 intro pins s σ H D I h
 refine wpAny_execs_cons (thn (h1 pins s σ H { D with nx := u D } I h) fun f s1 q => ?_)
 cases f with
 | next =>
  obtain ⟨σ', H', I', q⟩ := q
  exact h2 pins s1 σ' H' D I' q
 | ret v => exact q
 | brk => exact q
 | cont => exact q
theorem Qk (h1 : PS X st t) : PSs X [st] t := by
 intro pins s σ H D I h
 refine wpAny_execs_cons (thn (h1 pins s σ H D I h) fun f s1 q => ?_)
 cases f with
 | next => exact wpAny_execs_nil q
 | ret v => exact q
 | brk => exact q
 | cont => exact q
theorem Inv.quiet {pins : List (Addr × Obj)} {σ : St} {H : Hp} {s : Shared} (I : Inv X pins σ H s) : interactive X.env = false := by simp [interactive, I.ok.kind]
def tDrop (te : TE) : TS := fun D σ H => te σ H fun _ H1 => D.nx σ H1
theorem Yl (he : PE X e te) (hs : autoParam (swapsWith e none pos.line X.env = pure false) L2.aRfl._auto_1) : PS X (.Expr e pos) (tDrop te) := by
 intro pins s σ H D I h
 exact wpAny_Expr_any (thn (he pins s σ H _ I h) fun v s1 ⟨x, H1, I1, r1, q1⟩ => ⟨σ, H1, I1, q1⟩) I.quiet hs
def tRet (te : TE) : TS := fun D σ H => te σ H D.rt
theorem Xh (he : PE X e te) : PS X (.Return (some e) pos) (tRet te) := by
 intro pins s σ H D I h
 exact wpAny_Return_some (thn (he pins s σ H _ I h) fun v s1 ⟨x, H1, I1, r1, q1⟩ => ⟨x, σ, H1, I1, r1, q1⟩)
def tIfS (c : TT) (t u : TS) : TS := fun D σ H => c σ H fun b H1 => if b = true then t D σ H1 else u D σ H1
theorem Kh {c : Expr} {a b : List Stmt} {tc : TT} (hc : PT X c tc) (ha : PSs X a t) (hb : PSs X b u) : PS X (.If c a b pos) (tIfS tc t u) := by
 intro pins s σ H D I h
 refine wpAny_If (thn (hc pins s σ H _ I h) fun d s1 hqP => ?_)
 obtain ⟨H1, I1, q1⟩ := hqP
 cases d with
 | true => exact ha pins s1 σ H1 D I1 q1
 | false => exact hb pins s1 σ H1 D I1 q1
end
abbrev TG := V → St → Hp → (St → Hp → Prop) → Prop
abbrev TGs := List V → St → Hp → (St → Hp → Prop) → Prop
def PG (X : Cx) (target : Expr) (t : TG) : Prop :=
 ∀ (pins : List (Addr × Obj)) (s : Shared) (σ : St) (H : Hp) (v : V) (u : Value) (Q : St → Hp → Prop), Inv X pins σ H s → RelV v u → t v σ H Q →
  wpAny (model X.prog X.w) X.A (assign target X.env u) (fun _ s' => ∃ σ' H', Inv X pins σ' H' s' ∧ Q σ' H') X.xe s
def PGs (X : Cx) (ts : List Expr) (t : TGs) : Prop :=
 ∀ (pins : List (Addr × Obj)) (s : Shared) (σ : St) (H : Hp) (vs : List V) (us : List Value) (Q : St → Hp → Prop), Inv X pins σ H s → Vals vs us → t vs σ H Q →
  wpAny (model X.prog X.w) X.A (assignInOrder ((assignEach ts X.env).map (·.2)) us) (fun _ s' => ∃ σ' H', Inv X pins σ' H' s' ∧ Q σ' H') X.xe s
abbrev TSet := V → V → V → Hp → (Hp → Prop) → Prop
def PSet (X : Cx) (t : TSet) : Prop :=
 ∀ (pins : List (Addr × Obj)) (s : Shared) (σ : St) (H : Hp) (o i v : V) (ov iv u : Value) (Q : Hp → Prop), Inv X pins σ H s → RelV o ov → RelV i iv → RelV v u → t o i v H Q →
  wpAny (model X.prog X.w) X.A (setItem ov iv u) (fun _ s' => ∃ H', Inv X pins σ H' s' ∧ Q H') X.xe s
section
variable {X : Cx} {pos : Pos}
def Qhr (i : Nat) : TG := fun v σ H Q => Q (σ.set i (some v)) H
theorem Qs {i : Nat} {x : Str} (hN : X.N.Nodup) (hi : X.N[i]? = some x) (hx : Loc X.env.scope x) (hf : autoParam (X.fn x = true ∨ X.env.scope.names.lookup x = some .local) L2.aFst._auto_1) : PG X (.Name x pos) (Qhr i) := by
 intro pins s σ H v u Q I r h
 exact wpAny_assign_Name (Qad I hN hi hx r (fun s' I' => ⟨_, H, I', h⟩) hf)
def gNil : TGs := fun vs σ H Q => vs = [] ∧ Q σ H
def gCons (t : TG) (u : TGs) : TGs := fun vs σ H Q => ∃ v r, vs = v :: r ∧ t v σ H fun σ' H' => u r σ' H' Q
theorem Qhs : PGs X [] gNil := by
 intro pins s σ H vs us Q I r h
 obtain ⟨e, h⟩ := h
 subst e
 cases r
 exact assignInOrder_nil ⟨σ, H, I, h⟩
theorem Qaf {e : Expr} {es : List Expr} {t : TG} {u : TGs} (h1 : PG X e t) (h2 : PGs X es u)
  (hs : autoParam ((assignEach (e :: es) X.env).map (·.2) = assign e X.env :: (assignEach es X.env).map (·.2)) L2.aRfl._auto_1) : PGs X (e :: es) (gCons t u) := by
 intro pins s σ H vs us Q I r h
 obtain ⟨v, vr, e1, h⟩ := h
 subst e1
 cases r with
 | cons r rr =>
  rw [hs]
  refine assignInOrder_cons (thn (h1 pins s σ H _ _ _ I r h) fun _ s1 hqP => ?_)
  obtain ⟨σ1, H1, I1, q1⟩ := hqP
  exact h2 pins s1 σ1 H1 _ _ Q I1 rr q1
def gTup (K : Fg) (n : Nat) (t : TGs) : TG := fun v σ H Q => ∃ a xs, v = .ref a ∧ SqT K H a xs ∧ xs.length = n ∧ t xs σ H Q
theorem pg_tup {es : List Expr} {k : Nat} {t : TGs} {n : Nat} (hc : X.calm = true) (h : PGs X es t)
  (hn : autoParam ((assignEach es X.env).length = n) L2.aRfl._auto_1) (hst : autoParam ((assignEach es X.env).findIdx? (·.1) = none) L2.aRfl._auto_1) : PG X (.Tuple es k pos) (gTup X.K n t) := by
 intro pins s σ H v u Q I r hw
 obtain ⟨a, xs, e1, hq, hl, hw⟩ := hw
 subst e1
 cases r
 obtain ⟨its, rv, ht, hz⟩ := I.tuple hq
 refine assign_Tuple_tuple (I.ok.hd hc) ht (by simp [hn, ← hl, rv.length]) hst fun h' hx => ?_
 have I1 : Inv X pins σ H { s with heap := h' } := I.kept (t' := s.toks) fun b o e => hx b o (yZ (kY e)) e
 exact h pins _ σ H xs _ Q I1 (by simpa using rv) hw
def gSub (to ti : TE) (t : TSet) : TG := fun v σ H Q => to σ H fun o H1 => ti σ H1 fun i H2 => t o i v H2 fun H3 => Q σ H3
theorem Jh {o i : Expr} {to ti : TE} {t : TSet} (ho : PE X o to) (hi : PE X i ti) (hs : PSet X t)
  (ha : ∀ v, assign (.Subscript o i pos) X.env v = (do
   let ov ← holding [v] (eval o X.env)
   let iv ← holding [v, ov] (eval i X.env)
   standAt pos
   holding [v, ov, iv] (setItem ov iv v)
   release [v, ov, iv] []) := by intro _; rfl) : PG X (.Subscript o i pos) (gSub to ti t) := by
 intro pins s σ H v u Q I r h
 rw [ha]
 refine jQ (wpAny_holding (thn (ho pins s σ H _ I h) fun ov s1 hqP => ?_))
 obtain ⟨x, H1, I1, r1, q1⟩ := hqP
 refine jQ (wpAny_holding (thn (hi pins s1 σ H1 _ I1 q1) fun iv s2 hqP => ?_))
 obtain ⟨y, H2, I2, r2, q2⟩ := hqP
 refine jQ (wpAny_standAt (jQ (wpAny_holding (thn (hs pins s2 σ H2 x y v ov iv u _ I2 r1 r2 r q2) fun _ s3 hqP => ?_))))
 obtain ⟨H3, I3, q3⟩ := hqP
 exact wpAny_release ⟨σ, H3, I3, q3⟩
def tAsg (te : TE) (g : TG) : TS := fun D σ H => te σ H fun x H1 => g x σ H1 D.nx
theorem Ji {tg e : Expr} {te : TE} {g : TG} (he : PE X e te) (hg : PG X tg g) (hs : autoParam (swapsWithSole [tg] e pos.line X.env = pure false) L2.aRfl._auto_1) (hw : autoParam (swappedStores [tg] e X.env = pure none) L2.aRfl._auto_1)
  (h1 : autoParam ((assignEach [tg] X.env).map (·.2) = [assign tg X.env]) L2.aRfl._auto_1) : PS X (.Assign [tg] e pos) (tAsg te g) := by
 intro pins s σ H D I h
 refine wpAny_Assign_stores (thn (he pins s σ H _ I h) fun v s1 hqP => ?_) hs hw
 obtain ⟨x, H1, I1, r1, q1⟩ := hqP
 rw [h1]
 exact thn (hg pins s1 σ H1 x v _ I1 r1 q1) fun _ s2 q => q
theorem Qm {i : Nat} {x : Str} {e : Expr} {te : TE} {pos' : Pos} (hN : X.N.Nodup) (hi : X.N[i]? = some x) (hx : Loc X.env.scope x) (he : PE X e te) (hs : autoParam (swapsWith e (some (.Name x pos')) pos.line X.env = pure false) L2.aRfl._auto_1) (hf : autoParam (X.fn x = true ∨ X.env.scope.names.lookup x = some .local) L2.aFst._auto_1) :
  PS X (.Assign [.Name x pos'] e pos) (tAsg te (Qhr i)) := by
 intro pins s σ H D I h
 refine wpAny_Assign_Name (thn (he pins s σ H _ I h) fun v s1 hqP => ?_) hs
 obtain ⟨y, H1, I1, r1, q1⟩ := hqP
 exact Qad I1 hN hi hx r1 (fun s2 I2 => ⟨_, H1, I2, q1⟩) hf
end
section
variable {X : Cx} {pos : Pos}
def Qgy (c : TT) (tb : TS) : TS := fun D σ H => ∃ W : Nat → St → Hp → Prop, (∃ m, W m σ H) ∧ ∀ m σ H, W m σ H →
 c σ H fun b H1 => if b = true then ∃ N : St → Hp → Prop, (∀ σ' H', N σ' H' → ∃ m', m' < m ∧ W m' σ' H') ∧ tb { D with nx := N, ct := N, bk := D.nx } σ H1 else D.nx σ H1
theorem Qag {c : Expr} {body : List Stmt} {tc : TT} {tb : TS} (hp : PassesOwn (model X.prog X.w) X.A X.env X.xe) (hc : PT X c tc) (hb : PSs X body tb) : PS X (.While c body [] pos) (Qgy tc tb) := by
 intro pins s σ H D I h
 obtain ⟨W, ⟨m0, w0⟩, turn⟩ := h
 refine wpAny_While (codeAny_whileLoop (fun n s' => ∃ σ' H', Inv X pins σ' H' s' ∧ W n σ' H') ?_ m0 ⟨σ, H, I, w0⟩)
 rintro n s1 ⟨σ1, H1, I1, w1⟩
 refine wpAny_passesOwn hp (thn (hc pins s1 σ1 H1 _ I1 (turn n σ1 H1 w1)) fun b s2 hqP => ?_)
 obtain ⟨H2, I2, q2⟩ := hqP
 cases b with
 | true =>
  obtain ⟨N, hN, q2⟩ := q2
  rw [if_pos rfl]
  refine wpAny_passesOwn hp (thn (hb pins s2 σ1 H2 _ I2 q2) fun f s3 q3 => ?_)
  cases f with
  | next =>
   obtain ⟨σ3, H3, I3, n3⟩ := q3
   obtain ⟨m', hm, w3⟩ := hN σ3 H3 n3
   exact ⟨m', hm, σ3, H3, I3, w3⟩
  | cont =>
   obtain ⟨σ3, H3, I3, n3⟩ := q3
   obtain ⟨m', hm, w3⟩ := hN σ3 H3 n3
   exact ⟨m', hm, σ3, H3, I3, w3⟩
  | brk => exact q3
  | ret v => exact q3
 | false =>
  rw [if_neg jW]
  exact wpAny_execs_nil ⟨σ1, H2, I2, q2⟩
end
set_option genInjectivity false in
set_option genInjectivity false in
structure It where
 go : Nat → Hp → Prop
 yld : Nat → Hp → V → Hp → Prop
 stop : Nat → Hp → Prop
def FpOk (X : Cx) (pins : List (Addr × Obj)) (H : Hp) (b : Addr) : Prop :=
 H b = none ∧ b ≠ X.env.locals ∧ b ∉ X.fs ∧ (b ∈ X.ex ∨ X.s₀.heap.objs.size ≤ b) ∧ (∀ x c, X.env.cells.lookup x = some c → c ≠ b) ∧ ∀ p ∈ X.pn ++ pins, p.1 ≠ b
theorem Inv.fpOk {X : Cx} {pins : List (Addr × Obj)} {σ : St} {H H' : Hp} {s : Shared} {b : Addr} (I : Inv X pins σ H s) (hb : s.heap.objs.size ≤ b) (hn : H' b = none) : FpOk X pins H' b := by
 refine ⟨hn, Nat.ne_of_gt (yQ I.lt hb), I.nofs hb, .inr (wK I.sz hb), fun x c e z => ?_, fun p hp z => ?_⟩
 ·obtain ⟨v, q⟩ := I.cell x c e
  exact absurd (yQ q.lt (by rw [z]; exact hb)) (xW _)
 ·exact absurd (yQ (kY (I.pin p hp).1) (by rw [z]; exact hb)) (xW _)
structure Turn (P : Program) (w : World) (K : Fg) (tg : Expr) (J : It) (fp : List Addr) (it : Addr) (tn : Nat → Heap → Prop) : Prop where
 mem : it ∈ fp
 obj : ∀ i h, tn i h → ∀ b ∈ fp, ∃ o, h.get? b = some o ∧ ∀ v, o.data ≠ .cell v
 keep : ∀ i h h', tn i h → (∀ b ∈ fp, ∀ o, h.get? b = some o → h'.get? b = some o) → tn i h'
 item : ∀ (X : Cx), X.prog = P → X.w = w → X.K = K → X.calm = true → ∀ (i : Nat) (pins : List (Addr × Obj)) (s : Shared) (σ : St) (H : Hp) (E : Value → Shared → Prop), Inv X pins σ H s → (∀ b ∈ fp, FpOk X pins H b) → tn i s.heap → J.go i H →
  wpAny (model P w) X.A (pyNext (.ref it)) (fun r s1 => ∃ u, r = some u ∧
   wpAny (model P w) X.A (letOwnedTupleGo tg (.ref it) u) (fun _ s2 => ∃ x H', Inv X pins σ H' s2 ∧ RelV x u ∧ J.yld i H x H' ∧ tn (i + 1) s2.heap ∧ ∀ b ∈ fp, H' b = none) E s1) E s
 done : ∀ (X : Cx), X.prog = P → X.w = w → X.K = K → X.calm = true → ∀ (i : Nat) (pins : List (Addr × Obj)) (s : Shared) (σ : St) (H : Hp) (E : Value → Shared → Prop), Inv X pins σ H s → (∀ b ∈ fp, FpOk X pins H b) → tn i s.heap → J.stop i H →
  wpAny (model P w) X.A (pyNext (.ref it)) (fun r s1 => r = none ∧ Inv X pins σ H s1) E s
 self : ∀ (A : Around) (i : Nat) (s : Shared) (Q : Value → Shared → Prop) (E : Value → Shared → Prop), tn i s.heap → Q (.ref it) s → wpAny (model P w) A (pyIter (.ref it)) Q E s
abbrev TI := St → Hp → (It → Hp → Prop) → Prop
def PIE (X : Cx) (pins : List (Addr × Obj)) (σ : St) (tg : Expr) (R : It → Hp → Prop) (itv : Value) (s2 : Shared) : Prop :=
 ∃ (it : Addr) (fp : List Addr) (tn : Nat → Heap → Prop) (J : It) (H' : Hp), itv = .ref it ∧ Inv X pins σ H' s2 ∧ Turn X.prog X.w X.K tg J fp it tn ∧ tn 0 s2.heap ∧ (∀ b ∈ fp, FpOk X pins H' b) ∧ R J H'
def PI (X : Cx) (tg iter : Expr) (wi : TI) : Prop :=
 ∀ (pins : List (Addr × Obj)) (s : Shared) (σ : St) (H : Hp) (R : It → Hp → Prop), Inv X pins σ H s → wi σ H R →
  wpAny (model X.prog X.w) X.A (eval iter X.env) (fun v s1 => wpAny (model X.prog X.w) X.A (pyIter v) (PIE X pins σ tg R) X.xe s1) X.xe s
theorem Qeu {M : Model} {A : Around} {E : Value → Shared → Prop} {s : Shared} {tg : Expr} {it : Addr} {u : Value} {o : Obj} {n : String} {vs : Array Value} {Q : Unit → Shared → Prop} (ho : s.heap.get? it = some o) (hc : o.cls = .type n) (hd : o.data = .fields vs)
    (hn : ["enumerate", "zip", "dict_itemiterator", "dict_reverseitemiterator", "odict_iterator", "itertools.zip_longest", "itertools.pairwise"].contains n = false) (hQ : Q () s) : wpAny M A (letOwnedTupleGo tg (.ref it) u) Q E s := by
  unfold letOwnedTupleGo
  cases tg <;> first
    | exact jZ hQ
    | (cases u <;> first
        | exact jZ hQ
        | (refine jQ (wpAny_load ho ?_)
           rw [hc, hd]
           show wpAny M A (if (["enumerate", "zip", "dict_itemiterator", "dict_reverseitemiterator", "odict_iterator", "itertools.zip_longest", "itertools.pairwise"].contains n && vs[0]? == some (rawInt _)) = true then _ else _) Q E s
           rw [if_neg (by intro h; rw [hn, Bool.false_and] at h; cases h)]
           exact jZ hQ))
def Itl (K : Fg) (a : Addr) : It :=
 ⟨fun i H => ∃ xs x, SqL K H a xs ∧ xs[i]? = some x, fun i H x H' => H' = H ∧ ∀ xs, SqL K H a xs → xs[i]? = some x, fun i H => ∃ xs, SqL K H a xs ∧ xs.length ≤ i⟩
def Itr (lo : Int) (n : Nat) : It := ⟨fun i _ => i < n, fun i H x H' => H' = H ∧ x = .int (lo + i), fun i _ => n ≤ i⟩
theorem Qce {P : Program} {w : World} {K : Fg} {tg : Expr} (a it : Addr) : Turn P w K tg (Itl K a) [it] it (fun i h => h.IsListIter it a i) where
 mem := by simp
 obj := fun i h st b hb => by
  have e : b = it := by simpa using hb
  subst e
  obtain ⟨o, e, c, d⟩ := st
  exact ⟨o, e, fun v z => by rw [d] at z; cases z⟩
 keep := fun i h h' st k => st.at fun o e => k it (by simp) o e
 item := by
  intro X hP hw hK hc i pins s σ H E I hf st hg
  subst hP hw hK
  obtain ⟨xs, x, hq, hx⟩ := hg
  obtain ⟨its, rv, p, hz⟩ := I.list hq
  obtain ⟨u, hu, ru⟩ := rv.get hx
  obtain ⟨f0, f1, f2, f3, f4, f5⟩ := hf it (by simp)
  refine wpAny_pyNext_list_item st p.isList (x := u) (by simpa using hu) fun h' st' sb => ?_
  have I1 : Inv X pins σ H { s with heap := h' } := I.turned (t' := s.toks) (fun b o hb e => (sb.2 b hb).trans e) f0 f1 f3 f4 f5
  obtain ⟨o, e, c, d⟩ := id st'
  exact ⟨u, rfl, Qeu (s := { s with heap := h' }) e c d (by decide) ⟨x, H, I1, ru, ⟨rfl, fun ys hy => by rw [I.list_inj hy hq]; exact hx⟩, st', fun b hb => (hf b hb).1⟩⟩
 done := by
  intro X hP hw hK hc i pins s σ H E I hf st hg
  subst hP hw hK
  obtain ⟨xs, hq, hx⟩ := hg
  obtain ⟨its, rv, p, hz⟩ := I.list hq
  obtain ⟨f0, f1, f2, f3, f4, f5⟩ := hf it (by simp)
  have hl := rv.length
  exact wpAny_pyNext_list_end (I.ok.hd hc) st p.isList (by simp; omega) fun h' eb => ⟨rfl, I.turned (t' := s.toks) (fun b o hb e => eb b o hb e) f0 f1 f3 f4 f5⟩
 self := fun _ _ _ _ _ st h => wpAny_pyIter_listiter st h
theorem Qbl {P : Program} {w : World} {K : Fg} {tg : Expr} (it : Addr) (lo : Int) (n : Nat) : Turn P w K tg (Itr lo n) [it] it (fun i h => IsRangeIter h it (lo + (i : Nat) * 1) ((n : Int) - (i : Nat)) 1) where
 mem := by simp
 obj := fun i h st b hb => by
  have e : b = it := by simpa using hb
  subst e
  exact ⟨_, st, fun v z => by
   have z' : Data.fields _ = Data.cell v := z
   cases z'⟩
 keep := fun i h h' st k => k it (by simp) _ st
 item := by
  intro X hP hw hK hc i pins s σ H E I hf st hg
  subst hP hw hK
  obtain ⟨f0, f1, f2, f3, f4, f5⟩ := hf it (by simp)
  have W := Walks.range (prog := X.prog) (w := X.w) (I.ok.hd hc) it lo 1 n
  refine W.item i s _ _ hg st fun v h' tk hv st' kk => ?_
  obtain ⟨t, rfl⟩ := hv
  have I1 : Inv X pins σ H { s with heap := h', toks := tk } := I.turned (fun b o hb e => kk b o (by simpa using hb) e) f0 f1 f3 f4 f5
  refine ⟨_, rfl, Qeu (s := { s with heap := h', toks := tk }) (n := "range_iterator") st' rfl rfl (by decide) ⟨.int (lo + i), H, I1, ⟨t, ?_⟩, ⟨rfl, rfl⟩, st', fun b hb => (hf b hb).1⟩⟩
  rw [Int.mul_one]
 done := by
  intro X hP hw hK hc i pins s σ H E I hf st hg
  subst hP hw hK
  obtain ⟨f0, f1, f2, f3, f4, f5⟩ := hf it (by simp)
  exact wpAny_pyNext_range_end (I.ok.hd hc) st (by have : n ≤ i := hg; omega) fun h' eb => ⟨rfl, I.turned (t' := s.toks) (fun b o hb e => eb b o hb e) f0 f1 f3 f4 f5⟩
 self := fun _ _ _ _ _ st h => wpAny_pyIter_rangeiter st h
section
variable {X : Cx} {tg : Expr}
def iList (K : Fg) (tl : TE) : TI := fun σ H R => tl σ H fun x H1 => ∃ a, x = .ref a ∧ (∃ xs, SqL K H1 a xs) ∧ R (Itl K a) H1
theorem Yx {l : Expr} {tl : TE} (hl : PE X l tl) : PI X tg l (iList X.K tl) := by
 intro pins s σ H R I h
 refine thn (hl pins s σ H _ I h) fun v s1 hqP => ?_
 obtain ⟨x, H1, I1, r1, q1⟩ := hqP
 obtain ⟨a, e, ⟨xs, hq⟩, q⟩ := q1
 subst e
 cases r1
 obtain ⟨its, rv, p, hz⟩ := I1.list hq
 refine wpAny_pyIter_list p.isList ?_
 refine ⟨s1.heap.objs.size, [s1.heap.objs.size], _, _, H1, rfl, I1.kept (t' := s1.toks) fun b o e => jY _ e, Qce a _, ⟨_, kZ _ rfl, rfl, rfl⟩, fun b hb => ?_, q⟩
 have e : b = s1.heap.objs.size := by simpa using hb
 subst e
 exact I1.fpOk (jK _) (I1.hok.fresh (jK _))
theorem Qah {pins : List (Addr × Obj)} {σ : St} {H : Hp} {s : Shared} {R : It → Hp → Prop} {E : Value → Shared → Prop} {lo hi : Int} {t u v : Tok} {tk : Nat} (I : Inv X pins σ H s) (h1 : -(2 ^ 62) ≤ lo) (h2 : lo < 2 ^ 62) (h3 : -(2 ^ 62) ≤ hi) (h4 : hi < 2 ^ 62)
  (q : R (Itr lo (hi - lo).toNat) H) : wpAny (model X.prog X.w) X.A (pyIter (.ref s.heap.objs.size)) (PIE X pins σ tg R) E { s with heap := s.heap.push { cls := .type "range", data := .fields #[.int lo t, .int hi u, .int 1 v] }, toks := tk } := by
 refine wpAny_pyIter_range (IsRange.new ..) (small_one h1 h2 h3 h4) ?_
 have I1 : Inv X pins σ H { s with heap := s.heap.push { cls := .type "range", data := .fields #[.int lo t, .int hi u, .int 1 v] }, toks := tk } := I.kept fun b o e => jY _ e
 refine ⟨(s.heap.push { cls := .type "range", data := .fields #[.int lo t, .int hi u, .int 1 v] }).objs.size, [(s.heap.push { cls := .type "range", data := .fields #[.int lo t, .int hi u, .int 1 v] }).objs.size], _, _, H, rfl,
  I1.kept (t' := tk) fun b o e => jY _ e, Qbl _ lo (hi - lo).toNat, ?_, fun b hb => ?_, q⟩
 ·have e1 : lo + ((0 : Nat) : Int) * 1 = lo := by simp
  have e2 : (((hi - lo).toNat : Nat) : Int) - ((0 : Nat) : Int) = Builtin.Range.rangeSize lo hi 1 := by rw [rangeSize_one]; split <;> omega
  show IsRangeIter _ _ (lo + ((0 : Nat) : Int) * 1) ((((hi - lo).toNat : Nat) : Int) - ((0 : Nat) : Int)) 1
  rw [e1, e2]
  exact kZ _ rfl
 ·have e : b = (s.heap.push { cls := .type "range", data := .fields #[.int lo t, .int hi u, .int 1 v] }).objs.size := by simpa using hb
  subst e
  exact I1.fpOk (jK _) (I1.hok.fresh (jK _))
def iRng1 (ta : TA) : TI := fun σ H R => ta σ H fun vs H1 => ∃ j : Int, vs = [.int j] ∧ -(2 ^ 62) ≤ j ∧ j < 2 ^ 62 ∧ R (Itr 0 j.toNat) H1
def iRng2 (ta : TA) : TI := fun σ H R => ta σ H fun vs H1 => ∃ i j : Int, vs = [.int i, .int j] ∧ (-(2 ^ 62) ≤ i ∧ i < 2 ^ 62 ∧ -(2 ^ 62) ≤ j ∧ j < 2 ^ 62) ∧ R (Itr i (j - i).toNat) H1
theorem Xj {a : Expr} {ta : TA} {p pos : Pos} (hg : Gl X "range") (hm : X.mg "range" = none) (ha : PA X [a] ta) (hs : autoParam (starEach [a] X.env = [(false, eval a X.env)]) L2.aRfl._auto_1) : PI X tg (.Call (.Name "range" p) [a] [] pos) (iRng1 ta) := by
 intro pins s σ H R I h
 refine Call_ (Zu I hg hm boot_range (PyProof.Rows.callWith_type1 (thn (ha pos pins s σ H _ I h) fun us s1 hqP => ?_) hs rfl))
 obtain ⟨vs, H1, I1, r1, q1⟩ := hqP
 obtain ⟨j, e, q1, q2, q⟩ := q1
 subst e
 cases r1 with
 | cons r rr =>
  cases rr
  obtain ⟨t, rfl⟩ := r
  exact call_range_1 (Qah I1 (by omega) (by omega) q1 q2 (by simpa using q))
theorem Ve {a b : Expr} {ta : TA} {p pos : Pos} (hg : Gl X "range") (hm : X.mg "range" = none) (ha : PA X [a, b] ta) (hs : autoParam (starEach [a, b] X.env = [(false, eval a X.env), (false, eval b X.env)]) L2.aRfl._auto_1) (hs2 : autoParam (starEach [b] X.env = [(false, eval b X.env)]) L2.aRfl._auto_1) :
  PI X tg (.Call (.Name "range" p) [a, b] [] pos) (iRng2 ta) := by
 intro pins s σ H R I h
 refine Call_ (Zu I hg hm boot_range (PyProof.Rows.callWith_type1 (thn (ha pos pins s σ H _ I h) fun us s1 hqP => ?_) (by rw [hs, hs2]) (by rw [hs2]; rfl)))
 obtain ⟨vs, H1, I1, r1, q1⟩ := hqP
 obtain ⟨i, j, e, ⟨q1, q2, q3, q4⟩, q⟩ := q1
 subst e
 cases r1 with
 | cons r rr =>
  cases rr with
  | cons r' rr =>
   cases rr
   obtain ⟨t, rfl⟩ := r
   obtain ⟨t', rfl⟩ := r'
   exact call_range_2 (Qah I1 q1 q2 q3 q4 q)
def tFor (wi : TI) (g : TG) (tb : TS) : TS := fun D σ H => wi σ H fun J H1 => ∃ W : Nat → Nat → St → Hp → Prop, (∃ m, W 0 m σ H1) ∧ ∀ i m σ H, W i m σ H →
 (J.stop i H ∧ D.nx σ H) ∨ (J.go i H ∧ ∃ N : St → Hp → Prop, (∀ σ' H', N σ' H' → ∃ m', m' < m ∧ W (i + 1) m' σ' H') ∧ ∀ x H', J.yld i H x H' → g x σ H' fun σ2 H2 => tb { D with nx := N, ct := N, bk := D.nx } σ2 H2)
def Kk (fp : List Addr) (h : Heap) : List (Addr × Obj) := fp.filterMap fun b => (h.get? b).map fun o => (b, o)
theorem Xv {fp : List Addr} {h : Heap} {b : Addr} {o : Obj} (hb : b ∈ fp) (e : h.get? b = some o) : (b, o) ∈ Kk fp h := List.mem_filterMap.mpr ⟨b, hb, by rw [e]; rfl⟩
theorem Qcf {fp : List Addr} {h : Heap} {p : Addr × Obj} (hp : p ∈ Kk fp h) : p.1 ∈ fp ∧ h.get? p.1 = some p.2 := by
 obtain ⟨b, hb, e⟩ := List.mem_filterMap.mp hp
 cases q : h.get? b with
 | none => rw [q] at e; cases e
 | some o =>
  rw [q] at e
  have e' : (b, o) = p := Option.some.inj e
  subst e'
  exact ⟨hb, q⟩
theorem Inv.pinned {pins : List (Addr × Obj)} {σ : St} {H : Hp} {s : Shared} {fp : List Addr} (I : Inv X pins σ H s) (hf : ∀ b ∈ fp, FpOk X pins H b) (ho : ∀ b ∈ fp, ∃ o, s.heap.get? b = some o ∧ ∀ v, o.data ≠ .cell v) : Inv X (pins ++ Kk fp s.heap) σ H s :=
 I.pins_of fun p hp => (jQc.mp hp).elim (fun z => I.pin p (yJ _ z)) fun z => by
  obtain ⟨hb, e⟩ := Qcf z
  obtain ⟨f0, f1, f2, _⟩ := hf p.1 hb
  obtain ⟨o, e', d⟩ := ho p.1 hb
  rw [e] at e'; cases e'
  exact ⟨e, f0, f1, f2, d⟩
theorem Inv.unpinned {pins pl : List (Addr × Obj)} {σ : St} {H : Hp} {s : Shared} (I : Inv X (pins ++ pl) σ H s) : Inv X pins σ H s := I.pins_of fun p hp => I.pin p (yJ _ (List.mem_append_left _ hp))
theorem Yb {iter : Expr} {body : List Stmt} {wi : TI} {g : TG} {tb : TS} {pos : Pos} (hp : PassesOwn (model X.prog X.w) X.A X.env X.xe) (hc : X.calm = true) (hi : PI X tg iter wi) (hg : PG X tg g) (hb : PSs X body tb)
  (hs : autoParam (∀ x, foldedSetIterable iter X.env x = pure x) L2.aIrf._auto_1) : PS X (.For tg iter body [] pos) (tFor wi g tb) := by
 intro pins s σ H D I h
 refine wpAny_For (thn (hi pins s σ H _ I h) fun v s1 h1 => thn h1 fun itv s2 h2 => ?_) hs
 obtain ⟨it, fp, tn, J, H2, e, I2, T, st2, f2, W, ⟨m0, w0⟩, turn⟩ := h2
 subst e
 -- what stays true of the iterator's objects through the loop
 have stat : ∀ {H' : Hp}, (∀ b ∈ fp, H' b = none) → ∀ b ∈ fp, FpOk X pins H' b := fun hn b hb => ⟨hn b hb, (f2 b hb).2⟩
 refine codeAny_forLoop_any (fun n s' => ∃ i σ' H', Inv X pins σ' H' s' ∧ tn i s'.heap ∧ (∀ b ∈ fp, H' b = none) ∧ W i n σ' H') ?_ m0 ⟨0, σ, H2, I2, st2, fun b hb => (f2 b hb).1, w0⟩
 rintro n s3 ⟨i, σ3, H3, I3, st3, fr3, w3⟩
 rcases turn i n σ3 H3 w3 with ⟨stop, qn⟩ | ⟨go, N, hN, step⟩
 ·refine wpAny_passesOwn hp (thn (T.done X rfl rfl rfl hc i pins s3 σ3 H3 X.xe I3 (stat fr3) st3 stop) fun r s4 hqP => ?_)
  obtain ⟨hr, I4⟩ := hqP
  subst hr
  exact wpAny_execs_nil ⟨σ3, H3, I4, qn⟩
 ·refine wpAny_passesOwn hp (thn (T.item X rfl rfl rfl hc i pins s3 σ3 H3 X.xe I3 (stat fr3) st3 go) fun r s4 hqP => ?_)
  obtain ⟨u, hr, h4⟩ := hqP
  subst hr
  refine wpAny_passesOwn hp (thn h4 fun _ s5 hqP => ?_)
  obtain ⟨x, H5, I5, r5, y5, st5, fr5⟩ := hqP
  have I5' := I5.pinned (stat fr5) (T.obj _ _ st5)
  refine wpAny_passesOwn hp (thn (hg _ s5 σ3 H5 x u _ I5' r5 (step x H5 y5)) fun _ s6 hqP => ?_)
  obtain ⟨σ6, H6, I6, q6⟩ := hqP
  refine wpAny_passesOwn hp (thn (hb _ s6 σ6 H6 _ I6 q6) fun f s7 q7 => ?_)
  have again : ∀ {σ7 : St} {H7 : Hp}, Inv X (pins ++ Kk fp s5.heap) σ7 H7 s7 → N σ7 H7 → ∃ m, m < n ∧ ∃ i σ' H', Inv X pins σ' H' s7 ∧ tn i s7.heap ∧ (∀ b ∈ fp, H' b = none) ∧ W i m σ' H' := fun {σ7 H7} I7 n7 => by
   obtain ⟨m', hm, w7⟩ := hN σ7 H7 n7
   refine ⟨m', hm, i + 1, σ7, H7, I7.unpinned, T.keep _ _ _ st5 fun b hb o e => (I7.pin (b, o) (yJ _ (yJ _ (Xv hb e)))).1, fun b hb => ?_, w7⟩
   obtain ⟨o, e, d⟩ := T.obj _ _ st5 b hb
   exact (I7.pin (b, o) (yJ _ (yJ _ (Xv hb e)))).2.1
  cases f with
  | next => obtain ⟨σ7, H7, I7, n7⟩ := q7; exact again I7 n7
  | cont => obtain ⟨σ7, H7, I7, n7⟩ := q7; exact again I7 n7
  | brk => obtain ⟨σ7, H7, I7, q7⟩ := q7; exact ⟨σ7, H7, I7.unpinned, q7⟩
  | ret v => obtain ⟨x7, σ7, H7, I7, r7, q7⟩ := q7; exact ⟨x7, σ7, H7, I7.unpinned, r7, q7⟩
end
theorem Qai {K : Fg} {a : Addr} {xs : List V} {g : TG} {tb : TS} {D : Ends} {σ : St} {H : Hp} (Pv : Nat → St → Hp → Prop) (h0 : Pv 0 σ H) (hl : ∀ i σ H, i ≤ xs.length → Pv i σ H → SqL K H a xs)
  (hs : ∀ i x σ H, xs[i]? = some x → Pv i σ H → g x σ H fun σ2 H2 => tb { D with nx := Pv (i + 1), ct := Pv (i + 1), bk := D.nx } σ2 H2) (hd : ∀ σ H, Pv xs.length σ H → D.nx σ H) :
  ∃ W : Nat → Nat → St → Hp → Prop, (∃ m, W 0 m σ H) ∧ ∀ i m σ H, W i m σ H →
   ((Itl K a).stop i H ∧ D.nx σ H) ∨ ((Itl K a).go i H ∧ ∃ N : St → Hp → Prop, (∀ σ' H', N σ' H' → ∃ m', m' < m ∧ W (i + 1) m' σ' H') ∧ ∀ x H', (Itl K a).yld i H x H' → g x σ H' fun σ2 H2 => tb { D with nx := N, ct := N, bk := D.nx } σ2 H2) := by
 refine ⟨fun i m σ H => m = xs.length - i ∧ i ≤ xs.length ∧ Pv i σ H, ⟨xs.length, by simp, wV _, h0⟩, ?_⟩
 rintro i m σ H ⟨rfl, hi, p⟩
 have q := hl i σ H hi p
 by_cases hlt : i < xs.length
 ·refine .inr ⟨⟨xs, xs[i], q, by simp [hlt]⟩, Pv (i + 1), fun σ' H' p' => ⟨xs.length - (i + 1), by omega, rfl, hlt, p'⟩, fun x H' y => ?_⟩
  obtain ⟨e, y⟩ := y
  subst e
  exact hs i x σ _ (y xs q) p
 ·have e : i = xs.length := by omega
  subst e
  exact .inl ⟨⟨xs, q, jK _⟩, hd σ H p⟩
theorem Xi {lo : Int} {n : Nat} {g : TG} {tb : TS} {D : Ends} {σ : St} {H : Hp} (Pv : Nat → St → Hp → Prop) (h0 : Pv 0 σ H)
  (hs : ∀ i σ H, i < n → Pv i σ H → g (.int (lo + i)) σ H fun σ2 H2 => tb { D with nx := Pv (i + 1), ct := Pv (i + 1), bk := D.nx } σ2 H2) (hd : ∀ σ H, Pv n σ H → D.nx σ H) :
  ∃ W : Nat → Nat → St → Hp → Prop, (∃ m, W 0 m σ H) ∧ ∀ i m σ H, W i m σ H →
   ((Itr lo n).stop i H ∧ D.nx σ H) ∨ ((Itr lo n).go i H ∧ ∃ N : St → Hp → Prop, (∀ σ' H', N σ' H' → ∃ m', m' < m ∧ W (i + 1) m' σ' H') ∧ ∀ x H', (Itr lo n).yld i H x H' → g x σ H' fun σ2 H2 => tb { D with nx := N, ct := N, bk := D.nx } σ2 H2) := by
 refine ⟨fun i m σ H => m = n - i ∧ i ≤ n ∧ Pv i σ H, ⟨n, by simp, wV _, h0⟩, ?_⟩
 rintro i m σ H ⟨rfl, hi, p⟩
 by_cases hlt : i < n
 ·refine .inr ⟨hlt, Pv (i + 1), fun σ' H' p' => ⟨n - (i + 1), by omega, rfl, hlt, p'⟩, fun x H' y => ?_⟩
  obtain ⟨e, y⟩ := y
  subst e y
  exact hs i σ _ hlt p
 ·have e : i = n := by omega
  subst e
  exact .inl ⟨jK _, hd σ H p⟩
theorem Qaj {c : TT} {tb : TS} {D : Ends} {σ : St} {H : Hp} (Pv : St → Hp → Prop) (μ : St → Hp → Nat) (h0 : Pv σ H)
  (hs : ∀ σ H, Pv σ H → c σ H fun b H1 => if b = true then tb { D with nx := fun σ' H' => Pv σ' H' ∧ μ σ' H' < μ σ H, ct := fun σ' H' => Pv σ' H' ∧ μ σ' H' < μ σ H, bk := D.nx } σ H1 else D.nx σ H1)
  (mono : ∀ σ H Q Q', (∀ b H1, Q b H1 → Q' b H1) → c σ H Q → c σ H Q') : Qgy c tb D σ H := by
 refine ⟨fun m σ H => m = μ σ H ∧ Pv σ H, ⟨_, rfl, h0⟩, ?_⟩
 rintro m σ H ⟨rfl, p⟩
 refine mono σ H _ _ (fun b H1 q => ?_) (hs σ H p)
 cases b with
 | true => exact ⟨_, fun σ' H' ⟨p', l⟩ => ⟨_, l, rfl, p'⟩, q⟩
 | false => exact q
abbrev R2 := V → V → Hp → VK → Prop
def OpR (X : Cx) (f : Value → Value → Sem Value) (r : R2) : Prop :=
 ∀ (pins : List (Addr × Obj)) (s : Shared) (σ : St) (H : Hp) (x y : V) (v u : Value) (Q : VK), Inv X pins σ H s → RelV x v → RelV y u → r x y H Q →
  wpAny (model X.prog X.w) X.A (f v u) (EP X pins σ Q) X.xe s
def UnR (X : Cx) (f : Value → Sem Value) (r : V → Hp → VK → Prop) : Prop :=
 ∀ (pins : List (Addr × Obj)) (s : Shared) (σ : St) (H : Hp) (x : V) (v : Value) (Q : VK), Inv X pins σ H s → RelV x v → r x H Q →
  wpAny (model X.prog X.w) X.A (f v) (EP X pins σ Q) X.xe s
def Ym (X : Cx) (f : Value) (r : List V → Hp → VK → Prop) : Prop :=
 ∀ (pins : List (Addr × Obj)) (s : Shared) (σ : St) (H : Hp) (xs : List V) (us : List Value) (Q : VK), Inv X pins σ H s → Vals xs us → r xs H Q →
  wpAny (model X.prog X.w) X.A (call f us) (EP X pins σ Q) X.xe s
def tOp (r : R2) (ta tb : TE) : TE := fun σ H Q => ta σ H fun x H1 => tb σ H1 fun y H2 => r x y H2 Q
def tUn (r : V → Hp → VK → Prop) (ta : TE) : TE := fun σ H Q => ta σ H fun x H1 => r x H1 Q
def rI (C : Int → Int → Prop) (g : Int → Int → V) : R2 := fun x y H Q => ∃ i j, x = .int i ∧ y = .int j ∧ C i j ∧ Q (g i j) H
def rI0 (g : Int → Int → V) : R2 := fun x y H Q => ∃ i j, x = .int i ∧ y = .int j ∧ Q (g i j) H
def rU (g : Int → V) : V → Hp → VK → Prop := fun x H Q => ∃ i, x = .int i ∧ Q (g i) H
section
variable {X : Cx} {a b c : Expr} {ta tb tc : TE} {pos : Pos}
theorem binT (ha : PE X a ta) (hb : PE X b tb) {pins : List (Addr × Obj)} {s : Shared} {σ : St} {H : Hp} {R : V → V → Hp → Prop} (I : Inv X pins σ H s)
  (h : ta σ H fun x H1 => tb σ H1 fun y H2 => R x y H2) {Q : Value → Shared → Prop} {f : Value → Value → Sem Value}
  (hf : ∀ v u s2 x y H2, Inv X pins σ H2 s2 → RelV x v → RelV y u → R x y H2 → wpAny (model X.prog X.w) X.A (f v u) Q X.xe s2) :
  wpAny (model X.prog X.w) X.A (eval a X.env) (fun v s₁ => wpAny (model X.prog X.w) X.A (eval b X.env) (fun u s₂ => wpAny (model X.prog X.w) X.A (f v u) Q X.xe s₂) X.xe s₁) X.xe s := by
 refine thn (ha pins s σ H _ I h) fun v s1 hqP => ?_
 obtain ⟨x, H1, I1, r1, q1⟩ := hqP
 refine thn (hb pins s1 σ H1 _ I1 q1) fun u s2 hqP => ?_
 obtain ⟨y, H2, I2, r2, q2⟩ := hqP
 exact hf v u s2 x y H2 I2 r1 r2 q2
theorem Ql {op : Operator} {r : R2} (ho : OpR X (binaryOp op) r) (ha : PE X a ta) (hb : PE X b tb) : PE X (.BinOp a op b pos) (tOp r ta tb) := by
 intro pins s σ H Q I h
 exact wpAny_BinOp (binT ha hb I h fun v u s2 x y H2 I2 rx ry q => ho pins s2 σ H2 x y v u Q I2 rx ry q)
theorem Qev {op : UnaryOp} {r : V → Hp → VK → Prop} (ho : UnR X (unaryOp op) r) (ha : PE X a ta) : PE X (.UnaryOp op a pos) (tUn r ta) := by
 intro pins s σ H Q I h
 exact UnaryOp_ (thn (ha pins s σ H _ I h) fun v s1 ⟨x, H1, I1, r1, q1⟩ => ho pins s1 σ H1 x v Q I1 r1 q1)
theorem opI {f : Value → Value → Sem Value} {C : Int → Int → Prop} {g : Int → Int → Int}
  (rule : ∀ (i j : Int) (t u : Tok) (s : Shared) (Q : Value → Shared → Prop) (E : Value → Shared → Prop), C i j → Q (.int (g i j) s.toks) { s with toks := s.toks + 1 } → wpAny (model X.prog X.w) X.A (f (.int i t) (.int j u)) Q E s) :
  OpR X f (rI C fun i j => .int (g i j)) := by
 intro pins s σ H x y v u Q I rx ry h
 obtain ⟨i, j, rfl, rfl, hc, q⟩ := h
 obtain ⟨t, rfl⟩ := rx
 obtain ⟨t', rfl⟩ := ry
 exact rule i j t t' s _ _ hc ⟨.int (g i j), H, I.tok _, ⟨_, rfl⟩, q⟩
theorem opI0 {f : Value → Value → Sem Value} {g : Int → Int → Int}
  (rule : ∀ (i j : Int) (t u : Tok) (s : Shared) (Q : Value → Shared → Prop) (E : Value → Shared → Prop), Q (.int (g i j) s.toks) { s with toks := s.toks + 1 } → wpAny (model X.prog X.w) X.A (f (.int i t) (.int j u)) Q E s) :
  OpR X f (rI0 fun i j => .int (g i j)) := by
 intro pins s σ H x y v u Q I rx ry h
 obtain ⟨i, j, rfl, rfl, q⟩ := h
 obtain ⟨t, rfl⟩ := rx
 obtain ⟨t', rfl⟩ := ry
 exact rule i j t t' s _ _ ⟨.int (g i j), H, I.tok _, ⟨_, rfl⟩, q⟩
theorem opB0 {f : Value → Value → Sem Value} {g : Int → Int → Bool}
  (rule : ∀ (i j : Int) (t u : Tok) (s : Shared) (Q : Value → Shared → Prop) (E : Value → Shared → Prop), Q (.bool (g i j)) s → wpAny (model X.prog X.w) X.A (f (.int i t) (.int j u)) Q E s) :
  OpR X f (rI0 fun i j => .bl (g i j)) := by
 intro pins s σ H x y v u Q I rx ry h
 obtain ⟨i, j, rfl, rfl, q⟩ := h
 obtain ⟨t, rfl⟩ := rx
 obtain ⟨t', rfl⟩ := ry
 exact rule i j t t' s _ _ ⟨.bl (g i j), H, I, rfl, q⟩
def CDiv (i j : Int) : Prop := 0 < j ∧ j < 1073741824
def CPow (i j : Int) : Prop := 0 ≤ j ∧ j ≤ 1000000 ∧ i.natAbs < 2 ^ 64
def CMul (i j : Int) : Prop := (-(2 ^ 64) < i ∧ i < 2 ^ 64) ∨ (-(2 ^ 64) < j ∧ j < 2 ^ 64)
theorem CMul.ok {i j : Int} (h : CMul i j) : IntMulOk i j := by
 rcases h with ⟨h1, h2⟩ | ⟨h1, h2⟩
 ·exact .of_left (intBits_le_64 h1 h2)
 ·exact .of_right (intBits_le_64 h1 h2)
theorem Xl : OpR X (binaryOp .Add) (rI0 fun i j => .int (i + j)) := opI0 fun _ _ _ _ _ _ _ q => add_int q
theorem Vf : OpR X (binaryOp .Sub) (rI0 fun i j => .int (i - j)) := opI0 fun _ _ _ _ _ _ _ q => sub_int q
theorem Zf : OpR X (binaryOp .Mult) (rI CMul fun i j => .int (i * j)) := opI fun _ _ _ _ _ _ _ hc q => mul_int q hc.ok
theorem Yn : OpR X (binaryOp .FloorDiv) (rI CDiv fun i j => .int (i / j)) := opI fun i j _ _ _ _ _ hc q => by
 have h1 : (0 : Int) < j := hc.1
 have h2 : j < 1073741824 := hc.2
 exact floordiv_int (by omega) (by rw [Int.fdiv_eq_ediv_of_nonneg i (by omega)]; exact q) (.inl (PyProof.noPylong_small (by omega)))
theorem Xw : OpR X (binaryOp .Mod) (rI (fun _ j => 0 < j) fun i j => .int (i % j)) := opI fun i j _ _ _ _ _ hc q => by
 have h1 : (0 : Int) < j := hc
 exact mod_int' (by omega) (by rw [Int.fmod_eq_emod_of_nonneg i (by omega)]; exact q)
theorem Qgz : OpR X (binaryOp .Pow) (rI CPow fun i j => .int (i ^ j.toNat)) := opI fun _ _ _ _ _ _ _ hc q => pow_int_small hc.1 hc.2.1 hc.2.2 q
theorem unI {f : Value → Sem Value} {g : Int → Int}
  (rule : ∀ (i : Int) (t : Tok) (s : Shared) (Q : Value → Shared → Prop) (E : Value → Shared → Prop), Q (.int (g i) s.toks) { s with toks := s.toks + 1 } → wpAny (model X.prog X.w) X.A (f (.int i t)) Q E s) :
  UnR X f (rU fun i => .int (g i)) := by
 intro pins s σ H x v Q I rx h
 obtain ⟨i, rfl, q⟩ := h
 obtain ⟨t, rfl⟩ := rx
 exact rule i t s _ _ ⟨.int (g i), H, I.tok _, ⟨_, rfl⟩, q⟩
theorem Qak : UnR X (unaryOp .USub) (rU fun i => .int (-i)) := unI fun _ _ _ _ _ q => neg_int q
end
def scal : V → V → Bool
 | .non, .non => true | .non, .int _ => true | .int _, .non => true | .non, .bl _ => true | .bl _, .non => true | .non, .str _ => true | .str _, .non => true
 | .int _, .int _ => true | .bl _, .bl _ => true | .str _, .str _ => true | .byt _, .byt _ => true
 | .int _, .str _ => true | .str _, .int _ => true | .bl _, .str _ => true | .str _, .bl _ => true
 | _, _ => false
def rEq : R2 := fun x y H Q => scal x y = true ∧ Q (.bl (decide (x = y))) H
def rNe : R2 := fun x y H Q => scal x y = true ∧ Q (.bl (!decide (x = y))) H
theorem Qcg {i j : Int} : decide (V.int i = V.int j) = (i == j) := by
 rw [xJ]
 simp
theorem Qha {i j : Bool} : decide (V.bl i = V.bl j) = (i == j) := by
 rw [xJ]
 simp
theorem Qch {i j : Str} : decide (V.str i = V.str j) = (i == j) := by
 rw [xJ]
 simp
theorem Qci {i j : Array UInt8} : decide (V.byt i = V.byt j) = (i.toList == j.toList) := by
 rw [xJ]
 cases i
 cases j
 simp
section
variable {X : Cx} {a b c : Expr} {ta tb tc : TE} {pos : Pos}
theorem Qr {pins : List (Addr × Obj)} {σ : St} {H : Hp} {s : Shared} {Q : VK} {k k' : Bool} (I : Inv X pins σ H s) (q : Q (.bl k) H) (e : k = k') : EP X pins σ Q (.bool k') s := by
 subst e
 exact ⟨.bl k, H, I, rfl, q⟩
theorem Qht : OpR X (compareOp .Eq) rEq := by
 intro pins s σ H x y v u Q I rx ry h
 obtain ⟨hs, q⟩ := h
 cases x with
 | non =>
  cases rx
  cases y with
  | non => cases ry; exact PySem.EqNone.eq_none_none (Qr I q (by simp))
  | bl j => cases ry; exact PySem.EqNone.eq_none_bool (Qr I q (by simp))
  | int j => obtain ⟨t', rfl⟩ := ry; exact PySem.EqNone.eq_none_int (Qr I q (by simp))
  | str j => obtain ⟨t', rfl⟩ := ry; exact PySem.EqNone.eq_none_str (Qr I q (by simp))
  | _ => exact absurd (show false = true from hs) jW
 | bl i =>
  cases rx
  cases y with
  | non => cases ry; exact PySem.EqNone.eq_bool_none (Qr I q (by simp))
  | bl j => cases ry; exact eq_bool (Qr I q Qha)
  | str j => obtain ⟨t', rfl⟩ := ry; exact PySem.EqMixed.eq_bool_str (Qr I q (by simp))
  | _ => exact absurd (show false = true from hs) jW
 | int i =>
  obtain ⟨t, rfl⟩ := rx
  cases y with
  | non => cases ry; exact PySem.EqNone.eq_int_none (Qr I q (by simp))
  | int j => obtain ⟨t', rfl⟩ := ry; exact eq_int (Qr I q Qcg)
  | str j => obtain ⟨t', rfl⟩ := ry; exact PySem.EqMixed.eq_int_str (Qr I q (by simp))
  | _ => exact absurd (show false = true from hs) jW
 | str i =>
  obtain ⟨t, rfl⟩ := rx
  cases y with
  | non => cases ry; exact PySem.EqNone.eq_str_none (Qr I q (by simp))
  | bl j => cases ry; exact PySem.EqMixed.eq_str_bool (Qr I q (by simp))
  | int j => obtain ⟨t', rfl⟩ := ry; exact PySem.EqMixed.eq_str_int (Qr I q (by simp))
  | str j => obtain ⟨t', rfl⟩ := ry; exact eq_str (Qr I q Qch)
  | _ => exact absurd (show false = true from hs) jW
 | byt i =>
  obtain ⟨t, rfl⟩ := rx
  cases y with
  | byt j => obtain ⟨t', rfl⟩ := ry; exact PySem.W.eq_bytes (Qr I q Qci)
  | _ => exact absurd (show false = true from hs) jW
 | _ => cases y <;> exact absurd (show false = true from hs) jW
theorem Qhu : OpR X (compareOp .NotEq) rNe := by
 intro pins s σ H x y v u Q I rx ry h
 obtain ⟨hs, q⟩ := h
 cases x with
 | non =>
  cases rx
  cases y with
  | non => cases ry; exact PySem.EqNone.ne_none_none (Qr I q (by simp))
  | bl j => cases ry; exact PySem.EqNone.ne_none_bool (Qr I q (by simp))
  | int j => obtain ⟨t', rfl⟩ := ry; exact PySem.EqNone.ne_none_int (Qr I q (by simp))
  | str j => obtain ⟨t', rfl⟩ := ry; exact PySem.EqNone.ne_none_str (Qr I q (by simp))
  | _ => exact absurd (show false = true from hs) jW
 | bl i =>
  cases rx
  cases y with
  | non => cases ry; exact PySem.EqNone.ne_bool_none (Qr I q (by simp))
  | bl j => cases ry; exact ne_bool (Qr I q (congrArg not Qha))
  | str j => obtain ⟨t', rfl⟩ := ry; exact PySem.EqMixed.ne_bool_str (Qr I q (by simp))
  | _ => exact absurd (show false = true from hs) jW
 | int i =>
  obtain ⟨t, rfl⟩ := rx
  cases y with
  | non => cases ry; exact PySem.EqNone.ne_int_none (Qr I q (by simp))
  | int j => obtain ⟨t', rfl⟩ := ry; exact ne_int (Qr I q (congrArg not Qcg))
  | str j => obtain ⟨t', rfl⟩ := ry; exact PySem.EqMixed.ne_int_str (Qr I q (by simp))
  | _ => exact absurd (show false = true from hs) jW
 | str i =>
  obtain ⟨t, rfl⟩ := rx
  cases y with
  | non => cases ry; exact PySem.EqNone.ne_str_none (Qr I q (by simp))
  | bl j => cases ry; exact PySem.EqMixed.ne_str_bool (Qr I q (by simp))
  | int j => obtain ⟨t', rfl⟩ := ry; exact PySem.EqMixed.ne_str_int (Qr I q (by simp))
  | str j => obtain ⟨t', rfl⟩ := ry; exact ne_str (Qr I q (congrArg not Qch))
  | _ => exact absurd (show false = true from hs) jW
 | byt i =>
  obtain ⟨t, rfl⟩ := rx
  cases y with
  | byt j => obtain ⟨t', rfl⟩ := ry; exact PySem.W.ne_bytes (Qr I q (congrArg not Qci))
  | _ => exact absurd (show false = true from hs) jW
 | _ => cases y <;> exact absurd (show false = true from hs) jW
theorem op_lt : OpR X (compareOp .Lt) (rI0 fun i j => .bl (decide (i < j))) := opB0 fun _ _ _ _ _ _ _ q => lt_int q
theorem op_gt : OpR X (compareOp .Gt) (rI0 fun i j => .bl (decide (j < i))) := opB0 fun _ _ _ _ _ _ _ q => gt_int q
theorem Xs (b : Expr) {op : CmpOp} (h : autoParam (op ≠ .In) L2.aDec._auto_1) (h2 : autoParam (op ≠ .NotIn) L2.aDec._auto_1) : behindInMarks op b = false := by
 have e1 : (op == CmpOp.In) = false := by cases op <;> first | rfl | exact absurd rfl h
 have e2 : (op == CmpOp.NotIn) = false := by cases op <;> first | rfl | exact absurd rfl h2
 cases b <;> simp [behindInMarks, e1, e2]
theorem Wm {op : CmpOp} {r : R2} (ho : OpR X (compareOp op) r) (ha : PE X a ta) (hb : PE X b tb) (hm : behindInMarks op b = false) : PE X (.Compare a [op] [b] pos) (tOp r ta tb) := by
 intro pins s σ H Q I h
 exact wpAny_Compare1 (binT ha hb I h fun v u s2 x y H2 I2 rx ry q => ho pins s2 σ H2 x y v u Q I2 rx ry q) hm
def tTest (t : TE) : TT := fun σ H Q => t σ H fun x H' => ∃ k, x = .bl k ∧ Q k H'
theorem Xm {op : CmpOp} {r : R2} (ho : OpR X (compareOp op) r) (ha : PE X a ta) (hb : PE X b tb) (hm : behindInMarks op b = false) : PT X (.Compare a [op] [b] pos) (tTest (tOp r ta tb)) := by
 intro pins s σ H Q I h
 refine wpAny_isTrue_Compare1 (thn (ha pins s σ H _ I h) fun v s1 ⟨x, H1, I1, r1, q1⟩ => thn (hb pins s1 σ H1 _ I1 q1) fun u s2 ⟨y, H2, I2, r2, q2⟩ =>
  thn (ho pins s2 σ H2 x y v u _ I2 r1 r2 q2) fun c s3 ⟨z, H3, I3, r3, k, e, q3⟩ => ?_) hm
 subst e
 cases r3
 exact wpAny_truthy_bool ⟨H3, I3, q3⟩
theorem Qal : (sizeLine : Nat) < 2 ^ 63 := by rw [sizeLine_eq]; decide
theorem vals1 {x : V} {us : List Value} (r : Vals [x] us) : ∃ u, us = [u] ∧ RelV x u := by
 cases r with
 | cons r1 r2 => cases r2; exact ⟨_, rfl, r1⟩
theorem vals2 {x y : V} {us : List Value} (r : Vals [x, y] us) : ∃ u w', us = [u, w'] ∧ RelV x u ∧ RelV y w' := by
 cases r with
 | cons r1 r2 =>
  cases r2 with
  | cons r3 r4 => cases r4; exact ⟨_, _, rfl, r1, r3⟩
theorem Qcj (hc : X.calm = true) : Ym X (.builtin "min") (fun xs H Q => ∃ i j, xs = [.int i, .int j] ∧ Q (.int (if j < i then j else i)) H) := by
 intro pins s σ H xs us Q I r h
 obtain ⟨i, j, rfl, q⟩ := h
 obtain ⟨u, w', rfl, ⟨t, rfl⟩, ⟨t', rfl⟩⟩ := vals2 r
 refine min_two_ints (I.ok.hd hc) fun h' tk k => ⟨_, H, I.kept k, ?_, q⟩
 by_cases hj : j < i
 ·rw [if_pos hj, if_pos hj]; exact ⟨_, rfl⟩
 ·rw [if_neg hj, if_neg hj]; exact ⟨_, rfl⟩
theorem Vg : Ym X (.type "int") (fun xs H Q => (∃ i, xs = [.int i] ∧ Q (.int i) H) ∨ ∃ k, xs = [.bl k] ∧ Q (.int (if k then 1 else 0)) H) := by
 intro pins s σ H xs us Q I r h
 rcases h with ⟨i, rfl, q⟩ | ⟨k, rfl, q⟩
 ·obtain ⟨u, rfl, t, rfl⟩ := vals1 r
  exact call_int_int ⟨.int i, H, I, ⟨_, rfl⟩, q⟩
 ·obtain ⟨u, rfl, r1⟩ := vals1 r
  cases r1
  exact call_int_bool ⟨.int (if k then 1 else 0), H, I.tok _, ⟨_, rfl⟩, q⟩
end
section
variable {prog : Program} {w : World} {A : Around} {E : Value → Shared → Prop} {s : Shared} {K : Fg} {x dx C f : Addr} {mA : Str → Option Value} {name : Str} {v : Value}
end
theorem RelO.some_of {v : V} {o : Option Value} (r : RelO (some v) o) : ∃ u, o = some u ∧ RelV v u := by
 cases o with
 | none => exact (show False from r).elim
 | some u => exact ⟨u, rfl, r⟩
section
variable {P : Program} {w : World} {H H' : Hp} {h h' : Heap} {a C dx : Addr} {fs fs' : List (Str × V)}
end
section
variable {X : Cx} {pins : List (Addr × Obj)} {σ : St} {H : Hp} {s : Shared} {a C dx : Addr} {fs : List (Str × V)} {f : Str} {v : V} {A : Around} {E : Value → Shared → Prop}
end
section
variable {X : Cx} {o e value : Expr} {f : Str} {pos pos' tpos : Pos} {ta tv : TE}
end
section
variable {X : Cx} {pins : List (Addr × Obj)} {σ : St} {H : Hp} {s : Shared} {A : Around} {E : Value → Shared → Prop} {Q : Value → Shared → Prop} {c : Value} {b : Bool}
end
structure Room (k : Nat) (A : Around) : Prop where
 hd : A.handled = none
 dp : A.depth + 3 * k + 5 < recursionLimit
 un : A.units + 16 * k + 200 < cLine
theorem Room.mono {j k : Nat} {A : Around} (r : Room k A) (h : j ≤ k) : Room j A := ⟨r.hd, by have := r.dp; omega, by have := r.un; omega⟩
theorem Room.deeper {k : Nat} {A : Around} (r : Room (k + 1) A) (env : Env) : Room k (A.deeper env) :=
 ⟨r.hd, by have := r.dp; show A.depth + 1 + 3 * k + 5 < _; omega, by have := r.un; show A.units + 3 + 16 * k + 200 < _; omega⟩
theorem Room.depth {k : Nat} {A : Around} (r : Room k A) : A.depth < recursionLimit := by have := r.dp; omega
def tNil : TA := fun _ H Q => Q [] H
def tCons (ta : TE) (tr : TA) : TA := fun σ H Q => ta σ H fun x H1 => tr σ H1 fun xs H2 => Q (x :: xs) H2
section
variable {X : Cx} {e : Expr} {es : List Expr} {te : TE} {t : TA} {pos : Pos}
theorem Qd : PA X [] tNil := fun _ _ _ _ H Q I h => Calls.spliced_nil ⟨[], H, I, .nil, h⟩
theorem Qa (ha : PE X e te) (hr : PA X es t) (hs : autoParam (starEach (e :: es) X.env = (false, eval e X.env) :: starEach es X.env) L2.aRfl._auto_1) : PA X (e :: es) (tCons te t) := by
 intro pos pins s σ H Q I h
 rw [hs]
 show wpAny _ _ (spliced ((false, eval e X.env) :: backTo pos (starEach es X.env))) _ _ s
 refine Calls.spliced_cons (thn (ha pins s σ H _ I h) fun u s1 hqP => ?_)
 obtain ⟨x, H1, I1, r1, q1⟩ := hqP
 exact thn (hr pos pins s1 σ H1 _ I1 q1) fun us s2 ⟨xs, H2, I2, r2, q2⟩ => ⟨x :: xs, H2, I2, .cons r1 r2, q2⟩
def tTup (t : TA) : TE := fun σ H Q => t σ H fun xs H1 => xs.length ≤ sizeLine ∧ ∀ p, H1 p = none → Q (.ref p) (upd H1 p (.tup xs))
def tLst (t : TA) : TE := fun σ H Q => t σ H fun xs H1 => xs.length ≤ sizeLine ∧ ∀ p, H1 p = none → Q (.ref p) (upd H1 p (.lst xs))
theorem Yk {x1} (h : PA X es t) : PE X (.Tuple es x1 pos) (tTup t) := by
 intro pins s σ H Q I hq
 refine wpAny_Tuple_spliced (thn (h pos pins s σ H _ I hq) fun us s1 ⟨xs, H1, I1, r, z, q⟩ => ⟨by rw [← r.length]; exact z, ?_⟩)
 have hf : H1 s1.heap.objs.size = none := I1.hok.fresh (jK _)
 refine ⟨.ref s1.heap.objs.size, upd H1 s1.heap.objs.size (.tup xs), I1.laid (t' := s1.toks) (fun b u e => jY _ e) (jK _) ?_, rfl, q _ hf⟩
 exact ⟨z, us, r, ⟨_, kZ _ rfl, rfl, _, rfl⟩⟩
theorem Yo (h : PA X es t) : PE X (.List es pos) (tLst t) := by
 intro pins s σ H Q I hq
 refine wpAny_List_spliced (thn (h pos pins s σ H _ I hq) fun us s1 ⟨xs, H1, I1, r, z, q⟩ => ⟨by rw [← r.length]; exact z, ?_⟩)
 have hf : H1 s1.heap.objs.size = none := I1.hok.fresh (jK _)
 refine ⟨.ref s1.heap.objs.size, upd H1 s1.heap.objs.size (.lst xs), I1.laid (t' := s1.toks) (fun b u e => jY _ e) (jK _) ?_, rfl, q _ hf⟩
 exact ⟨z, us, 0, r, kZ _ rfl⟩
end
abbrev Sp := List V → Hp → VK → XK → Prop
abbrev CXT := List Env → Hp → Shared → XK → Value → Shared → Prop
structure Env0 (P : Program) (w : World) (K : Fg) (mg : Str → Option Value) (base : Heap) (A : Around) (outer : List Env) (s : Shared) (H : Hp) : Prop where
 frames : A.frames = some outer
 mod : Mod K mg base
 bs : ∀ b o, base.get? b = some o → s.heap.get? b = some o ∧ H b = none
 bsz : base.objs.size ≤ s.heap.objs.size
 funs : s.heap.FunFrames base outer
 frf : ∀ b ∈ frs outer, H b = none
 hok : HOk P w H s.heap
 bare : AllBare s.gens
def CE (outer : List Env) (P : Program) (w : World) (H : Hp) (s : Shared) (Q : VK) (u : Value) (s' : Shared) : Prop :=
 ∃ v H', s'.os = s.os ∧ AllBare s'.gens ∧ Un (frs outer) [] H H' s.heap s'.heap ∧ HOk P w H' s'.heap ∧ RelV v u ∧ Q v H'
def CR (CX : CXT) (outer : List Env) (P : Program) (w : World) (H : Hp) (s : Shared) (Q : VK) (E : XK) (r : Result) (s' : Shared) : Prop :=
 match r with
 | .ok (.ret u) => CE outer P w H s Q u s'
 | .ok _ => False
 | .error e => CX outer H s E e s'
structure FnOk (P : Program) (w : World) (K : Fg) (mg : Str → Option Value) (base : Heap) (CX : CXT) (k : Nat) (f : Addr) (fd : FuncData) (ps : List Str) (sp : Sp) : Prop where
 len : ∀ vs H Q E, sp vs H Q E → vs.length = ps.length
 run : ∀ (A : Around) (outer : List Env) (s : Shared) (H : Hp) (args : Args) (us : List Value) (vs : List V) (Q : VK) (E : XK), Room k A → Env0 P w K mg base A outer s H → BindsTo s fd args (ps.zip us) → Vals vs us → sp vs H Q E →
  codeAny (model P w) A (.call (.ref f) args) (CR CX outer P w H s Q E) s
section
variable {X : Cx} {pins : List (Addr × Obj)} {σ : St} {H : Hp} {s s' : Shared}
theorem Inv.env0 (I : Inv X pins σ H s) : Env0 X.prog X.w X.K X.mg X.base X.A X.stack s H :=
 ⟨I.ok.frames, I.ok.mod, I.bs, wK I.ok.bsz I.sz, I.stack, I.stkFree, I.hok, I.bare⟩
theorem Inv.after {Q : VK} {u : Value} (I : Inv X pins σ H s) (h : CE X.stack X.prog X.w H s Q u s') : EP X pins σ Q u s' := by
 obtain ⟨v, H', os, bare, un, hok, r, q⟩ := h
 obtain ⟨hh, g, d, t, os'⟩ := s'
 obtain rfl : os' = s.os := os
 exact ⟨v, H', I.call (h' := hh) (g' := g) (d' := d) (t' := t) (ch := []) un hok bare (fun b z => absurd z (by simp)), r, q⟩
end
def tCall (sp : Sp) (dvs : List V) (E : XK) (t : TA) : TE := fun σ H Q => t σ H fun vs H1 => sp (vs ++ dvs) H1 Q E
def Binds (K : Fg) (fd : FuncData) (ps : List Str) (ds : List Value) : Prop :=
 ∀ (s : Shared) (us : List Value), K.In s.heap → (us ++ ds).length = ps.length → BindsTo s fd ⟨us, []⟩ (ps.zip (us ++ ds))
theorem Binds.all {K : Fg} {fd : FuncData} {ps : List Str} (h : ∀ us : List Value, us.length = ps.length → bindArgs fd ⟨us, []⟩ = pure (ps.zip us)) : Binds K fd ps [] := fun s us _ hl => by
 rw [jYe] at hl ⊢
 exact .of_eq (h us hl)
def Qck (CX : CXT) (X : Cx) (E : XK) : Prop := ∀ (pins : List (Addr × Obj)) (σ : St) (H : Hp) (s : Shared) (e : Value) (s' : Shared), Inv X pins σ H s → CX X.stack H s E e s' → X.xe e s'
section
variable {X : Cx} {CX : CXT} {k : Nat} {f C : Addr} {fd : FuncData} {ps : List Str} {sp : Sp} {dvs : List V} {ds : List Value} {E : XK} {x m : Str} {p pos apos : Pos} {e o : Expr} {es : List Expr} {ta : TE} {t : TA}
theorem run_fn {pins : List (Addr × Obj)} {σ : St} {H : Hp} {s : Shared} {Q : VK} {us : List Value} {vs : List V} (F : FnOk X.prog X.w X.K X.mg X.base CX k f fd ps sp) (hr : Room k X.A) (hb : Binds X.K fd ps ds) (hd : Vals dvs ds) (hx : Qck CX X E)
  (I : Inv X pins σ H s) (r : Vals vs us) (h : sp (vs ++ dvs) H Q E) : wpAny (model X.prog X.w) X.A (call (.ref f) us) (EP X pins σ Q) X.xe s := by
 have r2 : Vals (vs ++ dvs) (us ++ ds) := r.append hd
 have hl : (us ++ ds).length = ps.length := by rw [← r2.length]; exact F.len _ _ _ _ h
 refine wpAny_call (codeAny_mono (F.run X.A X.stack s H ⟨us, []⟩ (us ++ ds) (vs ++ dvs) Q E hr I.env0 (hb s us I.kIn hl) r2 h) fun r s' hq => ?_)
 cases r with
 | error e => exact hx pins σ H s e s' I hq
 | ok fl =>
  cases fl with
  | ret u => exact I.after hq
  | next => exact False.elim hq
  | brk => exact False.elim hq
  | cont => exact False.elim hq
theorem Qhv (F : FnOk X.prog X.w X.K X.mg X.base CX k f fd ps sp) (hr : Room k X.A) (hg : Gl X x) (hm : X.mg x = some (.ref f)) (hk : PySem.W.keepIn X.K (.ref f) = true) (hb : Binds X.K fd ps ds) (hd : Vals dvs ds) (hx : Qck CX X E)
  (ha : PA X (e :: es) t) (hdb : autoParam ((x == ("__debug__" : Str)) = false) L2.aDec._auto_1) (he : autoParam (starEach (e :: es) X.env = (false, eval e X.env) :: starEach es X.env) L2.aRfl._auto_1) (hpl : autoParam ((backTo pos (starEach es X.env)).any (·.1) = false) L2.aRfl._auto_1) :
  PE X (.Call (.Name x p) (e :: es) [] pos) (tCall sp dvs E t) := by
 intro pins s σ H Q I h
 refine wpAny_Call_Name_kw (Qhp I hg hm ?_ hdb)
 refine PySem.W.callWith_K (h₀ := X.base) I.ok.mod.kin hk (thn (ha pos pins s σ H _ I h) fun us s1 ⟨vs, H1, I1, r, q⟩ => ⟨I1.kIn, ?_⟩) he hpl
 exact run_fn F hr hb hd hx I1 r q
end
section
variable {X : Cx} {CX : CXT} {k : Nat} {f C : Addr} {fd : FuncData} {ps ks : List Str} {sp : Sp} {E : XK} {x m : Str} {p pos apos kpos : Pos} {e o : Expr} {es : List Expr} {kws : List Keyword} {te ta : TE} {t tk : TA} {nm : Option Str}
variable {g : List Value → List Value → List Value} {gV : List V → List V → List V}
end
structure FnScope (N P : List Str) (sc : Scope) : Prop where
 kind : sc.kind = .function
 co : sc.isCoroutine = false
 gen : sc.isGenerator = false
 nd : N.Nodup
 pre : N.take P.length = P
 par : ∀ x ∈ P, sc.names.lookup x = some .local ∨ sc.names.lookup x = some .cell
 nofree : ∀ y ∈ sc.names, y.2 ≠ .free
theorem Vh {kindOf : Str → Option NameKind} {x : Str} : ∀ {binds : List (Str × Value)} {m : Str → Option Value}, (∀ v, (x, v) ∉ binds) → bindL kindOf binds m x = m x
 | [], _, _ => rfl
 | (n, v) :: r, m, h => by
  unfold bindL
  rw [Vh fun w hw => h w (kK _ hw)]
  split
  ·have : x ≠ n := by rintro rfl; exact h v yX
   simp [this]
  ·rfl
theorem Vi {kindOf : Str → Option NameKind} {x : Str} : ∀ {binds : List (Str × Value)} {m : Str → Option Value}, (∀ v, (x, v) ∉ binds) → bindC kindOf binds m x = m x
 | [], _, _ => rfl
 | (n, v) :: r, m, h => by
  unfold bindC
  rw [Vi fun w hw => h w (kK _ hw)]
  split
  ·rfl
  ·have : x ≠ n := by rintro rfl; exact h v yX
   simp [this]
theorem Vj {kindOf : Str → Option NameKind} {x : Str} {v : Value} : ∀ {P : List Str} {vs : List Value} {i : Nat} {m : Str → Option Value}, P.Nodup → P[i]? = some x → vs[i]? = some v → kindOf x = some .local →
  bindL kindOf (P.zip vs) m x = some v
 | [], _, _, _, _, h, _, _ => by simp at h
 | _ :: _, [], _, _, _, _, h, _ => by simp at h
 | p :: P, w :: vs, 0, m, nd, h1, h2, hk => by
  simp at h1 h2; subst h1; subst h2
  show bindL kindOf ((p, w) :: P.zip vs) m p = _
  unfold bindL
  rw [Vh fun v hv => (jYf.mp nd).1 (List.of_mem_zip hv).1, if_pos hk]
  simp
 | p :: P, w :: vs, i + 1, m, nd, h1, h2, hk => by
  show bindL kindOf ((p, w) :: P.zip vs) m x = _
  unfold bindL
  exact Vj (i := i) (jYf.mp nd).2 (by simpa using h1) (by simpa using h2) hk
theorem Vk {kindOf : Str → Option NameKind} {x : Str} {v : Value} : ∀ {P : List Str} {vs : List Value} {i : Nat} {m : Str → Option Value}, P.Nodup → P[i]? = some x → vs[i]? = some v → kindOf x ≠ some .local →
  bindC kindOf (P.zip vs) m x = some v
 | [], _, _, _, _, h, _, _ => by simp at h
 | _ :: _, [], _, _, _, _, h, _ => by simp at h
 | p :: P, w :: vs, 0, m, nd, h1, h2, hk => by
  simp at h1 h2; subst h1; subst h2
  show bindC kindOf ((p, w) :: P.zip vs) m p = _
  unfold bindC
  rw [Vi fun v hv => (jYf.mp nd).1 (List.of_mem_zip hv).1, if_neg hk]
  simp
 | p :: P, w :: vs, i + 1, m, nd, h1, h2, hk => by
  show bindC kindOf ((p, w) :: P.zip vs) m x = _
  unfold bindC
  exact Vk (i := i) (jYf.mp nd).2 (by simpa using h1) (by simpa using h2) hk
def start (N : List Str) (vs : List V) : St := vs.map some ++ List.replicate (N.length - vs.length) none
def cxOf (CX : CXT) (P : Program) (w : World) (K : Fg) (mg : Str → Option Value) (base : Heap) (N : List Str) (qual : Str) (scope : Scope) (f : Addr) (cd : Value) (A : Around) (outer : List Env) (s : Shared) (H : Hp) (E : XK) : Cx where
 prog := P
 w := w
 K := K
 mg := mg
 base := base
 A := A.deeper (envOfC qual scope s.heap.objs.size f cd)
 N := N
 s₀ := s
 H₀ := H
 env := envOfC qual scope s.heap.objs.size f cd
 outer := outer
 stack := envOfC qual scope s.heap.objs.size f cd :: outer
 ex := []
 calm := true
 fn := fun _ => true
 pn := []
 xe := fun e s' => wpAny (model P w) (A.deeper (envOfC qual scope s.heap.objs.size f cd)) (leaving (envOfC qual scope s.heap.objs.size f cd) e) (fun _ s'' => CX outer H s E e s'') (fun e' s'' => CX outer H s E e' s'') s'
theorem Qam {sc : Scope} {n : Nat} {x : Str} (h : sc.names.lookup x = some .cell) : ∃ c, (cellsFrom n sc.names []).lookup x = some c := by
 have q := PySem.W.cellsFrom_some sc.names n [] (.inl h)
 exact wQ.mp q
theorem Qcl {CX : CXT} {P : Program} {w : World} {K : Fg} {mg : Str → Option Value} {base : Heap} {N ps : List Str} {qual : Str} {scope : Scope} {f : Addr} {cd : Value} {A : Around} {outer : List Env} {s s1 : Shared} {H : Hp} {E : XK} {us : List Value} {vs : List V}
  (S : FnScope N ps scope) (hd : A.handled = none) (e0 : Env0 P w K mg base A outer s H) (hl : vs.length = ps.length) (r : Vals vs us)
  (x : InCallC s s.heap.objs.size (bindL (envOfC qual scope s.heap.objs.size f cd).kindOf (ps.zip us) fun _ => none) (cellsFrom (s.heap.objs.size + 1) scope.names []) (bindC (envOfC qual scope s.heap.objs.size f cd).kindOf (ps.zip us) fun _ => none) s1) :
  Inv (cxOf CX P w K mg base N qual scope f cd A outer s H E) [] (start N vs) H s1 := by
 have hpl : ps.length ≤ N.length := by have := congrArg List.length S.pre; rw [jYb] at this; omega
 obtain ⟨h1, tk, rfl, hk⟩ := x.done
 have noA : ∀ b : Addr, b ∉ (cxOf CX P w K mg base N qual scope f cd A outer s H E).ex := fun b z => absurd (show b ∈ ([] : List Addr) from z) (by simp)
 refine ⟨⟨e0.mod, S.kind, rfl, rfl, jK _, fun y z c h1 h2 => ?_, fun y hy => ?_, fun y c _ h => ?_, fun _ => hd, Around.frames_deeper e0.frames, .inr ⟨rfl, rfl⟩, fun b z => absurd z (noA b), e0.bs, e0.bsz, fun b _ _ => noA b, fun b z => absurd z (noA b), e0.funs, e0.frf⟩,
  rfl, e0.bare, Un.kept hk, ⟨_, x.toInCall.ns, fun i y v h1 h2 h3 => ?_⟩, fun y c h => ⟨_, x.cell y c h⟩, e0.hok.fresh (jK _), fun y c h => ?_, fun p hp => absurd (show p ∈ ([] : List (Addr × Obj)) from hp) (by simp), e0.hok.kept hk, ?_⟩
 ·exact name_of_addr x.apart (PySem.mem_of_lookup h1) (PySem.mem_of_lookup h2)
 ·have hy : scope.names.lookup y = some .cell ∨ scope.names.lookup y = some .free := hy
  rcases hy with hy | hy
  ·exact Qam hy
  ·exact absurd rfl (S.nofree _ (PySem.mem_of_lookup hy))
 ·exact Nat.le_of_lt (x.above y c (PySem.mem_of_lookup h))
 ·have hi : i < vs.length := by
   unfold start at h2
   by_cases hi : i < vs.length
   ·exact hi
   ·rw [List.getElem?_append_right (by simpa using hi)] at h2
    rw [List.getElem?_replicate] at h2
    split at h2 <;> cases h2
  have ha : vs[i]? = some v := by
   unfold start at h2
   rw [List.getElem?_append_left (by simpa using hi), kQ] at h2
   cases e : vs[i]? with
   | none => rw [e] at h2; cases h2
   | some a => rw [e] at h2; cases h2; rfl
  obtain ⟨u, hu, rv⟩ := r.get ha
  have hp : ps[i]? = some y := by
   rw [← S.pre, List.getElem?_take_of_lt (by omega)]; exact h1
  have ndP : ps.Nodup := by rw [← S.pre]; exact S.nd.sublist (List.take_sublist _ _)
  refine ⟨u, rv, ?_⟩
  rcases S.par y (xY hp) with k | k
  ·exact .inl ⟨k, Vj ndP hp hu k⟩
  ·obtain ⟨c, e⟩ := Qam (n := s.heap.objs.size + 1) k
   refine .inr ⟨.inl k, c, e, ?_⟩
   have q := x.cell y c e
   rw [Vk ndP hp hu (by show scope.names.lookup y ≠ _; rw [k]; decide)] at q
   exact q
 ·exact e0.hok.fresh (Nat.le_of_lt (x.above y c (PySem.mem_of_lookup h)))
 ·unfold start
  show _ = N.length
  rw [yY, jX, jKd]
  omega
theorem fn_of {CX : CXT} {P : Program} {w : World} {K : Fg} {mg : Str → Option Value} {base : Heap} {k : Nat} {f : Addr} {name qual : Str} {params : Arguments} {body : List Stmt} {scope : Scope} {dV kV doc pm cdv ct oc : Value} {an od : Option Addr}
  {osl : Array (Option Value)} {N ps : List Str} {sp : Sp} (lk : K.lookup f = some ⟨oc, od, .func (PySem.W.fnOf name qual params body scope dV kV doc pm an cdv ct), osl⟩) (hcd : PySem.W.codeIn K cdv qual = true) (S : FnScope N ps scope)
  (len : ∀ vs H Q E, sp vs H Q E → vs.length = ps.length)
  (hbody : ∀ (A : Around) (outer : List Env) (s : Shared) (H : Hp) (vs : List V) (Q : VK) (E : XK), Room k (A.deeper (envOfC qual scope s.heap.objs.size f cdv)) → sp vs H Q E →
   ∃ t, PSs (cxOf CX P w K mg base N qual scope f cdv A outer s H E) body t ∧ t { nx := fun _ H' => Q .non H', rt := Q } (start N vs) H) :
  FnOk P w K mg base CX (k + 1) f (PySem.W.fnOf name qual params body scope dV kV doc pm an cdv ct) ps sp := by
 refine ⟨len, fun A outer s H args us vs Q E hr e0 hb r hsp => ?_⟩
 have hl := len _ _ _ _ hsp
 have KX : K.In s.heap := e0.mod.kin.keeps fun b o e => (e0.bs b o e).1
 have lim : s.heap.NoLimit := e0.mod.nolimit.keeps fun b o e => (e0.bs b o e).1
 have hkind : ∀ y ∈ ps.zip us, scope.names.lookup y.1 = some .local ∨ (scope.names.lookup y.1 = some .cell ∧ ((cellsFrom (s.heap.objs.size + 1) scope.names []).lookup y.1).isSome = true) := fun ⟨n, v⟩ hy => by
  rcases S.par n (List.of_mem_zip hy).1 with q | q
  ·exact .inl q
  ·exact .inr ⟨q, PySem.W.cellsFrom_some _ _ _ (.inl q)⟩
 refine codeAny_call_function hr.depth (KX _ _ lk) rfl S.co S.gen rfl (PySem.W.codeRec_of KX hcd) (hb _ _ _ _ ?_)
 refine wpAny_newFunctionEnv_cells S.kind hkind fun env he s1 x => ?_
 subst he
 refine ⟨lim.keeps x.toInCall.keep, codeAny_func ?_⟩
 obtain ⟨t, ht, hq⟩ := hbody A outer s H vs Q E (hr.deeper _) hsp
 have I : Inv (cxOf CX P w K mg base N qual scope f cdv A outer s H E) [] (start N vs) H s1 := Qcl S hr.hd e0 hl r x
 refine wpAny_mono (ht [] s1 (start N vs) H _ I hq) (fun fl s' hs => ?_) fun e s' hs => hs
 have fin : ∀ {σ' : St} {H' : Hp} {v : V} {u : Value}, Inv (cxOf CX P w K mg base N qual scope f cdv A outer s H E) [] σ' H' s' → RelV v u → Q v H' → CE outer P w H s Q u s' :=
  fun {σ' H' v u} J rv q => ⟨v, H', J.os, J.bare, J.base, J.hok, rv, q⟩
 cases fl with
 | ret u =>
  obtain ⟨v, σ', H', J, rv, q⟩ := hs
  exact fin J rv q
 | next =>
  obtain ⟨σ', H', J, q⟩ := hs
  exact fin (v := V.non) (u := Value.none) J rfl q
 | brk =>
  obtain ⟨_, _, _, q⟩ := hs
  exact False.elim q
 | cont =>
  obtain ⟨_, _, _, q⟩ := hs
  exact False.elim q
section
variable {X : Cx} {x : Str} {p pos : Pos} {e : Expr} {es : List Expr} {t : TA} {id T : String} {r : List V → Hp → VK → Prop}
def tCB (r : List V → Hp → VK → Prop) (t : TA) : TE := fun σ H Q => t σ H fun vs H1 => r vs H1 Q
theorem Qv (hc : Ym X (.builtin id) r) (hg : Gl X x) (hm : X.mg x = none) (hv : bootBuiltins x = some (.builtin id)) (ha : PA X (e :: es) t) (hn : autoParam (x ≠ "__name__") L2.aDec._auto_1) (hdb : autoParam ((x == ("__debug__" : Str)) = false) L2.aDec._auto_1)
  (he : autoParam (starEach (e :: es) X.env = (false, eval e X.env) :: starEach es X.env) L2.aRfl._auto_1) (hpl : autoParam ((backTo pos (starEach es X.env)).any (·.1) = false) L2.aRfl._auto_1) : PE X (.Call (.Name x p) (e :: es) [] pos) (tCB r t) := by
 intro pins s σ H Q I h
 refine wpAny_Call_Name_kw (Zu I hg hm hv ?_ hn hdb)
 exact PyProof.Rows.callWith_builtin1 (thn (ha pos pins s σ H _ I h) fun us s1 ⟨vs, H1, I1, r1, q1⟩ => hc pins s1 σ H1 vs us Q I1 r1 q1) he hpl
theorem Qw (hc : Ym X (.type T) r) (hg : Gl X x) (hm : X.mg x = none) (hv : bootBuiltins x = some (.type T)) (ha : PA X (e :: es) t) (hn : autoParam (x ≠ "__name__") L2.aDec._auto_1) (hdb : autoParam ((x == ("__debug__" : Str)) = false) L2.aDec._auto_1)
  (he : autoParam (starEach (e :: es) X.env = (false, eval e X.env) :: starEach es X.env) L2.aRfl._auto_1) (hpl : autoParam ((backTo pos (starEach es X.env)).any (·.1) = false) L2.aRfl._auto_1) : PE X (.Call (.Name x p) (e :: es) [] pos) (tCB r t) := by
 intro pins s σ H Q I h
 refine wpAny_Call_Name_kw (Zu I hg hm hv ?_ hn hdb)
 exact PyProof.Rows.callWith_type1 (thn (ha pos pins s σ H _ I h) fun us s1 ⟨vs, H1, I1, r1, q1⟩ => hc pins s1 σ H1 vs us Q I1 r1 q1) he hpl
end
end L2
namespace HT
open PySem PyProof.Rows
section
open PySem.SeqAt
open PySem.AutoSeq1 (wpAny_loadPart')
open PySem.MeetsSeq PySem.MeetsSeq2 PySem.MeetsSeq3
end
section
variable {prog : Program} {w : World} {A : Around} {E : Value → Shared → Prop} {s : Shared}
end
end HT
namespace L2
open PySem PySem.Spec PyProof.Rows
theorem intsAre_of {ns : List Int} : ∀ {us : List Value}, Vals (ns.map V.int) us → IntsAre us ns := by
 induction ns with
 | nil => intro us r; rw [List.map_nil] at r; cases r; exact .nil
 | cons n ns ih =>
  intro us r
  rw [zK] at r
  cases r with
  | cons r1 r2 =>
   obtain ⟨t, e⟩ := r1
   subst e
   exact .cons n t (ih r2)
section
variable {X : Cx} {e : Expr} {te : TE} {lo hi : Option Expr} {tl th : TO} {pos p2 : Pos}
theorem Vals.nil_iff {xs : List V} {us : List Value} (r : Vals xs us) : us = [] ↔ xs = [] := by
 cases r with
 | nil => simp
 | cons _ _ => simp
end
def ixN (n : Nat) (i : Int) : Option Nat := if 0 ≤ i then (if i < n then some i.toNat else none) else if -(n : Int) ≤ i then some (i + n).toNat else none
def atI {α : Type} (xs : List α) (i : Int) : Option α := (ixN xs.length i).bind fun j => xs[j]?
theorem Qcm {n : Nat} {i : Int} {j : Nat} (h : ixN n i = some j) : seqIndex? i n = some j ∧ j < n ∧ -(n : Int) ≤ i ∧ i < n := by
 unfold ixN at h
 by_cases h0 : 0 ≤ i
 ·rw [if_pos h0] at h
  by_cases h1 : i < n
  ·rw [if_pos h1] at h
   have e : i.toNat = j := Option.some.inj h
   exact ⟨by rw [seqIndex_of h0 h1, e], by omega, by omega, h1⟩
  ·rw [if_neg h1] at h; cases h
 ·rw [if_neg h0] at h
  by_cases h1 : -(n : Int) ≤ i
  ·rw [if_pos h1] at h
   have e : (i + n).toNat = j := Option.some.inj h
   exact ⟨by rw [seqIndex_neg (by omega) h1, e], by omega, h1, by omega⟩
  ·rw [if_neg h1] at h; cases h
theorem Qcn {α : Type} {xs : List α} {i : Int} {v : α} (h : atI xs i = some v) : ∃ j, seqIndex? i xs.length = some j ∧ xs[j]? = some v ∧ j < xs.length ∧ -(xs.length : Int) ≤ i ∧ i < xs.length := by
 unfold atI at h
 cases e : ixN xs.length i with
 | none => rw [e] at h; cases h
 | some j =>
  rw [e] at h
  obtain ⟨h1, h2, h3, h4⟩ := Qcm e
  exact ⟨j, h1, h, h2, h3, h4⟩
theorem Qco {α : Type} {xs : List α} {j : Nat} {v : α} (h : xs[j]? = some v) : atI xs (j : Int) = some v := by
 have hj : j < xs.length := (kX.mp h).1
 have e : ixN xs.length (j : Int) = some j := by
  unfold ixN
  rw [if_pos (by omega), if_pos (by omega)]; simp
 unfold atI; rw [e]; exact h
def Qhw (b : Expr) : Prop := ∀ o i, subscripted b false o i = operate [o, i] (getItem o i)
def IxR (X : Cx) (r : R2) : Prop :=
 ∀ (value slice : Expr) (pins : List (Addr × Obj)) (s : Shared) (σ : St) (H : Hp) (x y : V) (v u : Value) (Q : VK), Inv X pins σ H s → RelV x v → RelV y u → r x y H Q →
  subscripted slice false v u = operate [v, u] (getItem v u) → wpAny (model X.prog X.w) X.A (subscriptTail value slice v u) (EP X pins σ Q) X.xe s
def MtR (X : Cx) (id : String) (r : V → List V → Hp → VK → Prop) : Prop :=
 ∀ (pins : List (Addr × Obj)) (s : Shared) (σ : St) (H : Hp) (x : V) (xs : List V) (v : Value) (us : List Value) (Q : VK), Inv X pins σ H s → RelV x v → Vals xs us → r x xs H Q →
  wpAny (model X.prog X.w) X.A (call (.builtin id) (v :: us)) (EP X pins σ Q) X.xe s
section
variable {X : Cx} {a b : Expr} {ta tb : TE} {pos : Pos}
theorem Qq {r : R2} (hr : IxR X r) (ha : PE X a ta) (hb : PE X b tb) (hs : Qhw b) : PE X (.Subscript a b pos) (tOp r ta tb) := by
 intro pins s σ H Q I h
 exact Subscript_ (binT ha hb I h fun v u s2 x y H2 I2 rx ry q => hr a b pins s2 σ H2 x y v u Q I2 rx ry q (hs _ _))
def rIxL (K : Fg) : R2 := fun x y H Q => ∃ p xs i v, x = .ref p ∧ y = .int i ∧ SqL K H p xs ∧ atI xs i = some v ∧ Q v H
def rIxT (K : Fg) : R2 := fun x y H Q => ∃ p xs i v, x = .ref p ∧ y = .int i ∧ SqT K H p xs ∧ atI xs i = some v ∧ Q v H
theorem Xn : IxR X (rIxL X.K) := by
 intro value slice pins s σ H x y v u Q I rx ry h hs
 obtain ⟨p, xs, i, z, rfl, rfl, hq, he, q⟩ := h
 cases rx
 obtain ⟨t, rfl⟩ := ry
 obtain ⟨its, r, pl, hz⟩ := I.list hq
 obtain ⟨j, h1, h2, h3, h4, h5⟩ := Qcn he
 obtain ⟨w, ew, rw'⟩ := r.get h2
 have hl := r.length
 have hn := Qal
 have fin : EP X pins σ Q w s := ⟨z, H, I, rw', q⟩
 by_cases h0 : 0 ≤ i
 ·have hj : i.toNat = j := by
   rw [seqIndex_of h0 h5] at h1
   exact Option.some.inj h1
  exact item_listR pl.isList h0 (by omega) (by rw [hj]; simpa using ew) fin hs
 ·have hj : (i + (its.toArray.size : Int)).toNat = j := by
   rw [seqIndex_neg (by omega) h4] at h1
   rw [jV, ← hl]
   exact Option.some.inj h1
  exact subscriptTail_builtinR (x := w) pl.isList.typeIs slot_list_getitem.lookup
   (wpAny_getItem_list_neg (Q := fun r s' => r = w ∧ EP X pins σ Q r s') pl.isList (by omega) (by rw [jV] <;> omega) (by omega) (by rw [hj]; simpa using ew) ⟨rfl, fin⟩) hs
theorem Qz : IxR X (rIxT X.K) := by
 intro value slice pins s σ H x y v u Q I rx ry h hs
 obtain ⟨p, xs, i, z, rfl, rfl, hq, he, q⟩ := h
 cases rx
 obtain ⟨t, rfl⟩ := ry
 obtain ⟨its, r, pl, hz⟩ := I.tuple hq
 obtain ⟨j, h1, h2, h3, h4, h5⟩ := Qcn he
 obtain ⟨w, ew, rw'⟩ := r.get h2
 have hl := r.length
 have hn := Qal
 have fin : EP X pins σ Q w s := ⟨z, H, I, rw', q⟩
 exact subscriptTail_builtinR (x := w) pl.typeIs slot_tuple_getitem.lookup
  (getItem_tuple (j := j) (Q := fun r s' => r = w ∧ EP X pins σ Q r s') pl (by omega) (by omega) (by rw [jV, ← hl]; exact h1) (by simpa using ew) ⟨rfl, fin⟩) hs
theorem Qbm (its : List Value) (n j : Nat) (u : Value) : Obj.mapSeq (·.setIfInBounds j u) { cls := .type "list", data := .seq its.toArray n } = { cls := .type "list", data := .seq (its.set j u).toArray n } := by
 simp [Obj.mapSeq]
theorem Inv.lst {pins : List (Addr × Obj)} {σ : St} {H : Hp} {s : Shared} {p : Addr} {xs : List V} (I : Inv X pins σ H s) (h : H p = some (.lst xs)) :
  ∃ (its : List Value) (n : Nat), Vals xs its ∧ s.heap.get? p = some { cls := .type "list", data := .seq its.toArray n } ∧ xs.length ≤ sizeLine := by
 obtain ⟨z, its, n, r, e⟩ := I.hok p _ h
 exact ⟨its, n, r, e, z⟩
theorem Inv.lstUpd {pins : List (Addr × Obj)} {σ : St} {H : Hp} {s : Shared} {p : Addr} {xs ys : List V} {its its' : List Value} {n n' : Nat} {f : Obj → Obj} (I : Inv X pins σ H s) (h : H p = some (.lst xs))
  (ho : s.heap.get? p = some { cls := .type "list", data := .seq its.toArray n }) (hf : f { cls := .type "list", data := .seq its.toArray n } = { cls := .type "list", data := .seq its'.toArray n' }) (r : Vals ys its') (hz : ys.length ≤ sizeLine) (t : Nat) :
  Inv X pins σ (upd H p (.lst ys)) { s with heap := s.heap.update p f, toks := t } := by
 have e : (s.heap.update p f).get? p = some { cls := .type "list", data := .seq its'.toArray n' } := by
  rw [jKe f ho (by rw [hf] <;> rfl), hf]
 refine I.write (x := p) (e := p) (by rw [h]; trivial) (.inl rfl) (fun b u hb q => (Heap.get?_update_other _ _ (Ne.symm hb)).trans q) ⟨_, e⟩ ?_
 exact ⟨hz, its', n', r, e⟩
def rSetL : V → V → V → Hp → (Hp → Prop) → Prop := fun o i v H Q => ∃ p xs k j, o = .ref p ∧ i = .int k ∧ H p = some (.lst xs) ∧ ixN xs.length k = some j ∧ Q (upd H p (.lst (xs.set j v)))
theorem set_list : PSet X rSetL := by
 intro pins s σ H o i v ov iv u Q I ro ri rv h
 obtain ⟨p, xs, k, j, rfl, rfl, hp, hj, q⟩ := h
 cases ro
 obtain ⟨t, rfl⟩ := ri
 obtain ⟨its, n, r, ho, hz⟩ := I.lst hp
 obtain ⟨h1, h2, h3, h4⟩ := Qcm hj
 have hl := r.length
 have hn := Qal
 have I' : Inv X pins σ (upd H p (.lst (xs.set j v))) { s with heap := s.heap.update p (Obj.mapSeq (·.setIfInBounds j u)) } :=
  I.lstUpd hp ho (Qbm its n j u) (r.set rv j) (by rw [wJ]; exact hz) s.toks
 by_cases h0 : 0 ≤ k
 ·have hk : k.toNat = j := by
   rw [seqIndex_of h0 h4] at h1
   exact Option.some.inj h1
  exact PySem.W.ki_setAt ho h0 (by omega) (by rw [jV, ← hl]; exact h4) (by rw [hk]; exact ⟨_, I', q⟩)
 ·have hk : (k + (its.toArray.size : Int)).toNat = j := by
   rw [seqIndex_neg (by omega) h3] at h1
   rw [jV, ← hl]
   exact Option.some.inj h1
  exact PySem.W.ki_setBack ho (by omega) (by rw [jV, ← hl]; exact h3) (by omega) (by rw [hk]; exact ⟨_, I', q⟩)
theorem Xd : Ym X (.builtin "len") (fun xs H Q => ∃ p ys, xs = [.ref p] ∧ (SqL X.K H p ys ∨ SqT X.K H p ys) ∧ Q (.int ys.length) H) := by
 intro pins s σ H xs us Q I r h
 obtain ⟨p, ys, rfl, hq, q⟩ := h
 obtain ⟨u, rfl, rx⟩ := vals1 r
 cases rx
 have hn := Qal
 rcases hq with hq | hq
 ·obtain ⟨its, r', pl, hz⟩ := I.list hq
  have hlen := r'.length
  exact Calls.call_len_list pl.isList (by simp only [jV] <;> omega) ⟨.int ys.length, H, I.tok _, ⟨s.toks + 1, by rw [jV, hlen]⟩, q⟩
 ·obtain ⟨its, r', pl, hz⟩ := I.tuple hq
  have hlen := r'.length
  exact len_tuple pl (by simp only [jV] <;> omega) ⟨.int ys.length, H, I.tok _, ⟨s.toks + 1, by rw [jV, hlen]⟩, q⟩
theorem Yc : Ym X (.type "list") (fun xs H Q => ∃ p ys, xs = [.ref p] ∧ (SqL X.K H p ys ∨ SqT X.K H p ys) ∧ ∀ l, H l = none → Q (.ref l) (upd H l (.lst ys))) := by
 intro pins s σ H xs us Q I r h
 obtain ⟨p, ys, rfl, hq, q⟩ := h
 obtain ⟨u, rfl, rx⟩ := vals1 r
 cases rx
 have fin : ∀ (its : List Value), Vals ys its → ys.length ≤ sizeLine → ∀ (h' : Heap) (c' : Nat), (∀ b o', s.heap.get? b = some o' → h'.get? b = some o') →
   h'.get? s.heap.objs.size = some { cls := .type "list", dict := none, data := .seq its.toArray c', slots := #[] } → EP X pins σ Q (.ref s.heap.objs.size) { s with heap := h' } := fun its r' hz h' c' kp e =>
  ⟨.ref s.heap.objs.size, _, I.laid (t' := s.toks) kp (jK _) (show ObjOk X.prog X.w _ h' _ (.lst ys) from ⟨hz, its, c', r', e⟩), rfl, q _ (I.hok.fresh (jK _))⟩
 rcases hq with hq | hq
 ·obtain ⟨its, r', pl, hz⟩ := I.list hq
  have hlen := r'.length
  obtain ⟨o, ho, hc, n, hd⟩ := pl.isList
  exact call_list_seq p (.inl rfl) ho hc hd (fun h' c' kp e => fin its r' hz h' c' kp e) (by simp only [jV] <;> omega)
 ·obtain ⟨its, r', pl, hz⟩ := I.tuple hq
  have hlen := r'.length
  obtain ⟨o, ho, hc, n, hd⟩ := pl
  exact call_list_seq p (.inr rfl) ho hc hd (fun h' c' kp e => fin its r' hz h' c' kp e) (by simp only [jV] <;> omega)
theorem Xf : Ym X (.type "tuple") (fun xs H Q => ∃ p ys, xs = [.ref p] ∧ ((SqL X.K H p ys ∧ ∀ l, H l = none → Q (.ref l) (upd H l (.tup ys))) ∨ (SqT X.K H p ys ∧ Q (.ref p) H))) := by
 intro pins s σ H xs us Q I r h
 obtain ⟨p, ys, rfl, h⟩ := h
 obtain ⟨u, rfl, rx⟩ := vals1 r
 cases rx
 rcases h with ⟨hq, q⟩ | ⟨hq, q⟩
 ·obtain ⟨its, r', pl, hz⟩ := I.list hq
  have hlen := r'.length
  refine call_tuple_list pl.isList (fun h' kp => ?_) (by simp only [jV] <;> omega)
  have I1 : Inv X pins σ H { s with heap := h' } := I.kept (t' := s.toks) kp
  have I2 : Inv X pins σ (upd H h'.objs.size (.tup ys)) { s with heap := h'.push { cls := .type "tuple", data := .seq its.toArray } } :=
   I1.laid (t' := s.toks) (fun b o e => jY _ e) (jK _) (show ObjOk X.prog X.w _ _ _ (.tup ys) from ⟨hz, its, r', IsTup.new _ _⟩)
  exact ⟨.ref h'.objs.size, _, I2, rfl, q _ (I1.hok.fresh (jK _))⟩
 ·obtain ⟨its, r', pl, hz⟩ := I.tuple hq
  exact call_tuple_same pl ⟨.ref p, H, I, rfl, q⟩
def tyV (K : Fg) (T : String) (x : V) (H : Hp) : Prop := match x with
 | .str _ => T = "str"
 | .int _ => T = "int"
 | .ref p => (T = "list" ∧ ∃ xs, SqL K H p xs) ∨ (T = "tuple" ∧ ∃ o, K.lookup p = some o ∧ o.cls = .type "tuple" ∧ o.dict = none) ∨
   (T = "dict" ∧ ((∃ kvs, H p = some (.dK kvs)) ∨ ∃ kvs, H p = some (.dT kvs))) ∨ (T = "set" ∧ ∃ S n, H p = some (.set S n))
 | _ => False
theorem tyV_is {pins : List (Addr × Obj)} {σ : St} {H : Hp} {s : Shared} {T : String} {x : V} {v : Value} (I : Inv X pins σ H s) (r : RelV x v) (ty : tyV X.K T x H) :
  s.TypeIs v T ∧ ∀ a, v = .ref a → ∃ ob, s.heap.get? a = some ob ∧ ob.dict = none := by
 cases x with
 | str z =>
  obtain ⟨t, rfl⟩ := r
  cases (show T = "str" from ty)
  exact ⟨typeIs_str s z t, fun _ e => nomatch e⟩
 | int i =>
  obtain ⟨t, rfl⟩ := r
  cases (show T = "int" from ty)
  exact ⟨typeIs_int s i t, fun _ e => nomatch e⟩
 | ref p =>
  cases r
  rcases ty with ⟨rfl, xs, hq⟩ | ⟨rfl, o, hk, hc, hd⟩ | ⟨rfl, hk⟩ | ⟨rfl, S, n, hk⟩
  ·obtain ⟨its, _, pl, _⟩ := I.list hq
   refine ⟨pl.isList.typeIs, fun a e => ?_⟩
   cases e
   obtain ⟨o, n, e, c, hd, _⟩ := pl
   exact ⟨o, e, hd⟩
  ·refine ⟨⟨o, I.kIn p o hk, hc⟩, fun a e => ?_⟩
   cases e
   exact ⟨o, I.kIn _ o hk, hd⟩
  ·have z : ∃ o, s.heap.get? p = some o ∧ o.ExactDict := by
    rcases hk with ⟨kvs, hk⟩ | ⟨kvs, hk⟩
    ·obtain ⟨_, _, _, _, o, _, _, e, ex, _⟩ := I.hok p _ hk
     exact ⟨o, e, ex⟩
    ·obtain ⟨_, _, _, _, o, _, _, e, ex, _⟩ := I.hok p _ hk
     exact ⟨o, e, ex⟩
   obtain ⟨o, e, ex⟩ := z
   refine ⟨⟨o, e, ex.1⟩, fun a e2 => ?_⟩
   cases e2
   exact ⟨o, e, ex.2.1⟩
  ·obtain ⟨o, _, _, _, e, ex, _⟩ := I.hok p _ hk
   refine ⟨⟨o, e, ex.1⟩, fun a e2 => ?_⟩
   cases e2
   exact ⟨o, e, ex.2.1⟩
 | _ => exact False.elim ty
def tBM (K : Fg) (T : String) (r : V → List V → Hp → VK → Prop) (to : TE) (t : TA) : TE := fun σ H Q => to σ H fun x H1 => tyV K T x H1 ∧ t σ H1 fun xs H2 => r x xs H2 Q
variable {o e : Expr} {es : List Expr} {to : TE} {t : TA} {name : Str} {apos cpos : Pos} {T id : String} {r : V → List V → Hp → VK → Prop}
theorem Vl (pa : PlainAttrs T) (slot : Slot T name id) (hty : typeOf (.builtin id) = pure (.type "method_descriptor")) (hm : MtR X id r) (ho : PE X o to) (ha : PA X (e :: es) t)
  (hbase : autoParam (attributeBase o name X.env (eval o X.env) = eval o X.env) L2.aRfl._auto_1)
  (hfew : ((backTo cpos (starEach (e :: es) X.env)).all (fun x => !x.1) && (backToKw cpos (keywordEach [] X.env)).all (fun x => x.1.isSome)
   && decide ((e :: es).length + ([] : List Keyword).length + (if ([] : List Keyword).isEmpty then 0 else 1) < 30)) = true := by rfl)
  (hline : autoParam ((apos.endLine == cpos.line) = true) L2.aRfl._auto_1) (hs : autoParam (starEach (e :: es) X.env = (false, eval e X.env) :: starEach es X.env) L2.aRfl._auto_1) (hplain : autoParam ((backTo cpos (starEach es X.env)).any (·.1) = false) L2.aRfl._auto_1) :
  PE X (.Call (.Attribute o name apos) (e :: es) [] cpos) (tBM X.K T r to t) := by
 intro pins s σ H Q I h
 refine wpAny_Call_method_late hbase hfew hline rfl (thn (ho pins s σ H _ I h) fun v s1 hqP => ?_)
 obtain ⟨x, H1, I1, r1, ty, q1⟩ := hqP
 obtain ⟨h1, h2⟩ := tyV_is I1 r1 ty
 refine ⟨T, id, pa, slot, hty, h1, h2, ?_⟩
 have hA := ha cpos pins s1 σ H1 _ I1 q1
 rw [hs] at hA ⊢
 refine Calls.callWith_builtin (by show (false || (backTo cpos (starEach es X.env)).any (·.1)) = false; rw [hplain] <;> rfl) (Calls.evalArgs_plain ?_)
 exact thn hA fun us s2 ⟨vs, H2, I2, r2, q2⟩ => hm pins s2 σ H2 x vs v us Q I2 r1 r2 q2
/- xs.append(e), list.index on a module's tuple .. are MtR facts of 06m -/
end
def MtM (X : Cx) (id : String) (r : V → List V → Hp → VK → Prop) : Prop :=
 ∀ (pins : List (Addr × Obj)) (s : Shared) (σ : St) (H : Hp) (x : V) (xs : List V) (v : Value) (us : List Value) (Q : VK), Inv X pins σ H s → RelV x v → Vals xs us → r x xs H Q →
  wpAny (model X.prog X.w) X.A (call (.builtin id) (v :: us)) (EP X pins σ Q) X.xe s
theorem Vals.one {x : V} {us : List Value} (h : Vals [x] us) : ∃ u, us = [u] ∧ RelV x u := by
 cases h with
 | cons r t => cases t; exact ⟨_, rfl, r⟩
theorem Vals.two {x y : V} {us : List Value} (h : Vals [x, y] us) : ∃ u v, us = [u, v] ∧ RelV x u ∧ RelV y v := by
 cases h with
 | cons r t =>
  cases t with
  | cons q t => cases t; exact ⟨_, _, rfl, r, q⟩
theorem Vals.rep {xs : List V} {us : List Value} (h : Vals xs us) : ∀ k : Nat, Vals (List.replicate k xs).flatten (List.replicate k us).flatten
 | 0 => .nil
 | k + 1 => by
  rw [wX, wX, jXd, jXd]
  exact Vals.append h (Vals.rep h k)
theorem foldl_rep (its : List Value) : ∀ (k : Nat) (acc : List Value),
  List.foldl (fun x1 x2 => x1 ++ x2) acc.toArray (List.replicate k its.toArray) = (acc ++ (List.replicate k its).flatten).toArray
 | 0, acc => by simp
 | k + 1, acc => by
  have e : acc.toArray ++ its.toArray = (acc ++ its).toArray := by simp
  have e2 : (acc ++ its) ++ (List.replicate k its).flatten = acc ++ (List.replicate (k + 1) its).flatten := by
   rw [wX, jXd, List.append_assoc]
  rw [← e2, ← foldl_rep its k (acc ++ its), ← e, wX, List.foldl_cons]
section
variable {X : Cx} {pins : List (Addr × Obj)} {σ : St} {H : Hp} {s : Shared} {l b : Addr} {xs ys zs : List V}
theorem Inv.lset {its its' : List Value} {n : Nat} {f : Array Value → Array Value} {t' : Nat} (I : Inv X pins σ H s) (hH : H l = some (.lst xs))
  (e : s.heap.get? l = some { cls := .type "list", data := .seq its.toArray n }) (hf : f its.toArray = its'.toArray) (hv : Vals ys its') (hz : ys.length ≤ sizeLine) :
  Inv X pins σ (upd H l (.lst ys)) { s with heap := s.heap.update l (Obj.mapSeq f), toks := t' } := by
 have q := PySem.IsL.update e f
 rw [hf] at q
 refine I.write (x := l) (e := l) (by rw [hH]; exact trivial) (.inl rfl) (fun b' u hb hu => (Heap.get?_update_other s.heap (Obj.mapSeq f) (Ne.symm hb)).trans hu) ⟨_, q⟩ ?_
 exact ⟨hz, its', _, hv, q⟩
theorem Inv.lnew {its : List Value} {t' : Nat} (I : Inv X pins σ H s) (hv : Vals ys its) (hz : ys.length ≤ sizeLine) :
  Inv X pins σ (upd H s.heap.objs.size (.lst ys)) { s with heap := s.heap.push { cls := .type "list", data := .seq its.toArray }, toks := t' } :=
 I.laid (fun _ _ q => jY _ q) (jK _) ⟨hz, its, 0, hv, kZ _ rfl⟩
theorem Inv.fresh (I : Inv X pins σ H s) : H s.heap.objs.size = none := I.hok.fresh (jK _)
theorem Inv.lstM (I : Inv X pins σ H s) (hH : H l = some (.lst xs)) : xs.length ≤ sizeLine ∧ ∃ (its : List Value) (n : Nat), Vals xs its ∧ xs.length = its.length ∧ s.heap.get? l = some { cls := .type "list", data := .seq its.toArray n } := by
 obtain ⟨z, its, n, r, e⟩ := I.hok l _ hH
 exact ⟨z, its, n, r, r.length, e⟩
theorem Qew {n : Nat} (h : n ≤ sizeLine) : Builtin.List.listTooLong n = false := by
 unfold Builtin.List.listTooLong
 exact kJ (by omega)
end
section
variable {X : Cx}
def Qhx : V → List V → Hp → VK → Prop := fun x vs H Q => ∃ l xs y, x = .ref l ∧ vs = [y] ∧ H l = some (.lst xs) ∧ xs.length < sizeLine ∧ Q .non (upd H l (.lst (xs ++ [y])))
theorem Xk : MtM X "list.append" Qhx := by
 intro pins s σ H x vs v us Q I rx rv h
 obtain ⟨l, xs, y, rfl, rfl, hH, hz, q⟩ := h
 cases rx
 obtain ⟨u, rfl, ru⟩ := rv.one
 obtain ⟨z, its, n, r, hl, e⟩ := I.lstM hH
 refine call_meets F.slot_list_append ⟨_, e, rfl⟩ F.entry_list_append (F.args_list_append_2 _ _) (PySem.list_append l its.toArray n u (by rw [jV]; omega)) ⟨e, ?_⟩
 refine ⟨.non, _, I.lset (its' := its ++ [u]) hH e (by simp) (r.append (.cons ru .nil)) ?_, rfl, q⟩
 rw [yY, jKf]
 omega
def rCat : R2 := fun x y H Q => ∃ l b xs zs, x = .ref l ∧ y = .ref b ∧ H l = some (.lst xs) ∧ H b = some (.lst zs) ∧ xs.length + zs.length ≤ sizeLine ∧ ∀ p, H p = none → Q (.ref p) (upd H p (.lst (xs ++ zs)))
theorem op_cat : OpR X (binaryOp .Add) rCat := by
 intro pins s σ H x y v u Q I rx ry h
 obtain ⟨l, b, xs, zs, rfl, rfl, hH, hB, hz, q⟩ := h
 cases rx
 cases ry
 obtain ⟨z, its, n, r, hl, e⟩ := I.lstM hH
 obtain ⟨z2, its2, n2, r2, hl2, e2⟩ := I.lstM hB
 refine PySem.P.add_list e e2 ?_ (by rw [jV, jV]; omega)
 have ea : its.toArray ++ its2.toArray = (its ++ its2).toArray := by simp
 rw [ea]
 exact ⟨.ref _, _, I.lnew (t' := s.toks) (r.append r2) (by rw [yY]; omega), rfl, q _ I.fresh⟩
def rRep : R2 := fun x y H Q => ∃ l k xs, x = .ref l ∧ y = .int k ∧ H l = some (.lst xs) ∧ -(2 ^ 63) ≤ k ∧ k < 2 ^ 63 ∧ xs.length * k.toNat ≤ sizeLine ∧
 ∀ p, H p = none → Q (.ref p) (upd H p (.lst (List.replicate k.toNat xs).flatten))
theorem len_rep {α : Type} (xs : List α) (k : Nat) : (List.replicate k xs).flatten.length = k * xs.length := by
 induction k with
 | zero => simp
 | succ k ih => rw [wX, jXd, yY, ih, Nat.succ_mul, Nat.add_comm]
theorem op_rep : OpR X (binaryOp .Mult) rRep := by
 intro pins s σ H x y v u Q I rx ry h
 obtain ⟨l, k, xs, rfl, rfl, hH, h1, h2, hz, q⟩ := h
 cases rx
 obtain ⟨t, rfl⟩ := ry
 obtain ⟨z, its, n, r, hl, e⟩ := I.lstM hH
 have hlen : its.toArray.size * k.toNat ≤ sizeLine := by rw [jV, ← hl]; exact hz
 have hcap : ¬ its.toArray.size * k.toNat > (2 ^ 63 - 1) / 8 := by
  have : (sizeLine : Nat) ≤ (2 ^ 63 - 1) / 8 := by decide
  omega
 have hfit : ¬ (!Builtin.List.listFitsIndex k) = true := by
  rw [fitsIndex_both h1 h2]
  exact jW
 have hlong : ¬ Builtin.List.listTooLong (its.toArray.size * k.toNat) = true := by
  rw [Qew hlen]
  exact jW
 have hnew : List.foldl (fun x1 x2 => x1 ++ x2) #[] (List.replicate (if its.toArray.isEmpty = true then 0 else k.toNat) its.toArray) = (List.replicate k.toNat its).flatten.toArray := by
  have f0 : ∀ m : Nat, List.foldl (fun x1 x2 => x1 ++ x2) #[] (List.replicate m its.toArray) = (List.replicate m its).flatten.toArray := fun m => by
   have := foldl_rep its m []
   rw [List.nil_append] at this
   exact this
  rw [f0]
  cases its with
  | nil => simp
  | cons a r' => rw [if_neg (by simp)]
 refine wpAny_binaryOp_repeat_ref (T := "list") (U := "int") (by decide) ⟨_, e, rfl⟩ (fun s' => typeIs_int s' k t) noFill_list_mul F.fills_int_mul F.slot_int_rmul repeat_list F.slot_int_index.lookup
  (call_meets F.slot_int_rmul (typeIs_int s k t) F.entry_int_rmul (F.args_int_rmul_2 _ _) (int___rmul___int_list k t l its.toArray n)
   ⟨e, rfl, ⟨_, e, rfl⟩, call_meets F.slot_list_mul ⟨_, e, rfl⟩ F.entry_list_mul (F.args_list_mul_2 _ _) (AutoListH.list___mul___list_int_3 l its.toArray n k t hfit hcap hlong) ⟨e, ?_⟩⟩)
 rw [hnew]
 exact ⟨.ref _, _, I.lnew (t' := s.toks) (r.rep k.toNat) (by rw [len_rep, Nat.mul_comm]; exact hz), rfl, q _ I.fresh⟩
end
section
variable {prog : Program} {w : World} {A : Around} {E : Value → Shared → Prop} {s : Shared}
end
section
variable {X : Cx}
end
end L2
namespace Att
open PySem PySem.W PySem.Calls PyProof.Rows
theorem Jj {P : Params} {h : Heap} : ∀ (ns : List Int) (vs : List Value), WellAll P h vs (ns.map WData.int) → IntsAre vs ns := by
 intro ns
 induction ns with
 | nil =>
  intro vs w
  rw [List.map_nil] at w
  cases w
  exact .nil
 | cons n ns ih =>
  intro vs w
  rw [zK] at w
  cases w with
  | cons a b =>
   cases a
   exact .cons _ _ (ih _ b)
theorem Qcp {l : OpenLaw} {n : Nat} (hn : l.most = some n) {P : Params} {h : Heap} {args : List WData} {vals : List Value}
  (hpre : l.row.toRowW.claim.pre args = true) (hwl : WellAll P h vals args) :
  ∃ a vs ns, vals = [Value.ref a] ∧ args = [WData.list (ns.map WData.int)] ∧ h.get? a = some { cls := .type "list", data := .seq vs.toArray } ∧ IntsAre vs ns ∧ ns.length ≤ n := by
 have hsh : WShape.hasAll [] args [.list .int] = true := (pre_splitW hpre).1
 have hc : l.pre.holds [] { args := args } = true := (pre_splitW hpre).2
 obtain ⟨d, r, rfl, h1, h2⟩ := hasAllW_cons hsh
 obtain rfl := hasAllW_nil h2
 obtain ⟨xs, rfl, h3⟩ := hasW_list h1
 obtain ⟨ns, rfl⟩ := items_int h3
 have hlen : ns.length ≤ n := by
  unfold OpenLaw.pre at hc
  have h4 : (WTm.not (.lt (.lit (.int (n : Int))) (.len (.arg 0)))).holds [] { args := [.list (ns.map .int)] } = true := by
   have h4 := (holds_andW hc).1
   rw [hn] at h4
   exact h4
  have h5 := condW_of h4 (w_not (w_lt w_lit (w_len_list (w_arg rfl))))
  rw [jX] at h5
  refine Nat.le_of_not_lt fun q => ?_
  have q' : (n : Int) < ((ns.length : Nat) : Int) := by omega
  first
   | (rw [kW q'] at h5; exact absurd h5 (by decide))
   | (simp at h5; omega)
 cases hwl with
 | cons w1 w2 =>
  cases w2
  cases w1 with
  | list ho hall => exact ⟨_, _, ns, rfl, rfl, ho, Jj ns _ hall, hlen⟩
theorem Qcq (l : OpenLaw) (args : List WData) : l.row.toRowW.claim.post args (.bool true) args = true :=
 postW_of (r := l.row.toRowW) (X := (true == true))
  (show WShape.has [] (.bool true) .bool = true by first | rfl | decide | simp [WShape.has, WShape.arms, WShape.armsAll])
  (show (WTm.eq .res (.lit (.bool true))).value [] { args := args, res := some (.bool true), after := args } = some (.bool (true == true)) from w_eq_bool (w_res rfl) w_lit) rfl
theorem attach_call {l : OpenLaw} {n : Nat} {q : Program} {loose : List Str} {XP : (Str → Option Value) → Heap → Prop} {YP : World → Heap → Prop} {d : DefRec}
  (hn : l.most = some n) (hdf : d.params.defaults = [])
  (call : ∀ (w : World) (s₀ s₁ : Shared) (mg mb : Str → Option Value) (fa : Addr) (o : Obj) (pm cd doc : Value) (a : Addr) (vs : List Value) (ns : List Int),
   Ground q loose [] XP w s₀ mg mb s₁.heap → YP w s₁.heap →
   s₁.heap.get? fa = some o → o.data = .func (docDef d.name d.params d.body d.scope pm cd doc) → s₁.heap.CodeRec cd d.name → mg d.name = some (.ref fa) →
   s₁.heap.get? a = some { cls := .type "list", data := .seq vs.toArray } → IntsAre vs ns → ns.length ≤ n → s₁.gens = #[] →
   codeAny (model l.prog w) callerA (.call (.ref fa) ⟨[.ref a], []⟩) (fun r s' => r = .ok (.ret (.bool true)) ∧ OldK s₁.heap s'.heap ∧ s'.os = s₁.os ∧ AllBare s'.gens) s₁) :
  WalkO q loose XP YP l.row.toRowW d [] (fun f vs => PySem.call f vs) := by
 intro w s₀ s₁ mg mb G Y fa o pm cd doc dV kV ho hd hcd hD hmg hg args vals as hpre hlay hrd hwl hlo
 obtain rfl : dV = .none := Dflts.none hD hdf
 obtain rfl : kV = .none := Dflts.noKw hD
 obtain ⟨a, vs, ns, rfl, rfl, hobj, hints, hlen⟩ := Qcp hn hpre hwl
 refine enter_call (codeAny_mono (call w s₀ s₁ mg mb fa o pm cd doc a vs ns G Y ho (fd_plain hd) hcd hmg hobj hints hlen hg) fun r s' hq => ?_)
 obtain ⟨rfl, h2, h3, h4⟩ := hq
 exact ⟨.inl ⟨.bool true, .bool true, [], rfl, fun _ => rfl, .bool true, Qcq l _, fun _ => ⟨List.Pairwise.nil, fun _ hm => (nomatch hm)⟩⟩, h2, h3, h4⟩
section
variable {prog : Program} {w : World} {A : Around} {E : Value → Shared → Prop} {s : Shared} {K : Frag}
end
end Att
namespace L2
open PySem PySem.Spec PyProof.Rows
theorem Vm : ∀ {vs : List Value} {ns : List Int}, IntsAre vs ns → Vals (ns.map V.int) vs
 | _, _, .nil => .nil
 | _, _, .cons n t h => .cons ⟨t, rfl⟩ (Vm h)
def Only (H : Hp) : Prop := ∀ b, H b = none ∨ ∃ o xs, H b = some (.frz o (.lst xs))
theorem Qex {P : Program} {w : World} {K : Fg} {mg mb : Str → Option Value} {CX : CXT} {k : Nat} {fa a : Addr} {fd : FuncData} {x : Str} {sp : Sp} {s₁ : Shared} {vs : List Value} {ns : List Int}
  (KX : K.In s₁.heap) (hns : s₁.heap.Ns mainGlobals mg) (hb : s₁.heap.Ns builtinsNs mb) (hbb : ∀ x : Str, x ≠ "__name__" → mb x = bootBuiltins x) (hlim : s₁.heap.NoLimit) (hg : s₁.gens = #[])
  (ha : s₁.heap.get? a = some { cls := .type "list", data := .seq vs.toArray }) (hi : IntsAre vs ns) (hl : ns.length ≤ sizeLine) (hr : Room k callerA)
  (F : ∀ base : Heap, K.In base → base.Ns mainGlobals mg → FnOk P w K mg base CX k fa fd [x] sp) (hbind : ∀ (s : Shared) (u : Value), BindsTo s fd ⟨[u], []⟩ [(x, u)])
  (hsp : ∀ H : Hp, Only H → SqL K H a (ns.map V.int) → sp [.ref a] H (fun v _ => v = .bl true) fun _ _ _ => False)
  (hCX : ∀ H e s', CX [] H s₁ (fun _ _ _ => False) e s' → False) :
  codeAny (model P w) callerA (.call (.ref fa) ⟨[.ref a], []⟩) (fun r s' => r = .ok (.ret (.bool true)) ∧ OldK s₁.heap s'.heap ∧ s'.os = s₁.os ∧ AllBare s'.gens) s₁ := by
 have rv := Vm hi
 have lenV := hi.length
 -- from an abstract heap in which nothing but the script may be tracked
 have core : ∀ H : Hp, Only H → SqL K H a (ns.map V.int) → HOk P w H s₁.heap → (∀ b, H b ≠ none → b = a) → (H a ≠ none → K.lookup a = none) →
   codeAny (model P w) callerA (.call (.ref fa) ⟨[.ref a], []⟩) (fun r s' => r = .ok (.ret (.bool true)) ∧ OldK s₁.heap s'.heap ∧ s'.os = s₁.os ∧ AllBare s'.gens) s₁ := by
  intro H hO hS hok hA hK
  have base_of : ∀ {b : Addr} {o : Obj}, s₁.heap.get? b = some o → H b = none → (hidT s₁.heap H).get? b = some o := fun e n => Qet e n
  have noA : ∀ {b : Addr} {o : Obj} {es : Array DictEntry} {ep : Nat}, s₁.heap.get? b = some o → o.data = .dict es ep → H b = none := fun {b o es ep} e d => by
   cases q : H b with
   | none => rfl
   | some u =>
    have e' : b = a := hA b (by rw [q]; simp)
    subst e'
    rw [ha] at e; cases e
    have d' : Data.seq vs.toArray _ = Data.dict es ep := d
    cases d'
  have nsK : ∀ {b : Addr} {m : Str → Option Value}, s₁.heap.Ns b m → (hidT s₁.heap H).Ns b m := fun {b m} ⟨o, es, ep, e, d, r⟩ => ⟨o, es, ep, base_of e (noA e d), d, r⟩
  have hKb : K.In (hidT s₁.heap H) := fun b o e => base_of (KX b o e) (by
   cases q : H b with
   | none => rfl
   | some u =>
    have e' : b = a := hA b (by rw [q]; simp)
    subst e'
    rw [hK (by rw [q]; simp)] at e; cases e)
  have hM : Mod K mg (hidT s₁.heap H) := ⟨hKb, nsK hns, ⟨mb, nsK hb, hbb⟩, let ⟨mc, h1, h2⟩ := hlim; ⟨mc, nsK h1, h2⟩⟩
  have e0 : Env0 P w K mg (hidT s₁.heap H) callerA [] s₁ H := ⟨rfl, hM, fun b o e => Qho e, Nat.le_of_eq (Qca _ _), trivial, fun b hb => absurd (show b ∈ ([] : List Addr) from hb) (by simp), hok, .of_eq hg⟩
  refine codeAny_mono ((F _ hKb (nsK hns)).run callerA [] s₁ H ⟨[.ref a], []⟩ [.ref a] [.ref a] _ _ hr e0 (hbind s₁ (.ref a)) (.cons rfl .nil) (hsp H hO hS)) fun r s' h => ?_
  cases r with
  | error e => exact (hCX H e s' h).elim
  | ok fl =>
   cases fl with
   | next => exact False.elim h
   | brk => exact False.elim h
   | cont => exact False.elim h
   | ret u =>
    obtain ⟨v, H', os, bare, un, hok', r', q⟩ := h
    have q' : v = .bl true := q
    subst q'
    obtain rfl : u = Value.bool true := r'
    refine ⟨rfl, OldK.of_keep fun b o e => ?_, os, bare⟩
    cases q : H b with
    | none => exact un.keep b o e q (by intro z; exact absurd (show b ∈ ([] : List Addr) from z) (by simp)) (by simp)
    | some u =>
     rcases hO b with z | ⟨ob, xs, z⟩
     ·rw [q] at z; cases z
     ·have z2 := un.frzs b ob _ z
      obtain ⟨e1, _⟩ := hok b _ z
      obtain ⟨e2, _⟩ := hok' b _ z2
      rw [e] at e1; cases e1
      exact e2
 cases hk : K.lookup a with
 | some o =>
  -- the script is one of the module's own objects
  have e := KX a o hk
  rw [ha] at e
  cases e
  refine core (fun _ => none) (fun _ => .inl rfl) (.inr ⟨_, vs.toArray, _, hk, rfl, rfl, rfl, by rw [jV, lenV]; exact hl, by simpa using rv⟩) (fun b u z => by have z' : (none : Option HO) = some u := z; cases z') (fun b z => absurd rfl z) fun z => absurd rfl z
 | none =>
  refine core (fun b => if b = a then some (.frz { cls := .type "list", data := .seq vs.toArray } (.lst (ns.map V.int))) else none) (fun b => ?_) (.inl (.inr ⟨{ cls := .type "list", data := .seq vs.toArray }, if_pos rfl⟩)) (fun b u z => ?_) (fun b z => ?_) fun _ => hk
  ·by_cases hb : b = a
   ·exact .inr ⟨_, _, if_pos hb⟩
   ·exact .inl (if_neg hb)
  ·by_cases hb : b = a
   ·have z' := (if_pos hb).symm.trans z
    cases z'
    subst hb
    exact ⟨ha, by rw [jX]; exact hl, vs, _, rv, ha⟩
   ·have z' := (if_neg hb).symm.trans z
    cases z'
  ·by_cases hb : b = a
   ·exact hb
   ·exact absurd (if_neg hb) z
abbrev KOf {K : Fg} {h : Heap} (_ : K.In h) : Fg := K
theorem Qcr {l : PySem.W.OpenLaw} {n k : Nat} {q : Program} {loose : List Str} {XP : (Str → Option Value) → Heap → Prop} {YP : World → Heap → Prop} {d : DefRec} {K : Params → Fg} {CX : World → CXT} {sp : World → Sp} {x : Str}
  (hn : l.most = some n) (hn2 : n ≤ sizeLine) (hdf : d.params.defaults = []) (hr : Room k callerA)
  (hY : ∀ (w : World) (h : Heap), YP w h → (K w.params).In h)
  (F : ∀ (w : World) (mg : Str → Option Value) (fa : Addr) (h : Heap), (K w.params).In h → h.Ns mainGlobals mg → mg d.name = some (.ref fa) →
   ∃ fd : FuncData, (∀ (s : Shared) (u : Value), BindsTo s fd ⟨[u], []⟩ [(x, u)]) ∧
    ∀ base : Heap, (K w.params).In base → base.Ns mainGlobals mg → FnOk l.prog w (K w.params) mg base (CX w) k fa fd [x] (sp w))
  (hsp : ∀ (w : World) (H : Hp) (a : Addr) (ns : List Int), ns.length ≤ n → Only H → SqL (K w.params) H a (ns.map V.int) → sp w [.ref a] H (fun v _ => v = .bl true) fun _ _ _ => False)
  (hCX : ∀ (w : World) (H : Hp) (s : Shared) (e : Value) (s' : Shared), CX w [] H s (fun _ _ _ => False) e s' → False) :
  PySem.W.WalkO q loose XP YP l.row.toRowW d [] (fun f vs => PySem.call f vs) := by
 refine Att.attach_call hn hdf fun w s₀ s₁ mg mb fa o pm cd doc a vs ns G Y ho hd hcd hmg hobj hints hlen hg => ?_
 have KX := hY w _ Y
 obtain ⟨fd, hb, hF⟩ := F w mg fa _ KX G.T.g hmg
 exact Qex KX G.T.g G.T.b G.T.builtins G.T.nolimit hg hobj hints (wK hlen hn2) hr hF hb (fun H hO hS => hsp w H a ns hlen hO hS) fun H e s' => hCX w H s₁ e s'
end L2
/- THE LAST THEOREM (shape; LID, My.* are yours):
   My.Adr: a structure of the addresses that your layer names (classes, functions); My.Txt K t: a structure (Prop) of the equations over K;
   My.txt_mk : {K} {implicit addresses ..} (e1 : nsIn K mainGlobals "law" = some (some (.ref f))) (e2 : K.lookup f = some ⟨oc, od, .func (fnOf "law" "law" params body scope dV kV doc pm an cdv ct), sl⟩) (e3 : codeIn K cdv "law" = true) .. : ∃ t, My.Txt K t
set_option maxRecDepth 100000 in
set_option maxHeartbeats 0 in
theorem PySem.Challenge.cw_LID_holds : PySem.Challenge.rw_LID.Holds := by
 w_on; o_law; k_head; (case hw => w_witness2)
 k_fill
 refine L2.Qcr (l := PySem.Challenge.rw_LID) (n := 63) (k := 40) (x := "script") (CX := fun w => ..) (sp := fun _ => My.sp_law) rfl (by decide) rfl ⟨rfl, by decide, by decide⟩ (fun w h Y => PySem.W.kIn_of Y) ?F ?S ?C
 case F =>
  intro w mg fa h KX G hmg
  have T : ∃ t, My.Txt (L2.KOf KX) t := by
   dsimp only [L2.KOf]                          -- K must stand as «<heap const> w.params» for k_is
   refine' My.txt_mk ?e1 ?e2 ?e3 ..
   (case e1 => PySem.W.k_is)                    -- in the order: a name -> its address -> its object -> its parts
   (case e2 => PySem.W.k_is)
   ..
  obtain ⟨t, T⟩ := T
  have e0 := hmg.symm.trans (PySem.W.mg_of KX G T.law)
  cases e0                                       -- fa is the law's own address
  exact ⟨_, fun s u => .of_eq rfl, fun base kb nb => My.law_fn T kb nb⟩     -- if «.of_eq rfl» comes too early: refine' ⟨_, ?b, fun base kb nb => My.law_fn T kb nb⟩; exact fun s u => .of_eq rfl
 case S => exact fun w H a ns hl hO hS => ..
 case C => exact ..
(the tactic k_is has no namespace: write k_is) -/
namespace L2
open PySem PySem.Spec PyProof.Rows
def Qt (s : Stmt) : Arguments := match s with
 | .FunctionDef _ a _ _ _ _ _ _ _ _ => a
 | _ => { posonlyargs := [], args := [], vararg := none, kwonlyargs := [], kw_defaults := [], kwarg := none, defaults := [] }
def Qn (s : Stmt) : List Stmt := match s with
 | .FunctionDef _ _ b _ _ _ _ _ _ _ => b
 | _ => []
def Qh (s : Stmt) : Scope := match s with
 | .FunctionDef _ _ _ _ _ _ sc _ _ _ => sc
 | _ => { kind := .function, names := [], isGenerator := false, isCoroutine := false }
abbrev CX0 : CXT := fun _ _ _ _ _ _ => False
abbrev E0 : XK := fun _ _ _ => False
theorem pass0 {X : Cx} : Qck CX0 X E0 := fun _ _ _ _ _ _ _ h => h.elim
structure Fun (K : Fg) (x qual : Str) (st : Stmt) (f : Addr) (fd : FuncData) : Prop where
 ex : ∃ (oc : Value) (od : Option Addr) (kV doc pm : Value) (an : Option Addr) (cdv ct : Value) (osl : Array (Option Value)),
  fd = PySem.W.fnOf x qual (Qt st) (Qn st) (Qh st) .none kV doc pm an cdv ct ∧ K.lookup f = some ⟨oc, od, .func fd, osl⟩ ∧ PySem.W.codeIn K cdv qual = true
 kp : PySem.W.keepIn K (.ref f) = true
section
variable {P : Program} {w : World} {K : Fg} {mg : Str → Option Value} {base : Heap}
theorem Fun.ok {x qual : Str} {st : Stmt} {f : Addr} {fd : FuncData} {N ps : List Str} {k : Nat} {sp : Sp} (F : Fun K x qual st f fd) (S : FnScope N ps (Qh st)) (len : ∀ vs H Q E, sp vs H Q E → vs.length = ps.length)
  (hbody : ∀ (cdv : Value) (A : Around) (outer : List Env) (s : Shared) (H : Hp) (vs : List V) (Q : VK) (E : XK), Room k (A.deeper (envOfC qual (Qh st) s.heap.objs.size f cdv)) → sp vs H Q E →
   ∃ t, PSs (cxOf CX0 P w K mg base N qual (Qh st) f cdv A outer s H E).nox (Qn st) t ∧ t { nx := fun _ H' => Q .non H', rt := Q } (start N vs) H) : FnOk P w K mg base CX0 (k + 1) f fd ps sp := by
 obtain ⟨oc, od, kV, doc, pm, an, cdv, ct, osl, rfl, lk, hcd⟩ := F.ex
 refine fn_of lk hcd S len fun A outer s H vs Q E hr hsp => ?_
 obtain ⟨t, h, q⟩ := hbody cdv A outer s H vs Q E hr hsp
 exact ⟨t, h.nox, q⟩
theorem Fun.binds {x qual : Str} {st : Stmt} {f : Addr} {fd : FuncData} {ps : List Str} (F : Fun K x qual st f fd)
  (h : ∀ (kV doc pm : Value) (an : Option Addr) (cdv ct : Value) (us : List Value), us.length = ps.length → bindArgs (PySem.W.fnOf x qual (Qt st) (Qn st) (Qh st) .none kV doc pm an cdv ct) ⟨us, []⟩ = pure (ps.zip us)) : Binds K fd ps [] := by
 obtain ⟨oc, od, kV, doc, pm, an, cdv, ct, osl, rfl, lk, hcd⟩ := F.ex
 exact .all (h kV doc pm an cdv ct)
theorem fun_mk {x qual : Str} {st : Stmt} {f : Addr} {oc : Value} {od an : Option Addr} {osl : Array (Option Value)} {kV doc pm cdv ct : Value} (l : K.lookup f = some ⟨oc, od, .func (PySem.W.fnOf x qual (Qt st) (Qn st) (Qh st) .none kV doc pm an cdv ct), osl⟩)
  (c : PySem.W.codeIn K cdv qual = true) (k : PySem.W.keepIn K (.ref f) = true) : Fun K x qual st f (PySem.W.fnOf x qual (Qt st) (Qn st) (Qh st) .none kV doc pm an cdv ct) := ⟨⟨oc, od, kV, doc, pm, an, cdv, ct, osl, rfl, l, c⟩, k⟩
end
section
variable {X : Cx}
theorem pv (i : Nat) {x : Str} {pos : Pos} (hN : autoParam (X.N[i]? = some x) L2.aRfl._auto_1) (hv : Vis X.env.scope x := by first | exact Or.inl rfl | exact Or.inr (Or.inl rfl) | exact Or.inr (Or.inr rfl)) (hd : autoParam ((x == ("__debug__" : Str)) = false) L2.aDec._auto_1)
  (hcd : autoParam ((x == ("__classdict__" : Str)) = false) L2.aDec._auto_1) : PE X (.Name x pos) (tVar i) := pe_var hN hv hd hcd
end
theorem iteF {A B : Prop} (h : B) : if false = true then A else B := by
 rw [if_neg jW]
 exact h
theorem iteT {A B : Prop} (h : A) : if true = true then A else B := by
 rw [if_pos rfl]
 exact h
theorem ite2 {c A B : Prop} [Decidable c] (h1 : c → A) (h2 : ¬ c → B) : if c then A else B := by
 by_cases h : c
 ·rw [if_pos h]
  exact h1 h
 ·rw [if_neg h]
  exact h2 h
def Same (H H' : Hp) : Prop := ∀ b o, H b = some o → H' b = some o
theorem Same.refl (H : Hp) : Same H H := fun _ _ h => h
theorem Same.trans {H H1 H2 : Hp} (a : Same H H1) (b : Same H1 H2) : Same H H2 := fun c o h => b c o (a c o h)
theorem Same.seq {K : Fg} {H H' : Hp} {a : Addr} {xs : List V} (e : Same H H') (h : SqL K H a xs) : SqL K H' a xs := by
 rcases h with (h | ⟨o, h⟩) | h
 ·exact .inl (.inl (e _ _ h))
 ·exact .inl (.inr ⟨o, e _ _ h⟩)
 ·exact .inr h
theorem Zv {prog : Program} {w : World} {A : Around} {R : Result → Shared → Prop} {s : Shared} {elt target iter : Expr} {ifs : List Expr} {scope : Scope} {pos : Pos} {it acc : Value} {env : Env} (I : Nat → Shared → Prop)
  (turn : ∀ n s, I n s → wpAny (model prog w) A (pyNext it) (fun r s1 => match r with
   | none => R (.ok .next) s1
   | some v => wpAny (model prog w) A (letOwnedTupleGo target it v) (fun _ s1' => wpAny (model prog w) A (assign target env v) (fun _ s2 =>
     wpAny (model prog w) A (forIn ifs true fun c r => if r = true then do let ok ← isTrue c env (eval c env); pure (ForInStep.yield ok) else pure (ForInStep.yield r)) (fun ok s3 =>
      if ok = true then wpAny (model prog w) A (eval elt env) (fun x s4 =>
       wpAny (model prog w) A (call (.builtin "list.append") [acc, x]) (fun _ s5 => ∃ m, m < n ∧ I m s5) (fun _ _ => False) s4) (fun _ _ => False) s3
      else ∃ m, m < n ∧ I m s3) (fun _ _ => False) s2) (fun _ _ => False) s1') (fun _ _ => False) s1) (fun _ _ => False) s)
  (n : Nat) (h : I n s) :
  codeAny (model prog w) A (.compLoop (.ListComp elt [⟨target, iter, ifs, 0⟩] scope pos) 0 it acc env) R s := by
 refine codeAny_loop rfl I (fun n s hI => ?_) n h
 show wpAny _ A ((compTurn (.ListComp elt [⟨target, iter, ifs, 0⟩] scope pos) 0 it acc env).onRaise (fun x => do noteFrame x env; theTreesLotGoes x)) _ _ s
 refine wpAny_noted ?_
 rw [compTurn_list]
 refine jQ (wpAny_standAt (jQ (wpAny_mono (turn n s hI) (fun r s1 h1 => ?_) fun _ _ h' => h'.elim)))
 cases r with
 | none => exact jZ h1
 | some v =>
  refine jQ (wpAny_mono h1 (fun _ s1' h1' => ?_) fun _ _ h' => h'.elim)
  refine jQ (wpAny_mono h1' (fun _ s2 h2 => jQ (wpAny_mono h2 (fun ok s3 h3 => ?_) fun _ _ h' => h'.elim)) fun _ _ h' => h'.elim)
  cases ok with
  | false => exact jZ ⟨rfl, h3⟩
  | true =>
   exact jQ (jQ (wpAny_mono h3 (fun x s4 h4 => jQ (wpAny_mono h4 (fun _ s5 h5 => jZ (jZ ⟨rfl, h5⟩)) fun _ _ h' => h'.elim)) fun _ _ h' => h'.elim))
def freeOk (sc : Scope) : List (Str × NameKind) → Bool
 | [] => true
 | (n, k) :: r => (k != .free || sc.names.lookup n == some .cell || sc.names.lookup n == some .free) && freeOk sc r
def Qu (env : Env) : List (Str × NameKind) → List (Str × Addr) → List (Str × Addr)
 | [], cs => cs
 | (n, k) :: r, cs => Qu env r (if k = .free then (n, (env.cells.lookup n).getD 0) :: cs else cs)
theorem Xx {env : Env} : ∀ (l : List (Str × NameKind)) (cs : List (Str × Addr)), (∀ n, (n, NameKind.free) ∈ l → ∃ c, env.cells.lookup n = some c) → (∀ x c, cs.lookup x = some c → env.cells.lookup x = some c) →
  ∀ x c, (Qu env l cs).lookup x = some c → env.cells.lookup x = some c
 | [], cs, _, h => h
 | (n, k) :: r, cs, hl, h => by
  refine Xx r _ (fun m hm => hl m (kK _ hm)) fun x c e => ?_
  by_cases hk : k = .free
  ·rw [if_pos hk] at e
   subst hk
   obtain ⟨c', hc⟩ := hl n yX
   rw [xQ] at e
   cases hx : x == n with
   | true =>
    rw [hx] at e
    have : x = n := by simpa using hx
    subst this
    rw [hc] at e
    simp at e
    rw [hc, e]
   | false => rw [hx] at e; exact h x c e
  ·rw [if_neg hk] at e
   exact h x c e
theorem Xy {env : Env} : ∀ (l : List (Str × NameKind)) (cs : List (Str × Addr)) (x : Str), ((cs.lookup x).isSome = true ∨ (x, NameKind.free) ∈ l) → ((Qu env l cs).lookup x).isSome = true
 | [], cs, x, h => by
  rcases h with h | h
  ·exact h
  ·exact nomatch h
 | (n, k) :: r, cs, x, h => by
  refine Xy r _ x ?_
  rcases h with h | h
  ·left
   split
   ·rw [xQ]
    split
    ·rfl
    ·exact h
   ·exact h
  ·rcases zZ.mp h with e | e
   ·cases e
    left
    rw [if_pos rfl, xQ]
    simp
   ·exact .inr e
theorem Xr {scope : Scope} {env : Env} (h : ∀ n, (n, NameKind.free) ∈ scope.names → ∃ c, env.cells.lookup n = some c) : closureFor scope env = pure (Qu env scope.names []) := by
 unfold closureFor
 suffices ∀ (l : List (Str × NameKind)) (cs : List (Str × Addr)), (∀ n, (n, NameKind.free) ∈ l → ∃ c, env.cells.lookup n = some c) → (forIn l cs fun x r =>
   if (x.2 == NameKind.free) = true then do let a ← cellOf env x.1; pure (ForInStep.yield ((x.1, a) :: r)) else pure (ForInStep.yield r) : Sem _) = pure (Qu env l cs) by
  have := this scope.names [] h
  simp only at this ⊢
  rw [this]
  rfl
 intro l
 induction l with
 | nil => intro cs _; rfl
 | cons p r ih =>
  intro cs hl
  obtain ⟨n, k⟩ := p
  rw [List.forIn_cons]
  by_cases hk : k = .free
  ·subst hk
   obtain ⟨c, hc⟩ := hl n yX
   have e : cellOf env n = pure c := by unfold cellOf; rw [hc]
   have hb : (NameKind.free == NameKind.free) = true := rfl
   simp only [hb, if_true, e, Qu, hc, Option.getD_some]
   exact ih _ fun m hm => hl m (kK _ hm)
  ·have hb : (k == NameKind.free) = false := by simpa using hk
   simp only [hb, zQ, if_false, Qu, if_neg hk]
   exact ih _ fun m hm => hl m (kK _ hm)
theorem Xa {sc : Scope} : ∀ {l : List (Str × NameKind)}, freeOk sc l = true → ∀ n, (n, NameKind.free) ∈ l → sc.names.lookup n = some .cell ∨ sc.names.lookup n = some .free
 | [], _, n, h => nomatch h
 | (m, k) :: r, h, n, hm => by
  simp only [freeOk, xK] at h
  rcases zZ.mp hm with e | e
  ·cases e
   have h1 := h.1
   have hb : (NameKind.free != NameKind.free) = false := rfl
   rw [hb] at h1
   simp only [Bool.false_or, jZa, beq_iff_eq] at h1
   exact h1
  ·exact Xa h.2 n e
theorem Qo {env : Env} : ∀ {names : List (Str × NameKind)} {x : Str} {k : NameKind}, (names.map fun (n, k) => if (k == NameKind.free && env.scope.kind == .function && env.kindOf n == some .cell) then (n, NameKind.cell) else (n, k)).lookup x = some k →
  ∃ k0, names.lookup x = some k0 ∧ (k = k0 ∨ (k = .cell ∧ k0 = .free))
 | [], _, _, h => by simp at h
 | (n, k0) :: r, x, k, h => by
  rw [zK] at h
  by_cases hc : (k0 == NameKind.free && env.scope.kind == .function && env.kindOf n == some .cell) = true
  ·simp only [hc, if_true, xQ] at h
   rw [xQ]
   cases hx : x == n with
   | true =>
    rw [hx] at h
    refine ⟨k0, rfl, .inr ⟨(Option.some.inj h).symm, ?_⟩⟩
    simp only [xK, beq_iff_eq] at hc
    exact hc.1.1
   | false => rw [hx] at h; exact Qo h
  ·simp only [hc, zQ, if_false, xQ] at h
   rw [xQ]
   cases hx : x == n with
   | true => rw [hx] at h; exact ⟨k0, rfl, .inl (Option.some.inj h).symm⟩
   | false => rw [hx] at h; exact Qo h
theorem lookup_mem {α : Type} : ∀ {l : List (Str × α)} {x : Str} {k : α}, l.lookup x = some k → (x, k) ∈ l
 | [], _, _, h => by simp at h
 | (n, k0) :: r, x, k, h => by
  rw [xQ] at h
  cases hx : x == n with
  | true =>
   rw [hx] at h
   have e1 : x = n := by simpa using hx
   have e2 : k0 = k := Option.some.inj h
   subst e1 e2
   exact yX
  | false => rw [hx] at h; exact kK _ (lookup_mem h)
def Yp (cp : List (Option Nat)) (σ : St) : St := cp.map fun (o : Option Nat) => match o with
 | none => none
 | some j => match σ[(j : Nat)]? with
  | some v => v
  | none => none
def Yq (X : Cx) (scope : Scope) : List Str → List (Option Nat) → Bool
 | [], [] => true
 | x :: N, o :: cp => (match o with | none => true | some j => X.N[j]? == some x && scope.names.lookup x == some .free) && Yq X scope N cp
 | _, _ => false
theorem Jk {X : Cx} {scope : Scope} : ∀ {N : List Str} {cp : List (Option Nat)}, Yq X scope N cp = true → cp.length = N.length
 | [], [], _ => rfl
 | _ :: N, _ :: cp, h => by
  simp only [Yq, xK] at h
  simp [Jk h.2]
 | [], _ :: _, h => by simp [Yq] at h
 | _ :: _, [], h => by simp [Yq] at h
theorem Jl {X : Cx} {scope : Scope} : ∀ {N : List Str} {cp : List (Option Nat)} {i : Nat} {x : Str} {v : V} {σ : St}, Yq X scope N cp = true → N[i]? = some x → (Yp cp σ)[i]? = some (some v) →
  ∃ j : Nat, X.N[j]? = some x ∧ σ[j]? = some (some v) ∧ scope.names.lookup x = some .free
 | [], [], i, x, v, σ, _, h, _ => by simp at h
 | y :: N, o :: cp, 0, x, v, σ, h, e, e2 => by
  simp only [Yq, xK] at h
  have e' : y = x := by simpa using e
  subst e'
  cases o with
  | none => simp [Yp] at e2
  | some j =>
   have h1 := h.1
   simp only [xK, beq_iff_eq] at h1
   refine ⟨j, h1.1, ?_, h1.2⟩
   simp only [Yp, zK, List.getElem?_cons_zero, Option.some.injEq] at e2
   cases q : σ[j]? with
   | none => rw [q] at e2; cases e2
   | some z => rw [q] at e2; exact congrArg some e2
 | y :: N, o :: cp, i + 1, x, v, σ, h, e, e2 => by
  simp only [Yq, xK] at h
  exact Jl (i := i) h.2 (by simpa using e) (by simpa [Yp] using e2)
 | [], _ :: _, _, _, _, _, h, _, _ => by simp [Yq] at h
 | _ :: _, [], _, _, _, _, h, _, _ => by simp [Yq] at h
def Qx (X : Cx) (N : List Str) (scope : Scope) (fp : List Addr) (H : Hp) (s : Shared) : Cx :=
 { X with N := N, s₀ := s, H₀ := H, env := compEnvC scope (Qu X.env scope.names []) s.heap.objs.size X.env, outer := X.stack, stack := X.stack, ex := fp, fn := fun _ => false, pn := [], xe := fun _ _ => False }
section
variable {X : Cx}
theorem Kl {l : List (Str × NameKind)} (h : (l.all fun p => p.2 != .cell) = true) : ∀ y ∈ l, y.2 ≠ .cell := fun y hy => by
 have := yW.mp h y hy
 simpa using this
theorem Qbn {pins : List (Addr × Obj)} {σ : St} {H : Hp} {s : Shared} {N : List Str} {scope : Scope} {fp : List Addr} (I : Inv X pins σ H s) (hf : ∀ b ∈ fp, FpOk X pins H b) (hlt : ∀ b ∈ fp, b < s.heap.objs.size) (hk : scope.kind = .function)
  (hcell : (scope.names.all fun p => p.2 != .cell) = true) (hfree : freeOk X.env.scope scope.names = true) : (Qx X N scope fp H s).Ok := by
 have has : ∀ n, (n, NameKind.free) ∈ scope.names → ∃ c, X.env.cells.lookup n = some c := fun n hn => I.ok.has n (Xa hfree n hn)
 have sub : ∀ x c, (Qu X.env scope.names []).lookup x = some c → X.env.cells.lookup x = some c := Xx _ _ has fun x c e => by simp at e
 have fs : ∀ b ∈ fp, b ∉ frs X.stack := fun b hb z => by
  obtain ⟨_, f1, f2, _⟩ := hf b hb
  rcases zZ.mp (I.stkSub b z) with e | e
  ·exact f1 e
  ·exact f2 e
 refine ⟨I.ok.mod, hk, I.ok.glob, I.ok.blt, jK _, fun x y c h1 h2 => I.ok.inj x y c (sub x c h1) (sub y c h2), fun x hx => ?_, (fun x c h => nomatch h), I.ok.hd, I.ok.frames, .inl rfl, fun b hb => ⟨yZ (hlt b hb), fun x c e => (hf b hb).2.2.2.2.1 x c (sub x c e)⟩,
  I.bs, wK I.ok.bsz I.sz, fun b o e hb => ?_, fs, I.stack, I.stkFree⟩
 ·have hx' : (scope.names.map fun (n, k) => if (k == NameKind.free && X.env.scope.kind == .function && X.env.kindOf n == some .cell) then (n, NameKind.cell) else (n, k)).lookup x = some .cell ∨
    (scope.names.map fun (n, k) => if (k == NameKind.free && X.env.scope.kind == .function && X.env.kindOf n == some .cell) then (n, NameKind.cell) else (n, k)).lookup x = some .free := hx
  have fr : (x, NameKind.free) ∈ scope.names := by
   rcases hx' with e | e
   ·obtain ⟨k0, e0, z | z⟩ := Qo e
    ·subst z
     exact absurd rfl (Kl hcell _ (lookup_mem e0))
    ·obtain ⟨_, z⟩ := z
     subst z
     exact lookup_mem e0
   ·obtain ⟨k0, e0, z | z⟩ := Qo e
    ·subst z
     exact lookup_mem e0
    ·exact nomatch z.1
  exact wQ.mp (Xy _ _ x (.inr fr))
 ·obtain ⟨_, _, _, f3, _⟩ := hf b hb
  rcases f3 with z | z
  ·exact I.ok.noex b o e z
  ·exact absurd (yQ (kY (I.ok.bs b o e).1) z) (xW _)
theorem Qcs {pins : List (Addr × Obj)} {σ : St} {H : Hp} {s : Shared} {N : List Str} {scope : Scope} {fp : List Addr} {cp : List (Option Nat)} {h' : Heap} {m : Str → Option Value} {t' : Nat} (I : Inv X pins σ H s) (hf : ∀ b ∈ fp, FpOk X pins H b) (hlt : ∀ b ∈ fp, b < s.heap.objs.size) (hk : scope.kind = .function)
  (hcell : (scope.names.all fun p => p.2 != .cell) = true) (hfree : freeOk X.env.scope scope.names = true) (hcap : Yq X scope N cp = true)
  (hns : h'.Ns s.heap.objs.size m) (hx : ∀ b o, s.heap.get? b = some o → h'.get? b = some o) : Inv (Qx X N scope fp H s) [] (Yp cp σ) H { s with heap := h', toks := t' } := by
 have has : ∀ n, (n, NameKind.free) ∈ scope.names → ∃ c, X.env.cells.lookup n = some c := fun n hn => I.ok.has n (Xa hfree n hn)
 have sub : ∀ x c, (Qu X.env scope.names []).lookup x = some c → X.env.cells.lookup x = some c := Xx _ _ has fun x c e => by simp at e
 refine ⟨Qbn I hf hlt hk hcell hfree, rfl, I.bare, ⟨fun b o e n _ _ => hx b o e, fun b o e n _ _ => ⟨o.slots, hx b o e⟩, fun b o e n _ => n, fun b o e _ => ⟨o, hx b o e⟩, fun b xs e => e, fun b o xs e => e, fun b ps e => ⟨#[], by rw [Array.append_empty]; exact e⟩⟩, ⟨m, hns, fun i x v e1 e2 e3 => ?_⟩, fun x c e => ?_, I.hok.fresh (jK _), fun x c e => I.freeC x c (sub x c e), (fun p hp => nomatch hp), I.hok.kept hx, ?_⟩
 ·obtain ⟨j, h1, h2, h3⟩ := Jl hcap e1 e2
  obtain ⟨m', _, hl⟩ := I.loc
  have hkx := Xa hfree x (lookup_mem h3)
  obtain ⟨u, r, l⟩ := hl j x v h1 h2 (.inr hkx)
  rcases l with ⟨l, _⟩ | ⟨_, c, hc, hcell'⟩
  ·rcases hkx with z | z
   ·exact nomatch (Option.some.inj (l.symm.trans z))
   ·exact nomatch (Option.some.inj (l.symm.trans z))
  ·obtain ⟨c', hc'⟩ := wQ.mp (Xy (env := X.env) scope.names [] x (.inr (lookup_mem h3)))
   have ec := sub x c' hc'
   rw [hc] at ec
   cases ec
   refine ⟨u, r, .inr ⟨?_, c, hc', ?_⟩⟩
   ·rcases e3 with z | z | z
    ·obtain ⟨k0, e0, y | y⟩ := Qo (show (scope.names.map fun (n, k) => if (k == NameKind.free && X.env.scope.kind == .function && X.env.kindOf n == some .cell) then (n, NameKind.cell) else (n, k)).lookup x = some .local from z)
     ·rw [h3] at e0; cases e0; cases y
     ·exact nomatch y.1
    ·exact .inl z
    ·exact .inr z
   ·obtain ⟨o, ho, hd⟩ := hcell'
    exact ⟨o, hx c o ho, hd⟩
 ·obtain ⟨v, o, ho, hd⟩ := I.cell x c (sub x c e)
  exact ⟨v, o, hx c o ho, hd⟩
 ·show (Yp cp σ).length = N.length
  unfold Yp
  rw [jX]
  exact Jk hcap
theorem Wn {pins : List (Addr × Obj)} {σ σ' : St} {H H' : Hp} {s s' : Shared} {N : List Str} {scope : Scope} {fp : List Addr} {pins' : List (Addr × Obj)} (I : Inv X pins σ H s) (hf : ∀ b ∈ fp, FpOk X pins H b)
  (J : Inv (Qx X N scope fp H s) pins' σ' H' s') : Inv X pins σ H' s' :=
 I.call' (ch := fp) J.os J.base J.hok J.bare fun b hb => ⟨(hf b hb).2.2.2.1, (hf b hb).2.1, (hf b hb).2.2.2.2.1, (hf b hb).2.2.2.2.2⟩
def PF (X : Cx) (ifs : List Expr) (t : TT) : Prop :=
 ∀ (pins : List (Addr × Obj)) (s : Shared) (σ : St) (H : Hp) (Q : Bool → Hp → Prop), Inv X pins σ H s → t σ H Q →
  wpAny (model X.prog X.w) X.A (forIn ifs true fun c r => if r = true then do let ok ← isTrue c X.env (eval c X.env); pure (ForInStep.yield ok) else pure (ForInStep.yield r)) (TP X pins σ Q) X.xe s
def tYes : TT := fun _ H Q => Q true H
theorem Jm : PF X [] tYes := fun _ _ _ H _ I h => wpAny_tests_nil ⟨H, I, h⟩
def LcW (J : It) (D : Addr) (τ0 : St) (H : Hp) (g : TG) (tt : TT) (te : TE) (Q : Addr → Hp → Prop) : Prop := ∃ W : Nat → Nat → St → List V → Hp → Prop, (∃ m, W 0 m τ0 [] (upd H D (.lst []))) ∧ ∀ i m τ ys H, W i m τ ys H →
 H D = some (.lst ys) ∧ ((J.stop i H ∧ Q D H) ∨ (J.go i H ∧ ys.length < sizeLine ∧ ∃ (N1 : St → V → Hp → Prop) (N2 : St → Hp → Prop), (∀ τ v H, N1 τ v H → ∃ m', m' < m ∧ W (i + 1) m' τ (ys ++ [v]) (upd H D (.lst (ys ++ [v])))) ∧ (∀ τ H, N2 τ H → ∃ m', m' < m ∧ W (i + 1) m' τ ys H) ∧
  ∀ x H', J.yld i H x H' → g x τ H' fun σ2 H2 => tt σ2 H2 fun ok H3 => if ok = true then te σ2 H3 fun v H4 => H4 D = some (.lst ys) ∧ N1 σ2 v H4 else N2 σ2 H3))
def tLC (cp : List (Option Nat)) (wi : TI) (g : TG) (tt : TT) (te : TE) (σ : St) (H : Hp) (Q : Addr → Hp → Prop) : Prop := wi σ H fun J H1 => ∀ D, H1 D = none → LcW J D (Yp cp σ) H1 g tt te Q
theorem Qan {elt iter target : Expr} {ifs : List Expr} {scope : Scope} {pos : Pos} {N : List Str} {cp : List (Option Nat)} {g : TG} {tt : TT} {te : TE} {pins : List (Addr × Obj)} {σ : St} {H : Hp} {s : Shared} {E : Value → Shared → Prop} {Q : Addr → Hp → Prop}
  {it : Addr} {fp : List Addr} {tn : Nat → Heap → Prop} {J : It} {RR : Value → Addr → Result → Shared → Prop} (hc : X.calm = true) (hk : scope.kind = .function) (hcell : (scope.names.all fun p => p.2 != .cell) = true) (hfree : freeOk X.env.scope scope.names = true) (hcap : Yq X scope N cp = true)
  (hg : ∀ fp H s, PG (Qx X N scope fp H s) target g) (ht : ∀ fp H s, PF (Qx X N scope fp H s) ifs tt) (he : ∀ fp H s, PE (Qx X N scope fp H s) elt te)
  (I : Inv X pins σ H s) (T : Turn X.prog X.w X.K target J fp it tn) (st : tn 0 s.heap) (hf : ∀ b ∈ fp, FpOk X pins H b)
  (h : ∀ D, H D = none → LcW J D (Yp cp σ) H g tt te Q)
  (hRR : ∀ D C s' H' m, Inv X pins σ H' s' → FpOk X pins H' C → s'.heap.Ns C m → Q D H' → RR (.ref D) C (.ok .next) s') :
  wpAny (model X.prog X.w) X.A (newList []) (fun acc s3 => wpAny (model X.prog X.w) X.A (newFunctionEnv scope X.env.globals (Qu X.env scope.names []) [] X.env.qual none .none (some X.env)) (fun cenv s4 =>
   codeAny (model X.prog X.w) X.A (.compStart (.ListComp elt [⟨target, iter, ifs, 0⟩] scope pos) 0 (.ref it) acc { cenv with scope := relabel scope X.env }) (RR acc cenv.locals) s4) E s3) E s := by
 have hlt : ∀ b ∈ fp, b < s.heap.objs.size := fun b hb => by
  obtain ⟨o, e, _⟩ := T.obj _ _ st b hb
  exact kY e
 refine wpAny_newObj_type (wpAny_newFunctionEnv (Kl hcell) (by intro y hy; simp at hy) (fun h1 hns1 hsb1 => ?_) hk)
 dsimp only at hns1 hsb1 ⊢
 have hD : H s.heap.objs.size = none := I.hok.fresh (jK _)
 have I3 : Inv X pins σ (upd H s.heap.objs.size (.lst [])) { s with heap := s.heap.push { cls := .type "list", dict := none, data := .seq ([] : List Value).toArray } } :=
  I.laid (t' := s.toks) (fun b u e => jY _ e) (jK _) ⟨wV _, [], 0, .nil, kZ _ rfl⟩
 have hf3 : ∀ b ∈ fp, FpOk X pins (upd H s.heap.objs.size (.lst [])) b := fun b hb => ⟨by rw [Qi (yZ (hlt b hb))]; exact (hf b hb).1, (hf b hb).2⟩
 have hlt3 : ∀ b ∈ fp, b < (s.heap.push { cls := .type "list", dict := none, data := .seq ([] : List Value).toArray }).objs.size := fun b hb => by rw [jXe]; exact wW (hlt b hb)
 generalize hH2 : s.heap.push { cls := .type "list", dict := none, data := .seq ([] : List Value).toArray } = H2 at hns1 hsb1 I3 hlt3 ⊢
 generalize hs3 : ({ s with heap := H2 } : Shared) = s3 at I3
 have hs3h : s3.heap = H2 := by rw [← hs3]
 have ext1 : ∀ b o, s3.heap.get? b = some o → h1.get? b = some o := fun b o e => by
  rw [hs3h] at e
  exact hsb1.extBut b o (yZ (kY e)) (jY _ e)
 have J0 : Inv (Qx X N scope fp (upd H s.heap.objs.size (.lst [])) s3) [] (Yp cp σ) (upd H s.heap.objs.size (.lst [])) { s3 with heap := h1, toks := s.toks + ([] : List (Str × Value)).length } :=
  Qcs I3 hf3 (by rw [hs3h]; exact hlt3) hk hcell hfree hcap (by rw [hs3h]; exact hns1) ext1
 have st1 : tn 0 h1 := T.keep _ _ _ st fun b hb o e => ext1 b o (by rw [hs3h, ← hH2]; exact jY _ e)
 obtain ⟨W, ⟨m0, w0⟩, turn⟩ := h s.heap.objs.size hD
 have stat : ∀ {H' : Hp}, (∀ b ∈ fp, H' b = none) → ∀ b ∈ fp, FpOk (Qx X N scope fp (upd H s.heap.objs.size (.lst [])) s3) [] H' b := fun {H'} hn b hb =>
  ⟨hn b hb, (J0.ok.exf b hb).1, J0.ok.exfs b hb, .inl hb, (J0.ok.exf b hb).2, fun p hp => nomatch hp⟩
 have loop : codeAny (model X.prog X.w) X.A (.compLoop (.ListComp elt [⟨target, iter, ifs, 0⟩] scope pos) 0 (.ref it) (.ref s.heap.objs.size) (compEnvC scope (Qu X.env scope.names []) H2.objs.size X.env))
   (RR (.ref s.heap.objs.size) H2.objs.size) { s3 with heap := h1, toks := s.toks + ([] : List (Str × Value)).length } := by
  have eEnv : compEnvC scope (Qu X.env scope.names []) H2.objs.size X.env = (Qx X N scope fp (upd H s.heap.objs.size (.lst [])) s3).env := by
   rw [← hs3h]; rfl
  rw [eEnv]
  refine Zv (fun n s' => ∃ i τ ys H', Inv (Qx X N scope fp (upd H s.heap.objs.size (.lst [])) s3) [] τ H' s' ∧ tn i s'.heap ∧ (∀ b ∈ fp, H' b = none) ∧ W i n τ ys H') ?_ m0 ⟨0, Yp cp σ, [], _, J0, st1, fun b hb => (hf3 b hb).1, w0⟩
  rintro n s4 ⟨i, τ, ys, H4, I4, st4, fr4, w4⟩
  obtain ⟨hD4, hh⟩ := turn i n τ ys H4 w4
  rcases hh with ⟨stop, qn⟩ | ⟨go, hlen, N1, N2, hN1, hN2, step⟩
  ·refine thn (T.done (Qx X N scope fp (upd H s.heap.objs.size (.lst [])) s3) rfl rfl rfl hc i [] s4 τ H4 _ I4 (stat fr4) st4 stop) fun r s5 hqP => ?_
   obtain ⟨hr, I5⟩ := hqP
   subst hr
   obtain ⟨m, hm, _⟩ := I5.loc
   have e5 : H2.objs.size = (Qx X N scope fp (upd H s.heap.objs.size (.lst [])) s3).env.locals := by rw [← eEnv]; rfl
   refine hRR _ _ s5 H4 m (Wn I3 hf3 I5) ?_ (by rw [e5]; exact hm) qn
   exact I3.fpOk (by rw [hs3h]; exact jK _) (by rw [e5]; exact I5.free)
  ·refine thn (T.item (Qx X N scope fp (upd H s.heap.objs.size (.lst [])) s3) rfl rfl rfl hc i [] s4 τ H4 _ I4 (stat fr4) st4 go) fun r s5 hqP => ?_
   obtain ⟨u, hr, h5⟩ := hqP
   subst hr
   refine thn h5 fun _ s6 hqP => ?_
   obtain ⟨x, H6, I6, r6, y6, st6, fr6⟩ := hqP
   have I6' := I6.pinned (stat fr6) (T.obj _ _ st6)
   refine thn (hg fp _ _ _ s6 τ H6 x u _ I6' r6 (step x H6 y6)) fun _ s7 hqP => ?_
   obtain ⟨σ7, H7, I7, q7⟩ := hqP
   refine thn (ht fp _ _ _ s7 σ7 H7 _ I7 q7) fun ok s8 hqP => ?_
   obtain ⟨H8, I8, q8⟩ := hqP
   have back : ∀ {σ' : St} {H' : Hp} {s' : Shared}, Inv (Qx X N scope fp (upd H s.heap.objs.size (.lst [])) s3) ([] ++ Kk fp s6.heap) σ' H' s' → Inv (Qx X N scope fp (upd H s.heap.objs.size (.lst [])) s3) [] σ' H' s' ∧ tn (i + 1) s'.heap ∧ ∀ b ∈ fp, H' b = none := fun {σ' H' s'} I' => by
    refine ⟨I'.unpinned, T.keep _ _ _ st6 fun b hb o e => (I'.pin (b, o) (yJ _ (yJ _ (Xv hb e)))).1, fun b hb => ?_⟩
    obtain ⟨o, e, d⟩ := T.obj _ _ st6 b hb
    exact (I'.pin (b, o) (yJ _ (yJ _ (Xv hb e)))).2.1
   cases ok with
   | false =>
    rw [if_neg jW] at q8 ⊢
    obtain ⟨m', hm, w8⟩ := hN2 _ _ q8
    obtain ⟨b1, b2, b3⟩ := back I8
    exact ⟨m', hm, i + 1, σ7, ys, H8, b1, b2, b3, w8⟩
   | true =>
    rw [if_pos rfl] at q8 ⊢
    refine thn (he fp _ _ _ s8 σ7 H8 _ I8 q8) fun y s9 hqP => ?_
    obtain ⟨v, H9, I9, r9, hD9, n9⟩ := hqP
    obtain ⟨m', hm, w9⟩ := hN1 _ _ _ n9
    refine thn (Xk _ s9 σ7 H9 (.ref s.heap.objs.size) [v] (.ref s.heap.objs.size) [y] (fun _ H' => H' = upd H9 s.heap.objs.size (.lst (ys ++ [v]))) I9 rfl (.cons r9 .nil) ⟨_, ys, v, rfl, rfl, hD9, hlen, rfl⟩) fun _ s10 hqP => ?_
    obtain ⟨_, H10, I10, _, e10⟩ := hqP
    subst e10
    obtain ⟨b1, b2, b3⟩ := back I10
    exact ⟨m', hm, i + 1, σ7, _, _, b1, b2, b3, w9⟩
 have e3 : ({ s with heap := h1, toks := s.toks + ([] : List (Str × Value)).length } : Shared) = { s3 with heap := h1, toks := s.toks + ([] : List (Str × Value)).length } := by rw [← hs3]
 rw [e3]
 exact codeAny_compStart_list loop (T.self _ 0 _ _ _ st1 loop)
theorem Qct {elt iter target : Expr} {ifs : List Expr} {scope : Scope} {pos : Pos} (N : List Str) (cp : List (Option Nat)) {wi : TI} {g : TG} {tt : TT} {te : TE} (hc : X.calm = true) (hi : PI X target iter wi)
  (hg : ∀ fp H s, PG (Qx X N scope fp H s) target g) (ht : ∀ fp H s, PF (Qx X N scope fp H s) ifs tt) (he : ∀ fp H s, PE (Qx X N scope fp H s) elt te)
  (hk : autoParam (scope.kind = .function) L2.aRfl._auto_1) (hcell : autoParam ((scope.names.all fun p => p.2 != .cell) = true) L2.aRfl._auto_1) (hfree : autoParam (freeOk X.env.scope scope.names = true) L2.aRfl._auto_1) (hcap : autoParam (Yq X scope N cp = true) L2.aRfl._auto_1)
  (hnames : autoParam ((scope.names.all fun p => p.2 != .local || scope.names.lookup p.1 == some .local) = true) L2.aRfl._auto_1) (hs : autoParam (∀ x, foldedSetIterable iter X.env x = pure x) L2.aIrf._auto_1) :
  PE X (.ListComp elt [⟨target, iter, ifs, 0⟩] scope pos) (fun σ H Q => tLC cp wi g tt te σ H fun D H' => Q (.ref D) H') := by
 intro pins s σ H Q I h
 rw [eval_ListComp]
 have has : ∀ n, (n, NameKind.free) ∈ scope.names → ∃ c, X.env.cells.lookup n = some c := fun n hn => I.ok.has n (Xa hfree n hn)
 refine wpAny_comprehension_free (use := none) rfl hs (Xr has) hk (fun x hx hl => ?_) (thn (hi pins s σ H _ I h) fun xv s1 h1 => thn h1 fun itv s2 h2 => ?_)
 ·have := yW.mp hnames x hx
  simp only [jZa, bne_iff_ne, beq_iff_eq] at this
  exact this.resolve_left fun z => z hl
 ·obtain ⟨it, fp, tn, J, H2, e, I2, T, st2, f2, hW⟩ := h2
  subst e
  refine Qan (N := N) (cp := cp) hc hk hcell hfree hcap hg ht he I2 T st2 f2 hW fun D C s' H' m I' fC hm q => ⟨m, hm, fun h' hsb => ?_⟩
  exact ⟨.ref D, H', I'.turned (t' := s'.toks) (fun b o hb e => hsb.extBut b o hb e) fC.1 fC.2.1 fC.2.2.2.1 fC.2.2.2.2.1 fC.2.2.2.2.2, rfl, q⟩
theorem Qhy {i : Nat} {x : Str} {px : Pos} {elt iter target : Expr} {ifs : List Expr} {scope : Scope} {pos spos : Pos} (N : List Str) (cp : List (Option Nat)) {wi : TI} {g : TG} {tt : TT} {te : TE} (hc : X.calm = true) (hN : X.N.Nodup) (hi' : X.N[i]? = some x) (hx : Loc X.env.scope x) (hi : PI X target iter wi)
  (hg : ∀ fp H s, PG (Qx X N scope fp H s) target g) (ht : ∀ fp H s, PF (Qx X N scope fp H s) ifs tt) (he : ∀ fp H s, PE (Qx X N scope fp H s) elt te)
  (hsw : autoParam (swapsWith (.ListComp elt [⟨target, iter, ifs, 0⟩] scope pos) (some (.Name x px)) spos.line X.env = pure true) L2.aRfl._auto_1)
  (hk : autoParam (scope.kind = .function) L2.aRfl._auto_1) (hcell : autoParam ((scope.names.all fun p => p.2 != .cell) = true) L2.aRfl._auto_1) (hfree : autoParam (freeOk X.env.scope scope.names = true) L2.aRfl._auto_1) (hcap : autoParam (Yq X scope N cp = true) L2.aRfl._auto_1)
  (hnames : autoParam ((scope.names.all fun p => p.2 != .local || scope.names.lookup p.1 == some .local) = true) L2.aRfl._auto_1) (hs : autoParam (∀ x, foldedSetIterable iter X.env x = pure x) L2.aIrf._auto_1)
  (hf : autoParam (X.fn x = true ∨ X.env.scope.names.lookup x = some .local) L2.aFst._auto_1) :
  PS X (.Assign [.Name x px] (.ListComp elt [⟨target, iter, ifs, 0⟩] scope pos) spos) (fun D σ H => tLC cp wi g tt te σ H fun a H' => D.nx (σ.set i (some (.ref a))) H') := by
 intro pins s σ H D I h
 have has : ∀ n, (n, NameKind.free) ∈ scope.names → ∃ c, X.env.cells.lookup n = some c := fun n hn => I.ok.has n (Xa hfree n hn)
 rw [exec_Assign_Name_used _ _ _ _ hsw]
 refine jQ (wpAny_standAt (jQ ?_))
 show wpAny _ _ (do let _ ← comprehension (.ListComp elt [⟨target, iter, ifs, 0⟩] scope pos) scope X.env _ (newList []) false (eval iter X.env) (some (assign (.Name x px) X.env))) _ _ s
 refine jQ (wpAny_mono (wpAny_comprehension_free (use := some (assign (.Name x px) X.env)) (Q := fun _ s' => SP X pins D .next s') rfl hs (Xr has) hk (fun x hx hl => ?_)
  (thn (hi pins s σ H _ I h) fun xv s1 h1 => thn h1 fun itv s2 h2 => ?_)) (fun _ s' hq => jZ (jZ hq)) fun _ _ e => e)
 ·have := yW.mp hnames x hx
  simp only [jZa, bne_iff_ne, beq_iff_eq] at this
  exact this.resolve_left fun z => z hl
 ·obtain ⟨it, fp, tn, J, H2, e, I2, T, st2, f2, hW⟩ := h2
  subst e
  refine Qan (N := N) (cp := cp) hc hk hcell hfree hcap hg ht he I2 T st2 f2 hW fun D' C s' H' m I' fC hm q => ?_
  show wpAny _ _ (assign (.Name x px) X.env (.ref D')) _ _ _
  refine wpAny_assign_Name (Jg I' hN hi' hx (v := .ref D') rfl (fun s'' I'' hsb => ?_) hf)
  obtain ⟨a, hsb, ha⟩ := hsb
  have hCa : C ≠ a := by
   rcases ha with e | e
   ·rw [e]; exact fC.2.1
   ·exact fun z => fC.2.2.2.2.1 x a e z.symm
  refine ⟨m, hm.sameBut hsb hCa, fun h' hsb' => ?_⟩
  exact ⟨_, H', I''.turned (t' := s''.toks) (fun b o hb e => hsb'.extBut b o hb e) fC.1 fC.2.1 fC.2.2.2.1 fC.2.2.2.2.1 fC.2.2.2.2.2, q⟩
end
structure Drw (P : Program) (w : World) (it l : Addr) (st : Nat → Heap → Prop) (src : List Value → Heap → Prop) : Prop where
 obj : ∀ i h, st i h → ∃ o, h.get? it = some o ∧ ∀ v, o.data ≠ .cell v
 keep : ∀ i h h', st i h → (∀ o, h.get? it = some o → h'.get? it = some o) → st i h'
 srck : ∀ xs h h', src xs h → (∀ o, h.get? l = some o → h'.get? l = some o) → src xs h'
 item : ∀ (A : Around) (E : Value → Shared → Prop) (s : Shared) (i : Nat) (xs : List Value) (x : Value) (Q : Value → Shared → Prop), st i s.heap → src xs s.heap → xs[i]? = some x →
  (∀ h', st (i + 1) h' → Heap.SameBut it s.heap h' → Q x { s with heap := h' }) → wpAny (model P w) A (Builtin.SmallTypes.nextOf (.ref it)) Q E s
 done : ∀ (A : Around) (E : Value → Shared → Prop) (s : Shared) (i : Nat) (xs : List Value) (Q : Value → Shared → Prop), A.handled = none → st i s.heap → src xs s.heap → xs[i]? = none →
  (∀ h' e, Heap.ExtBut it s.heap h' → (∃ o, h'.get? e = some o ∧ o.cls = .type "StopIteration") → E (.ref e) { s with heap := h' }) → wpAny (model P w) A (Builtin.SmallTypes.nextOf (.ref it)) Q E s
theorem Qey {P : Program} {w : World} (it l : Addr) : Drw P w it l (fun i h => h.IsListIter it l i) (fun xs h => h.IsList l xs.toArray) where
 obj := fun i h st => by
  obtain ⟨o, e, c, d⟩ := st
  exact ⟨o, e, fun v z => by rw [d] at z; cases z⟩
 keep := fun i h h' st k => st.at k
 srck := fun xs h h' sr k => sr.at k
 item := fun A E s i xs x Q st sr hx hQ => wpAny_nextOf_list_item st sr (by simpa using hx) hQ
 done := fun A E s i xs Q hh st sr hx hE => wpAny_nextOf_list_end hh st sr (by simpa using hx) hE
section
variable {P : Program} {w : World} {A : Around} {E : Value → Shared → Prop} {s : Shared}
theorem Jn {it t : Addr} {i : Nat} {xs : Array Value} {x : Value} {Q : Value → Shared → Prop} (hI : s.heap.IsTupleIter it t i) (hT : s.heap.IsTuple t xs) (hx : xs[i]? = some x)
  (hQ : ∀ h', h'.IsTupleIter it t (i + 1) → Heap.SameBut it s.heap h' → Q x { s with heap := h' }) : wpAny (model P w) A (Builtin.SmallTypes.nextOf (.ref it)) Q E s := by
 obtain ⟨oI, gI, cI, dI⟩ := id hI
 obtain ⟨oT, gT, _, nT, dT⟩ := hT
 unfold Builtin.SmallTypes.nextOf
 refine jQ (wpAny_callSpecial?_slot (name := Str.ofString "__next__") hI.typeIs F.slot_tuple_iterator_next (wpAny_call_entry F.slot_tuple_iterator_next hI.typeIs F.entry_tuple_iterator_next ?_ (F.args_tuple_iterator_next_1 _)))
 show wpAny _ _ (field (.ref it) 0 >>= _) _ _ s
 refine jQ (wpAny_field gI dI (x := .ref t) rfl ?_)
 show wpAny _ _ (if (Value.ref t == Value.none) = true then _ else _) _ _ s
 rw [if_neg (show ¬ ((Value.ref t == Value.none) = true) from jW)]
 show wpAny _ _ (field (.ref it) 1 >>= _) _ _ s
 refine jQ (wpAny_field gI dI (x := .int i 0) rfl ?_)
 show wpAny _ _ (seqItems? (.ref t) >>= _) _ _ s
 refine jQ (wpAny_seqItems gT dT ?_)
 simp only [jJb, hx]
 refine jQ (wpAny_setField gI dI (by simp) (jZ ⟨x, rfl, jZ (hQ _ ?_ (Heap.SameBut.update ..))⟩))
 refine ⟨_, jKe _ gI (Obj.isFreed_of_fields (Obj.data_mapFields dI _)), (Obj.cls_mapFields ..).trans cI, ?_⟩
 rw [Obj.data_mapFields dI]; simp [rawInt]
theorem Ki {it t : Addr} {i : Nat} {xs : Array Value} {Q : Value → Shared → Prop} (hh : A.handled = none) (hI : s.heap.IsTupleIter it t i) (hT : s.heap.IsTuple t xs) (hx : xs[i]? = none)
  (hE : ∀ h' e, Heap.ExtBut it s.heap h' → (∃ o, h'.get? e = some o ∧ o.cls = .type "StopIteration") → E (.ref e) { s with heap := h' }) : wpAny (model P w) A (Builtin.SmallTypes.nextOf (.ref it)) Q E s := by
 obtain ⟨oI, gI, cI, dI⟩ := id hI
 obtain ⟨oT, gT, _, nT, dT⟩ := hT
 unfold Builtin.SmallTypes.nextOf
 refine jQ (wpAny_callSpecial?_slot (name := Str.ofString "__next__") hI.typeIs F.slot_tuple_iterator_next (wpAny_call_entry F.slot_tuple_iterator_next hI.typeIs F.entry_tuple_iterator_next ?_ (F.args_tuple_iterator_next_1 _)))
 show wpAny _ _ (field (.ref it) 0 >>= _) _ _ s
 refine jQ (wpAny_field gI dI (x := .ref t) rfl ?_)
 show wpAny _ _ (if (Value.ref t == Value.none) = true then _ else _) _ _ s
 rw [if_neg (show ¬ ((Value.ref t == Value.none) = true) from jW)]
 show wpAny _ _ (field (.ref it) 1 >>= _) _ _ s
 refine jQ (wpAny_field gI dI (x := .int i 0) rfl ?_)
 show wpAny _ _ (seqItems? (.ref t) >>= _) _ _ s
 refine jQ (wpAny_seqItems gT dT ?_)
 simp only [jJb, hx]
 refine jQ (wpAny_rule (jQ (wpAny_setField gI dI (by simp) ?_)))
 show wpAny _ _ (newExc (.type "StopIteration") [] >>= _) _ _ _
 refine jQ ?_
 simp only [newExc, newTuple]
 refine jQ (wpAny_newObj_type ?_ (by size_fits))
 refine jQ (m := firstArgMember _ _) (wpAny_of_eq (a := Value.none) (by first | rfl | (simp only [firstArgMember]; rfl)) ?_)
 refine wpAny_newObj_type ?_ (by size_fits)
 simp only [raiseNew]
 refine jQ (wpAny_handled ?_)
 first | rw [show A.in1.handled = none from hh] | rw [hh]
 exact jQ (jZ (wpAny_throw (hE _ _ (((Heap.SameBut.update ..).extBut.push _).push _) ⟨_, kZ _ rfl, rfl⟩)))
end
theorem Qhz {P : Program} {w : World} (it l : Addr) : Drw P w it l (fun i h => h.IsTupleIter it l i) (fun xs h => h.IsTuple l xs.toArray) where
 obj := fun i h st => by
  obtain ⟨o, e, c, d⟩ := st
  exact ⟨o, e, fun v z => by rw [d] at z; cases z⟩
 keep := fun i h h' st k => st.at k
 srck := fun xs h h' sr k => sr.at k
 item := fun A E s i xs x Q st sr hx hQ => Jn st sr (by simpa using hx) hQ
 done := fun A E s i xs Q hh st sr hx hE => Ki hh st sr (by simpa using hx) hE
section
variable {P : Program} {w : World} {A : Around} {E : Value → Shared → Prop} {s : Shared} {z u o i1 i2 l1 l2 : Addr} {st1 st2 : Nat → Heap → Prop} {src1 src2 : List Value → Heap → Prop} {k1 k2 : Nat} {xs ys : List Value} {a b : Value}
end
def Jo (n : String) (l : Addr) : Obj := { cls := .type n, data := .fields #[.ref l, .int 0 0] }
structure Itr0 (n : String) (l : Addr) (pr : Heap → Prop) : Prop where
 go : ∀ (P : Program) (w : World) (A : Around) (E : Value → Shared → Prop) (s : Shared) (Q : Value → Shared → Prop), pr s.heap → Q (.ref s.heap.objs.size) { s with heap := s.heap.push (Jo n l) } → wpAny (model P w) A (pyIter (.ref l)) Q E s
 push : ∀ h o, pr h → pr (h.push o)
theorem Qcu (l : Addr) (xs : Array Value) : Itr0 "list_iterator" l (fun h => h.IsList l xs) := ⟨fun _ _ _ _ _ _ hl h => wpAny_pyIter_list hl h, fun _ _ hl => hl.push _⟩
theorem Qez (l : Addr) (xs : Array Value) : Itr0 "tuple_iterator" l (fun h => h.IsTuple l xs) := ⟨fun _ _ _ _ _ _ hl h => wpAny_pyIter_tuple hl h, fun _ _ hl => hl.push _⟩
def Sq (K : Fg) (m : Bool) (H : Hp) (a : Addr) (xs : List V) : Prop := if m = true then SqL K H a xs else SqT K H a xs
def itN (m : Bool) : String := if m = true then "list_iterator" else "tuple_iterator"
def itSt (m : Bool) (it l : Addr) (i : Nat) (h : Heap) : Prop := if m = true then h.IsListIter it l i else h.IsTupleIter it l i
def Qfa (m : Bool) (l : Addr) (xs : List Value) (h : Heap) : Prop := if m = true then h.IsList l xs.toArray else h.IsTuple l xs.toArray
theorem Jp {P : Program} {w : World} (m : Bool) (it l : Addr) : Drw P w it l (itSt m it l) (Qfa m l) := by
 cases m
 ·exact Qhz it l
 ·exact Qey it l
theorem Qia (m : Bool) (l : Addr) (xs : List Value) : Itr0 (itN m) l (Qfa m l xs) := by
 cases m
 ·exact Qez l xs.toArray
 ·exact Qcu l xs.toArray
theorem Qfb (m : Bool) {h : Heap} {it l : Addr} (e : h.get? it = some (Jo (itN m) l)) : itSt m it l 0 h := by
 cases m
 ·exact ⟨_, e, rfl, rfl⟩
 ·exact ⟨_, e, rfl, rfl⟩
section
variable {X : Cx} {pins : List (Addr × Obj)} {σ : St} {H : Hp} {s : Shared}
theorem Inv.sq {m : Bool} {a : Addr} {xs : List V} (I : Inv X pins σ H s) (h : Sq X.K m H a xs) : ∃ its : List Value, Vals xs its ∧ Qfa m a its s.heap ∧ xs.length ≤ sizeLine := by
 cases m
 ·obtain ⟨its, rv, p, hz⟩ := I.tuple h
  exact ⟨its, rv, p, by first | exact hz | omega⟩
 ·obtain ⟨its, rv, p, hz⟩ := I.list h
  exact ⟨its, rv, p.isList, by first | exact hz | omega⟩
theorem Inv.sq_inj {m : Bool} {a : Addr} {xs ys : List V} (I : Inv X pins σ H s) (h : Sq X.K m H a xs) (h' : Sq X.K m H a ys) : xs = ys := by
 cases m
 ·exact I.tuple_inj h h'
 ·exact I.list_inj h h'
theorem Inv.tupNew {xs : List V} {its : List Value} {h' : Heap} {ch : List Addr} {T : Addr} (I : Inv X pins σ H s) (hT : s.heap.objs.size ≤ T) (r : Vals xs its) (hz : xs.length ≤ sizeLine) (e : h'.get? T = some { cls := .type "tuple", data := .seq its.toArray })
  (hf : ∀ b ∈ ch, FpOk X pins H b) (k : ∀ b o, b ∉ ch → s.heap.get? b = some o → h'.get? b = some o) (th : ∀ b ∈ ch, ∃ o, h'.get? b = some o) : Inv X pins σ (upd H T (.tup xs)) { s with heap := h' } := by
 have hn : H T = none := I.hok.fresh hT
 have tr : ∀ b o, H b = some o → b ∉ ch := fun b o e z => by rw [(hf b z).1] at e; cases e
 refine I.step (g' := s.gens) (t' := s.toks) (d' := s.drawn) (ch := ch) (fun b hb => ⟨(hf b hb).2.2.2.1, (hf b hb).2.1, (hf b hb).2.2.2.2.1, (hf b hb).2.2.2.2.2⟩) (fun b o _ _ hc q _ => k b o hc q) (fun b o _ _ hc q _ => ⟨o.slots, k b o hc q⟩) (fun b o _ q n => ?_) (fun b o hc q => ⟨o, k b o hc q⟩)
  (fun b xs q => ?_) (fun b o u q => ?_) (fun b ps q => ⟨#[], ?_⟩) (fun m hm => ?_) (fun b ob q => ?_) I.bare
 ·rw [Qi (yZ (yQ (kY q) hT))]; exact n
 ·rw [Qi (Qf q hn)]; exact q
 ·rw [Qi (Qf q hn)]; exact q
 ·rw [Qi (Qf q hn), Array.append_empty]; exact q
 ·obtain ⟨o, es, ep, q, d, r⟩ := hm
  exact ⟨o, es, ep, k _ o (fun z => (hf _ z).2.1 rfl) q, d, r⟩
 ·by_cases hb : b = T
  ·subst hb
   rw [Qb] at q; cases q
   exact ⟨hz, its, r, _, e, rfl, _, rfl⟩
  ·rw [Qi hb] at q
   refine (I.hok b ob q).stay (fun c v hc r => k c v ?_ r) (fun c r => by rw [Qi (Qf r hn)]; exact r) fun c xs r => by rw [Qi (Qf r hn)]; exact r
   rcases hc with rfl | hc
   ·exact tr _ _ q
   ·exact tr _ _ hc
end
section
variable {X : Cx}
theorem Qfc {m : Bool} {a : Addr} {xs : List Value} {h : Heap} (e : Qfa m a xs h) : a < h.objs.size := by
 cases m
 ·obtain ⟨o, e, _⟩ := e; exact kY e
 ·obtain ⟨o, e, _⟩ := e; exact kY e
end
section
variable {X : Cx}
def isiV (K : Fg) (H : Hp) : V → String → Bool → Prop
 | .int _, T, b => (T = "int" ∧ b = true) ∨ (T = "bool" ∧ b = false) ∨ (T = "tuple" ∧ b = false)
 | .bl _, T, b => (T = "int" ∧ b = true) ∨ (T = "bool" ∧ b = true) ∨ (T = "tuple" ∧ b = false)
 | .ref a, T, b => (∃ xs, SqT K H a xs) ∧ ((T = "tuple" ∧ b = true) ∨ (T = "int" ∧ b = false) ∨ (T = "bool" ∧ b = false))
 | _, _, _ => False
theorem Qao : Ym X (.builtin "isinstance") (fun xs H Q => ∃ x T b, xs = [x, .ty T] ∧ isiV X.K H x T b ∧ Q (.bl b) H) := by
 intro pins s σ H xs us Q I rv h
 obtain ⟨x, T, b, rfl, hi, q⟩ := h
 obtain ⟨u, v, rfl, ru, rT⟩ := rv.two
 cases rT
 have fin : ∀ (tk : Nat), EP X pins σ Q (.bool b) { s with toks := tk } := fun tk => ⟨.bl b, H, I.tok tk, rfl, q⟩
 cases x with
 | int n =>
  obtain ⟨t, rfl⟩ := ru
  rcases hi with ⟨rfl, rfl⟩ | ⟨rfl, rfl⟩ | ⟨rfl, rfl⟩
  ·exact IsiPair.int_int (fin s.toks)
  ·exact IsiPair.int_bool (fin _)
  ·exact IsiPair.int_tuple (fin _)
 | bl n =>
  cases ru
  rcases hi with ⟨rfl, rfl⟩ | ⟨rfl, rfl⟩ | ⟨rfl, rfl⟩
  ·exact IsiPair.bool_int (fin s.toks)
  ·exact IsiPair.bool_bool (fin s.toks)
  ·exact IsiPair.bool_tuple (fin _)
 | ref a =>
  cases ru
  obtain ⟨⟨xs, hq⟩, hi⟩ := hi
  obtain ⟨its, r, ⟨o, e, c, _⟩, _⟩ := I.tuple hq
  rcases hi with ⟨rfl, rfl⟩ | ⟨rfl, rfl⟩ | ⟨rfl, rfl⟩
  ·exact IsiPair.tuple_tuple e c (fin s.toks)
  ·exact IsiPair.tuple_int e c (fin _)
  ·exact IsiPair.tuple_bool e c (fin _)
 | non => exact hi.elim
 | str _ => exact hi.elim
 | byt _ => exact hi.elim
 | flt _ => exact hi.elim
 | ty _ => exact hi.elim
theorem Qib {bs : List Bool} {its : List Value} (r : Vals (bs.map V.bl) its) {i : Nat} {v : Value} (h : its[i]? = some v) : ∃ b, bs[i]? = some b ∧ v = .bool b := by
 have hl := r.length
 obtain ⟨hi, _⟩ := kX.mp h
 rw [jX] at hl
 have hb : bs[i]? = some bs[i] := gE (by omega)
 obtain ⟨u, h1, h2⟩ := r.get (i := i) (x := .bl bs[i]) (by rw [kQ, hb]; rfl)
 rw [h] at h1; cases h1
 exact ⟨_, hb, h2⟩
theorem Qfd (bs : List Bool) : ((List.range bs.length).all fun i => (bs[i]?).getD true) = bs.all id := by
 rw [xJ]
 simp only [yW, yV, id]
 constructor
 ·intro h b hb
  obtain ⟨i, hi, e⟩ := kQb hb
  have := h i hi
  rw [gE hi] at this
  simpa [e] using this
 ·intro h i hi
  rw [gE hi]
  exact h _ (jYc hi)
theorem Qic {h h' : Heap} {o : Obj} (hk : ∀ b x, b ∉ [h.objs.size] → (h.push o).get? b = some x → h'.get? b = some x) : ∀ b x, h.get? b = some x → h'.get? b = some x := fun b x e =>
 hk b x (fun hm => by rw [jQa.mp hm] at e; exact xW _ (kY e)) (jY _ e)
theorem Qcv (hc : X.calm = true) : Ym X (.builtin "all") (fun xs H Q => ∃ (a : Addr) (bs : List Bool), xs = [.ref a] ∧ SqL X.K H a (bs.map V.bl) ∧ Q (.bl (bs.all id)) H) := by
 intro pins s σ H xs us Q I rv h
 obtain ⟨a, bs, rfl, hq, q⟩ := h
 obtain ⟨u, rfl, ru⟩ := rv.one
 cases ru
 obtain ⟨its, r, p, hz⟩ := I.list hq
 have hlt : a < s.heap.objs.size := by obtain ⟨_, e, _⟩ := p.isList; exact kY e
 have hl := r.length
 rw [jX] at hl
 refine call_all_walk (wpAny_pyIter_list p.isList ?_)
 refine ⟨s.heap.objs.size, [s.heap.objs.size, a], [s.heap.objs.size], its.toArray.size, _, _, fun i => (bs[i]?).getD true, rfl, Walks.list (A := X.A.in1) (I.ok.hd hc) _ a (yZ hlt) its.toArray, ⟨⟨_, kZ _ rfl, rfl, rfl⟩, p.isList.push _⟩, fun i v s' Q' E' hP hQ => ?_, fun h' tk hk => ?_⟩
 ·obtain ⟨b, e, rfl⟩ := Qib r (by simpa using hP)
  simp only [e, Option.getD_some] at hQ
  exact wpAny_truthy_bool hQ
 ·rw [jV, ← hl, Qfd]
  exact ⟨.bl (bs.all id), H, I.kept (Qic hk), rfl, q⟩
end
inductive D where
 | non | bl (b : Bool) | int (i : Int) | tup (xs : List D) | lst (xs : List D)
inductive HasD (K : Fg) (H : Hp) : V → D → Prop
 | non : HasD K H .non .non
 | bl (b) : HasD K H (.bl b) (.bl b)
 | int (i) : HasD K H (.int i) (.int i)
 | tup {a vs xs} : SqT K H a vs → vs.length = xs.length → (∀ (i : Nat) v x, vs[i]? = some v → xs[i]? = some x → HasD K H v x) → HasD K H (.ref a) (.tup xs)
 | lst {a vs xs} : SqL K H a vs → vs.length = xs.length → (∀ (i : Nat) v x, vs[i]? = some v → xs[i]? = some x → HasD K H v x) → HasD K H (.ref a) (.lst xs)
inductive Alike : Nat → D → D → Prop
 | non {n} : Alike n .non .non
 | bl {n} (a b) : Alike n (.bl a) (.bl b)
 | int {n} (a b) : Alike n (.int a) (.int b)
 | tup {n xs ys} : (∀ (i : Nat) x y, xs[i]? = some x → ys[i]? = some y → Alike n x y) → Alike (n + 1) (.tup xs) (.tup ys)
 | lst {n xs ys} : (∀ (i : Nat) x y, xs[i]? = some x → ys[i]? = some y → Alike n x y) → Alike (n + 1) (.lst xs) (.lst ys)
section
variable {X : Cx} {pins : List (Addr × Obj)} {σ : St} {H : Hp} {s : Shared}
theorem Kq {α : Type} {xs ys : List α} (hl : xs.length = ys.length) (h : ∀ (i : Nat) x y, xs[i]? = some x → ys[i]? = some y → x = y) : xs = ys := by
 refine jXf fun i => ?_
 by_cases hi : i < xs.length
 ·rw [gE hi, gE (by omega : i < ys.length)]
  exact congrArg some (h i _ _ (gE hi) (gE (by omega)))
 ·rw [zV (by omega), zV (by omega)]
theorem Inv.noTL {a : Addr} {xs ys : List V} (I : Inv X pins σ H s) (h : SqT X.K H a xs) (h' : SqL X.K H a ys) : False := by
 obtain ⟨_, _, ⟨o, e, c, _⟩, _⟩ := I.tuple h
 obtain ⟨_, _, p, _⟩ := I.list h'
 obtain ⟨o', e', c', _⟩ := p.isList
 rw [e] at e'; cases e'
 rw [c] at c'
 injection c' with z
 exact absurd z (by decide)
theorem Qap (I : Inv X pins σ H s) {x : V} {d : D} (h : HasD X.K H x d) : ∀ e, HasD X.K H x e → d = e := by
 induction h with
 | non => intro e h; cases h; rfl
 | bl b => intro e h; cases h; rfl
 | int i => intro e h; cases h; rfl
 | tup hq hl hs ih =>
  intro e h
  cases h with
  | tup hq' hl' hs' =>
   obtain rfl := I.tuple_inj hq hq'
   refine congrArg D.tup (Kq (hl.symm.trans hl') fun i x y ex ey => ?_)
   have hi : i < _ := (kX.mp ex).1
   rw [← hl] at hi
   exact ih i _ x (gE hi) ex y (hs' i _ y (gE hi) ey)
  | lst hq' hl' hs' => exact (I.noTL hq hq').elim
 | lst hq hl hs ih =>
  intro e h
  cases h with
  | lst hq' hl' hs' =>
   obtain rfl := I.list_inj hq hq'
   refine congrArg D.lst (Kq (hl.symm.trans hl') fun i x y ex ey => ?_)
   have hi : i < _ := (kX.mp ex).1
   rw [← hl] at hi
   exact ih i _ x (gE hi) ex y (hs' i _ y (gE hi) ey)
  | tup hq' hl' hs' => exact (I.noTL hq' hq).elim
theorem Qaq {n : Nat} {e : Nat → Bool} : (List.range n).all e = true ↔ ∀ i, i < n → e i = true := by simp [yW]
open PySem.SeqAt Classical in
theorem Qhb {n : Nat} {d e : D} (h : Alike n d e) : ∀ {A : Around} {x y : V} {u v : Value}, A.units + n < cLine → Inv X pins σ H s → RelV x u → RelV y v → HasD X.K H x d → HasD X.K H y e →
  ∃ b : Bool, (b = true ↔ d = e) ∧ EqAt A s u v b ∧ (∀ a c, u = .ref a → v = .ref c → RcAt A s u v b ∧ RcNeAt A s u v (!b)) := by
 induction h with
 | non =>
  intro A x y u v hu I ru rv hd he
  cases hd
  cases he
  cases ru
  cases rv
  exact ⟨true, by simp, EqAt.same _, fun a c e _ => nomatch e⟩
 | bl a b =>
  intro A x y u v hu I ru rv hd he
  cases hd
  cases he
  cases ru
  cases rv
  exact ⟨a == b, by simp, EqAt.bool_bool a b, fun a c e _ => nomatch e⟩
 | int a b =>
  intro A x y u v hu I ru rv hd he
  cases hd
  cases he
  obtain ⟨t, rfl⟩ := ru
  obtain ⟨t', rfl⟩ := rv
  exact ⟨a == b, by simp, EqAt.int_int a t b t', fun a c e _ => nomatch e⟩
 | @tup m xs ys hs ih =>
  intro A x y u v hu I ru rv hd he
  have hd' := hd
  have he' := he
  cases hd with
  | @tup p vs _ hq hl hv =>
  cases he with
  | @tup q ws _ hq' hl' hv' =>
  cases ru
  cases rv
  obtain ⟨its, r, pt, _⟩ := I.tuple hq
  obtain ⟨its', r', pt', _⟩ := I.tuple hq'
  have l1 := r.length
  have l2 := r'.length
  have key : ∀ j (h1 : j < its.toArray.size) (h2 : j < its'.toArray.size), EqAt A.in1 s its.toArray[j] its'.toArray[j] (decide (xs[j]? = ys[j]?)) := fun j h1 h2 => by
   rw [jV] at h1 h2
   have j1 : j < vs.length := by omega
   have j2 : j < ws.length := by omega
   have j3 : j < xs.length := by omega
   have j4 : j < ys.length := by omega
   obtain ⟨u1, e1, ru1⟩ := r.get (gE j1)
   obtain ⟨u2, e2, ru2⟩ := r'.get (gE j2)
   obtain ⟨b, hb, eq, _⟩ := ih j _ _ (gE j3) (gE j4) (A := A.in1) (by show A.units + 1 + m < cLine; omega) I ru1 ru2 (hv j _ _ (gE j1) (gE j3)) (hv' j _ _ (gE j2) (gE j4))
   have z1 : its.toArray[j] = u1 := by rw [gE (by omega)] at e1; simpa using e1
   have z2 : its'.toArray[j] = u2 := by rw [gE (by omega)] at e2; simpa using e2
   rw [z1, z2]
   have : (decide (xs[j]? = ys[j]?)) = b := by
    rw [xJ, decide_eq_true_iff, hb, gE j3, gE j4]
    exact ⟨fun z => Option.some.inj z, fun z => congrArg some z⟩
   rw [this]
   exact eq
  have hb : ((List.range (min its.toArray.size its'.toArray.size)).all (fun j => decide (xs[j]? = ys[j]?)) && its.toArray.size == its'.toArray.size) = true ↔ D.tup xs = D.tup ys := by
   rw [xK, Qaq, jV, jV, beq_iff_eq]
   constructor
   ·rintro ⟨z1, z2⟩
    refine congrArg D.tup (Kq (by omega) fun i x y ex ey => ?_)
    have hi := (kX.mp ex).1
    have := xV (z1 i (by omega))
    rw [ex, ey] at this
    exact Option.some.inj this
   ·intro z
    injection z with z
    subst z
    exact ⟨fun i _ => kW rfl, by omega⟩
  refine ⟨_, hb, ?_, fun a c _ _ => ⟨RcAt.tuples pt pt' (by omega) key, RcNeAt.tuples pt pt' (by omega) key⟩⟩
  by_cases hpq : p = q
  ·subst hpq
   rw [hb.mpr (Qap I hd' _ he')]
   exact EqAt.same _
  ·exact EqAt.of_refs hpq (RcAt.tuples pt pt' (by omega) key)
 | @lst m xs ys hs ih =>
  intro A x y u v hu I ru rv hd he
  have hd' := hd
  have he' := he
  cases hd with
  | @lst p vs _ hq hl hv =>
  cases he with
  | @lst q ws _ hq' hl' hv' =>
  cases ru
  cases rv
  obtain ⟨its, r, pt, _⟩ := I.list hq
  obtain ⟨its', r', pt', _⟩ := I.list hq'
  have l1 := r.length
  have l2 := r'.length
  have key : ∀ j (h1 : j < its.toArray.size) (h2 : j < its'.toArray.size), EqAt A.in1 s its.toArray[j] its'.toArray[j] (decide (xs[j]? = ys[j]?)) := fun j h1 h2 => by
   rw [jV] at h1 h2
   have j1 : j < vs.length := by omega
   have j2 : j < ws.length := by omega
   have j3 : j < xs.length := by omega
   have j4 : j < ys.length := by omega
   obtain ⟨u1, e1, ru1⟩ := r.get (gE j1)
   obtain ⟨u2, e2, ru2⟩ := r'.get (gE j2)
   obtain ⟨b, hb, eq, _⟩ := ih j _ _ (gE j3) (gE j4) (A := A.in1) (by show A.units + 1 + m < cLine; omega) I ru1 ru2 (hv j _ _ (gE j1) (gE j3)) (hv' j _ _ (gE j2) (gE j4))
   have z1 : its.toArray[j] = u1 := by rw [gE (by omega)] at e1; simpa using e1
   have z2 : its'.toArray[j] = u2 := by rw [gE (by omega)] at e2; simpa using e2
   rw [z1, z2]
   have : (decide (xs[j]? = ys[j]?)) = b := by
    rw [xJ, decide_eq_true_iff, hb, gE j3, gE j4]
    exact ⟨fun z => Option.some.inj z, fun z => congrArg some z⟩
   rw [this]
   exact eq
  by_cases hsz : its.toArray.size = its'.toArray.size
  ·have hb : ((List.range its.toArray.size).all (fun j => decide (xs[j]? = ys[j]?))) = true ↔ D.lst xs = D.lst ys := by
    rw [jV, jV] at hsz
    rw [Qaq, jV]
    constructor
    ·intro z1
     refine congrArg D.lst (Kq (by omega) fun i x y ex ey => ?_)
     have hi := (kX.mp ex).1
     have := xV (z1 i (by omega))
     rw [ex, ey] at this
     exact Option.some.inj this
    ·intro z
     injection z with z
     subst z
     exact fun i _ => kW rfl
   refine ⟨_, hb, ?_, fun a c _ _ => ⟨RcAt.lists pt.isList pt'.isList hsz (by omega) key, RcNeAt.lists pt.isList pt'.isList hsz (by omega) key⟩⟩
   by_cases hpq : p = q
   ·subst hpq
    rw [hb.mpr (Qap I hd' _ he')]
    exact EqAt.same _
   ·exact EqAt.of_refs hpq (RcAt.lists pt.isList pt'.isList hsz (by omega) key)
  ·have hne : (its.toArray.size != its'.toArray.size) = true := by simpa using hsz
   have hb : false = true ↔ D.lst xs = D.lst ys := by
    rw [jV, jV] at hsz
    constructor
    ·intro z; cases z
    ·intro z
     injection z with z
     subst z
     omega
   refine ⟨false, hb, ?_, fun a c _ _ => ⟨RcAt.lists_lengths pt.isList pt'.isList hne (by omega), RcNeAt.lists_lengths pt.isList pt'.isList hne (by omega)⟩⟩
   by_cases hpq : p = q
   ·subst hpq
    obtain rfl := I.list_inj hq hq'
    rw [jV, jV] at hsz
    omega
   ·exact EqAt.of_refs hpq (RcAt.lists_lengths pt.isList pt'.isList hne (by omega))
theorem Qcw {n : Nat} (hu : X.A.units + n < cLine) : OpR X (compareOp .Eq) (fun x y H Q => ∃ a b d e, x = .ref a ∧ y = .ref b ∧ HasD X.K H x d ∧ HasD X.K H y e ∧ Alike n d e ∧ ∀ c : Bool, (c = true ↔ d = e) → Q (.bl c) H) := by
 intro pins s σ H x y v u Q I rx ry h
 obtain ⟨a, b, d, e, rfl, rfl, h1, h2, al, q⟩ := h
 cases rx
 cases ry
 obtain ⟨c, hc, _, hr⟩ := Qhb al (A := X.A) (x := .ref a) (y := .ref b) (u := .ref a) (v := .ref b) hu I rfl rfl h1 h2
 exact (hr a b rfl rfl).1 _ _ _ _ ⟨.bl c, H, I, rfl, q c hc⟩
theorem Qar {n : Nat} (hu : X.A.units + n < cLine) : OpR X (compareOp .NotEq) (fun x y H Q => ∃ a b d e, x = .ref a ∧ y = .ref b ∧ HasD X.K H x d ∧ HasD X.K H y e ∧ Alike n d e ∧ ∀ c : Bool, (c = true ↔ d = e) → Q (.bl (!c)) H) := by
 intro pins s σ H x y v u Q I rx ry h
 obtain ⟨a, b, d, e, rfl, rfl, h1, h2, al, q⟩ := h
 cases rx
 cases ry
 obtain ⟨c, hc, _, hr⟩ := Qhb al (A := X.A) (x := .ref a) (y := .ref b) (u := .ref a) (v := .ref b) hu I rfl rfl h1 h2
 exact (hr a b rfl rfl).2 _ _ _ _ ⟨.bl (!c), H, I, rfl, q c hc⟩
end
def Fn (K : Fg) (mg : Str → Option Value) (x : Str) (st : Stmt) : Prop := ∃ f fd, Fun K x x st f fd ∧ mg x = some (.ref f)
theorem Yu {K : Fg} {h : Heap} {mg : Str → Option Value} {x : Str} {st : Stmt} {f : Addr} {oc : Value} {od an : Option Addr} {osl : Array (Option Value)} {kV doc pm cdv ct : Value} (X : K.In h) (G : h.Ns mainGlobals mg)
  (a : PySem.W.nsIn K mainGlobals x = some (some (.ref f))) (l : K.lookup f = some ⟨oc, od, .func (PySem.W.fnOf x x (Qt st) (Qn st) (Qh st) .none kV doc pm an cdv ct), osl⟩) (c : PySem.W.codeIn K cdv x = true) (k : PySem.W.keepIn K (.ref f) = true) : Fn K mg x st :=
 ⟨f, _, fun_mk l c k, PySem.W.mg_of X G a⟩
structure Cal (P : Program) (w : World) (K : Fg) (mg : Str → Option Value) (base : Heap) (k : Nat) (x : Str) (ps : List Str) (sp : Sp) : Prop where
 ex : ∃ f fd, FnOk P w K mg base CX0 k f fd ps sp ∧ mg x = some (.ref f) ∧ PySem.W.keepIn K (.ref f) = true ∧ Binds K fd ps []
theorem Xz {P : Program} {w : World} {K : Fg} {mg : Str → Option Value} {base : Heap} {k : Nat} {x : Str} {st : Stmt} {N ps : List Str} {sp : Sp} (F : Fn K mg x st) (S : FnScope N ps (Qh st))
  (hb : ∀ (kV doc pm : Value) (an : Option Addr) (cdv ct : Value) (us : List Value), us.length = ps.length → bindArgs (PySem.W.fnOf x x (Qt st) (Qn st) (Qh st) .none kV doc pm an cdv ct) ⟨us, []⟩ = pure (ps.zip us)) (len : ∀ vs H Q E, sp vs H Q E → vs.length = ps.length)
  (hbody : ∀ (f : Addr) (cdv : Value) (A : Around) (outer : List Env) (s : Shared) (H : Hp) (vs : List V) (Q : VK) (E : XK), Room k (A.deeper (envOfC x (Qh st) s.heap.objs.size f cdv)) → sp vs H Q E →
   ∃ t, PSs (cxOf CX0 P w K mg base N x (Qh st) f cdv A outer s H E).nox (Qn st) t ∧ t { nx := fun _ H' => Q .non H', rt := Q } (start N vs) H) : Cal P w K mg base (k + 1) x ps sp := by
 obtain ⟨f, fd, F, m⟩ := F
 exact ⟨f, fd, F.ok S len (hbody f), m, F.kp, F.binds hb⟩
section
variable {X : Cx}
theorem Xq {k : Nat} {x : Str} {ps : List Str} {sp : Sp} {e : Expr} {es : List Expr} {t : TA} {p pos : Pos} (C : Cal X.prog X.w X.K X.mg X.base k x ps sp) (hr : Room k X.A) (ha : PA X (e :: es) t) (hg : autoParam (Gl X x) L2.aRfl._auto_1)
  (hdb : autoParam ((x == ("__debug__" : Str)) = false) L2.aDec._auto_1) (he : autoParam (starEach (e :: es) X.env = (false, eval e X.env) :: starEach es X.env) L2.aRfl._auto_1) (hpl : autoParam ((backTo pos (starEach es X.env)).any (·.1) = false) L2.aRfl._auto_1) :
  PE X (.Call (.Name x p) (e :: es) [] pos) (tCall sp [] E0 t) := by
 obtain ⟨f, fd, F, m, kp, b⟩ := C.ex
 exact Qhv F hr hg m kp b .nil pass0 ha hdb he hpl
theorem Qfe {x : Str} {T : String} {pos : Pos} (hm : X.mg x = none) (hv : bootBuiltins x = some (.type T)) (hg : autoParam (Gl X x) L2.aRfl._auto_1) (hn : autoParam (x ≠ "__name__") L2.aDec._auto_1) (hd : autoParam ((x == ("__debug__" : Str)) = false) L2.aDec._auto_1) : PE X (.Name x pos) (tC (.ty T)) :=
 Qhq hg hm hv (v := .ty T) rfl hn hd
end
theorem Jq : bootBuiltins "len" = some (.builtin "len") := by decide +kernel
theorem bt_all : bootBuiltins "all" = some (.builtin "all") := by decide +kernel
theorem Xt : bootBuiltins "isinstance" = some (.builtin "isinstance") := by decide +kernel
theorem Qhc : bootBuiltins "min" = some (.builtin "min") := by decide +kernel
theorem Jr : bootBuiltins "sorted" = some (.builtin "sorted") := by decide +kernel
theorem Qcx : bootBuiltins "int" = some (.type "int") := by decide +kernel
theorem Qid : bootBuiltins "bool" = some (.type "bool") := by decide +kernel
theorem Yh : bootBuiltins "tuple" = some (.type "tuple") := by decide +kernel
theorem Yy : bootBuiltins "list" = some (.type "list") := by decide +kernel
theorem Vn : bootBuiltins "enumerate" = some (.type "enumerate") := by decide +kernel
theorem Qc {H : Hp} {p : Addr} (h : H p = none) (o : HO) : Same H (upd H p o) := fun b u q => by rw [Qi (Qf q h)]; exact q
theorem Same.tup {K : Fg} {H H' : Hp} {a : Addr} {xs : List V} (e : Same H H') (h : SqT K H a xs) : SqT K H' a xs := by
 rcases h with (h | ⟨o, h⟩) | h
 ·exact .inl (.inl (e _ _ h))
 ·exact .inl (.inr ⟨o, e _ _ h⟩)
 ·exact .inr h
theorem Xb {K : Fg} {H : Hp} {a : Addr} {xs : List V} (h : H a = some (.tup xs)) : SqT K H a xs := .inl (.inl h)
theorem Qj {K : Fg} {H : Hp} {a : Addr} {xs : List V} (h : H a = some (.lst xs)) : SqL K H a xs := .inl (.inl h)
theorem Js {J : It} {n : Nat} {τ0 : St} {g : TG} {tt : TT} {te : TE} {H : Hp} {Q : Addr → Hp → Prop} {D : Addr} (Pv : Nat → St → List V → Hp → Prop)
  (h0 : Pv 0 τ0 [] (upd H D (.lst []))) (hD : ∀ i τ ys H, i ≤ n → Pv i τ ys H → H D = some (.lst ys) ∧ ys.length < sizeLine) (go : ∀ i τ ys H, i < n → Pv i τ ys H → J.go i H) (stop : ∀ τ ys H, Pv n τ ys H → J.stop n H)
  (hs : ∀ i τ ys H x H', i < n → Pv i τ ys H → J.yld i H x H' → g x τ H' fun σ2 H2 => tt σ2 H2 fun ok H3 => if ok = true then te σ2 H3 fun v H4 => H4 D = some (.lst ys) ∧ Pv (i + 1) σ2 (ys ++ [v]) (upd H4 D (.lst (ys ++ [v]))) else Pv (i + 1) σ2 ys H3)
  (hd : ∀ τ ys H, Pv n τ ys H → Q D H) :
  LcW J D τ0 H g tt te Q := by
 refine ⟨fun i m τ ys H => m = n - i ∧ i ≤ n ∧ Pv i τ ys H, ⟨n, by simp, wV _, h0⟩, ?_⟩
 rintro i m τ ys H ⟨rfl, hi, p⟩
 obtain ⟨z1, z2⟩ := hD i τ ys H hi p
 refine ⟨z1, ?_⟩
 by_cases hlt : i < n
 ·refine .inr ⟨go i τ ys H hlt p, z2, fun τ v H => Pv (i + 1) τ (ys ++ [v]) (upd H D (.lst (ys ++ [v]))), fun τ H => Pv (i + 1) τ ys H, fun τ v H q => ⟨n - (i + 1), by omega, rfl, hlt, q⟩, fun τ H q => ⟨n - (i + 1), by omega, rfl, hlt, q⟩, fun x H' y => hs i τ ys H x H' hlt p y⟩
 ·have e : i = n := by omega
  subst e
  exact .inl ⟨stop τ ys H p, hd τ ys H p⟩
theorem Vals.of_get : ∀ {xs : List V} {us : List Value}, xs.length = us.length → (∀ (i : Nat) x u, xs[i]? = some x → us[i]? = some u → RelV x u) → Vals xs us
 | [], [], _, _ => .nil
 | x :: xs, u :: us, hl, h => .cons (h 0 x u rfl rfl) (Vals.of_get (by simpa using hl) fun i y v e1 e2 => h (i + 1) y v (by simpa using e1) (by simpa using e2))
 | [], _ :: _, hl, _ => by simp at hl
 | _ :: _, [], hl, _ => by simp at hl
section
variable {X : Cx}
def insV (xs : List V) (k : Nat) (y : V) : List V := xs.take k ++ y :: xs.drop k
theorem Vals.ins {xs : List V} {us : List Value} {y : V} {u : Value} (r : Vals xs us) (ry : RelV y u) (k : Nat) : Vals (insV xs k y) (us.take k ++ u :: us.drop k) :=
 (Vals.take k r).append (.cons ry (Vals.drop k r))
theorem Qcy : MtM X "list.insert" (fun x vs H Q => ∃ l xs k y, x = .ref l ∧ vs = [.int k, y] ∧ H l = some (.lst xs) ∧ 0 ≤ k ∧ k ≤ (xs.length : Int) ∧ xs.length < sizeLine ∧ Q .non (upd H l (.lst (insV xs k.toNat y)))) := by
 intro pins s σ H x vs v us Q I rx rv h
 obtain ⟨l, xs, k, y, rfl, rfl, hH, h0, h1, hz, q⟩ := h
 cases rx
 obtain ⟨u1, u2, rfl, ⟨t, rfl⟩, ru⟩ := rv.two
 obtain ⟨z, its, n, r, hl, e⟩ := I.lstM hH
 have fit : ¬ (!Builtin.List.listFitsIndex k) = true := by
  have : Builtin.List.listFitsIndex k = true := by
   unfold Builtin.List.listFitsIndex
   have : (sizeLine : Nat) = 16777216 := by decide
   simp only [xK, decide_eq_true_eq]
   constructor <;> omega
  rw [this]; simp
 refine call_meets F.slot_list_insert ⟨_, e, rfl⟩ F.entry_list_insert (F.args_list_insert_3 _ _ _) (PySem.AutoListH.list_insert_list_int_val_1 l its.toArray n k t u2 fit (by rw [jV]; omega)) ⟨e, ?_⟩
 refine ⟨.non, _, I.lset (its' := its.take k.toNat ++ u2 :: its.drop k.toNat) hH e ?_ (Vals.ins r ru k.toNat) ?_, rfl, q⟩
 ·have e1 : (if k < 0 then (k + ((its.toArray.size : Nat) : Int)).toNat else min k.toNat its.toArray.size) = k.toNat := by
   rw [if_neg (by omega), jV]; omega
  simp only [e1]
  apply Array.toList_inj.mp
  simp
  rw [List.take_of_length_le (by simp)]
 ·unfold insV
  rw [yY, xZ, jYb, List.length_drop]
  omega
theorem Qas {e : Expr} {ta : TA} {p pos : Pos} (hm : X.mg "range" = none) (ha : PA X [e] ta) (hg : autoParam (Gl X "range") L2.aRfl._auto_1) (hs : autoParam (starEach [e] X.env = [(false, eval e X.env)]) L2.aRfl._auto_1) :
  PE X (.Call (.Name "range" p) [e] [] pos) (fun σ H Q => ta σ H fun vs H1 => ∃ n : Int, vs = [.int n] ∧ ∀ r, H1 r = none → Q (.ref r) (upd H1 r (.rng 0 n))) := by
 intro pins s σ H Q I h
 refine Call_ (Zu I hg hm boot_range (PyProof.Rows.callWith_type1 (thn (ha pos pins s σ H _ I h) fun us s1 hqP => ?_) hs rfl))
 obtain ⟨vs, H1, I1, r1, q1⟩ := hqP
 obtain ⟨n, e, q⟩ := q1
 subst e
 obtain ⟨u, rfl, t, rfl⟩ := r1.one
 refine call_range_1 ⟨.ref s1.heap.objs.size, upd H1 s1.heap.objs.size (.rng 0 n), I1.laid (fun b u e => jY _ e) (jK _) ⟨_, _, _, kZ _ rfl⟩, rfl, q _ (I1.hok.fresh (jK _))⟩
theorem Zg (hc : X.calm = true) : Ym X (.type "list") (fun xs H Q => ∃ (r : Addr) (n : Int), xs = [.ref r] ∧ H r = some (.rng 0 n) ∧ 0 ≤ n ∧ n ≤ 1000000 ∧ ∀ l, H l = none → Q (.ref l) (upd H l (.lst ((List.range n.toNat).map fun i => V.int (i : Nat))))) := by
 intro pins s σ H xs us Q I rv h
 obtain ⟨r, n, rfl, hr, h0, h1, q⟩ := h
 obtain ⟨u, rfl, ru⟩ := rv.one
 cases ru
 obtain ⟨t, u, v, e⟩ := I.hok r _ hr
 have hz : (sizeLine : Nat) = 16777216 := by decide
 refine call_list_range (n := n.toNat) (I.ok.hd hc) e (small_one (by omega) (by omega) (by omega) (by omega)) (by rw [rangeSize_one]; split <;> omega) (by omega) fun h' tk acc' c' hk hS hI => ?_
 refine ⟨.ref s.heap.objs.size, upd H s.heap.objs.size (.lst ((List.range n.toNat).map fun i => V.int (i : Nat))), I.laid hk (jK _) ?_, rfl, q _ (I.hok.fresh (jK _))⟩
 refine ⟨by rw [jX, xX]; omega, acc'.toList, c', Vals.of_get (by rw [jX, xX, zX, hI.1]) fun i x u e1 e2 => ?_, by simpa using hS⟩
 obtain ⟨t', rfl⟩ := hI.2 i u (by simpa using e2)
 rw [kQ] at e1
 obtain ⟨j, ej, rfl⟩ := yK.mp e1
 have hj := kX.mp ej
 obtain ⟨hj1, hj2⟩ := hj
 rw [List.getElem_range] at hj2
 subst hj2
 exact ⟨t', by simp⟩
theorem Yi {K : Fg} (hK : X.K = K) : IxR X (rIxT K) := by subst hK; exact Qz
theorem Kr {K : Fg} (hK : X.K = K) : Ym X (.type "list") (fun xs H Q => ∃ p ys, xs = [.ref p] ∧ (SqL K H p ys ∨ SqT K H p ys) ∧ ∀ l, H l = none → Q (.ref l) (upd H l (.lst ys))) := by subst hK; exact Yc
theorem Kj {K : Fg} (hK : X.K = K) : Ym X (.type "tuple") (fun xs H Q => ∃ p ys, xs = [.ref p] ∧ ((SqL K H p ys ∧ ∀ l, H l = none → Q (.ref l) (upd H l (.tup ys))) ∨ (SqT K H p ys ∧ Q (.ref p) H))) := by subst hK; exact Xf
end
section
variable (P : Program) (w : World)
end
section
variable {P : Program} {w : World} {H H' : Hp} {h h' : Heap} {a : Addr} {o : HO}
end
section
variable {P : Program} {w : World} {H : Hp} {h h' : Heap} {x e : Addr} {o' : HO}
end
section
variable {fs fs' ex ex' : List Addr} {H H1 H2 : Hp} {h h1 h2 h' : Heap} {a x e : Addr} {o : HO}
end
section
variable {X : Cx} {pins : List (Addr × Obj)} {σ : List (Option V)} {H H' : Hp} {s : Shared} {h' : Heap}
end
section
variable {X : Cx}
variable {a b : Expr} {ta tb : TE} {pos : Pos}
variable {tA tB' : TT} {rest : List Expr}
end
section
variable {X : Cx} {pins : List (Addr × Obj)} {σ : St} {H : Hp} {s : Shared} {a : Addr} {xs ys : List V}
end
section
variable {X : Cx} {pins : List (Addr × Obj)} {σ : St} {H : Hp} {s : Shared} {E : Value → Shared → Prop}
end
section
variable {X : Cx} {st : Stmt} {rest : List Stmt} {t u : TS} {e : Expr} {te : TE} {pos : Pos}
end
section
variable {X : Cx} {pos : Pos}
end
section
variable {X : Cx} {pos : Pos}
end
section
variable {X : Cx} {tg : Expr}
end
section
variable {X : Cx} {a b c : Expr} {ta tb tc : TE} {pos : Pos}
end
section
variable {X : Cx} {a b c : Expr} {ta tb tc : TE} {pos : Pos}
end
section
variable {prog : Program} {w : World} {A : Around} {E : Value → Shared → Prop} {s : Shared} {K : Fg} {x dx C f : Addr} {mA : Str → Option Value} {name : Str} {v : Value}
end
section
variable {P : Program} {w : World} {H H' : Hp} {h h' : Heap} {a C dx : Addr} {fs fs' : List (Str × V)}
end
section
variable {X : Cx} {pins : List (Addr × Obj)} {σ : St} {H : Hp} {s : Shared} {a C dx : Addr} {fs : List (Str × V)} {f : Str} {v : V} {A : Around} {E : Value → Shared → Prop}
end
section
variable {X : Cx} {o e value : Expr} {f : Str} {pos pos' tpos : Pos} {ta tv : TE}
end
section
variable {X : Cx} {pins : List (Addr × Obj)} {σ : St} {H : Hp} {s : Shared} {A : Around} {E : Value → Shared → Prop} {Q : Value → Shared → Prop} {c : Value} {b : Bool}
end
section
variable {X : Cx} {e : Expr} {es : List Expr} {te : TE} {t : TA} {pos : Pos}
end
section
variable {X : Cx} {pins : List (Addr × Obj)} {σ : St} {H : Hp} {s s' : Shared}
end
section
variable {X : Cx} {CX : CXT} {k : Nat} {f C : Addr} {fd : FuncData} {ps : List Str} {sp : Sp} {dvs : List V} {ds : List Value} {E : XK} {x m : Str} {p pos apos : Pos} {e o : Expr} {es : List Expr} {ta : TE} {t : TA}
end
section
variable {X : Cx} {CX : CXT} {k : Nat} {f C : Addr} {fd : FuncData} {ps ks : List Str} {sp : Sp} {E : XK} {x m : Str} {p pos apos kpos : Pos} {e o : Expr} {es : List Expr} {kws : List Keyword} {te ta : TE} {t tk : TA} {nm : Option Str}
variable {g : List Value → List Value → List Value} {gV : List V → List V → List V}
end
section
variable {X : Cx} {x : Str} {p pos : Pos} {e : Expr} {es : List Expr} {t : TA} {id T : String} {r : List V → Hp → VK → Prop}
end
section
variable {κ : Type} [DecidableEq κ]
def valV (kvs : List (κ × V)) (k : κ) : Option V := (kvs.find? fun kv => decide (kv.1 = k)).map (·.2)
def putK (kvs : List (κ × V)) (k : κ) (v : V) : List (κ × V) :=
 if (kvs.any fun kv => decide (kv.1 = k)) = true then kvs.map (fun kv => if kv.1 = k then (kv.1, v) else kv) else kvs ++ [(k, v)]
theorem Xo {p : κ × V} {r : List (κ × V)} {k : κ} (e : p.1 = k) : valV (p :: r) k = some p.2 := by simp [valV, jKb, e]
theorem Xp {p : κ × V} {r : List (κ × V)} {k : κ} (e : ¬ p.1 = k) : valV (p :: r) k = valV r k := by simp [valV, jKb, e]
theorem Ys (k : κ) : ∀ kvs : List (κ × V), (kvs.any fun kv => decide (kv.1 = k)) = (valV kvs k).isSome
 | [] => rfl
 | p :: r => by
  rw [List.any_cons]
  by_cases e : p.1 = k
  ·simp only [Xo e, kW e, Bool.true_or, Option.isSome_some]
  ·rw [Xp e, kJ e, Bool.false_or]; exact Ys k r
theorem Qat (k j : κ) (y : V) : ∀ kvs : List (κ × V), valV (kvs.map fun kv => if kv.1 = k then (kv.1, y) else kv) j = (valV kvs j).map fun x => if j = k then y else x
 | [] => rfl
 | p :: r => by
  have ih := Qat k j y r
  rw [zK]
  by_cases h : p.1 = k
  ·rw [if_pos h]
   by_cases e : p.1 = j
   ·rw [Xo (p := (p.1, y)) e, Xo e, jKc, if_pos (e.symm.trans h)]
   ·rw [Xp (p := (p.1, y)) e, Xp e, ih]
  ·rw [if_neg h]
   by_cases e : p.1 = j
   ·rw [Xo (p := p) e, Xo e, jKc, if_neg (fun z => h (e.trans z))]
   ·rw [Xp (p := p) e, Xp e, ih]
theorem Vo (k j : κ) (y : V) : ∀ kvs : List (κ × V), valV kvs k = none → valV (kvs ++ [(k, y)]) j = if j = k then some y else valV kvs j
 | [], _ => by
  by_cases e : k = j
  ·rw [if_pos e.symm]; exact Xo (p := (k, y)) e
  ·rw [if_neg (fun z => e z.symm)]; exact Xp (p := (k, y)) e
 | p :: r, hn => by
  rw [List.cons_append]
  have hk : ¬ p.1 = k := fun z => by rw [Xo z] at hn; cases hn
  rw [Xp hk] at hn
  have ih := Vo k j y r hn
  by_cases e : p.1 = j
  ·rw [Xo e, Xo e, if_neg (fun z => hk (e.trans z))]
  ·rw [Xp e, Xp e, ih]
theorem Qff (kvs : List (κ × V)) (k j : κ) (y : V) : valV (putK kvs k y) j = if j = k then some y else valV kvs j := by
 unfold putK
 by_cases a : (kvs.any fun kv => decide (kv.1 = k)) = true
 ·rw [if_pos a, Qat]
  rw [Ys] at a
  by_cases e : j = k
  ·obtain ⟨x, hx⟩ := wQ.mp a
   rw [if_pos e, e, hx, jKc, if_pos rfl]
  ·rw [if_neg e]
   cases valV kvs j with
   | none => rfl
   | some x => rw [jKc, if_neg e]
 ·rw [if_neg a]
  refine Vo k j y kvs ?_
  rw [Ys] at a
  cases q : valV kvs k with
  | none => rfl
  | some x => rw [q] at a; exact (a rfl).elim
theorem Jt (kvs : List (κ × V)) (k : κ) (v : V) : (putK kvs k v).length ≤ kvs.length + 1 := by
 unfold putK
 split
 ·rw [jX]; omega
 ·rw [yY, xZ, List.length_nil]; omega
theorem RelO.isSome_eq {o : Option V} {u : Option Value} (r : RelO o u) : o.isSome = u.isSome := by
 cases o with
 | none => cases u with
  | none => rfl
  | some _ => exact (show False from r).elim
 | some _ => cases u with
  | none => exact (show False from r).elim
  | some _ => rfl
theorem RelO.getD {o : Option V} {u : Option Value} {d : V} {d' : Value} (r : RelO o u) (rd : RelV d d') : RelV (o.getD d) (u.getD d') := by
 cases o with
 | none => cases u with
  | none => exact rd
  | some _ => exact (show False from r).elim
 | some _ => cases u with
  | none => exact (show False from r).elim
  | some _ => exact r
end
section
variable {P : Program} {w : World} {H : Hp} {h : Heap} {a : Addr}
end
section
variable {X : Cx} {pins : List (Addr × Obj)} {σ : St} {H : Hp} {s : Shared} {a : Addr} {y v : V} {u r : Value} {o : Option V} {A : Around} {E : Value → Shared → Prop}
theorem Inv.big (I : Inv X pins σ H s) : sysModules < s.heap.objs.size := by
 have h : mainGlobals < s.heap.objs.size := (I.mod.glob.keeps I.bk).lt
 exact Nat.lt_trans (by decide) h
theorem Qie {h' : Heap} {t' : Nat} {ob : HO} (I : Inv X pins σ H s) (mu : Mut (H a)) (hs : Heap.SameBut a s.heap h') (he : ∃ q, h'.get? a = some q) (new : ObjOk X.prog X.w (upd H a ob) h' a ob) :
  Inv X pins σ (upd H a ob) { s with heap := h', toks := t' } :=
 I.write (x := a) (e := a) mu (.inl rfl) (fun b q hb z => (hs.2 b hb).trans z) he new
end
section
variable {X : Cx} {pins : List (Addr × Obj)} {σ : St} {H : Hp} {s : Shared} {a : Addr} {kvs : List (Key × V)} {k : Key} {u : Value} {A : Around} {E : Value → Shared → Prop}
end
def NoSl (i : Expr) : Prop := ∀ ov iv, subscripted i false ov iv = operate [ov, iv] (getItem ov iv)
theorem Qif {prog : Program} {w : World} {A : Around} {E : Value → Shared → Prop} {s : Shared} {env : Env} {value slice : Expr} {pos : Pos} {T id : String} {Q : Value → Shared → Prop}
  (hl : typeLookup (.type T) "__getitem__" = pure (some (.builtin id))) (hs : NoSl slice)
  (h : wpAny (model prog w) A (eval value env) (fun o s₁ => wpAny (model prog w) A (eval slice env) (fun i s₂ => s₂.TypeIs o T ∧ wpAny (model prog w) A (getItem o i) Q E s₂) E s₁) E s) :
  wpAny (model prog w) A (eval (.Subscript value slice pos) env) Q E s := by
 refine Subscript_ (wpAny_mono h (fun o s₁ h₁ => wpAny_mono h₁ (fun i s₂ h₂ => ?_) fun _ _ x => x) fun _ _ x => x)
 obtain ⟨hT, h₂⟩ := h₂
 unfold subscriptTail
 refine jQ ?_
 rw [getitemInPython_of_ne hT.not_modules]
 refine jQ (wpAny_specialOf hT hl ?_)
 have fin : wpAny (model prog w) A (subscripted slice false o i) (fun r s₃ => wpAny (model prog w) A (letTemporaryGo value o r >>= fun _ => pure r) Q E s₃) E s₂ := by
  rw [hs o i]
  exact wpAny_operating (wpAny_mono h₂ (fun r s₃ h₃ => jQ (wpAny_letTemporaryGo (jZ h₃))) fun _ _ x => x)
 first
  | exact jZ (jQ fin)
  | exact jQ (jZ (jQ fin))
  | exact jQ fin
section
variable {X : Cx} {o i e value : Expr} {pos pos' tpos : Pos} {td ty tv : TE}
end
section
variable {X : Cx} {pos : Pos}
end
structure M1 (X : Cx) (o : Expr) (m : Str) (apos : Pos) (e : Expr) (cpos : Pos) : Prop where
 base : attributeBase o m X.env (eval o X.env) = eval o X.env
 few : ((backTo cpos (starEach [e] X.env)).all (fun x => !x.1) && (backToKw cpos (keywordEach [] X.env)).all (fun x => x.1.isSome)
  && decide (([e] : List Expr).length + ([] : List Keyword).length + (if ([] : List Keyword).isEmpty then 0 else 1) < 30)) = true
 line : (apos.endLine == cpos.line) = true
 trees : backTo cpos (starEach [e] X.env) = [(false, eval e X.env)]
structure M2 (X : Cx) (o : Expr) (m : Str) (apos : Pos) (e f : Expr) (cpos : Pos) : Prop where
 base : attributeBase o m X.env (eval o X.env) = eval o X.env
 few : ((backTo cpos (starEach [e, f] X.env)).all (fun x => !x.1) && (backToKw cpos (keywordEach [] X.env)).all (fun x => x.1.isSome)
  && decide (([e, f] : List Expr).length + ([] : List Keyword).length + (if ([] : List Keyword).isEmpty then 0 else 1) < 30)) = true
 line : (apos.endLine == cpos.line) = true
 trees : backTo cpos (starEach [e, f] X.env) = [(false, eval e X.env), (false, eval f X.env)]
section
variable {X : Cx} {pins : List (Addr × Obj)} {σ : St} {H : Hp} {s : Shared} {a : Addr} {y d : V} {u r : Value} {o : Option V} {A : Around} {E : Value → Shared → Prop}
end
section
variable {X : Cx} {o e f : Expr} {apos cpos : Pos} {td ty tx : TE}
end
section
variable {X : Cx} {pins : List (Addr × Obj)} {σ : St} {H : Hp} {s : Shared} {a : Addr} {kvs : List (Key × V)} {A : Around} {E : Value → Shared → Prop}
end
section
variable {X : Cx} {pins : List (Addr × Obj)} {σ : St} {H : Hp} {s : Shared} {a : Addr} {y : V} {u : Value} {A : Around} {E : Value → Shared → Prop}
end
end L2
namespace Att
open PySem PySem.W PySem.Calls PyProof.Rows
section
variable {prog : Program} {w : World} {A : Around} {E : Value → Shared → Prop} {s : Shared} {K : Frag}
end
end Att
namespace L2
open PySem PySem.Spec PyProof.Rows
section
variable {P : Program} {w : World} {K : Fg} {mg : Str → Option Value} {base : Heap}
end
section
variable {X : Cx}
end
section
variable {κ : Type} [DecidableEq κ]
end
section
variable {prog : Program} {w : World} {A : Around} {E : Value → Shared → Prop}
end
section
variable {X : Cx}
end
section
variable {P : Program} {w : World} {A : Around} {E : Value → Shared → Prop} {s : Shared} {e it l : Addr} {st : Nat → Heap → Prop} {src : List Value → Heap → Prop} {i : Nat} {xs : List Value} {old : Value}
theorem Ks {x : Value} {Q : Option Value → Shared → Prop} (dr : Drw P w it l st src) (hE : IsEnum s.heap e it i old) (hI : st i s.heap) (hl : src xs s.heap) (hx : xs[i]? = some x) (hne : e ≠ it)
  (hQ : ∀ h', IsEnumOut h' e it ((i : Int) + 1) x s.heap.objs.size → st (i + 1) h' → h'.get? s.heap.objs.size = some { cls := .type "tuple", data := .seq #[.int i s.toks, x] } →
   (∀ b o, b ≠ e → b ≠ it → s.heap.get? b = some o → h'.get? b = some o) → Q (some (.ref s.heap.objs.size)) { s with heap := h', toks := s.toks + 1 }) : wpAny (model P w) A (pyNext (.ref e)) Q E s := by
 have hTy : s.TypeIs (.ref e) "enumerate" := ⟨_, hE, rfl⟩
 unfold pyNext
 refine jQ (wpAny_attempt (wpAny_callSpecial?_slot (name := Str.ofString "__next__") hTy F.slot_enumerate_next (wpAny_call_entry F.slot_enumerate_next hTy F.entry_enumerate_next ?_ (F.args_enumerate_next_1 _))))
 obtain ⟨hp, g, d, tk, os⟩ := s
 show wpAny _ _ (field (.ref e) 2 >>= _) _ _ _
 refine jQ (wpAny_field hE rfl (x := .ref it) rfl ?_)
 refine jQ (dr.item _ _ ⟨hp, g, d, tk, os⟩ i xs x _ hI hl hx fun g1 hI1 e1 => ?_)
 replace e1 : Heap.SameBut it hp g1 := e1
 have hE1 : IsEnum g1 e it i old := (e1.2 e hne).trans hE
 show wpAny _ _ (field (.ref e) 3 >>= _) _ _ ⟨g1, g, d, tk, os⟩
 refine jQ (wpAny_field hE1 rfl (x := rawInt i) rfl ?_)
 show wpAny _ _ (field (.ref e) 4 >>= _) _ _ ⟨g1, g, d, tk, os⟩
 refine jQ (wpAny_field hE1 rfl (x := .none) rfl ?_)
 show wpAny _ _ (mkInt i >>= _) _ _ ⟨g1, g, d, tk, os⟩
 refine jQ (wpAny_mkInt ?_)
 show wpAny _ _ (setField (.ref e) 3 (rawInt ((i : Int) + 1)) >>= _) _ _ ⟨g1, g, d, tk + 1, os⟩
 refine jQ (wpAny_setField_rec hE1 (by simp) fun g2 hE2 e2 => ?_)
 replace e2 : Heap.SameBut e g1 g2 := e2
 replace hE2 : IsEnum g2 e it ((i : Int) + 1) old := hE2
 show wpAny _ _ (setField (.ref e) 4 .none >>= _) _ _ ⟨g2, g, d, tk + 1, os⟩
 refine jQ (wpAny_setField_rec hE2 (by simp) fun g3 hE3 e3 => ?_)
 replace e3 : Heap.SameBut e g2 g3 := e3
 replace hE3 : IsEnum g3 e it ((i : Int) + 1) old := hE3
 show wpAny _ _ (newTuple [.int i tk, x] >>= _) _ _ ⟨g3, g, d, tk + 1, os⟩
 refine jQ (wpAny_newTuple ?_)
 have hE4 : IsEnum (g3.push { cls := .type "tuple", data := .seq #[.int i tk, x] }) e it ((i : Int) + 1) old := jY _ hE3
 generalize hg4 : g3.push { cls := .type "tuple", data := .seq #[.int i tk, x] } = g4 at hE4
 have hsz : g3.objs.size = hp.objs.size := by rw [e3.1, e2.1, e1.1]
 have hel : e < hp.objs.size := kY hE
 have hT4 : g4.get? hp.objs.size = some { cls := .type "tuple", data := .seq #[.int i tk, x] } := by rw [← hg4, ← hsz]; exact kZ _ rfl
 have hk4 : ∀ b o, b ≠ e → b ≠ it → hp.get? b = some o → g4.get? b = some o := fun b o hbe hbi hb => by
  rw [← hg4]; exact jY _ (e3.extBut b o hbe (e2.extBut b o hbe (e1.extBut b o hbi hb)))
 have hI4 : st (i + 1) g4 := dr.keep _ _ _ hI1 fun q z => by rw [← hg4]; exact jY _ (e3.extBut _ _ hne.symm (e2.extBut _ _ hne.symm z))
 show wpAny _ _ (Builtin.SmallTypes.ownedTupleIsFree (.ref e) >>= _) _ _ ⟨g4, g, d, tk + 1, os⟩
 rw [hsz]
 clear hg4 hE3 e3 hE2 e2 hE1 e1 hI1 hsz
 refine jQ ?_
 unfold Builtin.SmallTypes.ownedTupleIsFree
 refine jQ (wpAny_field hE4 rfl (x := .none) rfl (jZ ?_))
 simp only [if_true]
 refine jQ (wpAny_rule (jQ (wpAny_field hE4 rfl (x := old) rfl (jQ (wpAny_setField_rec hE4 (by simp) fun g5 hE5 e5 => ?_)))))
 replace e5 : Heap.SameBut e g4 g5 := e5
 replace hE5 : IsEnum g5 e it ((i : Int) + 1) x := hE5
 show wpAny _ _ (Builtin.SmallTypes.ownedTupleHandOut (.ref e) (.ref hp.objs.size) >>= _) _ _ ⟨g5, g, d, tk + 1, os⟩
 refine jQ ?_
 unfold Builtin.SmallTypes.ownedTupleHandOut
 refine jQ (wpAny_setField_rec hE5 (by simp) fun g6 hE6 e6 => ?_)
 replace e6 : Heap.SameBut e g5 g6 := e6
 replace hE6 : IsEnumOut g6 e it ((i : Int) + 1) x hp.objs.size := hE6
 refine wpAny_setField_rec hE6 (by simp) fun g7 hE7 e7 => ?_
 replace e7 : Heap.SameBut e g6 g7 := e7
 replace hE7 : IsEnumOut g7 e it ((i : Int) + 1) x hp.objs.size := hE7
 have up : ∀ b o, b ≠ e → g4.get? b = some o → g7.get? b = some o := fun b o hb z => e7.extBut b o hb (e6.extBut b o hb (e5.extBut b o hb z))
 refine jQ (wpAny_letGo (jZ ⟨_, rfl, jZ (hQ g7 hE7 ?_ ?_ ?_)⟩))
 ·exact dr.keep _ _ _ hI4 fun q z => up _ _ hne.symm z
 ·exact up _ _ (Nat.ne_of_gt hel) hT4
 ·exact fun b o hbe hbi hb => up b o hbe (hk4 b o hbe hbi hb)
theorem Vp {Q : Option Value → Shared → Prop} (hh : A.handled = none) (dr : Drw P w it l st src) (hE : IsEnum s.heap e it i old) (hI : st i s.heap) (hl : src xs s.heap) (hx : xs[i]? = none)
  (hQ : ∀ h', Heap.ExtBut it s.heap h' → Q none { s with heap := h' }) : wpAny (model P w) A (pyNext (.ref e)) Q E s := by
 have hTy : s.TypeIs (.ref e) "enumerate" := ⟨_, hE, rfl⟩
 unfold pyNext
 refine jQ (wpAny_attempt (wpAny_callSpecial?_slot (name := Str.ofString "__next__") hTy F.slot_enumerate_next (wpAny_call_entry F.slot_enumerate_next hTy F.entry_enumerate_next ?_ (F.args_enumerate_next_1 _))))
 show wpAny _ _ (field (.ref e) 2 >>= _) _ _ _
 refine jQ (wpAny_field hE rfl (x := .ref it) rfl ?_)
 refine jQ (dr.done _ _ s i xs _ hh hI hl hx fun h' x eb hx' => ?_)
 obtain ⟨o, ho, hc⟩ := hx'
 refine jQ (wpAny_isInstance (T := "StopIteration") (b := true) ⟨o, ho, hc⟩ isSubtype_stop (jZ (hQ _ eb)))
end
theorem Qbo {n : String} {l : Addr} {p : Heap → Prop} (I : Itr0 n l p) :
  Meets (Builtin.«enumerate.__new__» ⟨[.type "enumerate", .ref l], []⟩) (fun _ R s => p s.heap ∧ R (.ok (.ret (.ref (s.heap.push (Jo n l)).objs.size))) { s with heap := (s.heap.push (Jo n l)).push { cls := .type "enumerate", data := .fields #[.none, .bool false, .ref s.heap.objs.size, rawInt 0, .none, .none] } }) :=
 .of_wp fun prog w A R s h => by
  obtain ⟨hp, g, d, tk, os⟩ := s
  obtain ⟨q, h⟩ := h
  have hsub := sub_enumerate
  have f1 := fun (A : Around) (E : Value → Shared → Prop) (Q : Value → Shared → Prop) => I.go prog w A E ⟨hp, g, d, tk, os⟩ Q q
  wp_walk
  refine wpAny_stack_any fun stk => jZ ?_
  split
  ·rename_i c _ _ _ _ _
   cases (c == Value.type "enumerate")
   ·wp_walk using f1 _ _ _
    exact ⟨_, rfl, h⟩
   ·wp_walk using f1 _ _ _
    exact ⟨_, rfl, h⟩
  ·wp_walk using f1 _ _ _
   exact ⟨_, rfl, h⟩
def Ite (K : Fg) (m : Bool) (a : Addr) : It :=
  ⟨fun i H => ∃ xs x, Sq K m H a xs ∧ xs[i]? = some x,
   fun i H v H' => ∃ T x, v = .ref T ∧ H T = none ∧ H' = upd H T (.tup [.int (i : Nat), x]) ∧ (∀ xs, Sq K m H a xs → xs[i]? = some x),
   fun i H => ∃ xs, Sq K m H a xs ∧ xs.length ≤ i⟩
def eTn (m : Bool) (e it a : Addr) (i : Nat) (h : Heap) : Prop := (∃ old, IsEnum h e it i old) ∧ itSt m it a i h
theorem Qcz {P : Program} {w : World} {K : Fg} {es : List Expr} {kk : Nat} {tp : Pos} {m : Bool} {e it a : Addr} (hne : e ≠ it) (hea : a ≠ e) (hia : a ≠ it) :
  Turn P w K (.Tuple es kk tp) (Ite K m a) [e, it] e (eTn m e it a) where
 mem := by simp
 obj := fun i h st c hc => by
  obtain ⟨⟨old, h1⟩, h2⟩ := st
  simp only [zZ, jQf, or_false] at hc
  rcases hc with rfl | rfl
  ·exact ⟨_, h1, fun v z => by cases z⟩
  ·exact (Jp (P := P) (w := w) m c a).obj i h h2
 keep := fun i h h' st k => by
  obtain ⟨⟨old, h1⟩, h2⟩ := st
  exact ⟨⟨old, k e (by simp) _ h1⟩, (Jp (P := P) (w := w) m it a).keep i h h' h2 (k it (by simp))⟩
 item := by
  intro X hP hw hK hc i pins s σ H E I hf st hg
  subst hP hw hK
  obtain ⟨xs, x, q1, hx⟩ := hg
  obtain ⟨is1, r1, p1, z1⟩ := I.sq q1
  obtain ⟨v1, e1, rv1⟩ := r1.get hx
  obtain ⟨⟨old, hE⟩, s1⟩ := st
  refine Ks (Jp m it a) hE s1 p1 e1 hne fun h' a1 a2 a3 a4 => ⟨_, rfl, ?_⟩
  have kk : ∀ c q, c ∉ [e, it] → s.heap.get? c = some q → h'.get? c = some q := fun c q hc e => by
   simp only [zZ, jQf, or_false, not_or] at hc
   exact a4 c q hc.1 hc.2 e
  have I1 : Inv X pins σ (upd H s.heap.objs.size (.tup [.int (i : Nat), x])) { s with heap := h' } := I.tupNew (ch := [e, it]) (its := [.int i s.toks, v1]) (jK _) (.cons ⟨_, rfl⟩ (.cons rv1 .nil)) (by show 2 ≤ sizeLine; decide) a3 hf kk (fun c hc => by
   simp only [zZ, jQf, or_false] at hc
   rcases hc with rfl | rfl
   ·exact ⟨_, a1⟩
   ·obtain ⟨q, z, _⟩ := (Jp (P := X.prog) (w := X.w) m c a).obj _ _ a2; exact ⟨q, z⟩)
  refine wpAny_letOwnedTupleGo_enum (s := { s with heap := h', toks := s.toks + 1 }) a1 fun h2 g1 g2 => ?_
  obtain ⟨f0, f1, f2, f3, f4, f5⟩ := hf e (by simp)
  have lte : e < s.heap.objs.size := kY hE
  have I2 : Inv X pins σ (upd H s.heap.objs.size (.tup [.int (i : Nat), x])) { s with heap := h2, toks := s.toks + 1 } := I1.turned (h' := h2) (t' := s.toks + 1) (fun c q hc z => g2.extBut c q hc z) (by rw [Qi (yZ lte)]; exact f0) f1 f3 f4 f5
  refine ⟨.ref s.heap.objs.size, _, I2, rfl, ⟨_, x, rfl, I.hok.fresh (jK _), rfl, fun xs' hq => by rw [I.sq_inj hq q1]; exact hx⟩, ⟨⟨_, by exact_mod_cast g1⟩, (Jp (P := X.prog) (w := X.w) m it a).keep _ _ _ a2 fun q z => g2.extBut _ _ hne.symm z⟩, fun c hc => ?_⟩
  have hlt : c ≠ s.heap.objs.size := by
   simp only [zZ, jQf, or_false] at hc
   rcases hc with rfl | rfl
   ·exact yZ lte
   ·obtain ⟨q, z, _⟩ := (Jp (P := X.prog) (w := X.w) m c a).obj _ _ s1; exact yZ (kY z)
  rw [Qi hlt]
  exact (hf c hc).1
 done := by
  intro X hP hw hK hc i pins s σ H E I hf st hg
  subst hP hw hK
  obtain ⟨xs, q1, hx⟩ := hg
  obtain ⟨is1, r1, p1, z1⟩ := I.sq q1
  obtain ⟨⟨old, hE⟩, s1⟩ := st
  have l1 := r1.length
  obtain ⟨f0, f1, f2, f3, f4, f5⟩ := hf it (by simp)
  exact Vp (I.ok.hd hc) (Jp m it a) hE s1 p1 (List.getElem?_eq_none_iff.mpr (by omega)) fun h' eb => ⟨rfl, I.turned (t' := s.toks) (fun b o hb z => eb b o hb z) f0 f1 f3 f4 f5⟩
 self := fun _ _ _ _ _ st h => by
  obtain ⟨⟨old, h1⟩, _⟩ := st
  exact wpAny_pyIter_enum h1 h
section
variable {X : Cx}
def iEnum (K : Fg) (m : Bool) (ta : TA) : TI := fun σ H R => ta σ H fun vs H1 => ∃ a, vs = [.ref a] ∧ (∃ xs, Sq K m H1 a xs) ∧ R (Ite K m a) H1
theorem Qig {a : Expr} {ta : TA} {p pos tp : Pos} {es : List Expr} {kk : Nat} (m : Bool) (hg : Gl X "enumerate") (hm : X.mg "enumerate" = none) (ha : PA X [a] ta) (hs : autoParam (starEach [a] X.env = [(false, eval a X.env)]) L2.aRfl._auto_1) :
  PI X (.Tuple es kk tp) (.Call (.Name "enumerate" p) [a] [] pos) (iEnum X.K m ta) := by
 intro pins s σ H R I h
 refine Call_ (Zu I hg hm Vn (PyProof.Rows.callWith_type1 (thn (ha pos pins s σ H _ I h) fun us s1 hqP => ?_) hs rfl))
 obtain ⟨vs, H1, I1, r1, q1⟩ := hqP
 obtain ⟨l1, e, ⟨xs, q1⟩, q⟩ := q1
 subst e
 obtain ⟨u1, rfl, e1⟩ := r1.one
 cases e1
 obtain ⟨is1, r1, p1, z1⟩ := I1.sq q1
 refine callType_new F.called_enumerate (by decide) (F.typeCall_enumerate_1 _) (F.newCall_enumerate_1 _) (fun obj => F.args_object_init_2 obj _) F.entry_enumerate_new (Qbo (Qia m l1 is1)) ⟨p1, ?_⟩
 have z2 : (s1.heap.push (Jo (itN m) l1)).objs.size = s1.heap.objs.size + 1 := jXe ..
 have g2 : ((s1.heap.push (Jo (itN m) l1)).push { cls := .type "enumerate", data := .fields #[.none, .bool false, .ref s1.heap.objs.size, rawInt 0, .none, .none] }).get? (s1.heap.push (Jo (itN m) l1)).objs.size = some { cls := .type "enumerate", data := .fields #[.none, .bool false, .ref s1.heap.objs.size, rawInt 0, .none, .none] } := kZ _ rfl
 have g1 : ((s1.heap.push (Jo (itN m) l1)).push { cls := .type "enumerate", data := .fields #[.none, .bool false, .ref s1.heap.objs.size, rawInt 0, .none, .none] }).get? s1.heap.objs.size = some (Jo (itN m) l1) := jY _ (kZ _ rfl)
 rw [z2] at g2
 show _ ∧ _
 rw [z2]
 have kp : ∀ b o, s1.heap.get? b = some o → ((s1.heap.push (Jo (itN m) l1)).push { cls := .type "enumerate", data := .fields #[.none, .bool false, .ref s1.heap.objs.size, rawInt 0, .none, .none] }).get? b = some o := fun b o z => jY _ (jY _ z)
 generalize (s1.heap.push (Jo (itN m) l1)).push { cls := .type "enumerate", data := .fields #[.none, .bool false, .ref s1.heap.objs.size, rawInt 0, .none, .none] } = h' at g1 g2 kp
 have I2 : Inv X pins σ H1 { s1 with heap := h' } := I1.kept (t' := s1.toks) kp
 have ltl : l1 < s1.heap.objs.size := Qfc p1
 refine ⟨⟨_, g2, rfl⟩, wpAny_pyIter_enum (s := { s1 with heap := h' }) g2 ⟨_, [s1.heap.objs.size + 1, s1.heap.objs.size], _, _, H1, rfl, I2, Qcz (m := m) (a := l1) (Nat.succ_ne_self _) (yZ (wW ltl)) (yZ ltl), ⟨⟨_, g2⟩, Qfb m g1⟩, fun c hc => ?_, q⟩⟩
 have hle : s1.heap.objs.size ≤ c := by
  simp only [zZ, jQf, or_false] at hc
  rcases hc with rfl | rfl
  ·exact Nat.le_add_right _ _
  ·exact jK _
 exact I1.fpOk hle (I1.hok.fresh hle)
end
section
variable {prog : Program} {w : World} {A : Around} {E : Value → Shared → Prop} {s : Shared}
end
section
variable {X : Cx}
end
end L2
namespace L2
open PySem PySem.Spec PySem.Calls PyProof.Rows PySem.W
section
variable {P : Program} {w : World} {K : Fg} {mg : Str → Option Value} {base : Heap} {N : List Str} {qual : Str} {scope : Scope} {f : Addr} {cd : Value} {A : Around} {outer : List Env} {s₀ : Shared} {H₀ : Hp} {E : XK} {C : Addr}
 {pins : List (Addr × Obj)} {σ : St} {H : Hp} {s : Shared}
end
end L2
namespace L2
open PySem PySem.Spec PySem.Calls PyProof.Rows PySem.W
section
variable {X : Cx} {pins : List (Addr × Obj)} {σ : St} {H H' : Hp} {s : Shared} {e : Addr}
end
section
variable {X : Cx} {k : Nat} {f C D : Addr} {fd : FuncData} {ps : List Str} {sp : Sp} {g x n c : Str} {p np pc pn cpos epos hpos apos pos : Pos} {a : Expr} {es : List Expr} {t : TA} {i j : Nat}
end
end L2
namespace L2
open PySem PySem.Spec PySem.Calls PyProof.Rows PySem.W
section
variable {prog : Program} {w : World} {A : Around} {E : Value → Shared → Prop} {h : Heap} {g : Array GenState} {d : Drawn} {t : Nat} {os : OsState} {a C : Addr} {o : Obj} {K : Frag}
open Builtin Builtin.ObjectAttr Builtin.Getset_descriptor in
end
end L2
namespace L2
open PySem PySem.Spec PySem.Calls PyProof.Rows PySem.W
section
variable {X : Cx}
end
def Big (i : Int) : Prop := i.natAbs < 2 ^ 4000
section
variable {X : Cx}
theorem Qau : OpR X (binaryOp .FloorDiv) (rI (fun _ j => j ≠ 0 ∧ Big j) fun i j => .int (i.fdiv j)) := opI fun i j _ _ _ _ _ hc q => floordiv_int hc.1 q (.inl (PyProof.noPylong_of_log2 (yQ ((Nat.log2_lt (by have := hc.1; omega)).mpr hc.2) (by decide))))
end
section
variable {P : Program} {w : World} {K : Fg} {mg : Str → Option Value} {base : Heap} {N : List Str} {qual : Str} {scope : Scope} {f : Addr} {cd : Value} {A : Around} {outer : List Env} {s₀ : Shared} {H₀ : Hp} {E : XK} {C : Addr}
end
end L2
namespace L2
open PySem PySem.Spec PySem.Calls PyProof.Rows PySem.W
theorem Ju : ∀ (names : List (Str × NameKind)) (n : Nat) (acc : List (Str × Addr)) {x : Str} {c : Addr}, (cellsFrom n names acc).lookup x = some c → ((x, NameKind.cell) ∈ names ∧ n ≤ c) ∨ acc.lookup x = some c
 | [], n, acc, x, c, h => .inr h
 | (y, k) :: r, n, acc, x, c, h => by
  unfold cellsFrom at h
  by_cases hk : (k == NameKind.cell) = true
  ·rw [if_pos hk] at h
   rcases Ju r (n + 1) ((y, n) :: acc) h with ⟨h1, h2⟩ | h
   ·exact .inl ⟨kK _ h1, by omega⟩
   ·rw [xQ] at h
    cases hx : x == y with
    | true =>
     rw [hx] at h
     have e1 : x = y := by simpa using hx
     have e2 : n = c := Option.some.inj h
     have e3 : k = .cell := by simpa using hk
     subst e1 e3
     exact .inl ⟨yX, by omega⟩
    | false => rw [hx] at h; exact .inr h
  ·rw [if_neg hk] at h
   rcases Ju r n acc h with ⟨h1, h2⟩ | h
   ·exact .inl ⟨kK _ h1, h2⟩
   ·exact .inr h
theorem Qda : ∀ (names : List (Str × NameKind)) (n : Nat) (acc : List (Str × Addr)), (∀ x c, acc.lookup x = some c → c < n) → (∀ x y c, acc.lookup x = some c → acc.lookup y = some c → x = y) → ∀ x y c, (cellsFrom n names acc).lookup x = some c → (cellsFrom n names acc).lookup y = some c → x = y
 | [], n, acc, _, hi => hi
 | (z, k) :: r, n, acc, hl, hi => by
  unfold cellsFrom
  by_cases hk : (k == NameKind.cell) = true
  ·rw [if_pos hk]
   have look : ∀ x c, ((z, n) :: acc).lookup x = some c → (x = z ∧ c = n) ∨ acc.lookup x = some c := fun x c h => by
    rw [xQ] at h
    cases hx : x == z with
    | true => rw [hx] at h; exact .inl ⟨by simpa using hx, (Option.some.inj h).symm⟩
    | false => rw [hx] at h; exact .inr h
   refine Qda r (n + 1) ((z, n) :: acc) (fun x c h => ?_) fun x y c h1 h2 => ?_
   ·rcases look x c h with ⟨_, e⟩ | h
    ·rw [e]; exact Nat.lt_succ_self _
    ·exact wW (hl x c h)
   ·rcases look x c h1 with ⟨e1, e2⟩ | h1 <;> rcases look y c h2 with ⟨e3, e4⟩ | h2
    ·rw [e1, e3]
    ·exact absurd (hl y c h2) (by rw [e2]; exact xW _)
    ·exact absurd (hl x c h1) (by rw [e4]; exact xW _)
    ·exact hi x y c h1 h2
  ·rw [if_neg hk]
   exact Qda r n acc hl hi
theorem Qdb : ∀ (names : List (Str × NameKind)) (n : Nat) (acc : List (Str × Addr)) {x : Str}, (x, NameKind.cell) ∉ names → (cellsFrom n names acc).lookup x = acc.lookup x
 | [], n, acc, x, h => rfl
 | (y, k) :: r, n, acc, x, h => by
  unfold cellsFrom
  by_cases hk : (k == NameKind.cell) = true
  ·rw [if_pos hk, Qdb r (n + 1) _ fun z => h (kK _ z), xQ]
   have e3 : k = .cell := by simpa using hk
   subst e3
   cases hx : x == y with
   | true =>
    have e1 : x = y := by simpa using hx
    subst e1
    exact absurd yX h
   | false => rfl
  ·rw [if_neg hk]
   exact Qdb r n acc fun z => h (kK _ z)
theorem Qhd {env : Env} : ∀ (l : List (Str × NameKind)) (cs : List (Str × Addr)) {x : Str} {c : Addr}, (Qu env l cs).lookup x = some c → (x, NameKind.free) ∈ l ∨ cs.lookup x = some c
 | [], cs, x, c, h => .inr h
 | (n, k) :: r, cs, x, c, h => by
  unfold Qu at h
  rcases Qhd r _ h with h | h
  ·exact .inl (kK _ h)
  ·by_cases hk : k = .free
   ·rw [if_pos hk, xQ] at h
    cases hx : x == n with
    | true =>
     have e1 : x = n := by simpa using hx
     subst e1 hk
     exact .inl yX
    | false => rw [hx] at h; exact .inr h
   ·rw [if_neg hk] at h
    exact .inr h
theorem Qfg (names : List (Str × NameKind)) : ∀ (h : Heap) (acc : List (Str × Addr)) {x : Str} {c : Addr}, (cellsFrom h.objs.size names acc).lookup x = some c → acc.lookup x = some c ∨ (pushCells h names).IsCell c none := by
 induction names with
 | nil => intro h acc x c e; exact .inl e
 | cons p r ih =>
  obtain ⟨y, k⟩ := p
  intro h acc x c e
  unfold cellsFrom at e
  unfold pushCells
  by_cases hk : (k == NameKind.cell) = true
  ·rw [if_pos hk] at e ⊢
   have := ih (h.push { cls := .type "cell", data := .cell none }) ((y, h.objs.size) :: acc) (x := x) (c := c) (by rw [jXe]; exact e)
   rcases this with e2 | e2
   ·rw [xQ] at e2
    cases hx : x == y with
    | true =>
     rw [hx] at e2
     have e3 : h.objs.size = c := Option.some.inj e2
     subst e3
     exact .inr ⟨_, pushCells_keeps r _ _ _ (kZ _ rfl), rfl⟩
    | false => rw [hx] at e2; exact .inl e2
   ·exact .inr e2
  ·rw [if_neg hk] at e ⊢
   exact ih h acc e
theorem Qbp {M : Model} {A : Around} {E : Value → Shared → Prop} {s : Shared} {scope : Scope} {globals : Addr} {closure : List (Str × Addr)} {qual : Str} {env : Env} {Q : Env → Shared → Prop}
  (hQ : Q { scope := scope, locals := s.heap.objs.size, globals := globals, cells := cellsFrom (s.heap.objs.size + 1) scope.names closure, qual := qual, func := none, code := env.code, frame := env.frame, builtins := env.builtins } { s with heap := pushCells (s.heap.push { cls := .type "dict", data := .dict #[] }) scope.names }) :
  wpAny M A (newFunctionEnv scope globals closure [] qual none .none (some env)) Q E s := by
 simp only [newFunctionEnv, Option.isSome_some, if_true]
 refine jQ (wpAny_alloc ?_)
 refine jQ (wpAny_layCells _ (fun name kind cells => by cases hkc : kind == NameKind.cell <;> simp [hkc]) _ _ _ _ ?_)
 rw [show ({ s with heap := s.heap.push { cls := .type "dict", data := .dict #[] } } : Shared).heap.objs.size = s.heap.objs.size + 1 from jXe ..]
 refine jQ ?_
 rw [List.forIn_nil]
 exact jZ (jZ hQ)
def Jv (scope : Scope) : Bool := scope.names.all fun p => scope.names.lookup p.1 == some p.2
theorem Jw {scope : Scope} (h : Jv scope = true) {x : Str} {k : NameKind} (hm : (x, k) ∈ scope.names) : scope.names.lookup x = some k := by
 have := yW.mp h _ hm
 simpa using this
def Jx (X : Cx) (scope : Scope) (L : Addr) : List (Str × Addr) := cellsFrom (L + 1) scope.names (Qu X.env scope.names [])
def Qp (X : Cx) (N : List Str) (scope : Scope) (fp : List Addr) (H : Hp) (s : Shared) : Cx :=
 { X with N := N, s₀ := s, H₀ := H, env := compEnvC scope (Jx X scope s.heap.objs.size) s.heap.objs.size X.env, outer := X.stack, stack := X.stack, ex := fp, fn := fun y => scope.names.lookup y == some .cell, pn := [], xe := fun _ _ => False }
section
variable {X : Cx}
theorem Wo {pins : List (Addr × Obj)} {σ : St} {H : Hp} {s : Shared} {N : List Str} {scope : Scope} {fp : List Addr} (I : Inv X pins σ H s) (hf : ∀ b ∈ fp, FpOk X pins H b) (hlt : ∀ b ∈ fp, b < s.heap.objs.size) (hk : scope.kind = .function)
  (hone : Jv scope = true) (hfree : freeOk X.env.scope scope.names = true) : (Qp X N scope fp H s).Ok := by
 have has : ∀ n, (n, NameKind.free) ∈ scope.names → ∃ c, X.env.cells.lookup n = some c := fun n hn => I.ok.has n (Xa hfree n hn)
 have sub : ∀ x c, (Qu X.env scope.names []).lookup x = some c → X.env.cells.lookup x = some c := Xx _ _ has fun x c e => by simp at e
 have old : ∀ x c, (Qu X.env scope.names []).lookup x = some c → c < s.heap.objs.size := fun x c e => by obtain ⟨v, z⟩ := I.cell x c (sub x c e); exact z.lt
 have fs : ∀ b ∈ fp, b ∉ frs X.stack := fun b hb z => by
  obtain ⟨_, f1, f2, _⟩ := hf b hb
  rcases zZ.mp (I.stkSub b z) with e | e
  ·exact f1 e
  ·exact f2 e
 refine ⟨I.ok.mod, hk, I.ok.glob, I.ok.blt, jK _, fun x y c h1 h2 => ?_, fun x hx => ?_, fun x c h e => ?_, I.ok.hd, I.ok.frames, .inl rfl, fun b hb => ⟨yZ (hlt b hb), fun x c e => ?_⟩,
  I.bs, wK I.ok.bsz I.sz, fun b o e hb => ?_, fs, I.stack, I.stkFree⟩
 ·exact Qda scope.names (s.heap.objs.size + 1) _ (fun x c e => wW (old x c e)) (fun x y c e1 e2 => I.ok.inj x y c (sub x c e1) (sub y c e2)) x y c h1 h2
 ·have hx' : (scope.names.map fun (n, k) => if (k == NameKind.free && X.env.scope.kind == .function && X.env.kindOf n == some .cell) then (n, NameKind.cell) else (n, k)).lookup x = some .cell ∨
    (scope.names.map fun (n, k) => if (k == NameKind.free && X.env.scope.kind == .function && X.env.kindOf n == some .cell) then (n, NameKind.cell) else (n, k)).lookup x = some .free := hx
  have fr : scope.names.lookup x = some .cell ∨ (x, NameKind.free) ∈ scope.names := by
   rcases hx' with e | e
   ·obtain ⟨k0, e0, z | z⟩ := Qo e
    ·subst z
     exact .inl e0
    ·obtain ⟨_, z⟩ := z
     subst z
     exact .inr (lookup_mem e0)
   ·obtain ⟨k0, e0, z | z⟩ := Qo e
    ·subst z
     exact .inr (lookup_mem e0)
    ·exact nomatch z.1
  refine wQ.mp (PySem.W.cellsFrom_some scope.names _ _ ?_)
  rcases fr with e | e
  ·exact .inl e
  ·exact .inr (Xy _ _ x (.inr e))
 ·have h' : scope.names.lookup x = some .cell := by simpa using (show (scope.names.lookup x == some .cell) = true from h)
  rcases Ju scope.names _ _ e with ⟨_, z⟩ | z
  ·exact Nat.le_of_succ_le z
  ·rcases Qhd _ _ z with z | z
   ·rw [Jw hone z] at h'; cases h'
   ·simp at z
 ·rcases Ju scope.names _ _ e with ⟨_, z⟩ | z
  ·exact fun y => absurd (hlt b hb) (by rw [← y]; exact Nat.not_lt.mpr (Nat.le_of_succ_le z))
  ·exact (hf b hb).2.2.2.2.1 x c (sub x c z)
 ·obtain ⟨_, _, _, f3, _⟩ := hf b hb
  rcases f3 with z | z
  ·exact I.ok.noex b o e z
  ·exact absurd (yQ (kY (I.ok.bs b o e).1) z) (xW _)
theorem Qbq {pins : List (Addr × Obj)} {σ : St} {H : Hp} {s : Shared} {N : List Str} {scope : Scope} {fp : List Addr} {cp : List (Option Nat)} {h' : Heap} {m : Str → Option Value} {t' : Nat} (I : Inv X pins σ H s) (hf : ∀ b ∈ fp, FpOk X pins H b) (hlt : ∀ b ∈ fp, b < s.heap.objs.size) (hk : scope.kind = .function)
  (hone : Jv scope = true) (hfree : freeOk X.env.scope scope.names = true) (hcap : Yq X scope N cp = true)
  (hns : h'.Ns s.heap.objs.size m) (hx : ∀ b o, s.heap.get? b = some o → h'.get? b = some o) (hnew : ∀ x c, (Jx X scope s.heap.objs.size).lookup x = some c → (Qu X.env scope.names []).lookup x = some c ∨ h'.IsCell c none) : Inv (Qp X N scope fp H s) [] (Yp cp σ) H { s with heap := h', toks := t' } := by
 have has : ∀ n, (n, NameKind.free) ∈ scope.names → ∃ c, X.env.cells.lookup n = some c := fun n hn => I.ok.has n (Xa hfree n hn)
 have sub : ∀ x c, (Qu X.env scope.names []).lookup x = some c → X.env.cells.lookup x = some c := Xx _ _ has fun x c e => by simp at e
 refine ⟨Wo I hf hlt hk hone hfree, rfl, I.bare, ⟨fun b o e n _ _ => hx b o e, fun b o e n _ _ => ⟨o.slots, hx b o e⟩, fun b o e n _ => n, fun b o e _ => ⟨o, hx b o e⟩, fun b xs e => e, fun b o xs e => e, fun b ps e => ⟨#[], by rw [Array.append_empty]; exact e⟩⟩, ⟨m, hns, fun i x v e1 e2 e3 => ?_⟩, fun x c e => ?_, I.hok.fresh (jK _), fun x c e => ?_, (fun p hp => nomatch hp), I.hok.kept hx, ?_⟩
 ·obtain ⟨j, h1, h2, h3⟩ := Jl hcap e1 e2
  obtain ⟨m', _, hl⟩ := I.loc
  have hkx := Xa hfree x (lookup_mem h3)
  obtain ⟨u, r, l⟩ := hl j x v h1 h2 (.inr hkx)
  rcases l with ⟨l, _⟩ | ⟨_, c, hc, hcell'⟩
  ·rcases hkx with z | z
   ·exact nomatch (Option.some.inj (l.symm.trans z))
   ·exact nomatch (Option.some.inj (l.symm.trans z))
  ·obtain ⟨c', hc'⟩ := wQ.mp (Xy (env := X.env) scope.names [] x (.inr (lookup_mem h3)))
   have ec := sub x c' hc'
   rw [hc] at ec
   cases ec
   have hcb : (Jx X scope s.heap.objs.size).lookup x = some c := by
    unfold Jx
    rw [Qdb scope.names _ _ fun z => ?_]
    ·exact hc'
    ·rw [Jw hone z] at h3; cases h3
   refine ⟨u, r, .inr ⟨?_, c, hcb, ?_⟩⟩
   ·rcases e3 with z | z | z
    ·obtain ⟨k0, e0, y | y⟩ := Qo (show (scope.names.map fun (n, k) => if (k == NameKind.free && X.env.scope.kind == .function && X.env.kindOf n == some .cell) then (n, NameKind.cell) else (n, k)).lookup x = some .local from z)
     ·rw [h3] at e0; cases e0; cases y
     ·exact nomatch y.1
    ·exact .inl z
    ·exact .inr z
   ·obtain ⟨o, ho, hd⟩ := hcell'
    exact ⟨o, hx c o ho, hd⟩
 ·rcases hnew x c e with z | z
  ·obtain ⟨v, o, ho, hd⟩ := I.cell x c (sub x c z)
   exact ⟨v, o, hx c o ho, hd⟩
  ·exact ⟨none, z⟩
 ·rcases Ju scope.names _ _ e with ⟨_, z⟩ | z
  ·exact I.hok.fresh (Nat.le_of_succ_le z)
  ·exact I.freeC x c (sub x c z)
 ·show (Yp cp σ).length = N.length
  unfold Yp
  rw [jX]
  exact Jk hcap
theorem Vq {pins : List (Addr × Obj)} {σ σ' : St} {H H' : Hp} {s s' : Shared} {N : List Str} {scope : Scope} {fp : List Addr} {pins' : List (Addr × Obj)} (I : Inv X pins σ H s) (hf : ∀ b ∈ fp, FpOk X pins H b)
  (J : Inv (Qp X N scope fp H s) pins' σ' H' s') : Inv X pins σ H' s' :=
 I.call' (ch := fp) J.os J.base J.hok J.bare fun b hb => ⟨(hf b hb).2.2.2.1, (hf b hb).2.1, (hf b hb).2.2.2.2.1, (hf b hb).2.2.2.2.2⟩
theorem Qdc {elt iter target : Expr} {ifs : List Expr} {scope : Scope} {pos : Pos} {N : List Str} {cp : List (Option Nat)} {g : TG} {tt : TT} {te : TE} {pins : List (Addr × Obj)} {σ : St} {H : Hp} {s : Shared} {E : Value → Shared → Prop} {Q : Addr → Hp → Prop}
  {it : Addr} {fp : List Addr} {tn : Nat → Heap → Prop} {J : It} {RR : Value → Addr → Result → Shared → Prop} (hc : X.calm = true) (hk : scope.kind = .function) (hone : Jv scope = true) (hfree : freeOk X.env.scope scope.names = true) (hcap : Yq X scope N cp = true)
  (hg : ∀ fp H s, PG (Qp X N scope fp H s) target g) (ht : ∀ fp H s, PF (Qp X N scope fp H s) ifs tt) (he : ∀ fp H s, PE (Qp X N scope fp H s) elt te)
  (I : Inv X pins σ H s) (T : Turn X.prog X.w X.K target J fp it tn) (st : tn 0 s.heap) (hf : ∀ b ∈ fp, FpOk X pins H b)
  (h : ∀ D, H D = none → LcW J D (Yp cp σ) H g tt te Q)
  (hRR : ∀ D C s' H' m, Inv X pins σ H' s' → FpOk X pins H' C → s'.heap.Ns C m → Q D H' → RR (.ref D) C (.ok .next) s') :
  wpAny (model X.prog X.w) X.A (newList []) (fun acc s3 => wpAny (model X.prog X.w) X.A (newFunctionEnv scope X.env.globals (Qu X.env scope.names []) [] X.env.qual none .none (some X.env)) (fun cenv s4 =>
   codeAny (model X.prog X.w) X.A (.compStart (.ListComp elt [⟨target, iter, ifs, 0⟩] scope pos) 0 (.ref it) acc { cenv with scope := relabel scope X.env }) (RR acc cenv.locals) s4) E s3) E s := by
 have hlt : ∀ b ∈ fp, b < s.heap.objs.size := fun b hb => by
  obtain ⟨o, e, _⟩ := T.obj _ _ st b hb
  exact kY e
 refine wpAny_newObj_type (Qbp ?_)
 have hD : H s.heap.objs.size = none := I.hok.fresh (jK _)
 have I3 : Inv X pins σ (upd H s.heap.objs.size (.lst [])) { s with heap := s.heap.push { cls := .type "list", dict := none, data := .seq ([] : List Value).toArray } } :=
  I.laid (t' := s.toks) (fun b u e => jY _ e) (jK _) ⟨wV _, [], 0, .nil, kZ _ rfl⟩
 have hf3 : ∀ b ∈ fp, FpOk X pins (upd H s.heap.objs.size (.lst [])) b := fun b hb => ⟨by rw [Qi (yZ (hlt b hb))]; exact (hf b hb).1, (hf b hb).2⟩
 have hlt3 : ∀ b ∈ fp, b < (s.heap.push { cls := .type "list", dict := none, data := .seq ([] : List Value).toArray }).objs.size := fun b hb => by rw [jXe]; exact wW (hlt b hb)
 generalize hH2 : s.heap.push { cls := .type "list", dict := none, data := .seq ([] : List Value).toArray } = H2 at I3 hlt3 ⊢
 generalize hs3 : ({ s with heap := H2 } : Shared) = s3 at I3
 have hs3h : s3.heap = H2 := by rw [← hs3]
 have hns1 : (pushCells (H2.push { cls := .type "dict", data := .dict #[] }) scope.names).Ns H2.objs.size (fun _ => none) := (Heap.Ns.new H2 (.type "dict")).keeps (pushCells_keeps _ _)
 have hnew : ∀ x c, (Jx X scope s3.heap.objs.size).lookup x = some c → (Qu X.env scope.names []).lookup x = some c ∨ (pushCells (H2.push { cls := .type "dict", data := .dict #[] }) scope.names).IsCell c none := fun x c e => by
  rw [hs3h] at e
  exact Qfg scope.names (H2.push { cls := .type "dict", data := .dict #[] }) _ (by rw [jXe]; exact e)
 have ext1 : ∀ b o, s3.heap.get? b = some o → (pushCells (H2.push { cls := .type "dict", data := .dict #[] }) scope.names).get? b = some o := fun b o e => by
  rw [hs3h] at e
  exact pushCells_keeps _ _ _ _ (jY _ e)
 generalize hh1 : pushCells (H2.push { cls := .type "dict", data := .dict #[] }) scope.names = h1 at hns1 hnew ext1
 have J0 : Inv (Qp X N scope fp (upd H s.heap.objs.size (.lst [])) s3) [] (Yp cp σ) (upd H s.heap.objs.size (.lst [])) { s3 with heap := h1, toks := s.toks } :=
  Qbq I3 hf3 (by rw [hs3h]; exact hlt3) hk hone hfree hcap (by rw [hs3h]; exact hns1) ext1 hnew
 have st1 : tn 0 h1 := T.keep _ _ _ st fun b hb o e => ext1 b o (by rw [hs3h, ← hH2]; exact jY _ e)
 obtain ⟨W, ⟨m0, w0⟩, turn⟩ := h s.heap.objs.size hD
 have stat : ∀ {H' : Hp}, (∀ b ∈ fp, H' b = none) → ∀ b ∈ fp, FpOk (Qp X N scope fp (upd H s.heap.objs.size (.lst [])) s3) [] H' b := fun {H'} hn b hb =>
  ⟨hn b hb, (J0.ok.exf b hb).1, J0.ok.exfs b hb, .inl hb, (J0.ok.exf b hb).2, fun p hp => nomatch hp⟩
 have loop : codeAny (model X.prog X.w) X.A (.compLoop (.ListComp elt [⟨target, iter, ifs, 0⟩] scope pos) 0 (.ref it) (.ref s.heap.objs.size) (compEnvC scope (Jx X scope H2.objs.size) H2.objs.size X.env))
   (RR (.ref s.heap.objs.size) H2.objs.size) { s3 with heap := h1, toks := s.toks } := by
  have eEnv : compEnvC scope (Jx X scope H2.objs.size) H2.objs.size X.env = (Qp X N scope fp (upd H s.heap.objs.size (.lst [])) s3).env := by
   rw [← hs3h]; rfl
  rw [eEnv]
  refine Zv (fun n s' => ∃ i τ ys H', Inv (Qp X N scope fp (upd H s.heap.objs.size (.lst [])) s3) [] τ H' s' ∧ tn i s'.heap ∧ (∀ b ∈ fp, H' b = none) ∧ W i n τ ys H') ?_ m0 ⟨0, Yp cp σ, [], _, J0, st1, fun b hb => (hf3 b hb).1, w0⟩
  rintro n s4 ⟨i, τ, ys, H4, I4, st4, fr4, w4⟩
  obtain ⟨hD4, hh⟩ := turn i n τ ys H4 w4
  rcases hh with ⟨stop, qn⟩ | ⟨go, hlen, N1, N2, hN1, hN2, step⟩
  ·refine thn (T.done (Qp X N scope fp (upd H s.heap.objs.size (.lst [])) s3) rfl rfl rfl hc i [] s4 τ H4 _ I4 (stat fr4) st4 stop) fun r s5 hqP => ?_
   obtain ⟨hr, I5⟩ := hqP
   subst hr
   obtain ⟨m, hm, _⟩ := I5.loc
   have e5 : H2.objs.size = (Qp X N scope fp (upd H s.heap.objs.size (.lst [])) s3).env.locals := by rw [← eEnv]; rfl
   refine hRR _ _ s5 H4 m (Vq I3 hf3 I5) ?_ (by rw [e5]; exact hm) qn
   exact I3.fpOk (by rw [hs3h]; exact jK _) (by rw [e5]; exact I5.free)
  ·refine thn (T.item (Qp X N scope fp (upd H s.heap.objs.size (.lst [])) s3) rfl rfl rfl hc i [] s4 τ H4 _ I4 (stat fr4) st4 go) fun r s5 hqP => ?_
   obtain ⟨u, hr, h5⟩ := hqP
   subst hr
   refine thn h5 fun _ s6 hqP => ?_
   obtain ⟨x, H6, I6, r6, y6, st6, fr6⟩ := hqP
   have I6' := I6.pinned (stat fr6) (T.obj _ _ st6)
   refine thn (hg fp _ _ _ s6 τ H6 x u _ I6' r6 (step x H6 y6)) fun _ s7 hqP => ?_
   obtain ⟨σ7, H7, I7, q7⟩ := hqP
   refine thn (ht fp _ _ _ s7 σ7 H7 _ I7 q7) fun ok s8 hqP => ?_
   obtain ⟨H8, I8, q8⟩ := hqP
   have back : ∀ {σ' : St} {H' : Hp} {s' : Shared}, Inv (Qp X N scope fp (upd H s.heap.objs.size (.lst [])) s3) ([] ++ Kk fp s6.heap) σ' H' s' → Inv (Qp X N scope fp (upd H s.heap.objs.size (.lst [])) s3) [] σ' H' s' ∧ tn (i + 1) s'.heap ∧ ∀ b ∈ fp, H' b = none := fun {σ' H' s'} I' => by
    refine ⟨I'.unpinned, T.keep _ _ _ st6 fun b hb o e => (I'.pin (b, o) (yJ _ (yJ _ (Xv hb e)))).1, fun b hb => ?_⟩
    obtain ⟨o, e, d⟩ := T.obj _ _ st6 b hb
    exact (I'.pin (b, o) (yJ _ (yJ _ (Xv hb e)))).2.1
   cases ok with
   | false =>
    rw [if_neg jW] at q8 ⊢
    obtain ⟨m', hm, w8⟩ := hN2 _ _ q8
    obtain ⟨b1, b2, b3⟩ := back I8
    exact ⟨m', hm, i + 1, σ7, ys, H8, b1, b2, b3, w8⟩
   | true =>
    rw [if_pos rfl] at q8 ⊢
    refine thn (he fp _ _ _ s8 σ7 H8 _ I8 q8) fun y s9 hqP => ?_
    obtain ⟨v, H9, I9, r9, hD9, n9⟩ := hqP
    obtain ⟨m', hm, w9⟩ := hN1 _ _ _ n9
    refine thn (Xk _ s9 σ7 H9 (.ref s.heap.objs.size) [v] (.ref s.heap.objs.size) [y] (fun _ H' => H' = upd H9 s.heap.objs.size (.lst (ys ++ [v]))) I9 rfl (.cons r9 .nil) ⟨_, ys, v, rfl, rfl, hD9, hlen, rfl⟩) fun _ s10 hqP => ?_
    obtain ⟨_, H10, I10, _, e10⟩ := hqP
    subst e10
    obtain ⟨b1, b2, b3⟩ := back I10
    exact ⟨m', hm, i + 1, σ7, _, _, b1, b2, b3, w9⟩
 subst hs3
 subst hh1
 exact codeAny_compStart_list loop (T.self _ 0 _ _ _ st1 loop)
theorem Qfh {i : Nat} {x : Str} {px : Pos} {elt iter target : Expr} {ifs : List Expr} {scope : Scope} {pos spos : Pos} (N : List Str) (cp : List (Option Nat)) {wi : TI} {g : TG} {tt : TT} {te : TE} (hc : X.calm = true) (hN : X.N.Nodup) (hi' : X.N[i]? = some x) (hx : Loc X.env.scope x) (hi : PI X target iter wi)
  (hg : ∀ fp H s, PG (Qp X N scope fp H s) target g) (ht : ∀ fp H s, PF (Qp X N scope fp H s) ifs tt) (he : ∀ fp H s, PE (Qp X N scope fp H s) elt te)
  (hsw : autoParam (swapsWith (.ListComp elt [⟨target, iter, ifs, 0⟩] scope pos) (some (.Name x px)) spos.line X.env = pure true) L2.aRfl._auto_1)
  (hk : autoParam (scope.kind = .function) L2.aRfl._auto_1) (hone : autoParam (Jv scope = true) L2.aRfl._auto_1) (hfree : autoParam (freeOk X.env.scope scope.names = true) L2.aRfl._auto_1) (hcap : autoParam (Yq X scope N cp = true) L2.aRfl._auto_1)
  (hnames : autoParam ((scope.names.all fun p => p.2 != .local || scope.names.lookup p.1 == some .local) = true) L2.aRfl._auto_1) (hs : autoParam (∀ x, foldedSetIterable iter X.env x = pure x) L2.aIrf._auto_1)
  (hf : autoParam (X.fn x = true ∨ X.env.scope.names.lookup x = some .local) L2.aFst._auto_1) :
  PS X (.Assign [.Name x px] (.ListComp elt [⟨target, iter, ifs, 0⟩] scope pos) spos) (fun D σ H => tLC cp wi g tt te σ H fun a H' => D.nx (σ.set i (some (.ref a))) H') := by
 intro pins s σ H D I h
 have has : ∀ n, (n, NameKind.free) ∈ scope.names → ∃ c, X.env.cells.lookup n = some c := fun n hn => I.ok.has n (Xa hfree n hn)
 rw [exec_Assign_Name_used _ _ _ _ hsw]
 refine jQ (wpAny_standAt (jQ ?_))
 show wpAny _ _ (do let _ ← comprehension (.ListComp elt [⟨target, iter, ifs, 0⟩] scope pos) scope X.env _ (newList []) false (eval iter X.env) (some (assign (.Name x px) X.env))) _ _ s
 refine jQ (wpAny_mono (wpAny_comprehension_free (use := some (assign (.Name x px) X.env)) (Q := fun _ s' => SP X pins D .next s') rfl hs (Xr has) hk (fun x hx hl => ?_)
  (thn (hi pins s σ H _ I h) fun xv s1 h1 => thn h1 fun itv s2 h2 => ?_)) (fun _ s' hq => jZ (jZ hq)) fun _ _ e => e)
 ·have := yW.mp hnames x hx
  simp only [jZa, bne_iff_ne, beq_iff_eq] at this
  exact this.resolve_left fun z => z hl
 ·obtain ⟨it, fp, tn, J, H2, e, I2, T, st2, f2, hW⟩ := h2
  subst e
  refine Qdc (N := N) (cp := cp) hc hk hone hfree hcap hg ht he I2 T st2 f2 hW fun D' C s' H' m I' fC hm q => ?_
  show wpAny _ _ (assign (.Name x px) X.env (.ref D')) _ _ _
  refine wpAny_assign_Name (Jg I' hN hi' hx (v := .ref D') rfl (fun s'' I'' hsb => ?_) hf)
  obtain ⟨a, hsb, ha⟩ := hsb
  have hCa : C ≠ a := by
   rcases ha with e | e
   ·rw [e]; exact fC.2.1
   ·exact fun z => fC.2.2.2.2.1 x a e z.symm
  refine ⟨m, hm.sameBut hsb hCa, fun h' hsb' => ?_⟩
  exact ⟨_, H', I''.turned (t' := s''.toks) (fun b o hb e => hsb'.extBut b o hb e) fC.1 fC.2.1 fC.2.2.2.1 fC.2.2.2.2.1 fC.2.2.2.2.2, q⟩
end
theorem Qfi {X : Cx} {K : Fg} {tg l : Expr} {tl : TE} (hK : X.K = K) (hl : PE X l tl) : PI X tg l (iList K tl) := by subst hK; exact Yx hl
end L2
namespace L2
open PySem PySem.W PyProof.Rows
def kGood {α : Type} (f : Nat → Nat → Bool) (n : Nat) : KasT α → (α → Prop) → Prop
 | .ret a, Q => Q a
 | .ask i j k, Q => i < n ∧ j < n ∧ kGood f n (k (f i j)) Q
theorem kGood.bind {α β : Type} {f : Nat → Nat → Bool} {n : Nat} {g : α → KasT β} {Q : β → Prop} : ∀ (t : KasT α), kGood f n t (fun a => kGood f n (g a) Q) → kGood f n (t.bind g) Q
 | .ret a, h => h
 | .ask i j k, h => ⟨h.1, h.2.1, kGood.bind (k (f i j)) h.2.2⟩
theorem kGood.mono {α : Type} {f : Nat → Nat → Bool} {n : Nat} {Q Q' : α → Prop} (hq : ∀ a, Q a → Q' a) : ∀ (t : KasT α), kGood f n t Q → kGood f n t Q'
 | .ret a, h => hq a h
 | .ask i j k, h => ⟨h.1, h.2.1, kGood.mono hq (k (f i j)) h.2.2⟩
theorem kGood.wp {α : Type} {f : Nat → Nat → Bool} {n : Nat} {cmp : Nat → Nat → (Bool → Shared → Prop) → Shared → Prop} {s : Shared} (hc : ∀ i j C, i < n → j < n → C (f i j) s → cmp i j C s) {Q : α → Prop} {R : α → Shared → Prop} (hR : ∀ a, Q a → R a s) :
  ∀ (t : KasT α), kGood f n t Q → t.kasWp cmp R s
 | .ret a, h => hR a h
 | .ask i j k, h => hc i j _ h.1 h.2.1 (kGood.wp hc hR (k (f i j)) h.2.2)
theorem Qav {g : Nat → Int} {m : Nat} (h : ∀ i, i + 1 < m → g i ≤ g (i + 1)) : ∀ j i, i ≤ j → j < m → g i ≤ g j
 | 0, i, hi, _ => by rw [Nat.le_zero.mp hi]; exact jJc _
 | j + 1, i, hi, hj => by
  by_cases e : i = j + 1
  ·rw [e]; exact jJc _
  ·exact Int.le_trans (Qav h j i (by omega) (by omega)) (h j hj)
section
variable {r : Nat → Int} {n : Nat}
def rk (r : Nat → Int) (p : Array Nat) (i : Nat) : Int := r (p.getD i 0)
def Yf (r : Nat → Int) (i j : Nat) : Bool := decide (r i < r j)
def PermN (n : Nat) (p : Array Nat) : Prop := p.Perm (List.toArray (List.range n))
theorem gD {p q : Array Nat} {i j : Nat} (h : p[i]? = q[j]?) : p.getD i 0 = q.getD j 0 := by rw [wZ, wZ, h]
theorem Qdd {p q : Array Nat} {i j : Nat} (h : p[i]? = q[j]?) : rk r p i = rk r q j := congrArg r (gD h)
theorem PermN.size {p : Array Nat} (h : PermN n p) : p.size = n := by have := h.size_eq; simpa using this
theorem PermN.lt {p : Array Nat} (h : PermN n p) (hn : 0 < n) (i : Nat) : p.getD i 0 < n := by
 rw [wZ]
 cases e : p[i]? with
 | none => exact hn
 | some v =>
  have hm : v ∈ p := Array.mem_of_getElem? e
  have := h.mem_iff.mp hm
  simpa using this
theorem PermN.rev {p : Array Nat} (h : PermN n p) (i j : Nat) : PermN n (kas_rev p i j) := (mirror_perm p i j _).trans h
theorem Qde {p : Array Nat} {i j : Nat} (hj : j ≤ p.size) (k : Nat) : rk r (kas_rev p i j) k = if i ≤ k ∧ k < j then rk r p (i + j - 1 - k) else rk r p k := by
 have e := getElem?_mirror_all (i := i) hj k
 by_cases c : i ≤ k ∧ k < j
 ·rw [if_pos c] at e ⊢; exact Qdd e
 ·rw [if_neg c] at e ⊢; exact Qdd e
theorem Kt {p : Array Nat} (hp : PermN n p) (hn : 0 < n) : ∀ (f a : Nat), kGood (Yf r) n (kas_asc p f a) fun m => a ≤ m ∧ m ≤ a + f ∧ (∀ i, a ≤ i → i < m → rk r p (i - 1) ≤ rk r p i) ∧ (m < a + f → rk r p m < rk r p (m - 1))
 | 0, a => ⟨jK _, jK _, fun i h1 h2 => by omega, fun h => by omega⟩
 | f + 1, a => by
  refine ⟨hp.lt hn _, hp.lt hn _, ?_⟩
  by_cases c : rk r p a < rk r p (a - 1)
  ·rw [show Yf r (p.getD a 0) (p.getD (a - 1) 0) = true from kW c]; dsimp only; rw [if_pos rfl]
   exact ⟨jK _, by omega, fun i h1 h2 => by omega, fun _ => c⟩
  ·rw [show Yf r (p.getD a 0) (p.getD (a - 1) 0) = false from kJ c]; dsimp only; rw [if_neg jW]
   refine kGood.mono (fun m h => ?_) _ (Kt hp hn f (a + 1))
   obtain ⟨h1, h2, h3, h4⟩ := h
   refine ⟨by omega, by omega, fun i i1 i2 => ?_, fun z => h4 (by omega)⟩
   by_cases e : i = a
   ·subst e; omega
   ·exact h3 i (by omega) i2
def Qfj (r : Nat → Int) (p : Array Nat) (m : Nat) : Prop := ∀ i, 1 ≤ i → i < m → rk r p i ≤ rk r p (i - 1)
def Flat (r : Nat → Int) (p : Array Nat) (m q : Nat) : Prop := q + 1 ≤ m ∧ ∀ i, m - (q + 1) ≤ i → i < m → rk r p i = rk r p (m - 1)
theorem Ku {p : Array Nat} (hp : PermN n p) {m q : Nat} (hm : m ≤ n) (h : Flat r p m q) (k : Nat) : rk r (kas_rev p (m - (q + 1)) m) k = rk r p k := by
 rw [Qde (by rw [hp.size]; exact hm)]
 have h0 := h.1
 by_cases c : m - (q + 1) ≤ k ∧ k < m
 ·rw [if_pos c, h.2 k c.1 c.2, h.2 _ (by omega) (by omega)]
 ·rw [if_neg c]
theorem Zh (hn : 0 < n) : ∀ (f : Nat) (p : Array Nat) (a q : Nat), PermN n p → a + f ≤ n → 1 ≤ a → Qfj r p a → Flat r p a q → kGood (Yf r) n (kas_desc f p a q) fun x => PermN n x.1 ∧ a ≤ x.2.1 ∧ x.2.1 ≤ a + f ∧ Qfj r x.1 x.2.1 ∧ Flat r x.1 x.2.1 x.2.2
 | 0, p, a, q, hp, _, _, h1, h2 => ⟨hp, jK _, jK _, h1, h2⟩
 | f + 1, p, a, q, hp, hf, ha, h1, h2 => by
  refine ⟨hp.lt hn _, hp.lt hn _, ?_⟩
  have flat0 : ∀ p' : Array Nat, Flat r p' (a + 1) 0 := fun p' => ⟨by omega, fun i i1 i2 => by rw [show i = a by omega]; rfl⟩
  by_cases c : rk r p a < rk r p (a - 1)
  ·rw [show Yf r (p.getD a 0) (p.getD (a - 1) 0) = true from kW c]; dsimp only; rw [if_pos rfl]
   by_cases hq : q > 0
   ·rw [if_pos hq]
    have e := Ku hp (by omega) h2
    refine kGood.mono (fun x h => ⟨h.1, by have := h.2.1; omega, by have := h.2.2.1; omega, h.2.2.2⟩) _ (Zh hn f _ (a + 1) 0 (hp.rev _ _) (by omega) (by omega) (fun i i1 i2 => ?_) (flat0 _))
    rw [e, e]
    by_cases ei : i = a
    ·subst ei; omega
    ·exact h1 i i1 (by omega)
   ·rw [if_neg hq]
    refine kGood.mono (fun x h => ⟨h.1, by have := h.2.1; omega, by have := h.2.2.1; omega, h.2.2.2⟩) _ (Zh hn f _ (a + 1) 0 hp (by omega) (by omega) (fun i i1 i2 => ?_) (flat0 _))
    by_cases ei : i = a
    ·subst ei; omega
    ·exact h1 i i1 (by omega)
  ·rw [show Yf r (p.getD a 0) (p.getD (a - 1) 0) = false from kJ c]; dsimp only; rw [if_neg jW]
   refine ⟨hp.lt hn _, hp.lt hn _, ?_⟩
   by_cases d : rk r p (a - 1) < rk r p a
   ·rw [show Yf r (p.getD (a - 1) 0) (p.getD a 0) = true from kW d]; dsimp only; rw [if_pos rfl]
    exact ⟨hp, jK _, Nat.le_add_right _ _, h1, h2⟩
   ·rw [show Yf r (p.getD (a - 1) 0) (p.getD a 0) = false from kJ d]; dsimp only; rw [if_neg jW]
    refine kGood.mono (fun x h => ⟨h.1, by have := h.2.1; omega, by have := h.2.2.1; omega, h.2.2.2⟩) _ (Zh hn f _ (a + 1) (q + 1) hp (by omega) (by omega) (fun i i1 i2 => ?_) ⟨by have := h2.1; omega, fun i i1 i2 => ?_⟩)
    ·by_cases ei : i = a
     ·subst ei; omega
     ·exact h1 i i1 (by omega)
    ·have := h2.1
     show rk r p i = rk r p a
     by_cases ei : i = a
     ·rw [ei]
     ·rw [h2.2 i (by omega) (by omega)]; omega
def Zy (r : Nat → Int) (p : Array Nat) (m : Nat) : Prop := ∀ i j, i ≤ j → j < m → rk r p i ≤ rk r p j
theorem Qaw {p : Array Nat} {m : Nat} (h : ∀ i, 1 ≤ i → i < m → rk r p (i - 1) ≤ rk r p i) : Zy r p m := fun i j => Qav (fun i hi => h (i + 1) (by omega) hi) j i
theorem Km (hn : 0 < n) {p : Array Nat} {m : Nat} (hp : PermN n p) (h1 : 1 ≤ m) (hm : m ≤ n) (h : Qfj r p m) : kGood (Yf r) n (kas_tail3 m n p) fun x => PermN n x.2 ∧ 1 ≤ x.1 ∧ x.1 ≤ n ∧ Zy r x.2 x.1 := by
 refine kGood.bind _ (kGood.mono (fun k hk => ?_) _ (Kt (hp.rev 0 m) hn (n - m) m))
 obtain ⟨k1, k2, k3, _⟩ := hk
 refine ⟨hp.rev _ _, by show 1 ≤ k; omega, by show k ≤ n; omega, Qaw fun i i1 i2 => ?_⟩
 by_cases c : i < m
 ·have hs : m ≤ p.size := by rw [hp.size]; exact hm
  rw [Qde hs, Qde hs, if_pos ⟨by omega, by omega⟩, if_pos ⟨by omega, c⟩]
  have := h (0 + m - 1 - (i - 1)) (by omega) (by omega)
  rw [show 0 + m - 1 - (i - 1) - 1 = 0 + m - 1 - i by omega] at this
  exact this
 ·exact k3 i (by omega) i2
theorem Zi (hn : 0 < n) {p : Array Nat} {m : Nat} (hp : PermN n p) (h1 : 1 ≤ m) (hm : m < n) (h : Qfj r p (m + 1)) : kGood (Yf r) n (kas_descPart m n p) fun x => PermN n x.2 ∧ 1 ≤ x.1 ∧ x.1 ≤ n ∧ Zy r x.2 x.1 := by
 refine kGood.bind _ (kGood.mono (fun x hx => ?_) _ (Zh hn (n - (m + 1)) p (m + 1) 0 hp (by omega) (by omega) h ⟨by omega, fun i i1 i2 => by rw [show i = m by omega]; rfl⟩))
 obtain ⟨x1, x2, x3, x4, x5⟩ := hx
 by_cases c : x.2.2 > 0
 ·rw [if_pos c]
  have e := Ku x1 (by omega) x5
  exact Km hn (x1.rev _ _) (by omega) (by omega) fun i i1 i2 => by rw [e, e]; exact x4 i i1 i2
 ·rw [if_neg c]
  exact Km hn x1 (by omega) (by omega) x4
theorem Qbr (hn : 0 < n) {p : Array Nat} (hp : PermN n p) : kGood (Yf r) n (kas_count n p) fun x => PermN n x.2 ∧ 1 ≤ x.1 ∧ x.1 ≤ n ∧ Zy r x.2 x.1 := by
 refine kGood.bind _ (kGood.mono (fun m hm => ?_) _ (Kt hp hn (n - 1) 1))
 obtain ⟨m1, m2, m3, m4⟩ := hm
 have up : Zy r p m := Qaw m3
 by_cases c : (m == n) = true
 ·rw [if_pos c]
  exact ⟨hp, m1, by show m ≤ n; omega, up⟩
 ·rw [if_neg c]
  have c' : m ≠ n := fun z => c (by rw [z]; exact beq_self_eq_true n)
  have dn := m4 (by omega)
  by_cases c1 : m > 1
  ·rw [if_pos c1]
   refine ⟨hp.lt hn _, hp.lt hn _, ?_⟩
   by_cases d : rk r p 0 < rk r p (m - 1)
   ·rw [show Yf r (p.getD 0 0) (p.getD (m - 1) 0) = true from kW d]; dsimp only; rw [if_pos rfl]
    exact ⟨hp, m1, by show m ≤ n; omega, up⟩
   ·rw [show Yf r (p.getD 0 0) (p.getD (m - 1) 0) = false from kJ d]; dsimp only; rw [if_neg jW]
    have fl : Flat r p m (m - 1) := ⟨by omega, fun i i1 i2 => by
     have a1 := up 0 i (by omega) i2
     have a2 := up i (m - 1) (by omega) (by omega)
     omega⟩
    have e := Ku hp (by omega) fl
    rw [show m - (m - 1 + 1) = 0 by omega] at e
    refine Zi hn (hp.rev _ _) m1 (by omega) fun i i1 i2 => ?_
    rw [e, e]
    by_cases ei : i = m
    ·subst ei; omega
    ·rw [fl.2 i (by omega) (by omega), fl.2 (i - 1) (by omega) (by omega)]; exact jJc _
  ·rw [if_neg c1]
   refine Zi hn hp m1 (by omega) fun i i1 i2 => ?_
   have : i = m := by omega
   subst this; omega
theorem Zq (hn : 0 < n) {p : Array Nat} (hp : PermN n p) {k : Nat} (up : Zy r p k) : ∀ (f a b : Nat), a ≤ b → b ≤ k → b - a ≤ f → (∀ i, i < a → rk r p i ≤ rk r p k) → (∀ i, b ≤ i → i < k → rk r p k ≤ rk r p i) →
  kGood (Yf r) n (kas_place p k f a b) fun l => l ≤ k ∧ (∀ i, i < l → rk r p i ≤ rk r p k) ∧ ∀ i, l ≤ i → i < k → rk r p k ≤ rk r p i
 | 0, a, b, h1, h2, h3, h4, h5 => ⟨by omega, h4, fun i i1 i2 => h5 i (by omega) i2⟩
 | f + 1, a, b, h1, h2, h3, h4, h5 => by
  unfold kas_place
  by_cases c : a ≥ b
  ·rw [if_pos c]
   exact ⟨by omega, h4, fun i i1 i2 => h5 i (by omega) i2⟩
  ·rw [if_neg c]
   refine ⟨hp.lt hn _, hp.lt hn _, ?_⟩
   by_cases d : rk r p k < rk r p ((a + b) / 2)
   ·rw [show Yf r (p.getD k 0) (p.getD ((a + b) / 2) 0) = true from kW d]; dsimp only; rw [if_pos rfl]
    refine Zq hn hp up f a ((a + b) / 2) (by omega) (by omega) (by omega) h4 fun i i1 i2 => ?_
    have := up ((a + b) / 2) i i1 i2
    omega
   ·rw [show Yf r (p.getD k 0) (p.getD ((a + b) / 2) 0) = false from kJ d]; dsimp only; rw [if_neg jW]
    refine Zq hn hp up f ((a + b) / 2 + 1) b (by omega) (by omega) (by omega) (fun i hi => ?_) h5
    have := up i ((a + b) / 2) (by omega) (by omega)
    omega
theorem Qax (hn : 0 < n) : ∀ (f : Nat) (p : Array Nat) (k : Nat), PermN n p → k + f = n → Zy r p k → kGood (Yf r) n (kas_bin f p k) fun x => PermN n x ∧ Zy r x n
 | 0, p, k, hp, hk, up => ⟨hp, (show k = n by omega) ▸ up⟩
 | f + 1, p, k, hp, hk, up => by
  unfold kas_bin
  refine kGood.bind _ (kGood.mono (fun l hl => ?_) _ (Zq hn hp up k 0 k (wV _) (jK _) (by omega) (fun i hi => by omega) (fun i i1 i2 => by omega)))
  obtain ⟨l1, l2, l3⟩ := hl
  refine Qax hn f _ (k + 1) ((bubble_perm _ _ _).trans hp) (by omega) ?_
  have eb : ∀ i, rk r (bubble p k (k - l)) i = if i = l then rk r p k else if l < i ∧ i ≤ k then rk r p (i - 1) else rk r p i := fun i => by
   have e := getElem?_bubble (xs := p) (src := k) (by rw [hp.size]; omega) (k - l) (by omega) i
   rw [show k - (k - l) = l by omega] at e
   by_cases c1 : i = l
   ·rw [if_pos c1] at e ⊢; exact Qdd e
   ·rw [if_neg c1] at e ⊢
    by_cases c2 : l < i ∧ i ≤ k
    ·rw [if_pos c2] at e ⊢; exact Qdd e
    ·rw [if_neg c2] at e ⊢; exact Qdd e
  intro i j hij hj
  rw [eb, eb]
  by_cases a1 : i = l
  ·rw [if_pos a1]
   by_cases b1 : j = l
   ·rw [if_pos b1]; exact jJc _
   ·rw [if_neg b1, if_pos ⟨by omega, by omega⟩]
    exact l3 (j - 1) (by omega) (by omega)
  ·rw [if_neg a1]
   by_cases a2 : l < i ∧ i ≤ k
   ·rw [if_pos a2, if_neg (by omega), if_pos ⟨by omega, by omega⟩]
    exact up (i - 1) (j - 1) (by omega) (by omega)
   ·rw [if_neg a2]
    by_cases b1 : j = l
    ·rw [if_pos b1]; exact l2 i (by omega)
    ·rw [if_neg b1]
     by_cases b2 : l < j ∧ j ≤ k
     ·rw [if_pos b2]; exact up i (j - 1) (by omega) (by omega)
     ·rw [if_neg b2]; exact up i j hij (by omega)
theorem Vr (hn : 0 < n) : kGood (Yf r) n (kas_sort n) fun x => PermN n x ∧ Zy r x n := by
 refine kGood.bind _ (kGood.mono (fun x hx => ?_) _ (Qbr hn (p := List.toArray (List.range n)) (Array.Perm.refl _)))
 obtain ⟨x1, x2, x3, x4⟩ := hx
 by_cases c : x.1 < n
 ·rw [if_pos c, show max x.1 1 = x.1 by omega]
  exact Qax hn _ _ _ x1 (by omega) x4
 ·rw [if_neg c]
  have e : x.1 = n := by omega
  rw [e] at x4
  exact ⟨x1, x4⟩
end
end L2
namespace Nb
open PySem L2
structure Mg (mg : Str → Option Value) : Prop where
 len : mg "len" = none
 min : mg "min" = none
 max : mg "max" = none
 sum : mg "sum" = none
 all : mg "all" = none
 any : mg "any" = none
 abs : mg "abs" = none
 isinstance : mg "isinstance" = none
 sorted : mg "sorted" = none
 range_ : mg "range" = none
 zip_ : mg "zip" = none
 tuple_ : mg "tuple" = none
 list_ : mg "list" = none
 int_ : mg "int" = none
 bool_ : mg "bool" = none
 dict_ : mg "dict" = none
 enumerate_ : mg "enumerate" = none
 reversed_ : mg "reversed" = none
 ValueError_ : mg "ValueError" = none
 set_ : mg "set" = none
 str_ : mg "str" = none
theorem atNs {ns : List Int} {k : Int} (h0 : 0 ≤ k) (h : k < (((ns.map V.int).length : Nat) : Int)) : ∃ v : Int, atI (ns.map V.int) k = some (.int v) := by
 have hk : k.toNat < ns.length := by rw [jX] at h; omega
 have ek : k = ((k.toNat : Nat) : Int) := by omega
 have q : atI (ns.map V.int) ((k.toNat : Nat) : Int) = some (.int ns[k.toNat]) := Qco (by rw [kQ, gE hk] <;> rfl)
 rw [← ek] at q
 exact ⟨_, q⟩
def Qay (K : Fg) : Sp := fun vs H Q _ => ∃ (a : Addr) (ns : List Int) (k : Int), vs = [.ref a, .int k] ∧ SqL K H a (ns.map V.int) ∧ 0 ≤ k ∧ ∀ z : Int, Q (.int z) H
def Qdf : Sp := fun vs H Q _ => ∃ z : Int, vs = [.int z] ∧ Q (.bl true) H
theorem Yz {K : Fg} {H : Hp} {D a : Addr} {ys zs xs : List V} (hD : H D = some (.lst ys)) (h : SqT K H a xs) : SqT K (upd H D (.lst zs)) a xs := by
 rcases h with (h | ⟨o, h⟩) | h
 ·exact .inl (.inl (by rw [Qi (Qes h hD (by intro z; cases z))]; exact h))
 ·exact .inl (.inr ⟨o, by rw [Qi (Qes h hD (by intro z; cases z))]; exact h⟩)
 ·exact .inr h
def RowAt (K : Fg) (H : Hp) (t : Addr) (r : List Int × Int) : Prop := ∃ p, SqT K H t [.ref p, .int r.2] ∧ SqT K H p (r.1.map V.int)
theorem RowAt.same {K : Fg} {H H' : Hp} {t : Addr} {r : List Int × Int} (e : Same H H') (h : RowAt K H t r) : RowAt K H' t r := by obtain ⟨p, h1, h2⟩ := h; exact ⟨p, e.tup h1, e.tup h2⟩
theorem RowAt.upd {K : Fg} {H : Hp} {D t : Addr} {ys zs : List V} {r : List Int × Int} (hD : H D = some (.lst ys)) (h : RowAt K H t r) : RowAt K (upd H D (.lst zs)) t r := by obtain ⟨p, h1, h2⟩ := h; exact ⟨p, Yz hD h1, Yz hD h2⟩
def RowsAre (K : Fg) (H : Hp) : List V → List (List Int × Int) → Prop := Paired fun v r => ∃ t, v = .ref t ∧ RowAt K H t r
theorem RowsAre.imp {K : Fg} {H H' : Hp} {vs : List V} {rs : List (List Int × Int)} (f : ∀ t r, RowAt K H t r → RowAt K H' t r) (h : RowsAre K H vs rs) : RowsAre K H' vs rs := by
 induction h with
 | nil => exact .nil
 | cons r t ih => obtain ⟨a, e, z⟩ := r; exact .cons ⟨a, e, f _ _ z⟩ ih
theorem RowsAre.snoc {K : Fg} {H : Hp} {vs : List V} {rs : List (List Int × Int)} {t : Addr} {r : List Int × Int} (h : RowsAre K H vs rs) (z : RowAt K H t r) : RowsAre K H (vs ++ [.ref t]) (rs ++ [r]) := by
 induction h with
 | nil => exact .cons ⟨t, rfl, z⟩ .nil
 | cons q t ih => exact .cons q ih
theorem RowsAre.get {K : Fg} {H : Hp} {vs : List V} {rs : List (List Int × Int)} (h : RowsAre K H vs rs) : ∀ {i : Nat} {v : V}, vs[i]? = some v → ∃ t r, v = .ref t ∧ rs[i]? = some r ∧ RowAt K H t r := by
 induction h with
 | nil => intro i v e; simp at e
 | cons q t ih =>
  intro i v e
  cases i with
  | zero => obtain ⟨a, e1, z⟩ := q; simp at e; subst e; exact ⟨a, _, e1, rfl, z⟩
  | succ i => obtain ⟨a, r, e1, e2, z⟩ := ih (i := i) (v := v) (by simpa using e); exact ⟨a, r, e1, by simpa using e2, z⟩
theorem RowsAre.length {K : Fg} {H : Hp} {vs : List V} {rs : List (List Int × Int)} (h : RowsAre K H vs rs) : vs.length = rs.length := Paired.length h
def ProbAt (K : Fg) (H : Hp) (t : Addr) (rs : List (List Int × Int)) (cs : List Int) : Prop := ∃ l c vs, SqT K H t [.ref l, .ref c] ∧ SqL K H l vs ∧ RowsAre K H vs rs ∧ SqT K H c (cs.map V.int)
theorem ProbAt.same {K : Fg} {H H' : Hp} {t : Addr} {rs : List (List Int × Int)} {cs : List Int} (e : Same H H') (h : ProbAt K H t rs cs) : ProbAt K H' t rs cs := by
 obtain ⟨l, c, vs, h1, h2, h3, h4⟩ := h; exact ⟨l, c, vs, e.tup h1, e.seq h2, h3.imp fun _ _ z => z.same e, e.tup h4⟩
theorem at0 {x y : V} : atI [x, y] 0 = some x := by rfl
theorem at1 {x y : V} : atI [x, y] 1 = some y := by rfl
theorem Qfk {α : Type} {l : List α} {i : Nat} {x : α} (h : l[i]? = some x) : l.take (i + 1) = l.take i ++ [x] := by rw [List.take_succ, h]; rfl
theorem Kv {ns : List Int} {i : Nat} {v : V} (h : (ns.map V.int)[i]? = some v) : ∃ n, ns[i]? = some n ∧ v = .int n := by
 rw [kQ] at h
 cases e : ns[i]? with
 | none => rw [e] at h; cases h
 | some n => rw [e] at h; exact ⟨n, rfl, (Option.some.inj h).symm⟩
def rowD (r : List Int × Int) : D := .tup [.tup (r.1.map .int), .int r.2]
def Qih (rs : List (List Int × Int)) (cs : List Int) : D := .tup [.lst (rs.map rowD), .tup (cs.map .int)]
theorem intsD {K : Fg} {H : Hp} {a : Addr} {ns : List Int} (h : SqT K H a (ns.map V.int)) : HasD K H (.ref a) (.tup (ns.map .int)) := by
 refine .tup h (by rw [jX, jX]) fun i v x e1 e2 => ?_
 obtain ⟨n, en, rfl⟩ := Kv e1
 rw [kQ, en] at e2
 cases e2
 exact .int n
theorem pairD {K : Fg} {H : Hp} {a : Addr} {v w : V} {d e : D} (h : SqT K H a [v, w]) (h1 : HasD K H v d) (h2 : HasD K H w e) : HasD K H (.ref a) (.tup [d, e]) := by
 refine .tup h rfl fun i v x e1 e2 => ?_
 match i with
 | 0 => simp at e1 e2; subst e1 e2; exact h1
 | 1 => simp at e1 e2; subst e1 e2; exact h2
 | i + 2 => simp at e1
theorem RowAt.hasD {K : Fg} {H : Hp} {t : Addr} {r : List Int × Int} (h : RowAt K H t r) : HasD K H (.ref t) (rowD r) := by
 obtain ⟨p, h1, h2⟩ := h
 exact pairD h1 (intsD h2) (.int _)
theorem RowsAre.hasD {K : Fg} {H : Hp} {l : Addr} {vs : List V} {rs : List (List Int × Int)} (hl : SqL K H l vs) (h : RowsAre K H vs rs) : HasD K H (.ref l) (.lst (rs.map rowD)) := by
 refine .lst hl (by rw [jX]; exact h.length) fun i v x e1 e2 => ?_
 obtain ⟨t, r, rfl, er, hr⟩ := h.get e1
 rw [kQ, er] at e2
 cases e2
 exact hr.hasD
theorem ProbAt.hasD {K : Fg} {H : Hp} {t : Addr} {rs : List (List Int × Int)} {cs : List Int} (h : ProbAt K H t rs cs) : HasD K H (.ref t) (Qih rs cs) := by
 obtain ⟨l, c, vs, h1, h2, h3, h4⟩ := h
 exact pairD h1 (RowsAre.hasD h2 h3) (intsD h4)
theorem Vs {n : Nat} (ns ms : List Int) : Alike (n + 1) (.tup (ns.map .int)) (.tup (ms.map .int)) := by
 refine .tup fun i x y e1 e2 => ?_
 rw [kQ] at e1 e2
 obtain ⟨a, _, rfl⟩ := yK.mp e1
 obtain ⟨b, _, rfl⟩ := yK.mp e2
 exact .int a b
theorem Zj {n : Nat} {a b c d : D} (h1 : Alike n a c) (h2 : Alike n b d) : Alike (n + 1) (.tup [a, b]) (.tup [c, d]) := by
 refine .tup fun i x y e1 e2 => ?_
 match i with
 | 0 => simp at e1 e2; subst e1 e2; exact h1
 | 1 => simp at e1 e2; subst e1 e2; exact h2
 | i + 2 => simp at e1
theorem Qaz {n : Nat} (r r' : List Int × Int) : Alike (n + 2) (rowD r) (rowD r') := Zj (Vs _ _) (.int _ _)
theorem Vt {n : Nat} (rs rs' : List (List Int × Int)) : Alike (n + 3) (.lst (rs.map rowD)) (.lst (rs'.map rowD)) := by
 refine .lst fun i x y e1 e2 => ?_
 rw [kQ] at e1 e2
 obtain ⟨a, _, rfl⟩ := yK.mp e1
 obtain ⟨b, _, rfl⟩ := yK.mp e2
 exact Qaz a b
theorem Vu {n : Nat} (rs rs' : List (List Int × Int)) (cs cs' : List Int) : Alike (n + 4) (Qih rs cs) (Qih rs' cs') := Zj (Vt rs rs') (Vs _ _)
def put (ns : List Int) (t : List Nat) : Nat → List Int
 | 0 => List.replicate t.length 0
 | m + 1 => (put ns t m).set (t.getD m 0) (ns.getD m 0)
theorem Yg (ns : List Int) (t : List Nat) : ∀ m, (put ns t m).length = t.length
 | 0 => jKd
 | m + 1 => by show ((put ns t m).set _ _).length = _; rw [wJ, Yg ns t m]
structure IsTurn (n : Nat) (t : List Nat) : Prop where
 perm : t.Perm (List.range n)
theorem IsTurn.length {n : Nat} {t : List Nat} (h : IsTurn n t) : t.length = n := by rw [h.perm.length_eq, xX]
theorem IsTurn.nodup {n : Nat} {t : List Nat} (h : IsTurn n t) : t.Nodup := h.perm.nodup_iff.mpr List.nodup_range
theorem IsTurn.mem {n : Nat} {t : List Nat} (h : IsTurn n t) {k : Nat} : k ∈ t ↔ k < n := by rw [h.perm.mem_iff, yV]
theorem IsTurn.lt {n : Nat} {t : List Nat} (h : IsTurn n t) {i k : Nat} (e : t[i]? = some k) : k < n := h.mem.mp (xY e)
theorem IsTurn.inj {n : Nat} {t : List Nat} (h : IsTurn n t) {i j k : Nat} (e1 : t[i]? = some k) (e2 : t[j]? = some k) : i = j := by
 obtain ⟨h1, z1⟩ := kX.mp e1
 obtain ⟨h2, z2⟩ := kX.mp e2
 exact (List.getElem_inj h.nodup).mp (z1.trans z2.symm)
theorem IsTurn.sur {n : Nat} {t : List Nat} (h : IsTurn n t) {k : Nat} (hk : k < n) : ∃ i : Nat, t[i]? = some k := by
 obtain ⟨i, hi, e⟩ := kQb (h.mem.mpr hk)
 exact ⟨i, by rw [gE hi, e]⟩
theorem Kw {n : Nat} {ns : List Int} {t : List Nat} (h : IsTurn n t) (hl : ns.length = n) : ∀ m, m ≤ n → ∀ i k, i < m → t[i]? = some k → (put ns t m)[k]? = ns[i]?
 | 0, _, i, k, hi, _ => absurd hi (Nat.not_lt_zero _)
 | m + 1, hm, i, k, hi, e => by
  have lm : m < t.length := by rw [h.length]; omega
  show ((put ns t m).set (t.getD m 0) (ns.getD m 0))[k]? = _
  have ed : t.getD m 0 = t[m] := by simp [List.getD, lm]
  rw [ed]
  by_cases hk : t[m] = k
  ·have : i = m := h.inj e (by rw [gE lm, hk])
   subst this
   rw [hk, jXc (by rw [Yg, h.length]; exact h.lt e), gE (by omega)]
   simp [List.getD, show i < ns.length by omega]
  ·rw [jYd hk]
   refine Kw h hl m (by omega) i k ?_ e
   have : i ≠ m := by
    rintro rfl
    rw [gE lm] at e
    exact hk (Option.some.inj e)
   omega
theorem Qdg {n : Nat} {ns : List Int} {t : List Nat} (h : IsTurn n t) (hl : ns.length = n) {i k : Nat} (e : t[i]? = some k) : (put ns t n)[k]? = ns[i]? :=
 Kw h hl n (jK n) i k (by rw [← h.length]; exact (kX.mp e).1) e
theorem Qhe {n : Nat} {ns xs : List Int} {t : List Nat} (h : IsTurn n t) (hl : ns.length = n) (hx : xs.length = n) (hh : ∀ i k : Nat, t[i]? = some k → xs[k]? = ns[i]?) : put ns t n = xs := by
 refine jXf fun k => ?_
 by_cases hk : k < n
 ·obtain ⟨i, e⟩ := h.sur hk
  rw [Qdg h hl e, hh i k e]
 ·rw [zV (by rw [Yg, h.length]; omega), zV (by omega)]
theorem Wp {n : Nat} {ns : List Int} {t : List Nat} (h : IsTurn n t) : (put ns t n).length = n := by rw [Yg, h.length]
def after (one other : List Nat) : List Nat := one.map fun p => other.getD p 0
theorem Qii {l : List Nat} {i k : Nat} (h : l[i]? = some k) : l.getD i 0 = k := by simp [List.getD, h]
theorem map_getD (l : List Nat) : (List.range l.length).map (fun i => l.getD i 0) = l := by
 refine jXf fun i => ?_
 rw [kQ]
 by_cases hi : i < l.length
 ·rw [wY hi, gE hi]
  simp [List.getD, hi]
 ·rw [zV (by simpa using hi), zV (by omega)]; rfl
theorem Kn {n : Nat} {one other : List Nat} (h1 : IsTurn n one) (h2 : IsTurn n other) : IsTurn n (after one other) := by
 refine ⟨(h1.perm.map _).trans ?_⟩
 have := map_getD other
 rw [h2.length] at this
 rw [this]
 exact h2.perm
theorem Qfl {one other : List Nat} {i k : Nat} (h : (after one other)[i]? = some k) : ∃ p : Nat, one[i]? = some p ∧ k = other.getD p 0 := by
 unfold after at h
 rw [kQ] at h
 obtain ⟨p, e, rfl⟩ := yK.mp h
 exact ⟨p, e, rfl⟩
theorem Qij {n : Nat} {ns : List Int} {one other : List Nat} (h1 : IsTurn n one) (h2 : IsTurn n other) (hl : ns.length = n) : put ns (after one other) n = put (put ns one n) other n := by
 refine Qhe (Kn h1 h2) hl (Wp h2) fun i k e => ?_
 obtain ⟨p, e1, rfl⟩ := Qfl e
 have hp : p < other.length := by rw [h2.length]; exact h1.lt e1
 have e2 : other[p]? = some (other.getD p 0) := by simp [List.getD, hp]
 rw [Qdg h2 (Wp h1) e2, Qdg h1 hl e1]
theorem Ko (n : Nat) : IsTurn n (List.range n) := ⟨.refl _⟩
theorem Vv {n : Nat} {ns : List Int} (hl : ns.length = n) : put ns (List.range n) n = ns := by
 refine Qhe (Ko n) hl hl fun i k e => ?_
 obtain ⟨hi, rfl⟩ := kX.mp e
 rw [List.getElem_range]
theorem Qfm {n : Nat} {t : List Nat} (h : IsTurn n t) (k : Nat) : IsTurn (n + 1) (t.take k ++ n :: t.drop k) := by
 refine ⟨List.perm_middle.trans ?_⟩
 rw [List.take_append_drop, jQd]
 exact (h.perm.cons n).trans (List.perm_append_singleton n (List.range n)).symm
def tI (t : List Nat) : List Int := t.map (fun k : Nat => (k : Int))
theorem Yw (t : List Nat) : (tI t).length = t.length := jX _
theorem Qhf {t : List Nat} {i k : Nat} (h : t[i]? = some k) : (tI t)[i]? = some (k : Int) := by unfold tI; rw [kQ, h]; rfl
theorem tI_at {t : List Nat} {i : Nat} {z : Int} (h : (tI t)[i]? = some z) : ∃ k, t[i]? = some k ∧ z = (k : Int) := by
 unfold tI at h
 rw [kQ] at h
 obtain ⟨k, e, rfl⟩ := yK.mp h
 exact ⟨k, e, rfl⟩
theorem rep1 (n : Nat) (x : V) : (List.replicate n [x]).flatten = List.replicate n x := by
 induction n with
 | zero => rfl
 | succ n ih => rw [wX, jXd, ih, wX]; rfl
theorem Wq {n k : Nat} (h : k < n) : ixN n (k : Int) = some k := by
 unfold ixN
 rw [if_pos (by omega), if_pos (by omega)]
 simp
theorem Qbs {α : Type} {xs : List α} {k : Nat} {x : α} (h : xs[k]? = some x) : atI xs (k : Int) = some x := Qco h
theorem lstD {K : Fg} {H : Hp} {a : Addr} {ns : List Int} (h : SqL K H a (ns.map V.int)) : HasD K H (.ref a) (.lst (ns.map .int)) := by
 refine .lst h (by rw [jX, jX]) fun i v x e1 e2 => ?_
 obtain ⟨n, en, rfl⟩ := Kv e1
 rw [kQ, en] at e2
 cases e2
 exact .int n
theorem Qfn {n : Nat} (ns ms : List Int) : Alike (n + 1) (.lst (ns.map .int)) (.lst (ms.map .int)) := by
 refine .lst fun i x y e1 e2 => ?_
 rw [kQ] at e1 e2
 obtain ⟨a, _, rfl⟩ := yK.mp e1
 obtain ⟨b, _, rfl⟩ := yK.mp e2
 exact .int a b
theorem Qfo {ns : List Int} {t : List Nat} {i k : Nat} {x : Int} (e1 : ns[i]? = some x) (e2 : t[i]? = some k) : put ns t (i + 1) = (put ns t i).set k x := by
 show (put ns t i).set (t.getD i 0) (ns.getD i 0) = _
 rw [Qii e2]
 simp [List.getD, e1]
def Kx (K : Fg) : Sp := fun vs H Q _ => ∃ (r u : Addr) (row : List Int × Int) (n : Nat) (t : List Nat), vs = [.ref r, .ref u] ∧ RowAt K H r row ∧ SqL K H u ((tI t).map V.int) ∧ IsTurn n t ∧ row.1.length = n ∧ n ≤ 1000 ∧ ∀ (r' : Addr) (H' : Hp), Same H H' → RowAt K H' r' (put row.1 t n, row.2) → Q (.ref r') H'
def Qfp (K : Fg) : Sp := fun vs H Q _ => ∃ (a : Addr) (ns : List Int), vs = [.ref a] ∧ SqL K H a (ns.map V.int) ∧ ns.length ≤ 63 ∧ ∀ H', Q (.bl true) H'
end Nb
namespace L2
open PySem PySem.Spec PySem.W PyProof.Rows
open PySem.SeqAt
theorem Qdh {a b : Int} {as bs : List Int} : decide (a :: as < b :: bs) = if a = b then decide (as < bs) else decide (a < b) := by
 rw [xJ]
 by_cases e : a = b
 ·subst e
  rw [if_pos rfl, decide_eq_true_iff, decide_eq_true_iff, List.cons_lt_cons_iff]
  constructor
  ·rintro (h | ⟨_, h⟩)
   ·omega
   ·exact h
  ·intro h; exact .inr ⟨rfl, h⟩
 ·rw [if_neg e, decide_eq_true_iff, decide_eq_true_iff, List.cons_lt_cons_iff]
  constructor
  ·rintro (h | ⟨h, _⟩)
   ·exact h
   ·exact absurd h e
  ·intro h; exact .inl h
theorem Qbt (l b : Addr) (items items2 : Array Value) (n n2 : Nat) (dd dd2 : Option Addr) (sl sl2 : Array (Option Value)) (ns ms : List Int) (i1 : IntsAre items.toList ns) (i2 : IntsAre items2.toList ms) :
  Meets (Builtin.«tuple.__lt__» ⟨[.ref l, .ref b], []⟩)
   (fun A R s => s.heap.get? l = some { cls := .type "tuple", dict := dd, data := .seq items n, slots := sl } ∧ s.heap.get? b = some { cls := .type "tuple", dict := dd2, data := .seq items2 n2, slots := sl2 } ∧
    R (.ok (.ret (.bool (decide (ns < ms))))) s) :=
 .of_wp fun prog w A R s h => by
  obtain ⟨hp, g, d, tk, os⟩ := s; obtain ⟨hl, hb, h⟩ := h
  have f2 := AutoSeq1.sub_tuple_tuple
  wp_walk using wpAny_loadPart' hl, wpAny_loadPart' hb, wpAny_forIn_list _ (fun rest b s' => b.1 = none ∧ s' = ⟨hp, g, d, tk, os⟩ ∧ ∃ ys xs ns' ms' c, rest = List.zip ys xs ∧ IntsAre ys ns' ∧ IntsAre xs ms' ∧ ys.length + c = items.size ∧ xs.length + c = items2.size ∧
   R (.ok (.ret (.bool (decide (ns' < ms'))))) ⟨hp, g, d, tk, os⟩) _
  case turn =>
   rintro ⟨y, x⟩ rest b s' ⟨hb', rfl, ys, xs, ns', ms', c, hz, j1, j2, k1, k2, hR⟩
   cases j1 with
   | nil => cases hz
   | cons a t j1 =>
    cases j2 with
    | nil => cases hz
    | cons a' t' j2 =>
     rw [List.zip_cons_cons] at hz
     injection hz with hz1 hz2
     injection hz1 with hy hx
     subst hy hx
     rw [Qdh] at hR
     rw [xZ] at k1 k2
     refine jQ (EqAt.int_int a t a' t' prog w _ _ ?_)
     by_cases e : a = a'
     ·subst e
      rw [if_pos rfl] at hR
      rw [beq_self_eq_true]
      wp_walk
      exact ⟨rfl, rfl, _, _, _, _, c + 1, hz2, j1, j2, by omega, by omega, hR⟩
     ·rw [if_neg e] at hR
      rw [show (a == a') = false from by simpa using e]
      wp_walk using (show wpAny (model prog w) _ (richCompare .Lt (.int a t) (.int a' t')) _ _ _ from lt_int ?_)
      exact ⟨_, rfl, hR⟩
  case fin =>
   rintro ⟨b1, b2⟩ s' ⟨hb', rfl, ys, xs, ns', ms', c, hz, j1, j2, k1, k2, hR⟩
   simp only at hb'
   subst hb'
   wp_walk
   refine ⟨_, rfl, ?_⟩
   have e : decide (ns' < ms') = decide (items.size < items2.size) := by
    cases j1 with
    | nil =>
     cases j2 with
     | nil => rw [← k1, ← k2, kJ (xW _)]; rfl
     | cons a t j2 =>
      rw [xZ] at k2
      rw [List.length_nil] at k1
      rw [kW (show items.size < items2.size by omega)]
      exact kW (List.nil_lt_cons _ _)
    | cons a t j1 =>
     cases j2 with
     | nil =>
      rw [xZ] at k1
      rw [List.length_nil] at k2
      rw [kJ (show ¬ items.size < items2.size by omega)]
      exact kJ (List.not_lt_nil _)
     | cons a' t' j2 => rw [List.zip_cons_cons] at hz; cases hz
   rw [e] at hR
   exact hR
  case h =>
   exact ⟨rfl, rfl, _, _, _, _, 0, rfl, i1, i2, by simp, by simp, h⟩
section
variable {prog : Program} {w : World} {A : Around} {E : Value → Shared → Prop} {s : Shared}
theorem Qik {l b : Addr} {items items2 : Array Value} {ns ms : List Int} {Q : Value → Shared → Prop} (hl : s.heap.IsTuple l items) (hb : s.heap.IsTuple b items2) (i1 : IntsAre items.toList ns) (i2 : IntsAre items2.toList ms) (hu : A.units < cLine)
  (h : Q (.bool (decide (ns < ms))) s) : wpAny (model prog w) A (compareOp .Lt (.ref l) (.ref b)) Q E s := by
 obtain ⟨⟨cls, dd, data, sl⟩, ho, hc, n, hd⟩ := id hl
 obtain ⟨⟨cls2, dd2, data2, sl2⟩, ho2, hc2, n2, hd2⟩ := id hb
 simp only at hc hd hc2 hd2
 subst hc hd hc2 hd2
 exact richCompare_meets_room (op := .Lt) ⟨_, ho, rfl⟩ ⟨_, ho2, rfl⟩ F.slot_tuple_lt F.entry_tuple_lt (F.args_tuple_lt_2 _ _) (Qbt l b items items2 n n2 dd dd2 sl sl2 ns ms i1 i2)
  ⟨ho, ho2, show Value.bool (decide (ns < ms)) ≠ Value.notImplemented ∧ Q (.bool (decide (ns < ms))) s from ⟨(fun x => nomatch x), h⟩⟩ hu
theorem Wr {vs : List Value} {ns ms : List Int} (h : IntsAre vs ns) (g : IntsAre vs ms) : ns = ms := by
 induction h generalizing ms with
 | nil => cases g; rfl
 | cons n t h ih =>
  cases g with
  | cons _ _ h' => rw [ih h']
theorem Za : ∀ {vs : List Value} {ns : List Int}, IntsAre vs ns → ∀ (j : Nat) (h : j < vs.length), ∃ n t, ns[j]? = some n ∧ vs[j] = .int n t
 | _, _, .nil, j, h => by simp at h
 | _, _, .cons n t h', 0, h => ⟨n, t, rfl, rfl⟩
 | _, _, .cons n t h', j + 1, h => by
  obtain ⟨m, u, e1, e2⟩ := Za h' j (by simpa using h)
  exact ⟨m, u, by simpa using e1, by simpa using e2⟩
theorem Zb : ∀ {vs : List Value} {ns : List Int}, IntsAre vs ns → vs.length = ns.length
 | _, _, .nil => rfl
 | _, _, .cons n t h => by rw [xZ, xZ, Zb h]
theorem Qil {l b : Addr} {items items2 : Array Value} {ns ms : List Int} (hl : s.heap.IsTuple l items) (hb : s.heap.IsTuple b items2) (i1 : IntsAre items.toList ns) (i2 : IntsAre items2.toList ms) (hu : A.units < cLine) :
  EqAt A s (.ref l) (.ref b) (decide (ns = ms)) := by
 by_cases e : l = b
 ·subst e
  obtain ⟨o, ho, _, n, hd⟩ := hl
  obtain ⟨o2, ho2, _, n2, hd2⟩ := hb
  rw [ho] at ho2
  cases ho2
  rw [hd] at hd2
  injection hd2 with hd2
  subst hd2
  rw [kW (Wr i1 i2)]
  exact EqAt.same _
 ·have l1 := Zb i1
  have l2 := Zb i2
  rw [zX] at l1 l2
  have key := RcAt.tuples (A := A) (s := s) (e := fun j => decide (ns[j]? = ms[j]?)) hl hb hu fun j h1 h2 => by
   obtain ⟨x, t, ex, vx⟩ := Za i1 j (by rw [zX]; exact h1)
   obtain ⟨y, u, ey, vy⟩ := Za i2 j (by rw [zX]; exact h2)
   rw [Array.getElem_toList] at vx vy
   rw [vx, vy, ex, ey]
   have : decide (some x = some y) = (x == y) := by
    rw [xJ, decide_eq_true_iff, beq_iff_eq]
    exact ⟨fun h => Option.some.inj h, fun h => congrArg some h⟩
   rw [this]
   exact EqAt.int_int x t y u
  have eq : ((List.range (min items.size items2.size)).all (fun j => decide (ns[j]? = ms[j]?)) && items.size == items2.size) = decide (ns = ms) := by
   rw [xJ, decide_eq_true_iff, xK, yW, beq_iff_eq]
   constructor
   ·rintro ⟨h1, h2⟩
    refine jXf fun j => ?_
    by_cases hj : j < ns.length
    ·exact xV (h1 j (yV.mpr (by omega)))
    ·rw [zV (by omega), zV (by omega)]
   ·rintro rfl
    exact ⟨fun j _ => kW rfl, by omega⟩
  rw [eq] at key
  exact EqAt.of_refs e key
end
abbrev Row := List Int × Int
def Xe (r q : Row) : Bool := if r.1 = q.1 then decide (r.2 < q.2) else decide (r.1 < q.1)
theorem Jy {r q : Row} : Xe r q = true ↔ r.1 < q.1 ∨ (r.1 = q.1 ∧ r.2 < q.2) := by
 unfold Xe
 by_cases e : r.1 = q.1
 ·rw [if_pos e, decide_eq_true_iff]
  constructor
  ·intro h; exact .inr ⟨e, h⟩
  ·rintro (h | ⟨_, h⟩)
   ·rw [e] at h; exact absurd h (List.lt_irrefl _)
   ·exact h
 ·rw [if_neg e, decide_eq_true_iff]
  constructor
  ·intro h; exact .inl h
  ·rintro (h | ⟨h, _⟩)
   ·exact h
   ·exact absurd h e
theorem Vw (r : Row) : Xe r r = false := by
 rw [← Bool.not_eq_true, Jy]
 rintro (h | ⟨_, h⟩)
 ·exact absurd h (List.lt_irrefl _)
 ·omega
theorem Ws {a b c : Row} (h1 : Xe a b = true) (h2 : Xe b c = true) : Xe a c = true := by
 rw [Jy] at *
 rcases h1 with h1 | ⟨e1, h1⟩ <;> rcases h2 with h2 | ⟨e2, h2⟩
 ·exact .inl (List.lt_trans h1 h2)
 ·exact .inl (e2 ▸ h1)
 ·exact .inl (e1 ▸ h2)
 ·exact .inr ⟨e1.trans e2, by omega⟩
theorem Jz {a b : Row} (h1 : Xe a b = false) (h2 : Xe b a = false) : a = b := by
 rw [← Bool.not_eq_true, Jy] at h1 h2
 have e : a.1 = b.1 := List.le_antisymm (List.not_lt.mp fun z => h2 (.inl z)) (List.not_lt.mp fun z => h1 (.inl z))
 have e2 : a.2 = b.2 := by
  have : ¬ a.2 < b.2 := fun z => h1 (.inr ⟨e, z⟩)
  have : ¬ b.2 < a.2 := fun z => h2 (.inr ⟨e.symm, z⟩)
  omega
 exact Prod.ext e e2
def Yd (S : List Row) (x : Row) : Int := ((S.countP fun y => Xe y x : Nat) : Int)
theorem Qba {p q : Row → Bool} {x : Row} : ∀ {S : List Row}, (∀ y, p y = true → q y = true) → x ∈ S → p x = false → q x = true → S.countP p < S.countP q
 | y :: S, h, hx, h1, h2 => by
  rw [List.countP_cons, List.countP_cons]
  have le : S.countP p ≤ S.countP q := List.countP_mono_left fun z _ => h z
  rcases zZ.mp hx with e | hx
  ·subst e
   rw [h1, h2]
   simp
   omega
  ·have := Qba h hx h1 h2
   have : (if p y = true then 1 else 0) ≤ (if q y = true then 1 else 0) := by
    by_cases e : p y = true
    ·rw [if_pos e, if_pos (h y e)]; exact jK _
    ·rw [if_neg e]; exact wV _
   omega
theorem Wt {S : List Row} {x y : Row} (hx : x ∈ S) (hy : y ∈ S) : decide (Yd S x < Yd S y) = Xe x y := by
 have up : ∀ {a b : Row}, a ∈ S → Xe a b = true → Yd S a < Yd S b := fun {a b} ha h => by
  have := Qba (p := fun y => Xe y a) (q := fun y => Xe y b) (fun z hz => Ws hz h) ha (Vw a) h
  unfold Yd
  omega
 cases e : Xe x y with
 | true => exact kW (up hx e)
 | false =>
  refine kJ fun z => ?_
  cases e2 : Xe y x with
  | true => have := up hy e2; omega
  | false => rw [Jz e e2] at z; omega
def RowIn (h : Heap) (v : Value) (r : Row) : Prop := ∃ (a b : Addr) (its : Array Value) (t : Tok), v = .ref a ∧ h.IsTuple a #[.ref b, .int r.2 t] ∧ h.IsTuple b its ∧ IntsAre its.toList r.1
theorem Zc {h h' : Heap} (k : ∀ b o, h.get? b = some o → h'.get? b = some o) {a : Addr} {its : Array Value} (z : h.IsTuple a its) : h'.IsTuple a its := by obtain ⟨o, e, r⟩ := z; exact ⟨o, k _ _ e, r⟩
theorem RowIn.ext {h h' : Heap} (k : ∀ b o, h.get? b = some o → h'.get? b = some o) {v : Value} {r : Row} (z : RowIn h v r) : RowIn h' v r := by
 obtain ⟨a, b, its, t, e, z1, z2, z3⟩ := z; exact ⟨a, b, its, t, e, Zc k z1, Zc k z2, z3⟩
section
variable {prog : Program} {w : World} {A : Around} {E : Value → Shared → Prop} {s : Shared}
theorem key_lt {x y : Value} {r q : Row} {Q : Bool → Shared → Prop} (hx : RowIn s.heap x r) (hy : RowIn s.heap y q) (hu : A.units + 1 < cLine) (h : Q (Xe r q) s) : wpAny (model prog w) A (keyLt' (tuples' false) x y) Q E s := by
 obtain ⟨a, b, its, t, rfl, x1, x2, x3⟩ := hx
 obtain ⟨a', b', its', t', rfl, y1, y2, y3⟩ := hy
 obtain ⟨o, ho, _, n, hd⟩ := x1
 obtain ⟨o', ho', _, n', hd'⟩ := y1
 refine kat_lt ho hd ho' hd' (kat_cons (Qil x2 y2 x3 y3 (by omega) _ _ _ _ ?_))
 unfold Xe at h
 by_cases e : r.1 = q.1
 ·rw [if_pos e] at h
  rw [kW e]
  refine kat_yes (kat_cons (EqAt.int_int _ _ _ _ _ _ _ _ ?_))
  by_cases e2 : r.2 = q.2
  ·rw [show (r.2 == q.2) = true by simpa using e2]
   refine kat_yes (kat_nil ?_)
   rw [e2, kJ (Int.lt_irrefl _)] at h
   exact h
  ·rw [show (r.2 == q.2) = false by simpa using e2]
   exact kat_no (kat_one _ _ (lt_int h))
 ·rw [if_neg e] at h
  rw [kJ e]
  exact kat_no (kat_one _ _ (Qik x2 y2 x3 y3 (by omega) h))
theorem Vx {h : Heap} : ∀ {vs : List Value} {rs : List Row}, Paired (RowIn h) vs rs → ∃ fs, KatTups h vs fs ∧ fs.length = vs.length ∧ ∀ f ∈ fs, ∃ b its, f = .ref b ∧ h.IsTuple b its
 | _, _, .nil => ⟨[], trivial, rfl, fun f hf => nomatch hf⟩
 | _, _, .cons z r => by
  obtain ⟨a, b, its, t, rfl, ⟨o, ho, hc, n, hd⟩, z2, z3⟩ := z
  obtain ⟨fs, k, l, p⟩ := Vx r
  refine ⟨.ref b :: fs, .cons ho hc hd rfl k, by rw [xZ, xZ, l], fun f hf => ?_⟩
  rcases zZ.mp hf with e | hf
  ·exact ⟨b, its, e, z2⟩
  ·exact p f hf
theorem Qfq {vs : List Value} {rs : List Row} {Q : SortKind → Shared → Prop} (hr : Paired (RowIn s.heap) vs rs) (h1 : 0 < vs.length) (h : Q (tuples' false) s) : wpAny (model prog w) A (keyKind' vs.toArray) Q E s := by
 obtain ⟨fs, k, l, p⟩ := Vx hr
 refine kat_kind (T := .type "tuple") k (by omega) (fun v hv => ?_) (by decide) h
 obtain ⟨b, its, rfl, o, ho, hc, _⟩ := p v hv
 rw [← hc]
 exact (Looks.ld ho).andThen .now
end
end L2
namespace L2
open PySem PySem.Spec PySem.W PyProof.Rows
open PySem.SeqAt
theorem Paired.getR {α β : Type} {R : α → β → Prop} {xs : List α} {ys : List β} (h : Paired R xs ys) : ∀ {i : Nat} {x : α}, xs[i]? = some x → ∃ y, ys[i]? = some y ∧ R x y := by
 induction h with
 | nil => intro i x e; simp at e
 | cons r t ih =>
  intro i x e
  cases i with
  | zero => simp at e; subst e; exact ⟨_, rfl, r⟩
  | succ i => obtain ⟨y, e1, e2⟩ := ih (i := i) (by simpa using e); exact ⟨y, by simpa using e1, e2⟩
theorem Paired.pick {α β : Type} {R : α → β → Prop} {xs : List α} {ys : List β} (h : Paired R xs ys) (a : α) (b : β) : ∀ (is : List Nat), (∀ i ∈ is, i < xs.length) → Paired R (is.map fun i => xs.getD i a) (is.map fun i => ys.getD i b)
 | [], _ => .nil
 | i :: is, hi => by
  have hlt := hi i yX
  obtain ⟨y, e1, e2⟩ := Paired.getR h (gE hlt)
  have f1 : xs.getD i a = xs[i] := by rw [jJ, gE hlt]; rfl
  have f2 : ys.getD i b = y := by rw [jJ, e1]; rfl
  refine .cons ?_ (Paired.pick h a b is fun j hj => hi j (kK _ hj))
  show R (xs.getD i a) (ys.getD i b)
  rw [f1, f2]; exact e2
theorem Yr {α : Type} (l : List α) (d : α) : (List.range l.length).map (fun i => l.getD i d) = l := by
 refine jXf fun i => ?_
 rw [kQ]
 by_cases hi : i < l.length
 ·rw [wY hi, gE hi]
  show some (l.getD i d) = _
  rw [jJ, gE hi]; rfl
 ·rw [zV (by rw [xX]; omega), zV (by omega)]; rfl
theorem Kp {rs : List Row} {p : Array Nat} (hp : PermN rs.length p) (up : Zy (fun i => Yd rs (rs.getD i ([], 0))) p rs.length) :
  (p.toList.map fun i => rs.getD i ([], 0)).Perm rs ∧ (p.toList.map fun i => rs.getD i ([], 0)).Pairwise fun x y => Xe y x = false := by
 have pl : p.toList.Perm (List.range rs.length) := by simpa using jZf.mp hp
 have sz := hp.size
 have gm : ∀ i, i < rs.length → rs.getD i ([], 0) ∈ rs := fun i hi => by
  rw [jJ, gE hi]; exact jYc hi
 constructor
 ·have := pl.map (fun i => rs.getD i ([], 0))
  rw [Yr] at this
  exact this
 ·rw [jJd, jJa]
  intro i j hi hj hij
  rw [zX] at hi hj
  have u := up i j (Nat.le_of_lt hij) (by omega)
  have ei : p.getD i 0 = p.toList[i] := by rw [wZ, jXa hi]; rfl
  have ej : p.getD j 0 = p.toList[j] := by rw [wZ, jXa hj]; rfl
  unfold rk at u
  rw [ei, ej] at u
  dsimp only at u
  have li : p.toList[i] < rs.length := yV.mp (pl.mem_iff.mp (jYc _))
  have lj : p.toList[j] < rs.length := yV.mp (pl.mem_iff.mp (jYc _))
  rw [← Wt (S := rs) (gm _ lj) (gm _ li)]
  exact kJ (by omega)
section
variable {prog : Program} {w : World} {A : Around} {E : Value → Shared → Prop} {s : Shared}
theorem Qdi {vs : List Value} {rs : List Row} {Q : SortSt → Shared → Prop} (hr : Paired (RowIn s.heap) vs rs) (h2 : 2 ≤ vs.length) (h64 : vs.length < 64) (hu : A.units + 1 < cLine)
  (h : ∀ (st' : SortSt) (p : Array Nat), PermN vs.length p → (arrOf st').map (·.2) = List.toArray (p.toList.map fun i => vs.getD i Value.none) → failedOf st' = none →
   (p.toList.map fun i => rs.getD i ([], 0)).Perm rs → (p.toList.map fun i => rs.getD i ([], 0)).Pairwise (fun x y => Xe y x = false) → Q st' s) :
  wpAny (model prog w) A ((sortRuns').run (SortSt.mk' (tuples' false) (vs.toArray.zip vs.toArray) #[] 7 none)) (fun r s' => Q r.2 s') E s := by
 have ln : vs.length = rs.length := Paired.length hr
 refine kat_run (G := fun p s' => s' = s ∧ PermN vs.length p ∧ Zy (fun i => Yd rs (rs.getD i ([], 0))) p vs.length) rfl h2 h64 (fun p st' s' h1 h2 h3 h4 => ?_) ?_
 ·obtain ⟨rfl, g1, g2⟩ := h4
  rw [ln] at g2
  have o := Kp (ln ▸ g1) g2
  exact h st' p g1 (kat_snds rfl h2) h3 o.1 o.2
 ·refine kGood.wp (f := Yf fun i => Yd rs (rs.getD i ([], 0))) (n := vs.length) (fun i j C hi hj hC => ?_) (fun p hp => ⟨rfl, hp⟩) _ (Vr (by omega))
  obtain ⟨r, er, zr⟩ := Paired.getR hr (gE hi)
  obtain ⟨q, eq, zq⟩ := Paired.getR hr (gE hj)
  have f1 : vs.getD i Value.none = vs[i] := by rw [jJ, gE hi]; rfl
  have f2 : vs.getD j Value.none = vs[j] := by rw [jJ, gE hj]; rfl
  have g1 : rs.getD i ([], 0) = r := by rw [jJ, er]; rfl
  have g2 : rs.getD j ([], 0) = q := by rw [jJ, eq]; rfl
  unfold kas_ask
  rw [f1, f2]
  refine key_lt zr zq hu ?_
  rw [← Wt (S := rs) (xY er) (xY eq)]
  have hC' : C (decide (Yd rs (rs.getD i ([], 0)) < Yd rs (rs.getD j ([], 0)))) s := hC
  rw [g1, g2] at hC'
  exact hC'
theorem Qdj {a : Addr} {vs : List Value} {rs : List Row} {n : Nat} {P : PySem.Fin → Shared → Prop} (ho : s.heap.get? a = some (seqObj "list" vs.toArray n)) {h₀ : Heap} (ext : ∀ b o, h₀.get? b = some o → b ≠ a ∧ s.heap.get? b = some o) (hr : Paired (RowIn h₀) vs rs)
  (h64 : vs.length < 64) (hu : A.units + 1 < cLine)
  (h : ∀ (p : List Nat), (∀ i ∈ p, i < vs.length) → (p.map fun i => rs.getD i ([], 0)).Perm rs → (p.map fun i => rs.getD i ([], 0)).Pairwise (fun x y => Xe y x = false) →
   P (.done (.ret .none)) { s with heap := sortedHeap s.heap a vs (List.toArray (p.map fun i => vs.getD i Value.none)) }) :
  wpAny (model prog w) A (Builtin.«list.sort» ⟨[.ref a], []⟩) P E s := by
 have ln : vs.length = rs.length := Paired.length hr
 have ha : a < s.heap.objs.size := kY ho
 obtain ⟨e1, ho1⟩ : ∃ e1, (s.heap.update a (Obj.mapSeq fun _ => #[])).get? a = some (seqObj "list" #[] e1) := ⟨_, get?_update_seq ho (fun _ => #[])⟩
 have keep : ∀ b o, h₀.get? b = some o → (((s.heap.update a (Obj.mapSeq fun _ => #[])).push (seqObj "tuple" vs.toArray 0)).push (seqObj "list" #[] 0)).get? b = some o := fun b o e => by
  obtain ⟨n1, e1⟩ := ext b o e
  refine jY _ (jY _ ?_)
  rw [jZc _ _ _ _ n1]; exact e1
 have ho6 : (((s.heap.update a (Obj.mapSeq fun _ => #[])).push (seqObj "tuple" vs.toArray 0)).push (seqObj "list" #[] 0)).get? a = some (seqObj "list" #[] e1) := jY _ (jY _ ho1)
 have fin : ∀ (st' : SortSt) (out : List Value), (arrOf st').map (·.2) = List.toArray out → failedOf st' = none → out.length = vs.length → P (.done (.ret .none)) { s with heap := sortedHeap s.heap a vs (List.toArray out) } →
   wpAny (model prog w) A (do
    let sorted := (arrOf st').map (·.2)
    let touched := (← seqEpoch a) != e1
    Builtin.List.listUpdate (.ref a) fun _ => sorted
    if let some e := failedOf st' then rule "list.sort.comparison-raised"; throw e
    if touched then rule "list.sort.modified"; raiseError "ValueError" "list modified during sort"
    ret .none) P E { s with heap := ((s.heap.update a (Obj.mapSeq fun _ => #[])).push (seqObj "tuple" vs.toArray 0)).push (seqObj "list" #[] 0) } := fun st' out h1 h2 h3 h4 => by
  dsimp only
  rw [h1]
  refine jQ (seqEpoch_at ho6 rfl ?_)
  refine jQ (listUpdate_at ho6 rfl ?_ (hsz2 := by rw [jV, sizeLine_eq]; omega))
  rw [h2]
  simp only [bne_self_eq_false, zQ, if_false]
  exact jZ h4
 rw [list_sort_plain]
 refine jQ (listItems_at ho rfl ?_)
 refine jQ (listUpdate_at ho rfl ?_)
 refine jQ (seqEpoch_at ho1 rfl ?_)
 refine jQ (wpAny_newTuple ?_)
 refine jQ (wpAny_newList ?_)
 refine wpAny_holding ?_
 show wpAny (model prog w) A _ P E { s with heap := ((s.heap.update a (Obj.mapSeq fun _ => #[])).push (seqObj "tuple" vs.toArray 0)).push (seqObj "list" #[] 0) }
 dsimp only
 have hsz : vs.toArray.size = vs.length := by simp
 by_cases h2 : vs.toArray.size < 2
 ·rw [if_pos h2, if_pos h2]
  refine jQ (jZ ?_)
  rw [StateT.run_pure]
  refine jQ (jZ ?_)
  have one : (List.range vs.length).map (fun i => rs.getD i ([], 0)) = rs := by rw [ln]; exact Yr _ _
  have o := h (List.range vs.length) (fun i hi => yV.mp hi) (by rw [one]) (by
   rw [one, jJa]
   intro i j hi hj hij
   omega)
  rw [Yr] at o
  refine fin (SortSt.mk' general' (vs.toArray.zip vs.toArray) #[] 7 none) vs ?_ rfl rfl o
  show (vs.toArray.zip vs.toArray).map (·.2) = _
  apply Array.toList_inj.mp
  simp
  exact List.map_snd_zip (jK _)
 ·rw [if_neg h2, if_neg h2]
  have hr' : Paired (RowIn (((s.heap.update a (Obj.mapSeq fun _ => #[])).push (seqObj "tuple" vs.toArray 0)).push (seqObj "list" #[] 0))) vs rs := Paired.imp' (fun _ _ z => RowIn.ext keep z) hr
  refine jQ (Qfq (s := { s with heap := ((s.heap.update a (Obj.mapSeq fun _ => #[])).push (seqObj "tuple" vs.toArray 0)).push (seqObj "list" #[] 0) }) hr' (by omega) ?_)
  refine jQ (wpAny_mono (Qdi (s := { s with heap := ((s.heap.update a (Obj.mapSeq fun _ => #[])).push (seqObj "tuple" vs.toArray 0)).push (seqObj "list" #[] 0) })
   (Q := fun st' s' => s' = { s with heap := ((s.heap.update a (Obj.mapSeq fun _ => #[])).push (seqObj "tuple" vs.toArray 0)).push (seqObj "list" #[] 0) } ∧ ∃ p : Array Nat, PermN vs.length p ∧ (arrOf st').map (·.2) = List.toArray (p.toList.map fun i => vs.getD i Value.none) ∧ failedOf st' = none ∧
    (p.toList.map fun i => rs.getD i ([], 0)).Perm rs ∧ (p.toList.map fun i => rs.getD i ([], 0)).Pairwise (fun x y => Xe y x = false))
   hr' (by omega) h64 hu fun st' p h1 h2 h3 h4 h5 => ⟨rfl, p, h1, h2, h3, h4, h5⟩) ?_ fun _ _ e => e)
  rintro ⟨⟨⟩, st'⟩ s' ⟨rfl, p, g1, g2, g3, g4, g5⟩
  have pl : p.toList.Perm (List.range vs.length) := by simpa using jZf.mp g1
  refine fin st' _ g2 g3 (by rw [jX, zX, g1.size]) (h p.toList (fun i hi => yV.mp (pl.mem_iff.mp hi)) g4 g5)
theorem Wu {l : Addr} {vs : List Value} {rs : List Row} {Q : Value → Shared → Prop} (hl : s.heap.IsList l vs.toArray) (hr : Paired (RowIn s.heap) vs rs) (h64 : vs.length < 64) (hu : A.units + 3 < cLine)
  (h : ∀ (p : List Nat), (∀ i ∈ p, i < vs.length) → (p.map fun i => rs.getD i ([], 0)).Perm rs → (p.map fun i => rs.getD i ([], 0)).Pairwise (fun x y => Xe y x = false) →
   Q (.ref (s.heap.objs.size + 1)) { s with heap := sortedAll s.heap vs (List.toArray (p.map fun i => vs.getD i Value.none)) }) :
  wpAny (model prog w) A (call (.builtin "sorted") [.ref l]) Q E s := by
 refine Calls.call_function_entry kind_sorted plain_sorted entry_sorted (args_sorted1 _) ?_
 unfold Builtin.«sorted»
 refine jQ (m := checkCount "sorted" 1 1 _) (jZ ?_)
 refine jQ (collect_list hl ?_)
 refine jQ (wpAny_newList ?_)
 have hsz : ((s.heap.push (seqObj "list" #[] 0)).update s.heap.objs.size (Obj.mapSeq (· ++ vs.toArray))).objs.size = s.heap.objs.size + 1 := by
  rw [Heap.size_update, size_push']
 have hoL : (((s.heap.push (seqObj "list" #[] 0)).update s.heap.objs.size (Obj.mapSeq (· ++ vs.toArray))).push (seqObj "list" vs.toArray 0)).get? (s.heap.objs.size + 1) = some (seqObj "list" vs.toArray 0) := by
  rw [← hsz]; exact kZ _ rfl
 have keep : ∀ b o, s.heap.get? b = some o → b ≠ s.heap.objs.size + 1 ∧ (((s.heap.push (seqObj "list" #[] 0)).update s.heap.objs.size (Obj.mapSeq (· ++ vs.toArray))).push (seqObj "list" vs.toArray 0)).get? b = some o := fun b o e => by
  have hlt : b < s.heap.objs.size := kY e
  refine ⟨yZ (wW hlt), jY _ ?_⟩
  rw [jZc _ _ _ _ (yZ hlt)]
  exact jY _ e
 show wpAny _ _ _ _ _ { s with heap := ((s.heap.push (seqObj "list" #[] 0)).update s.heap.objs.size (Obj.mapSeq (· ++ vs.toArray))).push (seqObj "list" vs.toArray 0) }
 rw [hsz]
 refine jQ (wpAny_holding (wpAny_call_entry slot_list_sort ⟨_, hoL, rfl⟩ entry_list_sort (Qdj (s := { s with heap := ((s.heap.push (seqObj "list" #[] 0)).update s.heap.objs.size (Obj.mapSeq (· ++ vs.toArray))).push (seqObj "list" vs.toArray 0) }) hoL keep hr h64 (by show A.units + 1 + 1 + 1 < cLine; omega) fun p h1 h2 h3 => ⟨_, rfl, ?_⟩) (args_list_sort _)))
 exact jZ ⟨_, rfl, h p h1 h2 h3⟩
end
section
variable {X : Cx}
theorem Qfr {pins : List (Addr × Obj)} {σ : St} {H : Hp} {s : Shared} (I : Inv X pins σ H s) {t : Addr} {r : Row} (h : Nb.RowAt X.K H t r) : RowIn s.heap (.ref t) r := by
 obtain ⟨p, h1, h2⟩ := h
 obtain ⟨its, r1, p1, _⟩ := I.tuple h1
 obtain ⟨its2, r2, p2, _⟩ := I.tuple h2
 obtain ⟨u, u2, rfl, ru, ru2⟩ := Vals.two r1
 cases ru
 obtain ⟨tk, rfl⟩ := ru2
 exact ⟨t, p, its2.toArray, tk, rfl, p1, p2, intsAre_of r2⟩
theorem Qdk {pins : List (Addr × Obj)} {σ : St} {H : Hp} {s : Shared} (I : Inv X pins σ H s) : ∀ {vs : List V} {us : List Value} {rs : List Row}, Vals vs us → Nb.RowsAre X.K H vs rs → Paired (RowIn s.heap) us rs := by
 intro vs us rs hv h
 unfold Nb.RowsAre at h
 induction h generalizing us with
 | nil => have e := hv.nil_iff.mpr rfl; subst e; exact .nil
 | cons z t ih =>
  obtain ⟨a, rfl, z⟩ := z
  cases hv with
  | cons ru rr =>
   cases ru
   exact .cons (Qfr I z) (ih rr)
theorem Zw {K : Fg} (hK : X.K = K) (hu : X.A.units + 6 < cLine) : Ym X (.builtin "sorted") (fun xs H Q => ∃ (l : Addr) (vs : List V) (rs : List Row), xs = [.ref l] ∧ SqL K H l vs ∧ Nb.RowsAre K H vs rs ∧ vs.length < 64 ∧
  ∀ (D : Addr) (ws : List V) (qs : List Row), H D = none → Nb.RowsAre K H ws qs → ws.length = vs.length → qs.Perm rs → qs.Pairwise (fun x y => Xe y x = false) → Q (.ref D) (upd H D (.lst ws))) := by
 subst hK
 intro pins s σ H xs us Q I rv h
 obtain ⟨l, vs, rs, rfl, hq, hr, h64, q⟩ := h
 obtain ⟨u, rfl, ru⟩ := rv.one
 cases ru
 obtain ⟨its, r, p, hz⟩ := I.list hq
 have lv : vs.length = its.length := r.length
 refine Wu p.isList (Qdk I r hr) (by omega) (by omega) fun o h1 h2 h3 => ?_
 obtain ⟨e, he⟩ := sortedAll_at s.heap its (List.toArray (o.map fun i => its.getD i Value.none))
 have lo : o.length = vs.length := by
  have := h2.length_eq
  rw [jX] at this
  rw [this]; exact (Nb.RowsAre.length hr).symm
 refine ⟨.ref (s.heap.objs.size + 1), _, I.laid (t' := s.toks) (o := .lst (o.map fun i => vs.getD i .non)) (fun b ob z => sortedAll_old z) (Nat.le_succ _) ⟨by rw [jX]; omega, _, e, ?_, he⟩, rfl, q _ _ _ (I.hok.fresh (Nat.le_succ _)) ?_ (by rw [jX]; exact lo) h2 h3⟩
 ·exact Paired.pick r .non Value.none o fun i hi => by rw [lv]; exact h1 i hi
 ·exact Paired.pick hr .non ([], 0) o fun i hi => by rw [lv]; exact h1 i hi
end
end L2
namespace L2
open PySem PySem.Spec PySem.W PyProof.Rows
open PySem.SeqAt
section
variable {A : Around} {s : Shared}
end
section
variable {X : Cx}
open Classical in
open Classical in
end
end L2
namespace Nb
def turns : Nat → List (List Nat)
 | 0 => [[]]
 | n + 1 => (turns n).flatMap fun u => (List.range (n + 1)).map fun i => u.take i ++ n :: u.drop i
theorem Ky : ∀ {n : Nat} {t : List Nat}, IsTurn n t → t ∈ turns n
 | 0, t, T => by
  have : t = [] := List.length_eq_zero_iff.mp T.length
  rw [this]; exact jQa.mpr rfl
 | n + 1, t, T => by
  have hn : n ∈ t := T.mem.mpr (Nat.lt_succ_self n)
  obtain ⟨l1, l2, rfl⟩ := List.append_of_mem hn
  have p1 : (n :: (l1 ++ l2)).Perm (n :: List.range n) := List.perm_middle.symm.trans (T.perm.trans (by rw [jQd]; exact List.perm_append_comm))
  have T' : IsTurn n (l1 ++ l2) := ⟨p1.cons_inv⟩
  have ll := T'.length
  rw [yY] at ll
  refine List.mem_flatMap.mpr ⟨l1 ++ l2, Ky T', jZe.mpr ⟨l1.length, yV.mpr (by omega), ?_⟩⟩
  rw [List.take_left', List.drop_left'] <;> rfl
def pw (n : Nat) (t : List Nat) : Nat → List Nat
 | 0 => List.range n
 | m + 1 => after (pw n t m) t
theorem Zd {n : Nat} {t : List Nat} (T : IsTurn n t) : ∀ m, IsTurn n (pw n t m)
 | 0 => Ko n
 | m + 1 => Kn (Zd T m) T
def Yv : List Nat → Nat
 | [] => 0
 | a :: t => Nat.add a (Nat.mul 8 (Yv t))
def at8 (c i : Nat) : Nat := Nat.mod (Nat.div c (Nat.pow 8 i)) 8
def Qim (c d : Nat) : Nat :=
 Nat.add (at8 d (at8 c 0)) (Nat.mul 8 (Nat.add (at8 d (at8 c 1)) (Nat.mul 8 (Nat.add (at8 d (at8 c 2)) (Nat.mul 8 (Nat.add (at8 d (at8 c 3)) (Nat.mul 8 (Nat.add (at8 d (at8 c 4)) (Nat.mul 8 (Nat.add (at8 d (at8 c 5)) (Nat.mul 8 (Nat.add (at8 d (at8 c 6)) (Nat.mul 8 0)))))))))))))
def Qdl (c : Nat) (k : Nat → Bool) : Bool := Nat.rec (k 0) (fun n _ => k (Nat.succ n)) c
theorem Vy (c : Nat) (k : Nat → Bool) : Qdl c k = k c := by cases c <;> rfl
def ord8 : Nat → Nat → Nat → Bool
 | 0, _, _ => false
 | f + 1, c, d => Qdl (Qim d c) fun e => or (Nat.beq e 1754760) (ord8 f c e)
def Vz (i : Nat) : Bool := (turns 6).all fun u => Qdl (Yv (u.take i ++ 6 :: u.drop i)) fun c => ord8 12 c 1754760
theorem ordAt0 : Vz 0 = true := by decide +kernel
theorem ordAt1 : Vz 1 = true := by decide +kernel
theorem ordAt2 : Vz 2 = true := by decide +kernel
theorem ordAt3 : Vz 3 = true := by decide +kernel
theorem ordAt4 : Vz 4 = true := by decide +kernel
theorem ordAt5 : Vz 5 = true := by decide +kernel
theorem ordAt6 : Vz 6 = true := by decide +kernel
theorem Ya : ∀ {t : List Nat}, (∀ x ∈ t, x < 8) → ∀ i, at8 (Yv t) i = t.getD i 0
 | [], _, i => by
  show Nat.mod (Nat.div 0 _) 8 = 0
  rw [show Nat.div 0 (Nat.pow 8 i) = 0 from Nat.zero_div _]
 | a :: t, h, 0 => by
  have ha := h a yX
  show (a + 8 * Yv t) / 8 ^ 0 % 8 = a
  rw [Nat.pow_zero]; omega
 | a :: t, h, i + 1 => by
  have ha := h a yX
  have ih := Ya (t := t) (fun x hx => h x (kK _ hx)) i
  show (a + 8 * Yv t) / 8 ^ (i + 1) % 8 = t.getD i 0
  rw [← ih, Nat.pow_succ, Nat.mul_comm (8 ^ i) 8, ← Nat.div_div_eq_div_mul, show (a + 8 * Yv t) / 8 = Yv t by omega]
  rfl
theorem Qfs {u v : List Nat} (U : IsTurn 7 u) (W : IsTurn 7 v) : Qim (Yv u) (Yv v) = Yv (after u v) := by
 have bu : ∀ x ∈ u, x < 8 := fun x hx => by have := U.mem.mp hx; omega
 have bv : ∀ x ∈ v, x < 8 := fun x hx => by have := W.mem.mp hx; omega
 have lu := U.length
 unfold Qim
 rw [Ya bu, Ya bu, Ya bu, Ya bu, Ya bu, Ya bu, Ya bu, Ya bv, Ya bv, Ya bv, Ya bv, Ya bv, Ya bv, Ya bv]
 match u, lu with
 | [a, b, c, d, e, f, g], _ => rfl
theorem Wa : ∀ {u v : List Nat}, (∀ x ∈ u, x < 8) → (∀ x ∈ v, x < 8) → u.length = v.length → Yv u = Yv v → u = v
 | [], [], _, _, _, _ => rfl
 | a :: u, b :: v, h1, h2, hl, e => by
  have ha := h1 a yX
  have hb := h2 b yX
  have e' : a + 8 * Yv u = b + 8 * Yv v := e
  rw [show a = b by omega, Wa (fun x hx => h1 x (kK _ hx)) (fun x hx => h2 x (kK _ hx)) (by simpa using hl) (by omega)]
theorem Qdm {t : List Nat} (T : IsTurn 7 t) : ∀ (f k : Nat), ord8 f (Yv t) (Yv (pw 7 t k)) = true → ∃ m, k < m ∧ m ≤ k + f ∧ pw 7 t m = List.range 7
 | 0, k, h => by cases h
 | f + 1, k, h => by
  unfold ord8 at h
  rw [Vy, Qfs (Zd T k) T] at h
  rcases Bool.or_eq_true_iff.mp h with e | e
  ·refine ⟨k + 1, by omega, by omega, Wa (fun x hx => ?_) (fun x hx => ?_) ?_ (Nat.eq_of_beq_eq_true e)⟩
   ·have := (Zd T (k + 1)).mem.mp hx; omega
   ·have := yV.mp hx; omega
   ·rw [(Zd T (k + 1)).length]; rfl
  ·obtain ⟨m, h1, h2, h3⟩ := Qdm T f (k + 1) e
   exact ⟨m, by omega, by omega, h3⟩
theorem order7 {t : List Nat} (T : IsTurn 7 t) : ∃ m, 1 ≤ m ∧ m ≤ 12 ∧ pw 7 t m = List.range 7 := by
 obtain ⟨u, hu, ht⟩ := List.mem_flatMap.mp (Ky T)
 obtain ⟨i, hi, rfl⟩ := jZe.mp ht
 have hi' := yV.mp hi
 have key : Vz i = true := by
  match i, hi' with
  | 0, _ => exact ordAt0
  | 1, _ => exact ordAt1
  | 2, _ => exact ordAt2
  | 3, _ => exact ordAt3
  | 4, _ => exact ordAt4
  | 5, _ => exact ordAt5
  | 6, _ => exact ordAt6
 have h := yW.mp key u hu
 rw [Vy] at h
 obtain ⟨m, a, b, c⟩ := Qdm T 12 0 h
 exact ⟨m, by omega, by omega, c⟩
theorem Qdn : ((List.range 7).all fun n => (turns n).all fun t => (List.range 6).any fun m => decide (pw n t (m + 1) = List.range n)) = true := by decide +kernel
theorem Qft {n : Nat} {t : List Nat} (T : IsTurn n t) (hn : n ≤ 7) : ∃ m, 1 ≤ m ∧ m ≤ 12 ∧ pw n t m = List.range n := by
 by_cases e : n = 7
 ·subst e; exact order7 T
 ·have h1 := yW.mp Qdn n (yV.mpr (by omega))
  have h2 := yW.mp h1 t (Ky T)
  obtain ⟨m, hm, e⟩ := jJe.mp h2
  exact ⟨m + 1, by omega, by have := yV.mp hm; omega, xV e⟩
end Nb
namespace L2
open PySem PySem.Spec PyProof.Rows
section
variable {P : Program} {w : World} {A : Around} {E : Value → Shared → Prop} {s : Shared}
end
section
variable {P : Program} {w : World} {A : Around} {E : Value → Shared → Prop} {s : Shared} {z u o i1 i2 l1 l2 : Addr} {st1 st2 : Nat → Heap → Prop} {src1 src2 : List Value → Heap → Prop} {k1 k2 : Nat} {xs ys : List Value}
end
section
variable {X : Cx} {pins : List (Addr × Obj)} {σ : St} {H : Hp} {s : Shared} {m1 m2 : Bool} {z u o i1 i2 a b : Addr} {i : Nat} {xs ys : List V} {E : Value → Shared → Prop} {A : Around}
end
section
variable {X : Cx}
end
def Itr3 (lo c : Int) (n : Nat) : It := ⟨fun i _ => i < n, fun i H x H' => H' = H ∧ x = .int (lo + (i : Nat) * c), fun i _ => n ≤ i⟩
theorem Wv {P : Program} {w : World} {K : Fg} {tg : Expr} (it : Addr) (lo c : Int) (n : Nat) : Turn P w K tg (Itr3 lo c n) [it] it (fun i h => IsRangeIter h it (lo + (i : Nat) * c) ((n : Int) - (i : Nat)) c) where
 mem := by simp
 obj := fun i h st b hb => by
  have e : b = it := by simpa using hb
  subst e
  exact ⟨_, st, fun v z => by
   have z' : Data.fields _ = Data.cell v := z
   cases z'⟩
 keep := fun i h h' st k => k it (by simp) _ st
 item := by
  intro X hP hw hK hc i pins s σ H E I hf st hg
  subst hP hw hK
  obtain ⟨f0, f1, f2, f3, f4, f5⟩ := hf it (by simp)
  have W := Walks.range (prog := X.prog) (w := X.w) (I.ok.hd hc) it lo c n
  refine W.item i s _ _ hg st fun v h' tk hv st' kk => ?_
  obtain ⟨t, rfl⟩ := hv
  have I1 : Inv X pins σ H { s with heap := h', toks := tk } := I.turned (fun b o hb e => kk b o (by simpa using hb) e) f0 f1 f3 f4 f5
  exact ⟨_, rfl, Qeu (s := { s with heap := h', toks := tk }) (n := "range_iterator") st' rfl rfl (by decide) ⟨.int (lo + (i : Nat) * c), H, I1, ⟨t, rfl⟩, ⟨rfl, rfl⟩, st', fun b hb => (hf b hb).1⟩⟩
 done := by
  intro X hP hw hK hc i pins s σ H E I hf st hg
  subst hP hw hK
  obtain ⟨f0, f1, f2, f3, f4, f5⟩ := hf it (by simp)
  exact wpAny_pyNext_range_end (I.ok.hd hc) st (by have : n ≤ i := hg; omega) fun h' eb => ⟨rfl, I.turned (t' := s.toks) (fun b o hb e => eb b o hb e) f0 f1 f3 f4 f5⟩
 self := fun _ _ _ _ _ st h => wpAny_pyIter_rangeiter st h
theorem Ka (a b c : Int) (hc : c ≠ 0) : 0 ≤ Builtin.Range.rangeSize a b c := by
 unfold Builtin.Range.rangeSize
 split
 ·split
  ·have := Int.ediv_nonneg (a := b - a - 1) (b := c) (by omega) (by omega); omega
  ·exact jJc 0
 ·split
  ·have := Int.ediv_nonneg (a := a - b - 1) (b := -c) (by omega) (by omega); omega
  ·exact jJc 0
section
variable {X : Cx} {tg : Expr}
def iRng3 (ta : TA) : TI := fun σ H R => ta σ H fun vs H1 => ∃ i j c : Int, vs = [.int i, .int j, .int c] ∧ (c ≠ 0 ∧ c.natAbs < 1073741824 ∧ Builtin.Range.small i j c = true) ∧ R (Itr3 i c (Builtin.Range.rangeSize i j c).toNat) H1
theorem Qdo {a b c : Expr} {ta : TA} {p pos : Pos} (hg : Gl X "range") (hm : X.mg "range" = none) (ha : PA X [a, b, c] ta) (hs : autoParam (starEach [a, b, c] X.env = [(false, eval a X.env), (false, eval b X.env), (false, eval c X.env)]) L2.aRfl._auto_1) (hs2 : autoParam (starEach [b, c] X.env = [(false, eval b X.env), (false, eval c X.env)]) L2.aRfl._auto_1) :
  PI X tg (.Call (.Name "range" p) [a, b, c] [] pos) (iRng3 ta) := by
 intro pins s σ H R I h
 refine Call_ (Zu I hg hm boot_range (PyProof.Rows.callWith_type1 (thn (ha pos pins s σ H _ I h) fun us s1 hqP => ?_) (by rw [hs, hs2]) (by rw [hs2]; rfl)))
 obtain ⟨vs, H1, I1, r1, q1⟩ := hqP
 obtain ⟨i, j, k, e, ⟨h1, h2, h3⟩, q⟩ := q1
 subst e
 cases r1 with
 | cons r rr =>
  cases rr with
  | cons r' rr =>
   cases rr with
   | cons r'' rr =>
    cases rr
    obtain ⟨t, rfl⟩ := r
    obtain ⟨t', rfl⟩ := r'
    obtain ⟨t'', rfl⟩ := r''
    refine call_range_3 h1 ?_ (.inl (PyProof.noPylong_small h2))
    refine wpAny_pyIter_range (IsRange.new ..) h3 ?_
    have I2 : Inv X pins σ H1 { s1 with heap := s1.heap.push { cls := .type "range", data := .fields #[.int i t, .int j t', .int k t''] }, toks := s1.toks } := I1.kept fun b o e => jY _ e
    refine ⟨(s1.heap.push { cls := .type "range", data := .fields #[.int i t, .int j t', .int k t''] }).objs.size, [(s1.heap.push { cls := .type "range", data := .fields #[.int i t, .int j t', .int k t''] }).objs.size], _, _, H1, rfl,
     I2.kept (t' := s1.toks) fun b o e => jY _ e, Wv _ i k (Builtin.Range.rangeSize i j k).toNat, ?_, fun b hb => ?_, q⟩
    ·have e1 : i + ((0 : Nat) : Int) * k = i := by simp
     have e2 : (((Builtin.Range.rangeSize i j k).toNat : Nat) : Int) - ((0 : Nat) : Int) = Builtin.Range.rangeSize i j k := by have := Ka i j k h1; omega
     show IsRangeIter _ _ (i + ((0 : Nat) : Int) * k) ((((Builtin.Range.rangeSize i j k).toNat : Nat) : Int) - ((0 : Nat) : Int)) k
     rw [e1, e2]
     exact kZ _ rfl
    ·have e : b = (s1.heap.push { cls := .type "range", data := .fields #[.int i t, .int j t', .int k t''] }).objs.size := by simpa using hb
     subst e
     exact I2.fpOk (jK _) (I2.hok.fresh (jK _))
end
theorem Qbu {lo c : Int} {n : Nat} {g : TG} {tb : TS} {D : Ends} {σ : St} {H : Hp} (Pv : Nat → St → Hp → Prop) (h0 : Pv 0 σ H)
  (hs : ∀ i σ H, i < n → Pv i σ H → g (.int (lo + (i : Nat) * c)) σ H fun σ2 H2 => tb { D with nx := Pv (i + 1), ct := Pv (i + 1), bk := D.nx } σ2 H2) (hd : ∀ σ H, Pv n σ H → D.nx σ H) :
  ∃ W : Nat → Nat → St → Hp → Prop, (∃ m, W 0 m σ H) ∧ ∀ i m σ H, W i m σ H →
   ((Itr3 lo c n).stop i H ∧ D.nx σ H) ∨ ((Itr3 lo c n).go i H ∧ ∃ N : St → Hp → Prop, (∀ σ' H', N σ' H' → ∃ m', m' < m ∧ W (i + 1) m' σ' H') ∧ ∀ x H', (Itr3 lo c n).yld i H x H' → g x σ H' fun σ2 H2 => tb { D with nx := N, ct := N, bk := D.nx } σ2 H2) := by
 refine ⟨fun i m σ H => m = n - i ∧ i ≤ n ∧ Pv i σ H, ⟨n, by simp, wV _, h0⟩, ?_⟩
 rintro i m σ H ⟨rfl, hi, p⟩
 by_cases hlt : i < n
 ·refine .inr ⟨hlt, Pv (i + 1), fun σ' H' p' => ⟨n - (i + 1), by omega, rfl, hlt, p'⟩, fun x H' y => ?_⟩
  obtain ⟨e, y⟩ := y
  subst e y
  exact hs i σ _ hlt p
 ·have e : i = n := by omega
  subst e
  exact .inl ⟨jK _, hd σ H p⟩
theorem Qdp {a b c : Int} {i : Nat} (hc : 0 < c) (h : i < (Builtin.Range.rangeSize a b c).toNat) : a + (i : Nat) * c < b := by
 unfold Builtin.Range.rangeSize at h
 rw [if_pos hc] at h
 split at h
 ·have h0 := Int.ediv_nonneg (a := b - a - 1) (b := c) (by omega) (by omega)
  have h1 : (i : Int) ≤ (b - a - 1) / c := by omega
  have h2 := Int.mul_le_mul_of_nonneg_right h1 (Int.le_of_lt hc)
  have h3 := Int.ediv_mul_le (b - a - 1) (Int.ne_of_gt hc)
  omega
 ·simp at h
theorem small3 {a b c : Int} (ha : -1000000 ≤ a) (ha' : a ≤ 1000000) (hb : -1000000 ≤ b) (hb' : b ≤ 1000000) (hc : 0 < c) (hc' : c ≤ 1000000) : Builtin.Range.small a b c = true := by
 have h0 : Builtin.Range.rangeSize a b c ≤ 2000001 := by
  unfold Builtin.Range.rangeSize
  rw [if_pos hc]
  split
  ·have h3 := Int.ediv_le_self (a := b - a - 1) c (by omega)
   omega
  ·decide
 have h1 := Ka a b c (Int.ne_of_gt hc)
 unfold Builtin.Range.small
 simp only [Builtin.Range.rangeFitsLong, xK, jZa, decide_eq_true_eq, beq_iff_eq, hc, if_true]
 omega
end L2
namespace L2
open PySem PySem.Spec PyProof.Rows PySem.W
inductive IsT : String → Prop
 | int : IsT "int"
 | bool : IsT "bool"
 | tuple : IsT "tuple"
 | list : IsT "list"
 | str : IsT "str"
def isiW (K : Fg) (H : Hp) : V → String → Bool → Prop
 | .non, _, b => b = false
 | .int _, T, b => b = decide (T = "int")
 | .bl _, T, b => b = decide (T = "int" ∨ T = "bool")
 | .str _, T, b => b = decide (T = "str")
 | .ref a, T, b => ((∃ xs, SqT K H a xs) ∧ b = decide (T = "tuple")) ∨ ((∃ xs, SqL K H a xs) ∧ b = decide (T = "list"))
 | _, _, _ => False
theorem Wb {X : Cx} : Ym X (.builtin "isinstance") (fun xs H Q => ∃ x T b, xs = [x, .ty T] ∧ IsT T ∧ isiW X.K H x T b ∧ Q (.bl b) H) := by
 intro pins s σ H xs us Q I rv h
 obtain ⟨x, T, b, rfl, hT, hi, q⟩ := h
 obtain ⟨u, v, rfl, ru, rT⟩ := rv.two
 cases rT
 have fin : ∀ (tk : Nat), EP X pins σ Q (.bool b) { s with toks := tk } := fun tk => ⟨.bl b, H, I.tok tk, rfl, q⟩
 cases x with
 | int n =>
  obtain ⟨t, rfl⟩ := ru
  cases hT <;> (subst hi)
  ·exact IsiPair.int_int (fin s.toks)
  ·exact IsiPair.int_bool (fin _)
  ·exact IsiPair.int_tuple (fin _)
  ·exact IsiPair.int_list (fin _)
  ·exact IsiPair.int_str (fin _)
 | bl n =>
  cases ru
  cases hT <;> (subst hi)
  ·exact IsiPair.bool_int (fin s.toks)
  ·exact IsiPair.bool_bool (fin s.toks)
  ·exact IsiPair.bool_tuple (fin _)
  ·exact IsiPair.bool_list (fin _)
  ·exact IsiPair.bool_str (fin _)
 | str n =>
  obtain ⟨t, rfl⟩ := ru
  cases hT <;> (subst hi)
  ·exact IsiPair.str_int (fin _)
  ·exact IsiPair.str_bool (fin _)
  ·exact IsiPair.str_tuple (fin _)
  ·exact IsiPair.str_list (fin _)
  ·exact IsiPair.str_str (fin s.toks)
 | non =>
  cases ru
  cases hT <;> (subst hi)
  ·exact IsiPair.NoneType_int (fin _)
  ·exact IsiPair.NoneType_bool (fin _)
  ·exact IsiPair.NoneType_tuple (fin _)
  ·exact IsiPair.NoneType_list (fin _)
  ·exact IsiPair.NoneType_str (fin _)
 | ref a =>
  cases ru
  rcases hi with ⟨⟨xs, hq⟩, hi⟩ | ⟨⟨xs, hq⟩, hi⟩
  ·obtain ⟨its, r, ⟨o, e, c, _⟩, _⟩ := I.tuple hq
   cases hT <;> (subst hi)
   ·exact IsiPair.tuple_int e c (fin _)
   ·exact IsiPair.tuple_bool e c (fin _)
   ·exact IsiPair.tuple_tuple e c (fin s.toks)
   ·exact IsiPair.tuple_list e c (fin _)
   ·exact IsiPair.tuple_str e c (fin _)
  ·obtain ⟨its, r, pl, _⟩ := I.list hq
   obtain ⟨o, e, c, _⟩ := pl.isList
   cases hT <;> (subst hi)
   ·exact IsiPair.list_int e c (fin _)
   ·exact IsiPair.list_bool e c (fin _)
   ·exact IsiPair.list_tuple e c (fin _)
   ·exact IsiPair.list_list e c (fin s.toks)
   ·exact IsiPair.list_str e c (fin _)
 | byt _ => exact hi.elim
 | flt _ => exact hi.elim
 | ty _ => exact hi.elim
theorem Qbv {X : Cx} {K : Fg} (hK : X.K = K) : Ym X (.builtin "isinstance") (fun xs H Q => ∃ x T b, xs = [x, .ty T] ∧ IsT T ∧ isiW K H x T b ∧ Q (.bl b) H) := by subst hK; exact Wb
open Att in
section
variable {prog : Program} {w : World} {A : Around} {R : Result → Shared → Prop} {I : Addr} {fp wr : List Addr} {n : Nat} {P : Nat → Value → Prop} {St : Nat → Heap → Prop}
end
section
variable {prog : Program} {w : World} {A : Around} {E : Value → Shared → Prop} {s : Shared} {l : Addr} {xs : Array (Int × Tok)}
end
section
variable {X : Cx}
end
end L2
namespace L2
open PySem PySem.Spec PyProof.Rows PySem.W
section
variable {prog : Program} {w : World} {A : Around} {R : Result → Shared → Prop} {I : Addr} {fp wr : List Addr} {n : Nat} {P : Nat → Value → Prop} {St : Nat → Heap → Prop}
end
section
variable {prog : Program} {w : World} {A : Around} {E : Value → Shared → Prop} {s : Shared} {l : Addr} {xs : Array (Int × Tok)}
end
section
variable {X : Cx}
end
section
variable {X : Cx}
theorem Qdq (hc : X.calm = true) : Ym X (.builtin "min") (fun xs H Q => ∃ (a : Addr) (ns : List Int), xs = [.ref a] ∧ SqL X.K H a (ns.map V.int) ∧ ns ≠ [] ∧ ∀ m, m ∈ ns → (∀ x ∈ ns, m ≤ x) → Q (.int m) H) := by
 intro pins s σ H xs us Q I rv h
 obtain ⟨a, ns, rfl, hq, hne, q⟩ := h
 obtain ⟨u, rfl, ru⟩ := rv.one
 cases ru
 obtain ⟨its, r, p, hz⟩ := I.list hq
 have hi : IntsAre its.toArray.toList ns := intsAre_of r
 obtain ⟨xs, hx⟩ := hi.allInts.items
 have hl' : s.heap.IsList a (intItems xs) := hx ▸ p.isList
 have e1 : ns = xs.toList.map (·.1) := by rw [← nums_intItems, ← hx]; exact (show numsOf its.toArray.toList = ns from hi.numsOf).symm
 have ls : xs.size = ns.length := by rw [e1]; simp
 have hp : 0 < xs.size := by rw [ls]; exact List.length_pos_iff.mpr hne
 have at' : ∀ i, i < xs.size → ns[i]? = some (numAt xs i) := fun i hi => by rw [e1]; simp [numAt, hi]
 obtain ⟨b1, b2⟩ := argBest_lt (numAt xs) (xs.size - 1)
 refine min_intList (I.ok.hd hc) hl' hp fun v h' tk hv hk => ?_
 obtain ⟨t, rfl⟩ := intItems_at hv
 refine ⟨.int _, H, I.kept hk, ⟨_, rfl⟩, q _ (xY (at' _ (by omega))) fun x hx => ?_⟩
 obtain ⟨i, hi, rfl⟩ := List.mem_iff_getElem.mp hx
 have h2 := at' i (by omega)
 rw [gE hi] at h2
 have h3 : ns[i] = numAt xs i := Option.some.inj h2
 rw [h3]
 exact b2 i (by omega)
end
section
variable {X : Cx} {tg : Expr}
end
end L2
namespace L2
open PySem PySem.Spec PyProof.Rows PySem.SeqAt
section
variable {X : Cx}
end
end L2
namespace L2
open PySem PySem.Spec PyProof.Rows PySem.SeqAt
section
variable {X : Cx} {pins : List (Addr × Obj)} {σ : St} {H : Hp} {s : Shared}
open PySem.MeetsSeq PySem.MeetsSeq2 PySem.MeetsSeq3 in
open AutoSeq1 (wpAny_loadPart') in
open PySem.MeetsSeq PySem.MeetsSeq2 PySem.MeetsSeq3 in
open AutoSeq1 (wpAny_loadPart') in
end
section
variable {X : Cx}
end
section
variable {X : Cx} {pins : List (Addr × Obj)} {σ : St} {H : Hp} {s : Shared} {d : Addr} {kvs : List (Key × V)} {o : Obj}
end
section
variable {X : Cx}
end
end L2
namespace L2
open PySem PySem.Spec PyProof.Rows PySem.SeqAt
section
variable {X : Cx}
end
end L2
namespace L2
open PySem PySem.Spec PyProof.Rows PySem.SeqAt
section
variable {prog : Program} {w : World}
abbrev Rw2 := List Int × Int
def IsRowKey (prog : Program) (w : World) (h : Heap) (r : Rw2) (a : Addr) : Prop := ∃ o items n p v, h.get? a = some o ∧ o.cls = .type "tuple" ∧ o.data = .seq items n ∧ items.toList = [.ref p, v] ∧ (intKind prog w).is r.2 v = true ∧ IsTupleKey (intKind prog w) h r.1 p
theorem IsRowKey.typeIs {s : Shared} {r : Rw2} {a : Addr} (x : IsRowKey prog w s.heap r a) : s.TypeIs (.ref a) "tuple" := by obtain ⟨o, _, _, _, _, ho, hc, _⟩ := x; exact ⟨o, ho, hc⟩
theorem IsRowKey.inj {h : Heap} {a : Addr} {x y : Rw2} (hx : IsRowKey prog w h x a) (hy : IsRowKey prog w h y a) : x = y := by
 obtain ⟨o, items, n, p, v, ho, _, hd, hi, hv, hp⟩ := hx
 obtain ⟨o', items', n', p', v', ho', _, hd', hi', hv', hp'⟩ := hy
 obtain rfl : o = o' := Option.some.inj (ho.symm.trans ho')
 rw [hd] at hd'
 injection hd' with h1 _
 subst h1
 rw [hi] at hi'
 injection hi' with e1 e2
 injection e1 with e1
 injection e2 with e2
 subst e1 e2
 exact Prod.ext (hp.inj hp') ((intKind prog w).inj _ _ _ hv hv')
theorem IsRowKey.keeps {h h' : Heap} {r : Rw2} {a d : Addr} {o : Obj} {es ep} (x : IsRowKey prog w h r a) (ho : h.get? d = some o) (hd : o.data = .dict es ep) (hs : Heap.SameBut d h h') : IsRowKey prog w h' r a := by
 obtain ⟨o', items, n, p, v, ho', hc, hd', hi, hv, hp⟩ := x
 have hne : a ≠ d := by
  rintro rfl
  obtain rfl : o' = o := Option.some.inj (ho'.symm.trans ho)
  rw [hd] at hd'; exact nomatch hd'
 exact ⟨o', items, n, p, v, (hs.2 a hne).trans ho', hc, hd', hi, hv, hp.keeps ho hd hs⟩
def Ww (prog : Program) (w : World) (r : Rw2) : Int := reduceHash (Builtin.Tuple.tupleHashOf [tupleKeyHash (intKind prog w) r.1, (intKind prog w).hash r.2])
variable {A : Around} {E : Value → Shared → Prop} {s : Shared}
theorem Zz {r : Rw2} {a : Addr} {Q : Int → Shared → Prop} (hu : A.units + 1 < cLine) (hk : IsRowKey prog w s.heap r a) (h : Q (Ww prog w r) { s with toks := s.toks + (r.1.length + 3) }) :
  wpAny (model prog w) A (pyHash (.ref a)) Q E s := by
 have hT := hk.typeIs
 obtain ⟨o, items, n, p, v, ho, _, hd, hi, hv, hp⟩ := hk
 unfold pyHash
 first | unfold pyHashByItsType | skip
 first | refine jQ (wpAny_cRoomFor_or (.inr (by omega)) ?_) | skip
 refine jQ (wpAny_specialOf hT F.slot_tuple_hash.lookup ?_)
 show wpAny _ _ (if (some (Value.builtin "tuple.__hash__") == some Value.none) = true then _ else _) Q E s
 rw [if_neg (by rw [beq_builtin_none]; exact jW)]
 refine jQ (wpAny_specialOf hT F.slot_tuple_hash.lookup ?_)
 show wpAny _ _ (callSpecialIfBoundUnlessNone? (.ref a) "__hash__" _ >>= _) Q E s
 refine jQ (wpAny_callSpecialIfBoundUnlessNone?_slot hT F.slot_tuple_hash (wpAny_call_entry F.slot_tuple_hash hT F.entry_tuple_hash ?_ (F.args_tuple_hash_1 _)))
 show wpAny _ _ (Builtin.Tuple.tupleItemsOf (.ref a) >>= _) _ _ s
 refine jQ (wpAny_tupleItemsOf ho hd ?_)
 refine jQ ?_
 rw [← Array.forIn_toList, hi]
 refine wpAny_forIn_list _
  (fun rest (b : Array Int) s' => (rest = [.ref p, v] ∧ b.toList = [] ∧ s' = s) ∨ (rest = [v] ∧ b.toList = [tupleKeyHash (intKind prog w) r.1] ∧ s' = { s with toks := s.toks + (r.1.length + 1) }) ∨ (rest = [] ∧ b.toList = [tupleKeyHash (intKind prog w) r.1, (intKind prog w).hash r.2] ∧ s' = { s with toks := s.toks + (r.1.length + 1) + 1 }))
  _ ?_ ?_ _ _ (.inl ⟨rfl, rfl, rfl⟩)
 ·rintro x rest b s' (⟨e, hb, rfl⟩ | ⟨e, hb, rfl⟩ | ⟨e, _⟩)
  ·cases e
   refine jQ (wpAny_pyHash_tuple (knd := intKind prog w) (by show A.units + 1 < cLine; exact hu) hp ?_)
   first
    | exact jZ (.inr (.inl ⟨rfl, by simp [hb], rfl⟩))
    | exact jQ (jZ (jZ (.inr (.inl ⟨rfl, by simp [hb], rfl⟩))))
  ·cases e
   refine jQ ((intKind prog w).pyHash hv ?_)
   first
    | exact jZ (.inr (.inr ⟨rfl, by simp [hb], rfl⟩))
    | exact jQ (jZ (jZ (.inr (.inr ⟨rfl, by simp [hb], rfl⟩))))
  ·cases e
 ·rintro b s' (⟨e, hb, rfl⟩ | ⟨e, hb, rfl⟩ | ⟨e, hb, rfl⟩)
  ·cases e
  ·cases e
  show wpAny _ _ (retInt (Builtin.Tuple.tupleHashOf b.toList)) _ _ _
  rw [hb]
  refine wpAny_ret_mkInt ?_
  show wpAny _ _ (if (decide (-(2 : Int) ^ 63 ≤ Builtin.Tuple.tupleHashOf _) && decide (Builtin.Tuple.tupleHashOf _ < 2 ^ 63)) = true then _ else _) Q E _
  unfold Ww reduceHash at h
  generalize Builtin.Tuple.tupleHashOf [tupleKeyHash (intKind prog w) r.1, (intKind prog w).hash r.2] = T at h ⊢
  by_cases hr : (decide (-(2 : Int) ^ 63 ≤ T) && decide (T < 2 ^ 63)) = true
  ·rw [if_pos hr]
   rw [if_pos hr] at h
   exact jZ (by simpa [Nat.add_assoc] using h)
  ·rw [if_neg hr]
   rw [if_neg hr] at h
   exact jQ (wpAny_rule (jZ (by simpa [Nat.add_assoc] using h)))
theorem Wx {x y : Rw2} {a b : Addr} {P : PySem.Fin → Shared → Prop} (hu : A.units < cLine) (hx : IsRowKey prog w s.heap x a) (hy : IsRowKey prog w s.heap y b) (h : P (.done (.ret (.bool (decide (x = y))))) s) :
  wpAny (model prog w) A (Builtin.«tuple.__eq__» ⟨[.ref a, .ref b], []⟩) P E s := by
 have hTb := hy.typeIs
 obtain ⟨oa, xs, na, pa, va, hoa, _, hda, hia, hva, hpa⟩ := hx
 obtain ⟨ob, ys, nb, pb, vb, hob, _, hdb, hib, hvb, hpb⟩ := hy
 show wpAny _ _ (isInstance (.ref b) (.type "tuple") >>= _) _ _ s
 refine jQ (wpAny_isInstance hTb isSubtype_tuple_tuple ?_)
 simp only [jQe, zQ, if_false]
 refine jQ (wpAny_tupleItemsOf hoa hda ?_)
 refine jQ (wpAny_tupleItemsOf hob hdb ?_)
 refine jQ ?_
 rw [hia, hib]
 refine wpAny_forIn_list _
  (fun rest r s' => r.1 = none ∧ s' = s ∧ (rest = [(Value.ref pa, Value.ref pb), (va, vb)] ∨ (rest = [(va, vb)] ∧ x.1 = y.1) ∨ (rest = [] ∧ x = y)))
  _ ?_ ?_ _ _ ⟨rfl, rfl, .inl rfl⟩
 ·rintro ⟨u, v⟩ rest r s' ⟨hr, rfl, e | ⟨e, e1⟩ | ⟨e, _⟩⟩
  ·cases e
   refine jQ (wpAny_eqBool_tuple (knd := intKind prog w) hu hpa hpb ?_)
   by_cases hk : x.1 = y.1
   ·rw [kW hk]
    simp only [jQe, zQ, if_false]
    exact jZ ⟨rfl, rfl, .inr (.inl ⟨trivial, hk⟩)⟩
   ·rw [kJ hk]
    simp only [Bool.not_false, if_true]
    rw [kJ (fun z => hk (by rw [z]))] at h
    exact jQ (jZ (jZ (jZ h)))
  ·cases e
   refine jQ ((intKind prog w).eqBool (a := x.2) (b := y.2) hva hvb ?_)
   by_cases hk : x.2 = y.2
   ·rw [kW hk]
    simp only [jQe, zQ, if_false]
    exact jZ ⟨rfl, rfl, .inr (.inr ⟨trivial, Prod.ext e1 hk⟩)⟩
   ·rw [kJ hk]
    simp only [Bool.not_false, if_true]
    rw [kJ (fun z => hk (by rw [z]))] at h
    exact jQ (jZ (jZ (jZ h)))
  ·cases e
 ·rintro ⟨r1, r2⟩ s' ⟨hr, rfl, e | ⟨e, _⟩ | ⟨_, e⟩⟩
  ·cases e
  ·cases e
  simp only at hr
  subst hr
  refine jZ ?_
  have hs : (xs.size == ys.size) = true := by
   rw [← zX, ← zX, hia, hib]; rfl
  show P (.done (.ret (.bool (xs.size == ys.size)))) s'
  rw [hs]
  rw [kW e] at h
  exact h
theorem Ja {x y : Rw2} {a b : Addr} {Q : Bool → Shared → Prop} (hu : A.units + 1 < cLine) (hx : IsRowKey prog w s.heap x a) (hy : IsRowKey prog w s.heap y b) (h : Q (decide (x = y)) s) :
  wpAny (model prog w) A (eqBool (.ref a) (.ref b)) Q E s := by
 unfold eqBool
 try with_reducible refine wpAny_holding ?_
 show wpAny _ _ (if (Value.ref a == Value.ref b) = true then _ else _) Q E s
 by_cases hab : (Value.ref a == Value.ref b) = true
 ·rw [if_pos hab]
  have e : a = b := by have := eq_of_beq hab; injection this
  subst e
  obtain rfl := hx.inj hy
  exact jQ (wpAny_rule (jZ (by simpa using h)))
 ·rw [if_neg hab]
  exact jQ (wpAny_richCompare_same_room (op := .Eq) hx.typeIs hy.typeIs F.slot_tuple_eq
   (wpAny_call_entry F.slot_tuple_eq hx.typeIs F.entry_tuple_eq (Wx (by show A.units + 1 < cLine; exact hu) hx hy ⟨_, rfl, (fun e => nomatch e), wpAny_truthy_bool h⟩) (F.args_tuple_eq_2 _ _)) (by omega))
theorem Wc {ks : List Int} {a : Addr} {Q : Bool → Shared → Prop} (hk : IsTupleKey (intKind prog w) s.heap ks a) (h : Q true s) : wpAny (model prog w) A (eqIsQuiet 7 (.ref a)) Q E s := by
 have hT := hk.typeIs
 obtain ⟨o, items, n, ho, _, hd, hi⟩ := hk
 unfold eqIsQuiet
 refine jQ (wpAny_specialOf hT F.slot_tuple_eq.lookup ?_)
 show wpAny _ _ (isInstance (.ref a) (.type "tuple") >>= _) _ _ s
 refine jQ (wpAny_isInstance hT isSubtype_tuple_tuple ?_)
 simp only [jQe, zQ, if_false]
 refine jQ (wpAny_seqItems ho hd ?_)
 refine jQ ?_
 show wpAny _ _ (forIn items _ _) _ _ s
 rw [← Array.forIn_toList]
 refine wpAny_forIn_list _ (fun rest r s' => r.1 = none ∧ s' = s ∧ ∀ v ∈ rest, carriedByValue v = true) _ ?_ ?_ _ _ ⟨rfl, rfl, hi.byValue⟩
 ·rintro v rest r s' ⟨hr, rfl, hall⟩
  rw [eqIsQuiet_byValue _ (hall v yX)]
  refine jQ (jZ ?_)
  simp only [jQe, zQ, if_false]
  exact jZ ⟨rfl, rfl, fun u hu' => hall u (kK _ hu')⟩
 ·rintro ⟨r1, r2⟩ s' ⟨hr, rfl, _⟩
  simp only at hr
  subst hr
  exact jZ h
theorem Kb {r : Rw2} {a : Addr} {Q : Bool → Shared → Prop} (hk : IsRowKey prog w s.heap r a) (h : Q true s) : wpAny (model prog w) A (eqIsQuiet 8 (.ref a)) Q E s := by
 have hT := hk.typeIs
 obtain ⟨o, items, n, p, v, ho, _, hd, hi, hv, hp⟩ := hk
 unfold eqIsQuiet
 refine jQ (wpAny_specialOf hT F.slot_tuple_eq.lookup ?_)
 show wpAny _ _ (isInstance (.ref a) (.type "tuple") >>= _) _ _ s
 refine jQ (wpAny_isInstance hT isSubtype_tuple_tuple ?_)
 simp only [jQe, zQ, if_false]
 refine jQ (wpAny_seqItems ho hd ?_)
 refine jQ ?_
 show wpAny _ _ (forIn items _ _) _ _ s
 rw [← Array.forIn_toList, hi]
 refine wpAny_forIn_list _ (fun rest q s' => q.1 = none ∧ s' = s ∧ (rest = [.ref p, v] ∨ rest = [v] ∨ rest = [])) _ ?_ ?_ _ _ ⟨rfl, rfl, .inl rfl⟩
 ·rintro u rest q s' ⟨hr, rfl, e | e | e⟩
  ·cases e
   refine jQ (Wc hp ?_)
   simp only [jQe, zQ, if_false]
   exact jZ ⟨rfl, rfl, .inr (.inl trivial)⟩
  ·cases e
   rw [eqIsQuiet_byValue _ ((intKind prog w).byValue _ _ hv)]
   refine jQ (jZ ?_)
   simp only [jQe, zQ, if_false]
   exact jZ ⟨rfl, rfl, .inr (.inr trivial)⟩
  ·cases e
 ·rintro ⟨r1, r2⟩ s' ⟨hr, rfl, _⟩
  simp only at hr
  subst hr
  exact jZ h
end
def Yj (prog : Program) (w : World) : HeapKind prog w Rw2 where
 is := IsRowKey prog w
 hash := Ww prog w
 draws := fun r => r.1.length + 3
 room := fun A => A.units + 1 < cLine
 inj := fun hx hy => hx.inj hy
 keeps := fun x ho hd hs => x.keeps ho hd hs
 pyHash := fun hu hk h => Zz hu hk h
 eqBool := fun hu hx hy h => Ja hu hx hy h
 quiet := fun hk h => Kb hk h
end L2
namespace L2
open PySem PySem.Spec PyProof.Rows PySem.SeqAt
section
variable {prog : Program} {w : World} {A : Around} {E : Value → Shared → Prop} {s : Shared} {d : Addr} {o : Obj} {es : Array DictEntry} {ep : Nat}
theorem Wd {Q : Value → Shared → Prop} (hd : (d == sysModules) = false) (ho : s.heap.get? d = some o) (hx : o.ExactDict) (hdat : o.data = .dict es ep)
  (hQ : Q (.ref s.heap.objs.size) { s with heap := s.heap.push { cls := .type "dict_keyiterator", data := .fields #[.ref d, .int 0 0, .int es.size 0, .int ep 0] } }) :
  wpAny (model prog w) A (pyIter (.ref d)) Q E s := by
 have hT : s.TypeIs (.ref d) "dict" := ⟨o, ho, hx.1⟩
 refine wpAny_pyIter_slot hT F.slot_dict_iter (wpAny_call_entry F.slot_dict_iter hT F.entry_dict_iter ?_ (F.args_dict_iter_1 _))
 unfold Builtin.«dict.__iter__»
 refine jQ ?_
 unfold Builtin.Dict.dictSlotNone
 refine jQ (wpAny_notOrdered_dict hT ?_)
 show wpAny _ _ (pure (Value.ref d)) _ _ s
 refine jZ ?_
 show wpAny _ _ (Builtin.Dict.showsAll d >>= _) _ _ s
 unfold Builtin.Dict.showsAll
 rw [if_neg (by rw [hd]; exact jW)]
 refine jQ (jZ ?_)
 refine jQ (wpAny_dictEntries ho hdat ?_)
 refine jQ (wpAny_dictEpoch ho hdat ?_)
 refine jQ (wpAny_newObj_type (jZ ⟨_, rfl, "dict_keyiterator", _, ⟨_, kZ _ rfl, rfl⟩, F.slot_dict_keyiterator_next.lookup, ?_⟩))
 simpa [rawInt] using hQ
theorem Zr {it : Addr} {i : Nat} {Q : Option Value → Shared → Prop} (hit : s.heap.IsKeyIter it d i es.size ep) (hod : s.heap.get? d = some o) (hdd : o.data = .dict es ep) (hlt' : i < es.size)
  (hQ : ∀ h', h'.IsKeyIter it d (i + 1) es.size ep → Heap.SameBut it s.heap h' → Q (some es[i].key) { s with heap := h' }) :
  wpAny (model prog w) A (pyNext (.ref it)) Q E s := by
 obtain ⟨oi, ho, hc, hd⟩ := id hit
 unfold pyNext
 refine jQ (wpAny_attempt (wpAny_callSpecial?_slot (name := Str.ofString "__next__") hit.typeIs F.slot_dict_keyiterator_next
  (wpAny_call_entry F.slot_dict_keyiterator_next hit.typeIs F.entry_dict_keyiterator_next ?_ (F.args_dict_keyiterator_next_1 _))))
 refine jQ (jZ ?_)
 refine jQ ?_
 refine jQ ?_
 first | refine jQ (wpAny_typeNameOfWhole_keyiter hit.typeIs (jZ ?_)) | refine jQ (wpAny_typeNameOf_keyiter hit.typeIs (jZ ?_))
 refine jQ (wpAny_fieldsOf ho hd ?_)
 have hown : Builtin.Dict_items.ownsTuple "dict_keyiterator" = false := by decide
 simp only [hown, zQ, if_false]
 show wpAny _ _ (if (Value.ref d == Value.none) = true then _ else _) _ _ s
 rw [if_neg (show ¬ ((Value.ref d == Value.none) = true) from jW)]
 refine jQ (jZ ?_)
 refine jQ (wpAny_dictEntries hod hdd ?_)
 rw [if_neg (by simp)]
 refine jQ (jZ ?_)
 refine jQ (wpAny_dictEpoch hod hdd ?_)
 rw [if_neg (by simp)]
 refine jZ ?_
 simp only [show ¬ ((i : Int) < 0) from by omega, if_false, jJb, jXa hlt']
 refine jQ ?_
 first | refine jQ (wpAny_typeNameOfWhole_keyiter hit.typeIs (jZ ?_)) | refine jQ (wpAny_typeNameOf_keyiter hit.typeIs (jZ ?_))
 refine jQ (wpAny_isOneOf_keyiter hit.typeIs ?_)
 show wpAny _ _ (setField (.ref it) 1 (rawInt ((i : Int) + 1)) >>= _) _ _ s
 refine jQ (wpAny_setField ho hd (by simp) ?_)
 have hit' : (s.heap.update it (Obj.mapFields (·.setIfInBounds 1 (rawInt ((i : Int) + 1))))).IsKeyIter it d (i + 1) es.size ep :=
  ⟨_, jKe _ ho (Obj.isFreed_of_fields (Obj.data_mapFields hd _)), (Obj.cls_mapFields ..).trans hc, by rw [Obj.data_mapFields hd]; simp [rawInt]⟩
 refine jQ (wpAny_holding ?_)
 refine jQ (wpAny_isOneOf_keyiter (s := { s with heap := s.heap.update it (Obj.mapFields (·.setIfInBounds 1 (rawInt ((i : Int) + 1)))) }) hit'.typeIs ?_)
 show wpAny _ _ (pure es[i].key) _ _ _
 exact jZ (jZ ⟨_, rfl, jZ (hQ _ hit' (Heap.SameBut.update ..))⟩)
theorem Jb {it : Addr} {i : Nat} {Q : Option Value → Shared → Prop} (hh : A.handled = none) (hit : s.heap.IsKeyIter it d i es.size ep) (hod : s.heap.get? d = some o) (hdd : o.data = .dict es ep) (hge : es.size ≤ i)
  (hQ : ∀ h', Heap.ExtBut it s.heap h' → Q none { s with heap := h' }) : wpAny (model prog w) A (pyNext (.ref it)) Q E s := by
 obtain ⟨oi, ho, hc, hd⟩ := id hit
 unfold pyNext
 refine jQ (wpAny_attempt (wpAny_callSpecial?_slot (name := Str.ofString "__next__") hit.typeIs F.slot_dict_keyiterator_next
  (wpAny_call_entry F.slot_dict_keyiterator_next hit.typeIs F.entry_dict_keyiterator_next ?_ (F.args_dict_keyiterator_next_1 _))))
 refine jQ (jZ ?_)
 refine jQ ?_
 refine jQ ?_
 first | refine jQ (wpAny_typeNameOfWhole_keyiter hit.typeIs (jZ ?_)) | refine jQ (wpAny_typeNameOf_keyiter hit.typeIs (jZ ?_))
 refine jQ (wpAny_fieldsOf ho hd ?_)
 have hown : Builtin.Dict_items.ownsTuple "dict_keyiterator" = false := by decide
 simp only [hown, zQ, if_false]
 show wpAny _ _ (if (Value.ref d == Value.none) = true then _ else _) _ _ s
 rw [if_neg (show ¬ ((Value.ref d == Value.none) = true) from jW)]
 refine jQ (jZ ?_)
 refine jQ (wpAny_dictEntries hod hdd ?_)
 rw [if_neg (by simp)]
 refine jQ (jZ ?_)
 refine jQ (wpAny_dictEpoch hod hdd ?_)
 rw [if_neg (by simp)]
 refine jZ ?_
 simp only [show ¬ ((i : Int) < 0) from by omega, if_false, jJb, Array.getElem?_eq_none hge]
 refine jQ ?_
 first | refine jQ (wpAny_typeNameOfWhole_keyiter hit.typeIs (jZ ?_)) | refine jQ (wpAny_typeNameOf_keyiter hit.typeIs (jZ ?_))
 show wpAny _ _ (setField (.ref it) 0 .none >>= _) _ _ s
 refine jQ (wpAny_setField ho hd (by simp) ?_)
 show wpAny _ _ (newExc (.type "StopIteration") [] >>= _) _ _ _
 refine jQ ?_
 simp only [newExc, newTuple]
 refine jQ (wpAny_newObj_type ?_ (by size_fits))
 refine jQ (m := firstArgMember _ _) (wpAny_of_eq (a := Value.none) (by first | rfl | (simp only [firstArgMember]; rfl)) ?_)
 refine wpAny_newObj_type ?_ (by size_fits)
 simp only [raiseNew]
 refine jQ (wpAny_handled ?_)
 rw [show A.in1.handled = none from hh]
 refine jQ (jZ (wpAny_throw ?_))
 refine jQ (wpAny_isInstance (T := "StopIteration") (b := true) ⟨_, kZ _ rfl, rfl⟩ isSubtype_stop ?_)
 exact jZ (hQ _ (((Heap.SameBut.update ..).extBut.push _).push _))
end
abbrev KR (K : Fg) (H : Hp) : List (Rw2 × V) → List (Rw2 × Addr × Value) → Prop := Paired fun p q => p.1 = q.1 ∧ Nb.RowAt K H q.2.1 p.1 ∧ RelV p.2 q.2.2
section
variable {K : Fg} {H H' : Hp} {kvs : List (Rw2 × V)} {xs : List (Rw2 × Addr × Value)}
theorem KR.val (r : KR K H kvs xs) (k : Rw2) : RelO (valV kvs k) ((atKey xs k).map (·.2)) := by
 induction r with
 | nil => exact True.intro
 | @cons p q ps qs h t ih =>
  obtain ⟨h1, _, h2⟩ := h
  by_cases e : p.1 = k
  ·have e' : q.1 = k := h1.symm.trans e
   have b : atKey (q :: qs) k = some q.2 := by simp [atKey, jKb, e']
   rw [Xo e, b]; exact h2
  ·have e' : ¬ q.1 = k := fun z => e (h1.trans z)
   have b : atKey (q :: qs) k = atKey qs k := by simp [atKey, jKb, e']
   rw [Xp e, b]; exact ih
theorem KR.repl (r : KR K H kvs xs) (k : Rw2) {y : V} {u : Value} (ry : RelV y u) : KR K H (kvs.map fun kv => if kv.1 = k then (kv.1, y) else kv) (xs.map (putAt k u)) := by
 induction r with
 | nil => exact .nil
 | @cons p q ps qs h t ih =>
  rw [zK, zK]
  refine .cons ?_ ih
  obtain ⟨h1, h2, h3⟩ := h
  unfold putAt
  by_cases e : p.1 = k
  ·rw [if_pos e, if_pos (h1.symm.trans e)]; exact ⟨h1, h2, ry⟩
  ·rw [if_neg e, if_neg (fun z => e (h1.trans z))]; exact ⟨h1, h2, h3⟩
theorem KR.put (r : KR K H kvs xs) (k : Rw2) {b : Addr} {y : V} {u : Value} (hb : Nb.RowAt K H b k) (ry : RelV y u) : KR K H (putK kvs k y) (storedH xs k b u) := by
 have e : (kvs.any fun kv => decide (kv.1 = k)) = (atKey xs k).isSome := by
  rw [Ys, (r.val k).isSome_eq, Option.isSome_map]
 unfold putK storedH
 rw [e]
 by_cases q : (atKey xs k).isSome = true
 ·rw [if_pos q, if_pos q]; exact r.repl k ry
 ·rw [if_neg q, if_neg q]; exact Paired.snoc r ⟨rfl, hb, ry⟩
theorem KR.imp (r : KR K H kvs xs) (f : ∀ t q, Nb.RowAt K H t q → Nb.RowAt K H' t q) : KR K H' kvs xs := Paired.mapP r fun _ _ z => ⟨z.1, f _ _ z.2.1, z.2.2⟩
theorem KR.keys (r : KR K H kvs xs) : xs.map (·.1) = kvs.map (·.1) := by
 induction r with
 | nil => rfl
 | cons z _ ih => rw [zK, zK, ih, z.1]
end
def RDo (d : Addr) (o : Obj) : HO := .ext fun h => h.get? d = some o
structure RD (P : Program) (w : World) (K : Fg) (H : Hp) (d : Addr) (kvs : List (Rw2 × V)) : Prop where
 ex : ∃ (o : Obj) (es : Array DictEntry) (ep : Nat) (xs : List (Rw2 × Addr × Value)), H d = some (RDo d o) ∧ o.ExactDict ∧ o.data = .dict es ep ∧ es.toList = xs.map (entryOfKey (Yj P w)) ∧ KR K H kvs xs
 sys : (d == sysModules) = false
 len : kvs.length ≤ sizeLine
 nd : (kvs.map (·.1)).Nodup
theorem RD.keep {P : Program} {w : World} {K : Fg} {H H' : Hp} {d : Addr} {kvs : List (Rw2 × V)} (r : RD P w K H d kvs) (e : H' d = H d) (f : ∀ t q, Nb.RowAt K H t q → Nb.RowAt K H' t q) : RD P w K H' d kvs := by
 obtain ⟨⟨o, es, ep, xs, h1, h2, h3, h4, h5⟩, a, b, c⟩ := r
 exact ⟨⟨o, es, ep, xs, by rw [e]; exact h1, h2, h3, h4, h5.imp f⟩, a, b, c⟩
theorem RD.same {P : Program} {w : World} {K : Fg} {H H' : Hp} {d : Addr} {kvs : List (Rw2 × V)} (r : RD P w K H d kvs) (s : Same H H') : RD P w K H' d kvs := by
 obtain ⟨o, es, ep, xs, h1, _⟩ := r.ex
 exact r.keep (by rw [s _ _ h1, h1]) fun _ _ z => z.same s
section
variable {X : Cx} {pins : List (Addr × Obj)} {σ : St} {H : Hp} {s : Shared} {a b : Addr} {kvs : List (Rw2 × V)} {k : Rw2}
theorem Qbb {P : Program} {w : World} : ∀ {ks : List Int} {us : List Value}, Vals (ks.map V.int) us → ItemsAre (intKind P w) ks us
 | [], _, r => by rw [List.map_nil] at r; cases r; exact .nil
 | k :: ks, _, r => by
  rw [zK] at r
  cases r with
  | cons h t => obtain ⟨tk, rfl⟩ := h; exact .cons (by simp [intKind, Value.isInt]) (Qbb t)
theorem Kc (I : Inv X pins σ H s) (h : Nb.RowAt X.K H b k) : (Yj X.prog X.w).is s.heap k b := by
 obtain ⟨p, h1, h2⟩ := h
 obtain ⟨its, rv, ⟨o, e1, e2, n, e3⟩, _⟩ := I.tuple h1
 obtain ⟨its2, rv2, ⟨o2, f1, f2, n2, f3⟩, _⟩ := I.tuple h2
 obtain ⟨u1, u2, rfl, ru1, ru2⟩ := rv.two
 cases ru1
 obtain ⟨tk, rfl⟩ := ru2
 exact ⟨o, _, n, p, _, e1, e2, e3, rfl, by simp [intKind, Value.isInt], ⟨o2, _, n2, f1, f2, f3, by simpa using Qbb rv2⟩⟩
theorem Kd (I : Inv X pins σ H s) (r : RD X.prog X.w X.K H a kvs) : ∃ xs, KR X.K H kvs xs ∧ s.heap.DictOfH (Yj X.prog X.w) a xs := by
 obtain ⟨o, es, ep, xs, h1, h2, h3, h4, h5⟩ := r.ex
 obtain ⟨ho, _⟩ := (show ObjOk X.prog X.w H s.heap a (RDo a o) from I.hok a _ h1)
 refine ⟨xs, h5, o, es, ep, ho, h2, h3, h4, ?_, by rw [h5.keys]; exact r.nd⟩
 have all : ∀ {l : List (Rw2 × V)} {m : List (Rw2 × Addr × Value)}, KR X.K H l m → ∀ x ∈ m, (Yj X.prog X.w).is s.heap x.1 x.2.1 := by
  intro l m q
  induction q with
  | nil => intro x hx; exact nomatch hx
  | @cons p q ps qs hq t ih =>
   intro x hx
   rcases zZ.mp hx with e | hx
   ·subst e
    exact Kc I (by rw [← hq.1]; exact hq.2.1)
   ·exact ih x hx
 exact fun x hx => all h5 x hx
theorem rd_at (I : Inv X pins σ H s) (r : RD X.prog X.w X.K H a kvs) : s.TypeIs (.ref a) "dict" ∧ (∀ b, Value.ref a = .ref b → ∃ ob, s.heap.get? b = some ob ∧ ob.dict = none) ∧ (a == sysModules) = false := by
 obtain ⟨xs, _, dd⟩ := Kd I r
 refine ⟨dd.typeIs, fun b q => ?_, r.sys⟩
 cases q
 obtain ⟨ob, _, _, h1, h2, _⟩ := dd
 exact ⟨ob, h1, h2.2.1⟩
theorem Jc {A : Around} (hu : A.units + 2 < cLine) : (Yj X.prog X.w).room A.in1 := by show A.units + 1 + 1 < cLine; omega
end
section
variable {X : Cx} {o e f : Expr} {apos cpos pos : Pos} {td ty tx : TE}
def tRNew (P : Program) (w : World) (K : Fg) : TE := fun _ H Q => ∀ p ob, H p = none → RD P w K (upd H p ob) p [] → Q (.ref p) (upd H p ob)
theorem Qin : PE X (.Dict [] [] pos) (tRNew X.prog X.w X.K) := fun pins s σ H Q I h => by
 refine wpAny_Dict_empty ⟨.ref s.heap.objs.size, _, I.laid (a := s.heap.objs.size) (o := RDo s.heap.objs.size { cls := .type "dict", data := .dict #[] }) (t' := s.toks) (fun _ _ q => jY _ q) (jK _) ⟨kZ _ rfl, ⟨_, kZ _ rfl⟩, fun h1 h2 q1 q2 => q2 _ q1⟩, rfl, h _ _ (I.hok.fresh (jK _)) ?_⟩
 exact ⟨⟨_, #[], 0, [], Qb, ⟨rfl, rfl, rfl⟩, rfl, rfl, .nil⟩, beq_eq_false_iff_ne.mpr (Ne.symm (yZ I.big)), wV _, List.nodup_nil⟩
def tRGet1 (P : Program) (w : World) (K : Fg) (td ty : TE) : TE := fun σ H Q => td σ H fun x H1 => ∃ a kvs1, x = .ref a ∧ RD P w K H1 a kvs1 ∧ ty σ H1 fun y H2 => ∃ b kvs k, y = .ref b ∧ RD P w K H2 a kvs ∧ Nb.RowAt K H2 b k ∧ Q ((valV kvs k).getD .non) H2
def tRGet2 (P : Program) (w : World) (K : Fg) (td ty tx : TE) : TE := fun σ H Q => td σ H fun x H1 => ∃ a kvs1, x = .ref a ∧ RD P w K H1 a kvs1 ∧ ty σ H1 fun y H2 => tx σ H2 fun z H3 => ∃ b kvs k, y = .ref b ∧ RD P w K H3 a kvs ∧ Nb.RowAt K H3 b k ∧ Q ((valV kvs k).getD z) H3
theorem Qfu (hu : X.A.units + 2 < cLine) (ho : PE X o td) (he : PE X e ty) (m : M1 X o "get" apos e cpos) : PE X (.Call (.Attribute o "get" apos) [e] [] cpos) (tRGet1 X.prog X.w X.K td ty) := by
 intro pins s σ H Q I h
 refine wpAny_Call_method m.base m.few m.line PySem.F.plainAttrs_dict PySem.F.slot_dict_get PySem.F.type_dict_get (thn (ho pins s σ H _ I h) fun u s1 hqP => ?_)
 obtain ⟨x, H1, I1, rx, a, kvs1, ex, d, q1⟩ := hqP
 subst ex
 obtain rfl : u = Value.ref a := rx
 obtain ⟨t1, t2, _⟩ := rd_at I1 d
 refine ⟨t1, t2, ?_⟩
 rw [m.trees]
 refine Calls.callWith_builtin rfl (Calls.evalArgs_plain (Calls.spliced_cons (thn (he pins s1 σ H1 _ I1 q1) fun iv s2 ⟨y, H2, I2, ry, b, kvs, k, ey, g, hk, q2⟩ => Calls.spliced_nil ?_)))
 subst ey
 cases (show iv = Value.ref b from ry)
 obtain ⟨xs, rel, dd⟩ := Kd I2 g
 exact call_meetsIn PySem.F.slot_dict_get dd.typeIs PySem.F.entry_dict_get (PySem.F.args_dict_get_2 _ _) (meetsH_dict_get (Yj X.prog X.w) a b g.sys) ⟨Jc (X := X) hu, k, xs, Kc I2 hk, dd, _, H2, I2.tok _, (rel.val k).getD (d := V.non) rfl, q2⟩
theorem Qfv (hu : X.A.units + 2 < cLine) (ho : PE X o td) (he : PE X e ty) (hf : PE X f tx) (m : M2 X o "get" apos e f cpos) : PE X (.Call (.Attribute o "get" apos) [e, f] [] cpos) (tRGet2 X.prog X.w X.K td ty tx) := by
 intro pins s σ H Q I h
 refine wpAny_Call_method m.base m.few m.line PySem.F.plainAttrs_dict PySem.F.slot_dict_get PySem.F.type_dict_get (thn (ho pins s σ H _ I h) fun u s1 hqP => ?_)
 obtain ⟨x, H1, I1, rx, a, kvs1, ex, d, q1⟩ := hqP
 subst ex
 obtain rfl : u = Value.ref a := rx
 obtain ⟨t1, t2, _⟩ := rd_at I1 d
 refine ⟨t1, t2, ?_⟩
 rw [m.trees]
 refine Calls.callWith_builtin rfl (Calls.evalArgs_plain (Calls.spliced_cons (thn (he pins s1 σ H1 _ I1 q1) fun iv s2 ⟨y, H2, I2, ry, q2⟩ =>
  Calls.spliced_cons (thn (hf pins s2 σ H2 _ I2 q2) fun fv s3 ⟨z, H3, I3, rz, b, kvs, k, ey, g, hk, q3⟩ => Calls.spliced_nil ?_))))
 subst ey
 cases (show iv = Value.ref b from ry)
 obtain ⟨xs, rel, dd⟩ := Kd I3 g
 exact call_meetsIn PySem.F.slot_dict_get dd.typeIs PySem.F.entry_dict_get (PySem.F.args_dict_get_3 _ _ _) (meetsH_dict_get_default (Yj X.prog X.w) a b g.sys fv) ⟨Jc (X := X) hu, k, xs, Kc I3 hk, dd, _, H3, I3.tok _, (rel.val k).getD rz, q3⟩
def tRGet (P : Program) (w : World) (K : Fg) (td ty : TE) : TE := fun σ H Q => td σ H fun x H1 => ty σ H1 fun y H2 => ∃ a b kvs k v, x = .ref a ∧ y = .ref b ∧ RD P w K H2 a kvs ∧ Nb.RowAt K H2 b k ∧ valV kvs k = some v ∧ Q v H2
theorem Qio (hu : X.A.units + 2 < cLine) (ho : PE X o td) (hi : PE X e ty) (hs : NoSl e) : PE X (.Subscript o e pos) (tRGet X.prog X.w X.K td ty) := by
 intro pins s σ H Q I h
 refine Qif PySem.F.slot_dict_getitem.lookup hs (thn (ho pins s σ H _ I h) fun u s1 ⟨x, H1, I1, rx, q1⟩ => thn (hi pins s1 σ H1 _ I1 q1) fun iv s2 hqP => ?_)
 obtain ⟨y, H2, I2, ry, a, b, kvs, k, v, ex, ey, g, hk, l, q2⟩ := hqP
 subst ex ey
 obtain rfl : u = Value.ref a := rx
 cases (show iv = Value.ref b from ry)
 obtain ⟨xs, rel, dd⟩ := Kd I2 g
 obtain ⟨w', hw, rw'⟩ := RelO.some_of (v := v) (o := (atKey xs k).map (·.2)) (by rw [← l]; exact rel.val k)
 obtain ⟨p, hp, hp2⟩ := yK.mp hw
 refine ⟨dd.typeIs, wpAny_getItem_heap (Jc (X := X) hu) (Kc I2 hk) dd hp ?_⟩
 rw [hp2]
 exact ⟨v, H2, I2.tok _, rw', q2⟩
def sRPut (P : Program) (w : World) (K : Fg) (td ty tv : TE) : TS := fun D σ H => tv σ H fun v H1 => td σ H1 fun x H2 => ty σ H2 fun y H3 => ∃ a b kvs k, x = .ref a ∧ y = .ref b ∧ RD P w K H3 a kvs ∧ Nb.RowAt K H3 b k ∧ kvs.length < sizeLine ∧ ∀ ob, RD P w K (upd H3 a ob) a (putK kvs k v) → (∀ t q, Nb.RowAt K H3 t q → Nb.RowAt K (upd H3 a ob) t q) → D.nx σ (upd H3 a ob)
theorem Qdr {κ : Type} [DecidableEq κ] {kvs : List (κ × V)} {k : κ} {v : V} (nd : (kvs.map (·.1)).Nodup) : ((putK kvs k v).map (·.1)).Nodup := by
 unfold putK
 split
 ·rw [jKa]
  rw [show kvs.map ((fun x => x.1) ∘ fun kv => if kv.1 = k then (kv.1, v) else kv) = kvs.map (·.1) from jZd fun p _ => by show (if p.1 = k then (p.1, v) else p).1 = p.1; split <;> rfl]
  exact nd
 ·rename_i a
  rw [zW]
  refine List.nodup_append.mpr ⟨nd, jYf.mpr ⟨fun z => (nomatch z), List.nodup_nil⟩, fun x hx y hy e => a ?_⟩
  obtain ⟨p, hp, ep⟩ := jZe.mp hx
  exact jJe.mpr ⟨p, hp, kW (ep.trans (e.trans (jQa.mp hy)))⟩
theorem Qip {pos' : Pos} {value : Expr} {tv : TE} (hu : X.A.units + 2 < cLine) (ho : PE X o td) (hi : PE X e ty) (hv : PE X value tv) (hs : swapsWith value (some (.Subscript o e pos')) pos.line X.env = pure false) :
  PS X (.Assign [.Subscript o e pos'] value pos) (sRPut X.prog X.w X.K td ty tv) := by
 intro pins s σ H D I h
 refine wpAny_Assign_Subscript (thn (hv pins s σ H _ I h) fun r s1 ⟨v, H1, I1, rv, q1⟩ => thn (ho pins s1 σ H1 _ I1 q1) fun u s2 ⟨x, H2, I2, rx, q2⟩ => thn (hi pins s2 σ H2 _ I2 q2) fun iv s3 hqP => ?_) hs
 obtain ⟨y, H3, I3, ry, a, b, kvs, k, ex, ey, g, hk, hl, q3⟩ := hqP
 subst ex ey
 obtain rfl : u = Value.ref a := rx
 cases (show iv = Value.ref b from ry)
 obtain ⟨xs, rel, dd⟩ := Kd I3 g
 obtain ⟨ob0, _, _, _, hH, _⟩ := g.ex
 have hz : xs.length ≤ sizeLine := by rw [← Paired.length rel]; exact g.len
 refine wpAny_setItem_heap (hsz := hz) (Jc (X := X) hu) (Kc I3 hk) dd fun h' dd' hs' => ?_
 obtain ⟨q, es, ep, hq, h2, h3, h4, _, h5⟩ := dd'
 have up : ∀ t r, Nb.RowAt X.K H3 t r → Nb.RowAt X.K (upd H3 a (RDo a q)) t r := fun t r ⟨p, z1, z2⟩ => by
  have f : ∀ {c ys}, SqT X.K H3 c ys → SqT X.K (upd H3 a (RDo a q)) c ys := fun {c ys} z => by
   rcases z with (z | ⟨o', z⟩) | z
   ·exact .inl (.inl (by rw [Qi (Qes z hH (by intro w; cases w))]; exact z))
   ·exact .inl (.inr ⟨o', by rw [Qi (Qes z hH (by intro w; cases w))]; exact z⟩)
   ·exact .inr z
  exact ⟨p, f z1, f z2⟩
 have hlp := Jt kvs k v
 refine ⟨σ, _, Qie (ob := RDo a q) I3 (by rw [hH]; exact True.intro) hs' ⟨q, hq⟩ ⟨hq, ⟨q, hq⟩, fun h1 h2 q1 q2 => q2 _ q1⟩, q3 _ ⟨⟨q, es, ep, _, Qb, h2, h3, h4, (rel.put k hk rv).imp up⟩, g.sys, by omega, Qdr g.nd⟩ up⟩
def ItR (d : Addr) (ob : Obj) (xs : List (Rw2 × Addr × Value)) : It :=
  ⟨fun i H => H d = some (RDo d ob) ∧ i < xs.length,
   fun i H v H' => H' = H ∧ ∃ q, xs[i]? = some q ∧ v = .ref q.2.1,
   fun i H => H d = some (RDo d ob) ∧ xs.length ≤ i⟩
theorem Qds {P : Program} {w : World} {K : Fg} {tg : Expr} {it d : Addr} {ob : Obj} {es : Array DictEntry} {ep : Nat} {xs : List (Rw2 × Addr × Value)} (hdd : ob.data = .dict es ep) (hes : es.toList = xs.map (entryOfKey (Yj P w))) :
  Turn P w K tg (ItR d ob xs) [it] it (fun i h => h.IsKeyIter it d i es.size ep) where
 mem := by simp
 obj := fun i h st c hc => by
  obtain ⟨q, e, c1, d1⟩ := st
  have e5 : c = it := by simpa using hc
  subst e5
  exact ⟨q, e, fun v z => by rw [d1] at z; cases z⟩
 keep := fun i h h' st k => st.at fun o e => k it (by simp) o e
 item := by
  intro X hP hw hK hc i pins s σ H E I hf st hg
  subst hP hw hK
  obtain ⟨q1, hi⟩ := hg
  obtain ⟨ho, _⟩ := (show ObjOk X.prog X.w H s.heap d (RDo d ob) from I.hok d _ q1)
  have hsz : es.size = xs.length := by rw [← zX, hes, jX]
  obtain ⟨f0, f1, f2, f3, f4, f5⟩ := hf it (by simp)
  refine Zr st ho hdd (by omega) fun h' st' sb => ?_
  have I1 : Inv X pins σ H { s with heap := h' } := I.turned (t' := s.toks) (fun b o hb e => (sb.2 b hb).trans e) f0 f1 f3 f4 f5
  obtain ⟨q, e, c, d1⟩ := id st'
  have hk : es[i].key = .ref (xs[i]).2.1 := by
   have h6 : es.toList[i]? = (xs.map (entryOfKey (Yj X.prog X.w)))[i]? := by rw [hes]
   rw [kQ, gE hi, Array.getElem?_toList, jXa (by omega)] at h6
   rw [Option.some.inj h6]; rfl
  exact ⟨_, rfl, Qeu (s := { s with heap := h' }) e c d1 (by decide) ⟨.ref (xs[i]).2.1, H, I1, hk, ⟨rfl, _, gE hi, rfl⟩, st', fun b hb => (hf b hb).1⟩⟩
 done := by
  intro X hP hw hK hc i pins s σ H E I hf st hg
  subst hP hw hK
  obtain ⟨q1, hi⟩ := hg
  obtain ⟨ho, _⟩ := (show ObjOk X.prog X.w H s.heap d (RDo d ob) from I.hok d _ q1)
  have hsz : es.size = xs.length := by rw [← zX, hes, jX]
  obtain ⟨f0, f1, f2, f3, f4, f5⟩ := hf it (by simp)
  exact Jb (I.ok.hd hc) st ho hdd (by omega) fun h' eb => ⟨rfl, I.turned (t' := s.toks) (fun b o hb z => eb b o hb z) f0 f1 f3 f4 f5⟩
 self := fun _ _ _ _ _ st h => wpAny_pyIter_keyiter st h
def iRows (P : Program) (w : World) (K : Fg) (td : TE) : TI := fun σ H R => td σ H fun v H1 => ∃ d kvs, v = .ref d ∧ RD P w K H1 d kvs ∧ ∀ ob xs, H1 d = some (RDo d ob) → KR K H1 kvs xs → R (ItR d ob xs) H1
theorem Qiq {tg a : Expr} {td : TE} (ha : PE X a td) : PI X tg a (iRows X.prog X.w X.K td) := by
 intro pins s σ H R I h
 refine thn (ha pins s σ H _ I h) fun v s1 hqP => ?_
 obtain ⟨x, H1, I1, r1, q1⟩ := hqP
 obtain ⟨d, kvs, e, g, q⟩ := q1
 subst e
 obtain rfl : v = Value.ref d := r1
 obtain ⟨ob, es, ep, xs, hH, hx, hdd, hes, hk⟩ := g.ex
 obtain ⟨ho, _⟩ := (show ObjOk X.prog X.w H1 s1.heap d (RDo d ob) from I1.hok d _ hH)
 refine Wd g.sys ho hx hdd ?_
 have I2 : Inv X pins σ H1 { s1 with heap := s1.heap.push { cls := .type "dict_keyiterator", data := .fields #[.ref d, .int 0 0, .int es.size 0, .int ep 0] } } := I1.kept (t' := s1.toks) fun b o z => jY _ z
 refine ⟨s1.heap.objs.size, [s1.heap.objs.size], _, ItR d ob xs, _, rfl, I2, Qds hdd hes, ⟨_, kZ _ rfl, rfl, rfl⟩, fun c hc => ?_, q ob xs hH hk⟩
 simp only [zZ, jQf, or_false] at hc
 subst hc
 exact I1.fpOk (jK _) (I1.hok.fresh (jK _))
end
section
variable {X : Cx}
end
section
variable {X : Cx}
open PySem.W in
end
section
variable {prog : Program} {w : World} {A : Around} {E : Value → Shared → Prop} {s : Shared} {κ : KeyKind}
end
section
variable {a b out : Array Keyed} {ia ib k : Nat}
end
section
variable {prog : Program} {w : World} {A : Around} {E : Value → Shared → Prop} {s : Shared} {κ : KeyKind}
end
section
variable {a b out : Array Keyed} {na nb k : Nat}
end
section
variable {prog : Program} {w : World} {A : Around} {E : Value → Shared → Prop} {s : Shared} {κ : KeyKind}
end
section
variable {prog : Program} {w : World} {A : Around} {E : Value → Shared → Prop} {s : Shared} {κ : KeyKind} {a₀ : Array Keyed}
end
section
variable {prog : Program} {w : World} {A : Around} {E : Value → Shared → Prop} {s : Shared} {κ : KeyKind} {a₀ : Array Keyed}
end
section
variable {prog : Program} {w : World} {A : Around} {E : Value → Shared → Prop} {s : Shared} {κ : KeyKind} {a₀ : Array Keyed}
end
section
variable {prog : Program} {w : World} {A : Around} {E : Value → Shared → Prop} {s : Shared}
end
section
variable {X : Cx}
open PySem.W in
end
end L2
namespace L2
open PySem PyProof.Rows
section
variable {prog : Program} {w : World} {A : Around} {E : Value → Shared → Prop} {s : Shared} {κ : KeyKind}
end
section
variable {prog : Program} {w : World} {A : Around} {E : Value → Shared → Prop} {s : Shared} {κ : KeyKind}
section
variable {a b out : Array Keyed} {ia ib k : Nat}
end
end
section
variable {prog : Program} {w : World} {A : Around} {E : Value → Shared → Prop} {s : Shared} {κ : KeyKind}
end
section
variable {prog : Program} {w : World} {A : Around} {E : Value → Shared → Prop} {s : Shared} {κ : KeyKind}
section
variable {a b out : Array Keyed} {na nb k : Nat}
end
end
section
variable {prog : Program} {w : World} {A : Around} {E : Value → Shared → Prop} {s : Shared} {κ : KeyKind} {a₀ : Array Keyed}
end
section
variable {prog : Program} {w : World} {A : Around} {E : Value → Shared → Prop} {s : Shared} {κ : PyProof.Rows.KeyKind} {a₀ : Array Keyed}
end
section
variable {prog : Program} {w : World} {A : Around} {E : Value → Shared → Prop} {s : Shared} {κ : PyProof.Rows.KeyKind} {a₀ : Array Keyed}
end
end L2
namespace L2
open PySem PySem.Spec PyProof.Rows PySem.W
section
variable {X : Cx}
end
section
variable {prog : Program} {w : World} {A : Around} {E : Value → Shared → Prop} {s : Shared} {κ : PyProof.Rows.KeyKind}
end
section
variable {X : Cx}
open PySem.W in
end
section
variable {X : Cx}
open PySem.W in
end
section
variable {X : Cx}
open PySem.W in
end
end L2
namespace L2
open PySem PySem.Spec PySem.W PyProof.Rows
open PySem.SeqAt
def PairIn (h : Heap) (v : Value) (r : Row) : Prop := ∃ (a : Addr) (x : Int) (t u : Tok), v = .ref a ∧ r.1 = [x] ∧ h.IsTuple a #[.int x t, .int r.2 u]
theorem PairIn.ext {h h' : Heap} (k : ∀ b o, h.get? b = some o → h'.get? b = some o) {v : Value} {r : Row} (z : PairIn h v r) : PairIn h' v r := by
 obtain ⟨a, x, t, u, e, z1, z2⟩ := z; exact ⟨a, x, t, u, e, z1, Zc k z2⟩
section
variable {prog : Program} {w : World} {A : Around} {E : Value → Shared → Prop} {s : Shared}
theorem Qir {x y : Value} {r q : Row} {Q : Bool → Shared → Prop} (hx : PairIn s.heap x r) (hy : PairIn s.heap y q) (hu : A.units + 1 < cLine) (h : Q (Xe r q) s) : wpAny (model prog w) A (keyLt' (tuples' true) x y) Q E s := by
 obtain ⟨a, x, t, u, rfl, x0, x1⟩ := hx
 obtain ⟨a', x', t', u', rfl, y0, y1⟩ := hy
 obtain ⟨o, ho, _, n, hd⟩ := x1
 obtain ⟨o', ho', _, n', hd'⟩ := y1
 refine kat_lt ho hd ho' hd' (kat_cons (EqAt.int_int _ _ _ _ _ _ _ _ ?_))
 unfold Xe at h
 rw [x0, y0] at h
 by_cases e : x = x'
 ·rw [if_pos (by rw [e])] at h
  rw [show (x == x') = true by simpa using e]
  refine kat_yes (kat_cons (EqAt.int_int _ _ _ _ _ _ _ _ ?_))
  by_cases e2 : r.2 = q.2
  ·rw [show (r.2 == q.2) = true by simpa using e2]
   refine kat_yes (kat_nil ?_)
   rw [e2, kJ (Int.lt_irrefl _)] at h
   exact h
  ·rw [show (r.2 == q.2) = false by simpa using e2]
   exact kat_no (kat_one _ _ (lt_int h))
 ·rw [if_neg (fun z => e (List.cons.inj z).1), Qdh, if_neg e] at h
  rw [show (x == x') = false by simpa using e]
  exact kat_no (oneLt_int h)
theorem Qbc {h : Heap} : ∀ {vs : List Value} {rs : List Row}, Paired (PairIn h) vs rs → ∃ fs, KatTups h vs fs ∧ fs.length = vs.length ∧ ∀ f ∈ fs, ∃ n t, f = .int n t
 | _, _, .nil => ⟨[], trivial, rfl, fun f hf => nomatch hf⟩
 | _, _, .cons z r => by
  obtain ⟨a, x, t, u, rfl, z1, ⟨o, ho, hc, n, hd⟩⟩ := z
  obtain ⟨fs, k, l, p⟩ := Qbc r
  refine ⟨.int x t :: fs, .cons ho hc hd rfl k, by rw [xZ, xZ, l], fun f hf => ?_⟩
  rcases zZ.mp hf with e | hf
  ·exact ⟨x, t, e⟩
  ·exact p f hf
theorem Qdt {vs : List Value} {rs : List Row} {Q : SortKind → Shared → Prop} (hr : Paired (PairIn s.heap) vs rs) (h1 : 0 < vs.length) (h : Q (tuples' true) s) : wpAny (model prog w) A (keyKind' vs.toArray) Q E s := by
 obtain ⟨fs, k, l, p⟩ := Qbc hr
 refine kat_kind (T := .type "int") k (by omega) (fun v hv => ?_) (by decide) h
 obtain ⟨n, t, rfl⟩ := p v hv
 exact .now
end
section
variable {prog : Program} {w : World} {A : Around} {E : Value → Shared → Prop} {s : Shared}
theorem Qfw {vs : List Value} {rs : List Row} {Q : SortSt → Shared → Prop} (hr : Paired (PairIn s.heap) vs rs) (h2 : 2 ≤ vs.length) (h64 : vs.length < 64) (hu : A.units + 1 < cLine)
  (h : ∀ (st' : SortSt) (p : Array Nat), PermN vs.length p → (arrOf st').map (·.2) = List.toArray (p.toList.map fun i => vs.getD i Value.none) → failedOf st' = none →
   (p.toList.map fun i => rs.getD i ([], 0)).Perm rs → (p.toList.map fun i => rs.getD i ([], 0)).Pairwise (fun x y => Xe y x = false) → Q st' s) :
  wpAny (model prog w) A ((sortRuns').run (SortSt.mk' (tuples' true) (vs.toArray.zip vs.toArray) #[] 7 none)) (fun r s' => Q r.2 s') E s := by
 have ln : vs.length = rs.length := Paired.length hr
 refine kat_run (G := fun p s' => s' = s ∧ PermN vs.length p ∧ Zy (fun i => Yd rs (rs.getD i ([], 0))) p vs.length) rfl h2 h64 (fun p st' s' h1 h2 h3 h4 => ?_) ?_
 ·obtain ⟨rfl, g1, g2⟩ := h4
  rw [ln] at g2
  have o := Kp (ln ▸ g1) g2
  exact h st' p g1 (kat_snds rfl h2) h3 o.1 o.2
 ·refine kGood.wp (f := Yf fun i => Yd rs (rs.getD i ([], 0))) (n := vs.length) (fun i j C hi hj hC => ?_) (fun p hp => ⟨rfl, hp⟩) _ (Vr (by omega))
  obtain ⟨r, er, zr⟩ := Paired.getR hr (gE hi)
  obtain ⟨q, eq, zq⟩ := Paired.getR hr (gE hj)
  have f1 : vs.getD i Value.none = vs[i] := by rw [jJ, gE hi]; rfl
  have f2 : vs.getD j Value.none = vs[j] := by rw [jJ, gE hj]; rfl
  have g1 : rs.getD i ([], 0) = r := by rw [jJ, er]; rfl
  have g2 : rs.getD j ([], 0) = q := by rw [jJ, eq]; rfl
  unfold kas_ask
  rw [f1, f2]
  refine Qir zr zq hu ?_
  rw [← Wt (S := rs) (xY er) (xY eq)]
  have hC' : C (decide (Yd rs (rs.getD i ([], 0)) < Yd rs (rs.getD j ([], 0)))) s := hC
  rw [g1, g2] at hC'
  exact hC'
theorem Qfx {a : Addr} {vs : List Value} {rs : List Row} {n : Nat} {P : PySem.Fin → Shared → Prop} (ho : s.heap.get? a = some (seqObj "list" vs.toArray n)) {h₀ : Heap} (ext : ∀ b o, h₀.get? b = some o → b ≠ a ∧ s.heap.get? b = some o) (hr : Paired (PairIn h₀) vs rs)
  (h64 : vs.length < 64) (hu : A.units + 1 < cLine)
  (h : ∀ (p : List Nat), (∀ i ∈ p, i < vs.length) → (p.map fun i => rs.getD i ([], 0)).Perm rs → (p.map fun i => rs.getD i ([], 0)).Pairwise (fun x y => Xe y x = false) →
   P (.done (.ret .none)) { s with heap := sortedHeap s.heap a vs (List.toArray (p.map fun i => vs.getD i Value.none)) }) :
  wpAny (model prog w) A (Builtin.«list.sort» ⟨[.ref a], []⟩) P E s := by
 have ln : vs.length = rs.length := Paired.length hr
 have ha : a < s.heap.objs.size := kY ho
 obtain ⟨e1, ho1⟩ : ∃ e1, (s.heap.update a (Obj.mapSeq fun _ => #[])).get? a = some (seqObj "list" #[] e1) := ⟨_, get?_update_seq ho (fun _ => #[])⟩
 have keep : ∀ b o, h₀.get? b = some o → (((s.heap.update a (Obj.mapSeq fun _ => #[])).push (seqObj "tuple" vs.toArray 0)).push (seqObj "list" #[] 0)).get? b = some o := fun b o e => by
  obtain ⟨n1, e1⟩ := ext b o e
  refine jY _ (jY _ ?_)
  rw [jZc _ _ _ _ n1]; exact e1
 have ho6 : (((s.heap.update a (Obj.mapSeq fun _ => #[])).push (seqObj "tuple" vs.toArray 0)).push (seqObj "list" #[] 0)).get? a = some (seqObj "list" #[] e1) := jY _ (jY _ ho1)
 have fin : ∀ (st' : SortSt) (out : List Value), (arrOf st').map (·.2) = List.toArray out → failedOf st' = none → out.length = vs.length → P (.done (.ret .none)) { s with heap := sortedHeap s.heap a vs (List.toArray out) } →
   wpAny (model prog w) A (do
    let sorted := (arrOf st').map (·.2)
    let touched := (← seqEpoch a) != e1
    Builtin.List.listUpdate (.ref a) fun _ => sorted
    if let some e := failedOf st' then rule "list.sort.comparison-raised"; throw e
    if touched then rule "list.sort.modified"; raiseError "ValueError" "list modified during sort"
    ret .none) P E { s with heap := ((s.heap.update a (Obj.mapSeq fun _ => #[])).push (seqObj "tuple" vs.toArray 0)).push (seqObj "list" #[] 0) } := fun st' out h1 h2 h3 h4 => by
  dsimp only
  rw [h1]
  refine jQ (seqEpoch_at ho6 rfl ?_)
  refine jQ (listUpdate_at ho6 rfl ?_ (hsz2 := by rw [jV, sizeLine_eq]; omega))
  rw [h2]
  simp only [bne_self_eq_false, zQ, if_false]
  exact jZ h4
 rw [list_sort_plain]
 refine jQ (listItems_at ho rfl ?_)
 refine jQ (listUpdate_at ho rfl ?_)
 refine jQ (seqEpoch_at ho1 rfl ?_)
 refine jQ (wpAny_newTuple ?_)
 refine jQ (wpAny_newList ?_)
 refine wpAny_holding ?_
 show wpAny (model prog w) A _ P E { s with heap := ((s.heap.update a (Obj.mapSeq fun _ => #[])).push (seqObj "tuple" vs.toArray 0)).push (seqObj "list" #[] 0) }
 dsimp only
 have hsz : vs.toArray.size = vs.length := by simp
 by_cases h2 : vs.toArray.size < 2
 ·rw [if_pos h2, if_pos h2]
  refine jQ (jZ ?_)
  rw [StateT.run_pure]
  refine jQ (jZ ?_)
  have one : (List.range vs.length).map (fun i => rs.getD i ([], 0)) = rs := by rw [ln]; exact Yr _ _
  have o := h (List.range vs.length) (fun i hi => yV.mp hi) (by rw [one]) (by
   rw [one, jJa]
   intro i j hi hj hij
   omega)
  rw [Yr] at o
  refine fin (SortSt.mk' general' (vs.toArray.zip vs.toArray) #[] 7 none) vs ?_ rfl rfl o
  show (vs.toArray.zip vs.toArray).map (·.2) = _
  apply Array.toList_inj.mp
  simp
  exact List.map_snd_zip (jK _)
 ·rw [if_neg h2, if_neg h2]
  have hr' : Paired (PairIn (((s.heap.update a (Obj.mapSeq fun _ => #[])).push (seqObj "tuple" vs.toArray 0)).push (seqObj "list" #[] 0))) vs rs := Paired.imp' (fun _ _ z => PairIn.ext keep z) hr
  refine jQ (Qdt (s := { s with heap := ((s.heap.update a (Obj.mapSeq fun _ => #[])).push (seqObj "tuple" vs.toArray 0)).push (seqObj "list" #[] 0) }) hr' (by omega) ?_)
  refine jQ (wpAny_mono (Qfw (s := { s with heap := ((s.heap.update a (Obj.mapSeq fun _ => #[])).push (seqObj "tuple" vs.toArray 0)).push (seqObj "list" #[] 0) })
   (Q := fun st' s' => s' = { s with heap := ((s.heap.update a (Obj.mapSeq fun _ => #[])).push (seqObj "tuple" vs.toArray 0)).push (seqObj "list" #[] 0) } ∧ ∃ p : Array Nat, PermN vs.length p ∧ (arrOf st').map (·.2) = List.toArray (p.toList.map fun i => vs.getD i Value.none) ∧ failedOf st' = none ∧
    (p.toList.map fun i => rs.getD i ([], 0)).Perm rs ∧ (p.toList.map fun i => rs.getD i ([], 0)).Pairwise (fun x y => Xe y x = false))
   hr' (by omega) h64 hu fun st' p h1 h2 h3 h4 h5 => ⟨rfl, p, h1, h2, h3, h4, h5⟩) ?_ fun _ _ e => e)
  rintro ⟨⟨⟩, st'⟩ s' ⟨rfl, p, g1, g2, g3, g4, g5⟩
  have pl : p.toList.Perm (List.range vs.length) := by simpa using jZf.mp g1
  refine fin st' _ g2 g3 (by rw [jX, zX, g1.size]) (h p.toList (fun i hi => yV.mp (pl.mem_iff.mp hi)) g4 g5)
theorem Qbw {l : Addr} {vs : List Value} {rs : List Row} {Q : Value → Shared → Prop} (hl : s.heap.IsList l vs.toArray) (hr : Paired (PairIn s.heap) vs rs) (h64 : vs.length < 64) (hu : A.units + 3 < cLine)
  (h : ∀ (p : List Nat), (∀ i ∈ p, i < vs.length) → (p.map fun i => rs.getD i ([], 0)).Perm rs → (p.map fun i => rs.getD i ([], 0)).Pairwise (fun x y => Xe y x = false) →
   Q (.ref (s.heap.objs.size + 1)) { s with heap := sortedAll s.heap vs (List.toArray (p.map fun i => vs.getD i Value.none)) }) :
  wpAny (model prog w) A (call (.builtin "sorted") [.ref l]) Q E s := by
 refine Calls.call_function_entry kind_sorted plain_sorted entry_sorted (args_sorted1 _) ?_
 unfold Builtin.«sorted»
 refine jQ (m := checkCount "sorted" 1 1 _) (jZ ?_)
 refine jQ (collect_list hl ?_)
 refine jQ (wpAny_newList ?_)
 have hsz : ((s.heap.push (seqObj "list" #[] 0)).update s.heap.objs.size (Obj.mapSeq (· ++ vs.toArray))).objs.size = s.heap.objs.size + 1 := by
  rw [Heap.size_update, size_push']
 have hoL : (((s.heap.push (seqObj "list" #[] 0)).update s.heap.objs.size (Obj.mapSeq (· ++ vs.toArray))).push (seqObj "list" vs.toArray 0)).get? (s.heap.objs.size + 1) = some (seqObj "list" vs.toArray 0) := by
  rw [← hsz]; exact kZ _ rfl
 have keep : ∀ b o, s.heap.get? b = some o → b ≠ s.heap.objs.size + 1 ∧ (((s.heap.push (seqObj "list" #[] 0)).update s.heap.objs.size (Obj.mapSeq (· ++ vs.toArray))).push (seqObj "list" vs.toArray 0)).get? b = some o := fun b o e => by
  have hlt : b < s.heap.objs.size := kY e
  refine ⟨yZ (wW hlt), jY _ ?_⟩
  rw [jZc _ _ _ _ (yZ hlt)]
  exact jY _ e
 show wpAny _ _ _ _ _ { s with heap := ((s.heap.push (seqObj "list" #[] 0)).update s.heap.objs.size (Obj.mapSeq (· ++ vs.toArray))).push (seqObj "list" vs.toArray 0) }
 rw [hsz]
 refine jQ (wpAny_holding (wpAny_call_entry slot_list_sort ⟨_, hoL, rfl⟩ entry_list_sort (Qfx (s := { s with heap := ((s.heap.push (seqObj "list" #[] 0)).update s.heap.objs.size (Obj.mapSeq (· ++ vs.toArray))).push (seqObj "list" vs.toArray 0) }) hoL keep hr h64 (by show A.units + 1 + 1 + 1 < cLine; omega) fun p h1 h2 h3 => ⟨_, rfl, ?_⟩) (args_list_sort _)))
 exact jZ ⟨_, rfl, h p h1 h2 h3⟩
end
def PrAt (K : Fg) (H : Hp) (v : V) (p : Int × Int) : Prop := ∃ a, v = .ref a ∧ SqT K H a [.int p.1, .int p.2]
abbrev Xc (K : Fg) (H : Hp) : List V → List (Int × Int) → Prop := Paired (PrAt K H)
def prR (p : Int × Int) : Row := ([p.1], p.2)
theorem Qis (ps : List (Int × Int)) (i : Nat) (hi : i < ps.length) : (ps.map prR).getD i ([], 0) = prR (ps.getD i (0, 0)) := by
 rw [jJ, jJ, kQ, gE hi]; rfl
theorem Qdu {p q : Int × Int} (h : prR p = prR q) : p = q := by
 have h1 : (prR p).1 = (prR q).1 := by rw [h]
 have h2 : (prR p).2 = (prR q).2 := by rw [h]
 unfold prR at h1 h2
 exact Prod.ext (List.cons.inj h1).1 h2
theorem We {α β : Type} [DecidableEq α] [DecidableEq β] {f : α → β} (hf : ∀ a b, f a = f b → a = b) {xs ys : List α} (h : (xs.map f).Perm (ys.map f)) : xs.Perm ys := by
 rw [kQc]
 intro a
 have := kQc.mp h (f a)
 have c : ∀ l : List α, (l.map f).count (f a) = l.count a := fun l => by
  induction l with
  | nil => rfl
  | cons x t ih =>
   rw [zK, List.count_cons, List.count_cons, ih]
   by_cases e : x = a
   ·rw [e]; simp
   ·have e2 : ¬ f x = f a := fun z => e (hf _ _ z)
    simp [e, e2]
 rw [c, c] at this
 exact this
section
variable {X : Cx}
theorem Qdv {pins : List (Addr × Obj)} {σ : St} {H : Hp} {s : Shared} (I : Inv X pins σ H s) {a : Addr} {p : Int × Int} (h : SqT X.K H a [.int p.1, .int p.2]) : PairIn s.heap (.ref a) (prR p) := by
 obtain ⟨its, r1, p1, _⟩ := I.tuple h
 obtain ⟨u, u2, rfl, ru, ru2⟩ := Vals.two r1
 obtain ⟨tk, rfl⟩ := ru
 obtain ⟨tk2, rfl⟩ := ru2
 exact ⟨a, p.1, tk, tk2, rfl, rfl, p1⟩
theorem Qfy {pins : List (Addr × Obj)} {σ : St} {H : Hp} {s : Shared} (I : Inv X pins σ H s) : ∀ {vs : List V} {us : List Value} {ps : List (Int × Int)}, Vals vs us → Xc X.K H vs ps → Paired (PairIn s.heap) us (ps.map prR) := by
 intro vs us rs hv h
 unfold Xc at h
 induction h generalizing us with
 | nil => have e := hv.nil_iff.mpr rfl; subst e; exact .nil
 | cons z t ih =>
  obtain ⟨a, rfl, z⟩ := z
  cases hv with
  | cons ru rr =>
   cases ru
   exact .cons (Qdv I z) (ih rr)
theorem Wf {K : Fg} (hK : X.K = K) (hu : X.A.units + 6 < cLine) : Ym X (.builtin "sorted") (fun xs H Q => ∃ (l : Addr) (vs : List V) (ps : List (Int × Int)), xs = [.ref l] ∧ SqL K H l vs ∧ Xc K H vs ps ∧ vs.length < 64 ∧
  ∀ (D : Addr) (ws : List V) (qs : List (Int × Int)), H D = none → Xc K H ws qs → ws.length = vs.length → qs.Perm ps → qs.Pairwise (fun x y => Xe (prR y) (prR x) = false) → Q (.ref D) (upd H D (.lst ws))) := by
 subst hK
 intro pins s σ H xs us Q I rv h
 obtain ⟨l, vs, ps, rfl, hq, hr, h64, q⟩ := h
 obtain ⟨u, rfl, ru⟩ := rv.one
 cases ru
 obtain ⟨its, r, p, hz⟩ := I.list hq
 have lv : vs.length = its.length := r.length
 have lp : vs.length = ps.length := Paired.length hr
 refine Qbw p.isList (Qfy I r hr) (by omega) (by omega) fun o h1 h2 h3 => ?_
 obtain ⟨e, he⟩ := sortedAll_at s.heap its (List.toArray (o.map fun i => its.getD i Value.none))
 have em : (o.map fun i => (ps.map prR).getD i ([], 0)) = (o.map fun i => ps.getD i (0, 0)).map prR := by
  rw [jKa]
  exact jZd fun i hi => Qis ps i (by have := h1 i hi; omega)
 rw [em] at h2 h3
 have lo : o.length = vs.length := by
  have := h2.length_eq
  rw [jX, jX, jX] at this
  omega
 refine ⟨.ref (s.heap.objs.size + 1), _, I.laid (t' := s.toks) (o := .lst (o.map fun i => vs.getD i .non)) (fun b ob z => sortedAll_old z) (Nat.le_succ _) ⟨by rw [jX]; omega, _, e, ?_, he⟩, rfl, q _ _ _ (I.hok.fresh (Nat.le_succ _)) ?_ (by rw [jX]; exact lo) (We (fun _ _ => Qdu) h2) (jJd.mp h3)⟩
 ·exact Paired.pick r .non Value.none o fun i hi => by rw [lv]; exact h1 i hi
 ·exact Paired.pick hr .non (0, 0) o fun i hi => by rw [lv]; exact h1 i hi
end
end L2
namespace L2
open PySem PySem.Spec PySem.W PyProof.Rows
open PySem.SeqAt
section
variable {X : Cx}
open Classical in
end
end L2
namespace HT
open PySem PySem.Spec PyProof.Rows
section
variable {prog : Program} {w : World} {A : Around} {E : Value → Shared → Prop} {s : Shared}
end
end HT
namespace L2
open PySem PySem.Spec PySem.W PyProof.Rows
open PySem.SeqAt
section
variable {X : Cx}
end
end L2
namespace L2
open PySem
section
variable {X : Cx}
end
section
variable {X : Cx}
theorem lenS {α : Type} {l : List α} {n : Nat} (h : l.length = n + 1) : ∃ a t, l = a :: t ∧ t.length = n := by
 cases l with
 | nil => exact absurd h (Nat.succ_ne_zero n).symm
 | cons a t => exact ⟨a, t, rfl, Nat.succ.inj h⟩
theorem len1 {α : Type} {l : List α} (h : l.length = 1) : ∃ a, l = [a] := by
 obtain ⟨a, t, rfl, h'⟩ := lenS h
 exact ⟨a, congrArg _ (List.length_eq_zero_iff.mp h')⟩
theorem len2 {α : Type} {l : List α} (h : l.length = 2) : ∃ a b, l = [a, b] := by
 obtain ⟨a, t, rfl, h'⟩ := lenS h
 obtain ⟨b, rfl⟩ := len1 h'
 exact ⟨a, b, rfl⟩
theorem len3 {α : Type} {l : List α} (h : l.length = 3) : ∃ a b c, l = [a, b, c] := by
 obtain ⟨a, t, rfl, h'⟩ := lenS h
 obtain ⟨b, c, rfl⟩ := len2 h'
 exact ⟨a, b, c, rfl⟩
theorem len4 {α : Type} {l : List α} (h : l.length = 4) : ∃ a b c d, l = [a, b, c, d] := by
 obtain ⟨a, t, rfl, h'⟩ := lenS h
 obtain ⟨b, c, d, rfl⟩ := len3 h'
 exact ⟨a, b, c, d, rfl⟩
theorem len5 {α : Type} {l : List α} (h : l.length = 5) : ∃ a b c d e, l = [a, b, c, d, e] := by
 obtain ⟨a, t, rfl, h'⟩ := lenS h
 obtain ⟨b, c, d, e, rfl⟩ := len4 h'
 exact ⟨a, b, c, d, e, rfl⟩
theorem bind1 {F : List Value → Prop} (h : ∀ a, F [a]) : ∀ us : List Value, us.length = 1 → F us := fun us hl => by
 obtain ⟨a, rfl⟩ := len1 hl
 exact h a
theorem Qbx {F : List Value → Prop} (h : ∀ a b, F [a, b]) : ∀ us : List Value, us.length = 2 → F us := fun us hl => by
 obtain ⟨a, b, rfl⟩ := len2 hl
 exact h a b
theorem Qdw {F : List Value → Prop} (h : ∀ a b c, F [a, b, c]) : ∀ us : List Value, us.length = 3 → F us := fun us hl => by
 obtain ⟨a, b, c, rfl⟩ := len3 hl
 exact h a b c
theorem bind5 {F : List Value → Prop} (h : ∀ a b c d e, F [a, b, c, d, e]) : ∀ us : List Value, us.length = 5 → F us := fun us hl => by
 obtain ⟨a, b, c, d, e, rfl⟩ := len5 hl
 exact h a b c d e
theorem Zk {s1 s2 s3 : TS} {D : Ends} {σ : St} {H : Hp} (h : let r3 : TS := s3; let r2 : TS := tSeq s2 r3; tSeq s1 r2 D σ H) : (tSeq s1 (tSeq s2 (s3))) D σ H := h
theorem Qfz {s1 s2 s3 s4 : TS} {D : Ends} {σ : St} {H : Hp} (h : let r4 : TS := s4; let r3 : TS := tSeq s3 r4; let r2 : TS := tSeq s2 r3; tSeq s1 r2 D σ H) : (tSeq s1 (tSeq s2 (tSeq s3 (s4)))) D σ H := h
theorem Qga {s1 s2 s3 s4 s5 : TS} {D : Ends} {σ : St} {H : Hp} (h : let r5 : TS := s5; let r4 : TS := tSeq s4 r5; let r3 : TS := tSeq s3 r4; let r2 : TS := tSeq s2 r3; tSeq s1 r2 D σ H) : (tSeq s1 (tSeq s2 (tSeq s3 (tSeq s4 (s5))))) D σ H := h
theorem Qgb {s1 s2 s3 s4 s5 s6 : TS} {D : Ends} {σ : St} {H : Hp} (h : let r6 : TS := s6; let r5 : TS := tSeq s5 r6; let r4 : TS := tSeq s4 r5; let r3 : TS := tSeq s3 r4; let r2 : TS := tSeq s2 r3; tSeq s1 r2 D σ H) : (tSeq s1 (tSeq s2 (tSeq s3 (tSeq s4 (tSeq s5 (s6)))))) D σ H := h
theorem Qgc {s1 s2 s3 s4 s5 s6 s7 : TS} {D : Ends} {σ : St} {H : Hp} (h : let r7 : TS := s7; let r6 : TS := tSeq s6 r7; let r5 : TS := tSeq s5 r6; let r4 : TS := tSeq s4 r5; let r3 : TS := tSeq s3 r4; let r2 : TS := tSeq s2 r3; tSeq s1 r2 D σ H) : (tSeq s1 (tSeq s2 (tSeq s3 (tSeq s4 (tSeq s5 (tSeq s6 (s7))))))) D σ H := h
end
end L2
namespace L2
open PySem PySem.Spec PyProof.Rows PySem.SeqAt
section
variable {X : Cx} {pins : List (Addr × Obj)} {σ : St} {H : Hp} {s : Shared}
open PySem.W in
end
section
variable {X : Cx}
end
end L2
namespace Nb
open PySem L2
abbrev Row := L2.Row
def ledR (t : List Nat) (n : Nat) (r : Row) : Row := (put r.1 t n, r.2)
def Qdx (cs : List Int) (t : List Nat) (n : Nat) : Prop := ∀ i, i < n → cs.getD i 0 = cs.getD (t.getD i 0) 0
def Wg (rs : List Row) (cs : List Int) (t : List Nat) (n : Nat) : Prop := Qdx cs t n ∧ (rs.map (ledR t n)).Perm rs
theorem Zs : ∀ {xs ys : List Row}, xs.Perm ys → xs.Pairwise (fun x y => Xe y x = false) → ys.Pairwise (fun x y => Xe y x = false) → xs = ys
 | [], ys, p, _, _ => (List.nil_perm.mp p).symm
 | x :: xs, [], p, _, _ => absurd (List.perm_nil.mp p) (by simp)
 | x :: xs, y :: ys, p, h1, h2 => by
  obtain ⟨a1, a2⟩ := List.pairwise_cons.mp h1
  obtain ⟨b1, b2⟩ := List.pairwise_cons.mp h2
  have exy : x = y := by
   have mx : x ∈ y :: ys := p.mem_iff.mp yX
   have my : y ∈ x :: xs := p.mem_iff.mpr yX
   rcases zZ.mp mx with e | mx
   ·exact e
   ·rcases zZ.mp my with e | my
    ·exact e.symm
    ·exact Jz (b1 x mx) (a1 y my) |>.symm ▸ rfl
  subst exy
  rw [Zs (p.cons_inv) a2 b2]
theorem Yt {α β : Type} {f : α → β} (hf : ∀ a b, f a = f b → a = b) : ∀ {xs ys : List α}, xs.map f = ys.map f → xs = ys
 | [], [], _ => rfl
 | [], y :: ys, h => by simp at h
 | x :: xs, [], h => by simp at h
 | x :: xs, y :: ys, h => by
  rw [zK, zK] at h
  injection h with h1 h2
  rw [hf _ _ h1, Yt hf h2]
theorem Qgd {r q : Row} (h : rowD r = rowD q) : r = q := by
 unfold rowD at h
 injection h with h
 injection h with h1 h2
 injection h1 with h1
 injection h2 with h2 _
 injection h2 with h2
 exact Prod.ext (Yt (fun a b e => by injection e) h1) h2
theorem Qdy {xs ys : List Row} : (D.lst (xs.map rowD) = D.lst (ys.map rowD)) ↔ xs = ys := by
 constructor
 ·intro h
  injection h with h
  exact Yt (fun a b e => Qgd e) h
 ·rintro rfl; rfl
theorem Qdz {x y : Int} [i : Decidable (V.int x = V.int y)] : decide (V.int x = V.int y) = decide (x = y) := decide_eq_decide.mpr ⟨fun h => V.int.inj h, fun h => congrArg V.int h⟩
theorem Qge {ns : List Int} {i : Nat} {n : Int} (e : ns[i]? = some n) : ns.getD i 0 = n := by rw [jJ, e]; rfl
theorem Qgf {ns : List Nat} {i : Nat} {n : Nat} (e : ns[i]? = some n) : ns.getD i 0 = n := by rw [jJ, e]; rfl
theorem atK6 {cs : List Int} {k : Nat} (h : k < cs.length) : atI (cs.map V.int) ((k : Nat) : Int) = some (.int (cs.getD k 0)) :=
 Qbs (by rw [kQ, jJ, gE h]; rfl)
theorem getT {n : Nat} {t : List Nat} (T : IsTurn n t) {i : Nat} (h : i < n) : t[i]? = some (t.getD i 0) ∧ t.getD i 0 < n := by
 have hl : i < t.length := by rw [T.length]; exact h
 have e : t[i]? = some (t.getD i 0) := by rw [jJ, gE hl]; rfl
 exact ⟨e, T.lt e⟩
theorem Wy {n : Nat} {t : List Nat} (T : IsTurn n t) (r : Row) : (ledR t n r).1.length = n := Wp T
def ledM (t : List Nat) (n : Nat) (r : Row) : Nat → Row
 | 0 => r
 | m + 1 => ledR t n (ledM t n r m)
theorem Qea {n : Nat} {t : List Nat} (T : IsTurn n t) {r : Row} (hl : r.1.length = n) : ∀ m, ledM t n r m = (put r.1 (pw n t m) n, r.2)
 | 0 => by show r = (put r.1 (List.range n) n, r.2); rw [Vv hl]
 | m + 1 => by
  show ledR t n (ledM t n r m) = _
  rw [Qea T hl m]
  show (put (put r.1 (pw n t m) n) t n, r.2) = (put r.1 (after (pw n t m) t) n, r.2)
  rw [Qij (Zd T m) T hl]
theorem Kz {n : Nat} {t : List Nat} (T : IsTurn n t) {r : Row} (hl : r.1.length = n) : ∀ m, (ledM t n r m).1.length = n
 | 0 => hl
 | m + 1 => Wy T _
theorem Wh {K : Fg} {H : Hp} {vs : List V} {rs : List Row} {t : Addr} {r : Row} (h : RowsAre K H vs rs) (z : RowAt K H t r) : RowsAre K H (vs ++ [.ref t]) (rs ++ [r]) := RowsAre.snoc h z
theorem Qeb {K : Fg} {H : Hp} {vs ws : List V} {rs qs : List Row} (h1 : RowsAre K H vs rs) (h2 : RowsAre K H ws qs) : RowsAre K H (vs ++ ws) (rs ++ qs) := by
 unfold RowsAre at *
 induction h1 with
 | nil => exact h2
 | cons a b ih => exact .cons a ih
theorem Xg {K : Fg} {H H' : Hp} {vs : List V} {rs : List Row} (e : Same H H') (h : RowsAre K H vs rs) : RowsAre K H' vs rs := h.imp fun _ _ z => z.same e
theorem Wi {K : Fg} {H : Hp} {D : Addr} {ys zs vs : List V} {rs : List Row} (hD : H D = some (.lst ys)) (h : RowsAre K H vs rs) : RowsAre K (upd H D (.lst zs)) vs rs := h.imp fun _ _ z => z.upd hD
theorem Qgg {K : Fg} {H : Hp} {t : Addr} {r : Row} (z : RowAt K H t r) : RowsAre K H [.ref t] [r] := .cons ⟨t, rfl, z⟩ .nil
theorem Qit {t1 t2 : TS} {D : Ends} {σ : St} {H : Hp} (Pv : St → Hp → Prop) (h2 : ∀ σ' H', Pv σ' H' → t2 D σ' H') (h1 : (∀ σ' H', Pv σ' H' → t2 D σ' H') → t1 { D with nx := t2 D } σ H) : tSeq t1 t2 D σ H := h1 h2
theorem Qgh {t1 t2 : TS} {D : Ends} {i : Nat} {x : V} {σ : St} {H : Hp} (Pv : St → Hp → Prop) (h2 : ∀ σ' H', Pv σ' H' → t2 D σ' H') (h1 : (∀ σ' H', Pv σ' H' → t2 D σ' H') → t1 { D with nx := t2 D } (σ.set i (some x)) H) : Qhr i x σ H ({ D with nx := tSeq t1 t2 D } : Ends).nx := h1 h2
def spKT (K : Fg) : Sp := fun vs H Q _ => ∃ (p u : Addr) (rs : List Row) (cs : List Int) (n : Nat) (t : List Nat), vs = [.ref p, .ref u] ∧ ProbAt K H p rs cs ∧ SqL K H u ((tI t).map V.int) ∧ IsTurn n t ∧ n ≤ 100 ∧ (∀ r ∈ rs, r.1.length = n) ∧ cs.length = n ∧ rs.length < 60 ∧
 ∀ (c : Bool) (H' : Hp), Same H H' → (c = true ↔ Wg rs cs t n) → Q (.bl c) H'
theorem Qbd {ws : List V} {v : V} (h : ws[ws.length - 1]? = some v) (h0 : 0 < ws.length) : atI ws (-1) = some v := by
 unfold atI ixN
 rw [if_neg (by omega), if_pos (by omega)]
 show ws[((-1 : Int) + (ws.length : Int)).toNat]? = _
 rw [show ((-1 : Int) + (ws.length : Int)).toNat = ws.length - 1 by omega]
 exact h
def exR (i j : Nat) (r : Row) : Row := ((r.1.set i (r.1.getD j 0)).set j (r.1.getD i 0), r.2)
theorem Zt (i j : Nat) (r : Row) : (exR i j r).1.length = r.1.length := by show ((r.1.set i _).set j _).length = _; rw [wJ, wJ]
theorem Qbe {l : List Int} {i p : Nat} {x : Int} (hi : i < l.length) : (l.set i x).getD p 0 = if i = p then x else l.getD p 0 := by
 rw [jJ, jJ]
 by_cases e : i = p
 ·subst e; rw [if_pos rfl, jXc hi]; rfl
 ·rw [if_neg e, jYd e]
theorem Ze {i j p : Nat} {r : Row} (hi : i < r.1.length) (hj : j < r.1.length) : (exR i j r).1.getD p 0 = if j = p then r.1.getD i 0 else if i = p then r.1.getD j 0 else r.1.getD p 0 := by
 show ((r.1.set i _).set j _).getD p 0 = _
 rw [Qbe (by rw [wJ]; exact hj), Qbe hi]
theorem Jd {a b : List Int} (hl : a.length = b.length) (h : ∀ p, p < a.length → a.getD p 0 = b.getD p 0) : a = b := by
 refine List.ext_getElem hl fun p h1 h2 => ?_
 have := h p h1
 rw [jJ, jJ, gE h1, gE h2] at this
 exact this
theorem Wz {i j : Nat} {r : Row} (hi : i < r.1.length) (hj : j < r.1.length) : exR i j (exR i j r) = r := by
 have hl := Zt i j r
 refine Prod.ext (Jd (by rw [Zt, Zt]) fun p hp => ?_) rfl
 rw [Ze (by omega) (by omega), Ze hi hj, Ze hi hj, Ze hi hj]
 by_cases e1 : j = p
 ·subst e1
  rw [if_pos rfl, if_pos rfl]
  by_cases e2 : j = i
  ·rw [if_pos e2, e2]
  ·rw [if_neg e2]
 ·rw [if_neg e1, if_neg e1]
  by_cases e2 : i = p
  ·subst e2
   rw [if_pos rfl, if_pos rfl]
  ·rw [if_neg e2, if_neg e2]
theorem Qgi {i j : Nat} {r : Row} (hi : i < r.1.length) (hj : j < r.1.length) (e : r.1.getD i 0 = r.1.getD j 0) : exR i j r = r := by
 refine Prod.ext (Jd (by rw [Zt]) fun p hp => ?_) rfl
 rw [Ze hi hj]
 by_cases e1 : j = p
 ·subst e1; rw [if_pos rfl, e]
 ·rw [if_neg e1]
  by_cases e2 : i = p
  ·subst e2; rw [if_pos rfl, e]
  ·rw [if_neg e2]
def swT (n i j : Nat) : List Nat := ((List.range n).set i j).set j i
theorem Qiu : ((List.range 8).all fun n => (List.range n).all fun i => (List.range n).all fun j => (swT n i j).isPerm (List.range n) && (List.range n).all fun p => decide ((swT n i j).getD p 0 = if j = p then i else if i = p then j else p)) = true := by decide +kernel
theorem Qbf {n i j : Nat} (hn : n ≤ 7) (hi : i < n) (hj : j < n) : IsTurn n (swT n i j) ∧ ∀ p, p < n → (swT n i j).getD p 0 = if j = p then i else if i = p then j else p := by
 have h1 := yW.mp Qiu n (yV.mpr (by omega))
 have h2 := yW.mp h1 i (yV.mpr hi)
 have h3 := yW.mp h2 j (yV.mpr hj)
 obtain ⟨a, b⟩ := Bool.and_eq_true_iff.mp h3
 exact ⟨⟨List.isPerm_iff.mp a⟩, fun p hp => xV (yW.mp b p (yV.mpr hp))⟩
theorem led_sw {n i j : Nat} (hn : n ≤ 7) (hi : i < n) (hj : j < n) {r : Row} (hl : r.1.length = n) : ledR (swT n i j) n r = exR i j r := by
 obtain ⟨T, g⟩ := Qbf hn hi hj
 have hi' : i < r.1.length := by omega
 have hj' : j < r.1.length := by omega
 refine Prod.ext (Jd (by rw [Wy T, Zt, hl]) fun p hp => ?_) rfl
 rw [Wy T] at hp
 have key : ∀ q, q < n → (swT n i j).getD q 0 = p → (ledR (swT n i j) n r).1.getD p 0 = r.1.getD q 0 := fun q hq e => by
  obtain ⟨et, _⟩ := getT T hq
  rw [e] at et
  have := Kw T hl n (jK _) q p hq et
  show (put r.1 (swT n i j) n).getD p 0 = _
  rw [jJ, jJ, this]
 rw [Ze hi' hj']
 by_cases e1 : j = p
 ·subst e1
  rw [if_pos rfl]
  refine key i hi ?_
  rw [g i hi]
  by_cases e2 : j = i
  ·rw [if_pos e2, e2]
  ·rw [if_neg e2, if_pos rfl]
 ·rw [if_neg e1]
  by_cases e2 : i = p
  ·subst e2
   rw [if_pos rfl]
   refine key j hj ?_
   rw [g j hj, if_pos rfl]
  ·rw [if_neg e2]
   refine key p hp ?_
   rw [g p hp, if_neg e1, if_neg e2]
def cnt (rs : List Row) (r : Row) : Nat := rs.countP fun x => decide (x = r)
theorem cnt_pos {rs : List Row} {r : Row} : 0 < cnt rs r ↔ r ∈ rs := by
 unfold cnt
 rw [List.countP_pos_iff]
 constructor
 ·rintro ⟨x, hx, e⟩; rw [← xV e]; exact hx
 ·intro h; exact ⟨r, h, kW rfl⟩
theorem Qgj (rs : List Row) (x r : Row) : cnt (rs ++ [x]) r = cnt rs r + if x = r then 1 else 0 := by
 unfold cnt
 rw [List.countP_append, List.countP_cons, List.countP_nil]
 by_cases e : x = r
 ·rw [if_pos e, if_pos (kW e)]
 ·rw [if_neg e, if_neg (by rw [kJ e]; exact jW)]
theorem Zl (rs : List Row) (r : Row) : cnt rs r = rs.count r := by
 unfold cnt List.count
 congr 1
 funext x
 rw [xJ, decide_eq_true_iff, beq_iff_eq]
theorem Qec {i j n : Nat} {rs : List Row} (hi : i < n) (hj : j < n) (hl : ∀ r ∈ rs, r.1.length = n) {r : Row} (hr : r.1.length = n) : cnt (rs.map (exR i j)) r = cnt rs (exR i j r) := by
 unfold cnt
 rw [List.countP_map]
 refine List.countP_congr fun x hx => ?_
 have lx := hl x hx
 show decide (exR i j x = r) = true ↔ decide (x = exR i j r) = true
 rw [decide_eq_true_iff, decide_eq_true_iff]
 constructor
 ·rintro rfl; rw [Wz (by omega) (by omega)]
 ·rintro rfl; rw [Wz (by omega) (by omega)]
def Qgk (rs : List Row) (i j : Nat) : Prop := ∀ r ∈ rs, r.1.getD i 0 ≠ r.1.getD j 0 → cnt rs (exR i j r) = cnt rs r
theorem Qgl {i j n : Nat} {rs : List Row} (hi : i < n) (hj : j < n) (hl : ∀ r ∈ rs, r.1.length = n) : Qgk rs i j ↔ (rs.map (exR i j)).Perm rs := by
 have a : Qgk rs i j ↔ ∀ r ∈ rs, cnt rs (exR i j r) = cnt rs r := by
  constructor
  ·intro h r hr
   by_cases e : r.1.getD i 0 = r.1.getD j 0
   ·rw [Qgi (by have := hl r hr; omega) (by have := hl r hr; omega) e]
   ·exact h r hr e
  ·intro h r hr _; exact h r hr
 rw [a, kQc]
 constructor
 ·intro h r
  rw [← Zl, ← Zl]
  by_cases hr : r.1.length = n
  ·rw [Qec hi hj hl hr]
   by_cases m : r ∈ rs
   ·exact h r m
   ·have z : cnt rs r = 0 := jQb fun z => m (cnt_pos.mp z)
    rw [z]
    refine jQb fun z2 => ?_
    have := h _ (cnt_pos.mp z2)
    rw [Wz (by omega) (by omega)] at this
    omega
  ·have z1 : cnt rs r = 0 := jQb fun z => hr (hl r (cnt_pos.mp z))
   have z2 : cnt (rs.map (exR i j)) r = 0 := jQb fun z => by
    obtain ⟨x, hx, rfl⟩ := jZe.mp (cnt_pos.mp z)
    exact hr (by rw [Zt]; exact hl x hx)
   rw [z1, z2]
 ·intro h r hr
  have := h r
  rw [← Zl, ← Zl, Qec hi hj hl (hl r hr)] at this
  exact this
def Zx (rs : List Row) (i : Nat) : List (Int × Int) := rs.map fun r => (r.2, r.1.getD i 0)
theorem Qed {n i j : Nat} (hn : n ≤ 7) (hi : i < n) (hj : j < n) {rs : List Row} {cs : List Int} (hl : ∀ r ∈ rs, r.1.length = n) : ((cs.getD i 0 = cs.getD j 0 ∧ (Zx rs i).Perm (Zx rs j)) ∧ Qgk rs i j) ↔ Wg rs cs (swT n i j) n := by
 obtain ⟨T, g⟩ := Qbf hn hi hj
 have em : rs.map (ledR (swT n i j) n) = rs.map (exR i j) := jZd fun r hr => led_sw hn hi hj (hl r hr)
 have co : Qdx cs (swT n i j) n ↔ cs.getD i 0 = cs.getD j 0 := by
  constructor
  ·intro h
   have := h j hj
   rw [g j hj, if_pos rfl] at this
   exact this.symm
  ·intro h p hp
   rw [g p hp]
   by_cases e1 : j = p
   ·subst e1; rw [if_pos rfl, h]
   ·rw [if_neg e1]
    by_cases e2 : i = p
    ·subst e2; rw [if_pos rfl, h]
    ·rw [if_neg e2]
 unfold Wg
 rw [em, co, Qgl hi hj hl]
 constructor
 ·rintro ⟨⟨a, _⟩, c⟩; exact ⟨a, c⟩
 ·rintro ⟨a, c⟩
  refine ⟨⟨a, ?_⟩, c⟩
  have := c.map fun r : Row => (r.2, r.1.getD j 0)
  rw [jKa] at this
  have e : rs.map ((fun r : Row => (r.2, r.1.getD j 0)) ∘ exR i j) = Zx rs i := jZd fun r hr => by
   have lr := hl r hr
   show ((exR i j r).2, (exR i j r).1.getD j 0) = (r.2, r.1.getD i 0)
   rw [Ze (by omega) (by omega), if_pos rfl]
   rfl
  rw [e] at this
  exact this
theorem Qaa {xs ys : List (Int × Int)} (p : xs.Perm ys) (h1 : xs.Pairwise (fun x y => Xe (prR y) (prR x) = false)) (h2 : ys.Pairwise (fun x y => Xe (prR y) (prR x) = false)) : xs = ys :=
 Yt (fun _ _ => Qdu) (Zs (p.map prR) (jJd.mpr h1) (jJd.mpr h2))
def inP (f : Nat → Nat → Bool) (i k : Nat) : List (Int × Int) := ((List.range k).filter fun d => f i (i + 1 + d)).map fun d => ((i : Int), ((i + 1 + d : Nat) : Int))
def outP (f : Nat → Nat → Bool) (n i : Nat) : List (Int × Int) := (List.range i).flatMap fun a => inP f a (n - (a + 1))
theorem Je (f : Nat → Nat → Bool) (i k : Nat) : inP f i (k + 1) = inP f i k ++ if f i (i + 1 + k) = true then [((i : Int), ((i + 1 + k : Nat) : Int))] else [] := by
 unfold inP
 rw [jQd, List.filter_append, zW, List.filter_cons, List.filter_nil]
 by_cases e : f i (i + 1 + k) = true
 ·rw [if_pos e, if_pos e]; rfl
 ·rw [if_neg e, if_neg e]; rfl
theorem Ke (f : Nat → Nat → Bool) (n i : Nat) : outP f n (i + 1) = outP f n i ++ inP f i (n - (i + 1)) := by
 unfold outP
 rw [jQd, List.flatMap_append]
 simp
theorem Qab (f : Nat → Nat → Bool) (i k : Nat) : (inP f i k).length ≤ k := by
 unfold inP
 rw [jX]
 exact wK (List.length_filter_le _ _) (Nat.le_of_eq xX)
theorem Va (f : Nat → Nat → Bool) (n i : Nat) : (outP f n i).length ≤ i * n := by
 induction i with
 | zero => exact wV _
 | succ i ih =>
  rw [Ke, yY, Nat.succ_mul]
  have := Qab f i (n - (i + 1))
  omega
theorem Vb {K : Fg} {H : Hp} {vs : List V} {ps : List (Int × Int)} {v : V} {p : Int × Int} (h : Xc K H vs ps) (z : PrAt K H v p) : Xc K H (vs ++ [v]) (ps ++ [p]) := by
 induction h with
 | nil => exact .cons z .nil
 | cons q t ih => exact .cons q ih
theorem Qee {K : Fg} {H H' : Hp} {vs : List V} {ps : List (Int × Int)} (f : ∀ a xs, SqT K H a xs → SqT K H' a xs) (h : Xc K H vs ps) : Xc K H' vs ps := Paired.imp' (fun _ _ ⟨a, e, z⟩ => ⟨a, e, f _ _ z⟩) h
theorem Xu {K : Fg} {H H' : Hp} {vs : List V} {ps : List (Int × Int)} (e : Same H H') (h : Xc K H vs ps) : Xc K H' vs ps := Qee (fun _ _ z => e.tup z) h
theorem Vc {K : Fg} {H : Hp} {D : Addr} {ys zs vs : List V} {ps : List (Int × Int)} (hD : H D = some (.lst ys)) (h : Xc K H vs ps) : Xc K (upd H D (.lst zs)) vs ps := Qee (fun _ _ z => Yz hD z) h
def prD (p : Int × Int) : D := .tup [.int p.1, .int p.2]
theorem Jf {K : Fg} {H : Hp} {l : Addr} {vs : List V} {ps : List (Int × Int)} (hl : SqL K H l vs) (h : Xc K H vs ps) : HasD K H (.ref l) (.lst (ps.map prD)) := by
 refine .lst hl (by rw [jX]; exact Paired.length h) fun i v x e1 e2 => ?_
 obtain ⟨p, ep, a, rfl, z⟩ := Paired.getR h e1
 rw [kQ, ep] at e2
 cases e2
 exact pairD z (.int _) (.int _)
theorem Qbg {n : Nat} (ps qs : List (Int × Int)) : Alike (n + 2) (.lst (ps.map prD)) (.lst (qs.map prD)) := by
 refine .lst fun i x y e1 e2 => ?_
 rw [kQ] at e1 e2
 obtain ⟨a, _, rfl⟩ := yK.mp e1
 obtain ⟨b, _, rfl⟩ := yK.mp e2
 exact Zj (.int _ _) (.int _ _)
theorem prsD_inj {xs ys : List (Int × Int)} : (D.lst (xs.map prD) = D.lst (ys.map prD)) ↔ xs = ys := by
 constructor
 ·intro h
  injection h with h
  refine Yt (fun a b e => ?_) h
  unfold prD at e
  injection e with e
  injection e with e1 e2
  injection e1 with e1
  injection e2 with e2 _
  injection e2 with e2
  exact Prod.ext e1 e2
 ·rintro rfl; rfl
def Wj (rs : List Row) (kvs : List (Row × V)) : Prop := ∀ r, valV kvs r = if r ∈ rs then some (.int (cnt rs r : Nat)) else none
theorem Qef : Wj [] [] := fun r => by rw [if_neg (fun z => nomatch z)]; rfl
theorem Qby {rs : List Row} {kvs : List (Row × V)} (h : Wj rs kvs) (x : Row) : ∃ z : Int, (valV kvs x).getD (.int 0) = .int z ∧ Wj (rs ++ [x]) (putK kvs x (.int (z + 1))) := by
 have hx := h x
 refine ⟨(cnt rs x : Nat), ?_, fun r => ?_⟩
 ·rw [hx]
  by_cases m : x ∈ rs
  ·rw [if_pos m]; rfl
  ·rw [if_neg m]
   have : cnt rs x = 0 := jQb fun z => m (cnt_pos.mp z)
   rw [this]; rfl
 ·rw [Qff, Qgj]
  by_cases e : r = x
  ·subst e
   rw [if_pos rfl, if_pos (jQc.mpr (.inr (jQa.mpr rfl))), if_pos rfl]
   rfl
  ·rw [if_neg e, h r, if_neg (fun z : x = r => e z.symm)]
   by_cases m : r ∈ rs
   ·rw [if_pos m, if_pos (jQc.mpr (.inl m))]; rfl
   ·rw [if_neg m, if_neg (fun z => (jQc.mp z).elim m fun y => e (jQa.mp y))]
theorem Qeg {rs : List Row} {kvs : List (Row × V)} (h : Wj rs kvs) {p : Row × V} (hp : p ∈ kvs) : p.1 ∈ rs := by
 refine Classical.byContradiction fun m => ?_
 have := h p.1
 rw [if_neg m] at this
 have s : (valV kvs p.1).isSome = true := by rw [← Ys]; exact jJe.mpr ⟨p, hp, kW rfl⟩
 rw [this] at s
 cases s
theorem Qeh {rs : List Row} {kvs : List (Row × V)} (h : Wj rs kvs) {r : Row} (hr : r ∈ rs) : ∃ p ∈ kvs, p.1 = r := by
 have := h r
 rw [if_pos hr] at this
 have s : (valV kvs r).isSome = true := by rw [this]; rfl
 rw [← Ys] at s
 obtain ⟨p, hp, e⟩ := jJe.mp s
 exact ⟨p, hp, xV e⟩
def top (i : Nat) : Stmt := PySem.Challenge.pw_nonebetter_k27_choices_exchanged.main.body.getD i (.Pass ⟨0, 0, 0, 0⟩)
abbrev Qbh : Stmt := top 6
abbrev Qgm : Stmt := top 7
abbrev Qgn : Stmt := top 8
abbrev Qgo : Stmt := top 9
abbrev Qbi : Stmt := top 10
abbrev Zm : Stmt := top 11
abbrev Qgp : Stmt := top 12
def Qhg : Sp := fun vs H Q _ => ∃ c k : Int, vs = [.int c, .int k] ∧ 0 ≤ k ∧ k ≤ 1000000 ∧ ∀ z : Int, 0 ≤ z → z < 2147483587 → Q (.int z) H
def Qhh (K : Fg) : Sp := fun vs H Q _ => ∃ (a : Addr) (ns : List Int) (k n : Int), vs = [.ref a, .int k, .int n] ∧ SqL K H a (ns.map V.int) ∧ 0 ≤ k ∧ k ≤ 1000 ∧ 1 ≤ n ∧ n ≤ 1000 ∧ ∀ z : Int, Q (.int z) H
def Qei (K : Fg) : Sp := fun vs H Q _ => ∃ (x many : Int) (g : Bool), vs = [.int x, .int many, .bl g] ∧ 0 ≤ many ∧ many ≤ 1000 ∧
 ∀ (t : Addr) (r : List Int × Int) (H' : Hp), Same H H' → RowAt K H' t r → (r.1.length : Int) = many → Q (.ref t) H'
def Kf (K : Fg) : Sp := fun vs H Q _ => ∃ (a : Addr) (ns : List Int) (many count : Int), vs = [.ref a, .int many, .int count] ∧ SqL K H a (ns.map V.int) ∧ 0 ≤ many ∧ many ≤ 100 ∧ 0 ≤ count ∧ count ≤ 100 ∧
 ∀ (t : Addr) (rs : List (List Int × Int)) (cs : List Int) (H' : Hp), Same H H' → ProbAt K H' t rs cs → (∀ r ∈ rs, (r.1.length : Int) = many) → (cs.length : Int) = many → (rs.length : Int) = count → Q (.ref t) H'
def Qhi (K : Fg) : Sp := fun vs H Q _ => ∃ (t : Addr) (rs : List (List Int × Int)) (cs : List Int), vs = [.ref t] ∧ ProbAt K H t rs cs ∧ rs.length ≤ 1000 ∧ ∀ t' H', Same H H' → ProbAt K H' t' rs cs → Q (.ref t') H'
theorem p18 : (10 : Int) ^ (18 : Int).toNat = 1000000000000000000 := by decide +kernel
theorem bigB {b : Int} (h0 : 0 < b) (h1 : b ≤ 2000000000000000000) : b ≠ 0 ∧ Big b := ⟨by omega, zY (show b.natAbs ≤ 2000000000000000000 by omega) (by decide +kernel)⟩
theorem Qhj (x : Int) (hx : 0 < x) (hx2 : x ≤ 100) (g : Bool) : ∃ b : Int, atI [V.int x, V.int (2 * (10 : Int) ^ (18 : Int).toNat - 1)] (if g = true then 1 else 0) = some (.int b) ∧ 0 < b ∧ b ≤ 2000000000000000000 := by
 rw [p18]
 cases g
 ·exact ⟨x, rfl, hx, by omega⟩
 ·exact ⟨2 * 1000000000000000000 - 1, rfl, by decide, by decide⟩
def Qhk (K : Fg) : Sp := fun vs H Q _ => ∃ (r : Addr) (row : Row) (i j : Nat), vs = [.ref r, .int (i : Int), .int (j : Int)] ∧ RowAt K H r row ∧ i < row.1.length ∧ j < row.1.length ∧ row.1.length ≤ 1000 ∧ ∀ (r' : Addr) (H' : Hp), Same H H' → RowAt K H' r' (exR i j row) → Q (.ref r') H'
def Wk (P : Program) (w : World) (K : Fg) : Sp := fun vs H Q _ => ∃ (l : Addr) (us : List V) (rs : List Row), vs = [.ref l] ∧ SqL K H l us ∧ RowsAre K H us rs ∧ rs.length ≤ 1000 ∧ ∀ (d : Addr) (kvs : List (Row × V)) (H' : Hp), Same H H' → RD P w K H' d kvs → Wj rs kvs → Q (.ref d) H'
def spMay (P : Program) (w : World) (K : Fg) : Sp := fun vs H Q _ => ∃ (d : Addr) (kvs : List (Row × V)) (rs : List Row) (i j n : Nat), vs = [.ref d, .int (i : Int), .int (j : Int)] ∧ RD P w K H d kvs ∧ Wj rs kvs ∧ (∀ r ∈ rs, r.1.length = n) ∧ i < n ∧ j < n ∧ n ≤ 1000 ∧ ∀ (c : Bool) (H' : Hp), Same H H' → (c = true ↔ Qgk rs i j) → Q (.bl c) H'
def Qhl (K : Fg) : Sp := fun vs H Q _ => ∃ (many z : Int), vs = [.int many, .int z] ∧ 0 ≤ many ∧ many ≤ 1000 ∧ ∀ (u : Addr) (t : List Nat) (H' : Hp), Same H H' → H' u = some (.lst ((tI t).map V.int)) → IsTurn many.toNat t → Q (.ref u) H'
def Qej (K : Fg) : Sp := fun vs H Q _ => ∃ (p u : Addr) (rs : List Row) (cs : List Int) (n : Nat) (t : List Nat), vs = [.ref p, .ref u] ∧ ProbAt K H p rs cs ∧ SqL K H u ((tI t).map V.int) ∧ IsTurn n t ∧ n ≤ 7 ∧ (∀ r ∈ rs, r.1.length = n) ∧ cs.length = n ∧ rs.length ≤ 3 ∧
 ∀ (p' : Addr) (rs' : List Row) (cs' : List Int) (H' : Hp), Same H H' → ProbAt K H' p' rs' cs' → (∀ r ∈ rs', r.1.length = n) → cs'.length = n → rs'.length ≤ 36 → Q (.ref p') H'
theorem Qgq {d : Addr} {ob : Obj} {xs : List (Rw2 × Addr × Value)} {g : TG} {tb : TS} {D : Ends} {σ : St} {H : Hp} (Pv : Nat → St → Hp → Prop) (h0 : Pv 0 σ H) (hl : ∀ i σ H, i ≤ xs.length → Pv i σ H → H d = some (RDo d ob))
  (hs : ∀ i q σ H, xs[i]? = some q → Pv i σ H → g (.ref q.2.1) σ H fun σ2 H2 => tb { D with nx := Pv (i + 1), ct := Pv (i + 1), bk := D.nx } σ2 H2) (hd : ∀ σ H, Pv xs.length σ H → D.nx σ H) :
  ∃ W : Nat → Nat → St → Hp → Prop, (∃ m, W 0 m σ H) ∧ ∀ i m σ H, W i m σ H →
   ((ItR d ob xs).stop i H ∧ D.nx σ H) ∨ ((ItR d ob xs).go i H ∧ ∃ N : St → Hp → Prop, (∀ σ' H', N σ' H' → ∃ m', m' < m ∧ W (i + 1) m' σ' H') ∧ ∀ x H', (ItR d ob xs).yld i H x H' → g x σ H' fun σ2 H2 => tb { D with nx := N, ct := N, bk := D.nx } σ2 H2) := by
 refine ⟨fun i m σ H => m = xs.length - i ∧ i ≤ xs.length ∧ Pv i σ H, ⟨xs.length, by simp, wV _, h0⟩, ?_⟩
 rintro i m σ H ⟨rfl, hi, p⟩
 have q := hl i σ H hi p
 by_cases hlt : i < xs.length
 ·refine .inr ⟨⟨q, hlt⟩, Pv (i + 1), fun σ' H' p' => ⟨xs.length - (i + 1), by omega, rfl, hlt, p'⟩, fun x H' y => ?_⟩
  obtain ⟨e, y, ey, rfl⟩ := y
  subst e
  exact hs i y σ _ ey p
 ·have e : i = xs.length := by omega
  subst e
  exact .inl ⟨⟨q, jK _⟩, hd σ H p⟩
section
variable {P : Program} {w : World} {K : Fg} {mg : Str → Option Value} {base : Heap}
theorem Qiv : FnScope ["_law_found"] ["_law_found"] (Qh Qbh) := ⟨rfl, rfl, rfl, by decide +kernel, rfl, by decide +kernel, by decide +kernel⟩
theorem Qiw (F : Fn K mg "_law_whole" Qbh) (M : Mg mg) : Cal P w K mg base 1 "_law_whole" ["_law_found"] (Qdf) := by
 refine Xz F Qiv (fun _ _ _ _ _ _ => bind1 (fun _ => rfl)) (fun vs H Q E h => ?_) (fun f cdv A outer s H vs Q E hr h => ?_)
 ·obtain ⟨z, rfl, _⟩ := h
  rfl
 obtain ⟨z, rfl, q⟩ := h
 refine ⟨_, (Qk (Xh (Qcd (Qv Qao rfl M.isinstance Xt (Qa (pv 0) (Qa (Qfe M.int_ Qcx) Qd))) (Qgx (pe_not (Qv Qao rfl M.isinstance Xt (Qa (pv 0) (Qa (Qfe M.bool_ Qid) Qd)))))))), ?_⟩
 refine ⟨_, rfl, _, "int", true, rfl, .inl ⟨rfl, rfl⟩, true, rfl, ?_⟩
 refine iteT ⟨_, rfl, _, "bool", false, rfl, .inr (.inl ⟨rfl, rfl⟩), false, rfl, q⟩
theorem scCell : FnScope ["_law_script", "_law_k"] ["_law_script", "_law_k"] (Qh Qgm) := ⟨rfl, rfl, rfl, by decide +kernel, rfl, by decide +kernel, by decide +kernel⟩
theorem okCell (F : Fn K mg "_law_cell_at" Qgm) (M : Mg mg) : Cal P w K mg base 1 "_law_cell_at" ["_law_script", "_law_k"] (Qay K) := by
 refine Xz F scCell (fun _ _ _ _ _ _ => Qbx (fun _ _ => rfl)) (fun vs H Q E h => ?_) (fun f cdv A outer s H vs Q E hr h => ?_)
 ·obtain ⟨a, ns, k, rfl, _⟩ := h
  rfl
 obtain ⟨a, ns, k, rfl, hS, h0, q⟩ := h
 refine ⟨_, (Qe (Kh (Xm op_lt (pv 1) (Qv Xd rfl M.len Jq (Qa (pv 0) Qd)) (Xs _)) (Qk (Xh (Qq Xn (pv 0) (pv 1) (fun _ _ => rfl)))) Ye)
  (Qk (Xh Qg))), ?_⟩
 refine ⟨_, rfl, _, rfl, a, _, rfl, .inl hS, _, _, rfl, rfl, _, rfl, ?_⟩
 refine ite2 (fun c => ?_) (fun c => ?_)
 ·obtain ⟨v, hv⟩ := atNs h0 (xV c)
  exact ⟨_, rfl, _, rfl, a, _, _, _, rfl, rfl, hS, hv, q v⟩
 ·exact q 0
theorem scMix2 : FnScope ["_law_cell", "_law_k", "_law_number"] ["_law_cell", "_law_k"] (Qh Qgn) := ⟨rfl, rfl, rfl, by decide +kernel, rfl, by decide +kernel, by decide +kernel⟩
theorem okMix2 (F : Fn K mg "_law_mixed" Qgn) (M : Mg mg) : Cal P w K mg base 1 "_law_mixed" ["_law_cell", "_law_k"] (Qhg) := by
 refine Xz F scMix2 (fun _ _ _ _ _ _ => Qbx (fun _ _ => rfl)) (fun vs H Q E h => ?_) (fun f cdv A outer s H vs Q E hr h => ?_)
 ·obtain ⟨c, k, rfl, _⟩ := h
  rfl
 obtain ⟨c, k, rfl, h0, h1, q⟩ := h
 refine ⟨_, (Qe (Qm (i := 2) scMix2.nd rfl (Or.inl rfl) (Ql Xw (Ql Xl (Ql Xl (Ql Zf (pv 0) Qg) (Ql Zf (Ql Zf (pv 1) (pv 1)) Qg)) Qg) Qg))
  (Qe (Qm (i := 2) scMix2.nd rfl (Or.inl rfl) (Ql Xw (Ql Zf (pv 2) (pv 2)) Qg))
  (Qk (Xh (Ql Xw (Ql Zf (pv 2) (pv 2)) Qg))))), ?_⟩
 refine Zk ?_
 intro rT3 rT2
 have b1 : ∀ x : Int, -(2 ^ 64) < x % 2147483647 ∧ x % 2147483647 < 2 ^ 64 := fun x => ⟨by omega, by omega⟩
 have b2 : ∀ x : Int, -(2 ^ 64) < x % 2147483629 ∧ x % 2147483629 < 2 ^ 64 := fun x => ⟨by omega, by omega⟩
 refine ⟨_, rfl, _, _, rfl, rfl, .inr ⟨by decide, by decide⟩, _, rfl, _, rfl, _, _, rfl, rfl, .inl ⟨by omega, by omega⟩, _, _, rfl, rfl, .inr ⟨by decide, by decide⟩, _, _, rfl, rfl, _, _, rfl, rfl, _, _, rfl, rfl, (by show (0 : Int) < _; decide +kernel), ?_⟩
 refine ⟨_, rfl, _, rfl, _, _, rfl, rfl, .inl (b1 _), _, _, rfl, rfl, (by show (0 : Int) < _; decide +kernel), ?_⟩
 refine ⟨_, rfl, _, rfl, _, _, rfl, rfl, .inl (b2 _), _, _, rfl, rfl, (by show (0 : Int) < _; decide +kernel), q _ (jZb _ (by decide)) (jXb _ (by decide))⟩
theorem scLeft : FnScope ["_law_script", "_law_k", "_law_count", "_law_left_here", "_law_j", "_law_found"] ["_law_script", "_law_k", "_law_count"] (Qh Qgo) := ⟨rfl, rfl, rfl, by decide +kernel, rfl, by decide +kernel, by decide +kernel⟩
theorem okLeft (F : Fn K mg "_law_left" Qgo) (M : Mg mg) (cl_cell_at : Cal P w K mg base 1 "_law_cell_at" ["_law_script", "_law_k"] (Qay K)) (cl_mixed : Cal P w K mg base 1 "_law_mixed" ["_law_cell", "_law_k"] (Qhg)) : Cal P w K mg base 2 "_law_left" ["_law_script", "_law_k", "_law_count"] (Qhh K) := by
 refine Xz F scLeft (fun _ _ _ _ _ _ => Qdw (fun _ _ _ => rfl)) (fun vs H Q E h => ?_) (fun f cdv A outer s H vs Q E hr h => ?_)
 ·obtain ⟨a, ns, k, n, rfl, _⟩ := h
  rfl
 obtain ⟨a, ns, k, n, rfl, hS, h0, h1, h2, h3, q⟩ := h
 refine ⟨_, (Qe (Qm (i := 3) scLeft.nd rfl (Or.inl rfl) (Xq cl_cell_at (hr.mono (by decide)) (Qa (pv 0) (Qa (Ql Xl Qg (pv 1)) Qd))))
  (Qe (Yb PassesOwn.never rfl (Qdo rfl M.range_ (Qa (Ql Xl (Ql Xl Qg (pv 1)) (pv 2)) (Qa (Qv (Qcj rfl) rfl M.min Qhc (Qa Qg (Qa (Qv Xd rfl M.len Jq (Qa (pv 0) Qd)) Qd))) (Qa (pv 2) Qd)))) (Qs (i := 4) scLeft.nd rfl (Or.inl rfl) (Or.inl rfl)) (Qk (Qm (i := 3) scLeft.nd rfl (Or.inl rfl) (Ql Xl (pv 3) (Xq cl_mixed (hr.mono (by decide)) (Qa (Qq Xn (pv 0) (pv 4) (fun _ _ => rfl)) (Qa (pv 4) Qd)))))))
  (Qe (Kh (Xm Qht (Ql Xw (Ql Yn (Xq cl_cell_at (hr.mono (by decide)) (Qa (pv 0) (Qa Qg Qd))) Qg) Qg) Qg (Xs _)) (Qk (Xh (pv 3))) Ye)
  (Qe (Qm (i := 5) scLeft.nd rfl (Or.inl rfl) Qg)
  (Qe (Yb PassesOwn.never rfl (Xj rfl M.range_ (Qa Qg Qd)) (Qs (i := 4) scLeft.nd rfl (Or.inl rfl) (Or.inl rfl)) (Qk (Qm (i := 5) scLeft.nd rfl (Or.inl rfl) (Ql Xl (Ql Zf (pv 5) Qg) (Xq cl_mixed (hr.mono (by decide)) (Qa (pv 3) (Qa (Ql Xl (pv 4) (Ql Zf Qg (pv 1))) Qd)))))))
  (Qk (Xh (pv 5)))))))), ?_⟩
 refine Qgb ?_
 intro rT6 rT5 rT4 rT3 rT2
 refine ⟨_, rfl, _, rfl, _, _, rfl, rfl, a, ns, _, rfl, hS, by omega, fun z => ?_⟩
 have mx : (if (((ns.map V.int).length : Nat) : Int) < 63 then (((ns.map V.int).length : Nat) : Int) else 63) ≤ 63 ∧ 0 ≤ (if (((ns.map V.int).length : Nat) : Int) < 63 then (((ns.map V.int).length : Nat) : Int) else 63) ∧ (if (((ns.map V.int).length : Nat) : Int) < 63 then (((ns.map V.int).length : Nat) : Int) else 63) ≤ (((ns.map V.int).length : Nat) : Int) := by
  split <;> omega
 refine ⟨_, rfl, _, _, rfl, rfl, _, rfl, _, _, rfl, rfl, _, rfl, _, _, rfl, .inl hS, _, _, rfl, _, rfl, ?_⟩
 generalize (if (((ns.map V.int).length : Nat) : Int) < 63 then (((ns.map V.int).length : Nat) : Int) else 63) = e at mx ⊢
 obtain ⟨m1, m2, m3⟩ := mx
 refine ⟨_, _, _, rfl, ⟨by omega, by omega, small3 (by omega) (by omega) (by omega) (by omega) (by omega) (by omega)⟩, Qbu (lo := 3 + k + n) (c := n) (n := (Builtin.Range.rangeSize (3 + k + n) e n).toNat) (fun i σ H1 => H1 = H ∧ ∃ (y : Int) (u : Option V), σ = [some (.ref a), some (.int k), some (.int n), some (.int y), u, none]) ⟨rfl, z, none, rfl⟩ ?_ ?_⟩
 ·rintro i σ H1 hi ⟨rfl, y, u, rfl⟩
  have lt := Qdp (show 0 < n by omega) hi
  have pn : 0 ≤ (i : Int) * n := Int.mul_nonneg (by omega) (by omega)
  obtain ⟨v, hv⟩ := atNs (ns := ns) (k := 3 + k + n + (i : Int) * n) (by omega) (by omega)
  exact ⟨_, rfl, _, rfl, _, rfl, a, _, _, _, rfl, rfl, hS, hv, _, rfl, v, _, rfl, by omega, by omega, fun x _ _ => ⟨_, _, rfl, rfl, rfl, _, _, rfl⟩⟩
 ·rintro σ H1 ⟨rfl, y, u, rfl⟩
  refine ⟨_, rfl, a, ns, 1, rfl, hS, by decide, fun c => ⟨_, _, rfl, rfl, ⟨by decide, by decide⟩, _, _, rfl, rfl, (by show (0 : Int) < _; decide +kernel), rfl, _, rfl, ite2 (fun _ => ⟨_, rfl, q y⟩) (fun _ => ?_)⟩⟩
  let Pv1 : Nat → St → Hp → Prop := fun i σ H2 => H2 = H1 ∧ ∃ (f : Int) (u : Option V), σ = [some (.ref a), some (.int k), some (.int n), some (.int y), u, some (.int f)]
  refine ⟨5, rfl, by decide, by decide, Xi (lo := 0) (n := (5 : Int).toNat) Pv1 ⟨rfl, 0, _, rfl⟩ ?_ ?_⟩
  ·rintro i σ H2 hi ⟨rfl, f, u, rfl⟩
   have hi' : i < 5 := hi
   exact ⟨_, rfl, _, _, rfl, rfl, .inr ⟨by decide, by decide⟩, _, rfl, _, rfl, _, rfl, _, _, rfl, rfl, .inl ⟨by decide, by decide⟩, _, _, rfl, rfl, y, _, rfl, by omega, by omega, fun x _ _ => ⟨_, _, rfl, rfl, rfl, _, _, rfl⟩⟩
  ·rintro σ H2 ⟨rfl, f, u, rfl⟩
   exact ⟨_, rfl, q f⟩
theorem scRow22 : FnScope ["_law_left_here", "_law_many", "_law_great", "_law_numbers", "_law_base", "_law_k"] ["_law_left_here", "_law_many", "_law_great"] (Qh Qbi) := ⟨rfl, rfl, rfl, by decide +kernel, rfl, by decide +kernel, by decide +kernel⟩
theorem Qix (F : Fn K mg "_law_row" Qbi) (M : Mg mg) : Cal P w K mg base 1 "_law_row" ["_law_left_here", "_law_many", "_law_great"] (Qei K) := by
 refine Xz F scRow22 (fun _ _ _ _ _ _ => Qdw (fun _ _ _ => rfl)) (fun vs H Q E h => ?_) (fun f cdv A outer s H vs Q E hr h => ?_)
 ·obtain ⟨x, many, g, rfl, _⟩ := h
  rfl
 obtain ⟨x, many, g, rfl, h0, h1, q⟩ := h
 refine ⟨_, (Qe (Qm (i := 3) scRow22.nd rfl (Or.inl rfl) (Yo Qd))
  (Qe (Qm (i := 4) scRow22.nd rfl (Or.inl rfl) (Qq Xn (Yo (Qa Qg (Qa (Ql Vf (Ql Zf Qg (Ql Qgz Qg Qg)) Qg) Qd))) (Qw Vg rfl M.int_ Qcx (Qa (pv 2) Qd)) (fun _ _ => rfl)))
  (Qe (Yb PassesOwn.never rfl (Xj rfl M.range_ (Qa (pv 1) Qd)) (Qs (i := 5) scRow22.nd rfl (Or.inl rfl) (Or.inl rfl)) (Qe (Yl (Vl PySem.F.plainAttrs_list PySem.F.slot_list_append PySem.F.type_list_append Xk (pv 3) (Qa (Ql Vf (Ql Xw (pv 0) (pv 4)) (Ql Yn (pv 4) Qg)) Qd)))
  (Qk (Qm (i := 0) scRow22.nd rfl (Or.inl rfl) (Ql Qau (pv 0) (pv 4))))))
  (Qe (Qm (i := 4) scRow22.nd rfl (Or.inl rfl) (Qq Xn (Yo (Qa Qg (Qa (Ql Vf (Ql Zf Qg (Ql Qgz Qg Qg)) Qg) Qd))) (Qw Vg rfl M.int_ Qcx (Qa (pv 2) Qd)) (fun _ _ => rfl)))
  (Qk (Xh (Yk (Qa (Qw Xf rfl M.tuple_ Yh (Qa (pv 3) Qd)) (Qa (Ql Vf (Ql Xw (pv 0) (pv 4)) (Ql Yn (pv 4) Qg)) Qd))))))))), ?_⟩
 refine Qga ?_
 intro rT5 rT4 rT3 rT2
 have hz : (1000 : Nat) < sizeLine := by decide
 refine ⟨by show 0 ≤ sizeLine; decide, fun g0 hg0 => ?_⟩
 obtain ⟨b, hb, b0, b1⟩ := Qhj 9 (by decide) (by decide) g
 obtain ⟨b', hb', b0', b1'⟩ := Qhj 15 (by decide) (by decide) g
 have hd := bigB b0 b1
 refine ⟨_, _, rfl, rfl, ⟨by decide, by decide, by decide⟩, _, _, rfl, rfl, .inl ⟨by decide, by decide⟩, _, _, rfl, rfl, by show 2 ≤ sizeLine; decide, fun p hp => ?_⟩
 have s1 : Same H (upd (upd H g0 (.lst [])) p (.lst [V.int 9, V.int (2 * (10 : Int) ^ (18 : Int).toNat - 1)])) := (Qc hg0 _).trans (Qc hp _)
 refine ⟨_, rfl, .inr ⟨g, rfl, ?_⟩⟩
 refine ⟨p, _, _, _, rfl, rfl, Qj Qb, hb, ?_⟩
 let Pv2 : Nat → St → Hp → Prop := fun i σ H1 => ∃ (y : Int) (ms : List Int) (u : Option V), σ = [some (.int y), some (.int many), some (.bl g), some (.ref g0), some (.int b), u] ∧ ms.length = i ∧ H1 g0 = some (.lst (ms.map V.int)) ∧ ∀ c o, H c = some o → H1 c = some o
 refine ⟨_, rfl, many, rfl, by omega, by omega, Xi (lo := 0) (n := many.toNat) Pv2
  ⟨x, [], none, rfl, rfl, by rw [Qi (Qf Qb hp)]; exact Qb, s1⟩ ?_ ?_⟩
 ·rintro i σ H1 hi ⟨y, ms, u, rfl, rfl, hg, s2⟩
  refine ⟨_, rfl, .inl ⟨rfl, _, Qj hg⟩, _, rfl, _, rfl, _, _, rfl, rfl, b0, _, rfl, _, _, rfl, rfl, ⟨by decide, by decide⟩, _, _, rfl, rfl, g0, _, _, rfl, rfl, hg, by rw [jX]; omega, ?_⟩
  refine ⟨_, rfl, _, rfl, _, _, rfl, rfl, hd, _, ms ++ [y % b - b / 2], _, rfl, by rw [yY]; rfl, by rw [Qb, zW]; rfl, fun c o e => ?_⟩
  rw [Qi (Qf e hg0)]
  exact s2 c o e
 ·rintro σ H1 ⟨y, ms, u, rfl, hl, hg, s2⟩
  refine ⟨_, _, rfl, rfl, ⟨by decide, by decide, by decide⟩, _, _, rfl, rfl, .inl ⟨by decide, by decide⟩, _, _, rfl, rfl, by show 2 ≤ sizeLine; decide, fun p2 hp2 => ?_⟩
  have s3 := (show Same H H1 from s2).trans (Qc hp2 (.lst [V.int 15, V.int (2 * (10 : Int) ^ (18 : Int).toNat - 1)]))
  refine ⟨_, rfl, .inr ⟨g, rfl, ?_⟩⟩
  refine ⟨p2, _, _, _, rfl, rfl, Qj Qb, hb', ?_⟩
  refine ⟨_, rfl, g0, _, rfl, .inl ⟨Qj (by rw [Qi (Qf hg hp2)]; exact hg), fun l2 hl2 => ?_⟩⟩
  refine ⟨_, rfl, _, rfl, _, _, rfl, rfl, b0', _, rfl, _, _, rfl, rfl, ⟨by decide, by decide⟩, _, _, rfl, rfl, by show 2 ≤ sizeLine; decide, fun t ht => ?_⟩
  have nt : l2 ≠ t := Qf Qb ht
  exact q t (ms, _) _ ((s3.trans (Qc hl2 _)).trans (Qc ht _)) ⟨l2, Xb Qb, Xb (by rw [Qi nt]; exact Qb)⟩ (by show (ms.length : Int) = many; omega)
theorem scProblem : FnScope ["_law_script", "_law_many", "_law_count", "_law_great", "_law_rows"] ["_law_script", "_law_many", "_law_count"] (Qh Zm) := ⟨rfl, rfl, rfl, by decide +kernel, rfl, by decide +kernel, by decide +kernel⟩
theorem Qek (F : Fn K mg "_law_problem" Zm) (M : Mg mg) (cl_cell_at : Cal P w K mg base 1 "_law_cell_at" ["_law_script", "_law_k"] (Qay K)) (cl_row : Cal P w K mg base 1 "_law_row" ["_law_left_here", "_law_many", "_law_great"] (Qei K)) (cl_left : Cal P w K mg base 2 "_law_left" ["_law_script", "_law_k", "_law_count"] (Qhh K)) : Cal P w K mg base 3 "_law_problem" ["_law_script", "_law_many", "_law_count"] (Kf K) := by
 refine Xz F scProblem (fun _ _ _ _ _ _ => Qdw (fun _ _ _ => rfl)) (fun vs H Q E h => ?_) (fun f cdv A outer s H vs Q E hr h => ?_)
 ·obtain ⟨a, ns, many, count, rfl, _⟩ := h
  rfl
 obtain ⟨a, ns, many, count, rfl, hS, h2, h3, h4, h5, q⟩ := h
 have hu : (A.deeper (PyProof.Rows.envOfC "_law_problem" (Qh Zm) s.heap.objs.size f cdv)).units + 1 < cLine := zY (zJ (by decide) _) hr.un
 refine ⟨_, (Qe (Qm (i := 3) scProblem.nd rfl (Or.inr rfl) (Wm Qht (Ql Xw (Ql Yn (Xq cl_cell_at (hr.mono (by decide)) (Qa (pv 0) (Qa Qg Qd))) Qg) Qg) Qg (Xs _)))
  (Qe (Qhy (i := 4) ["_law_k", "_law_script", "_law_many", "_law_count", "_law_great"] [none, some 0, some 1, some 2, some 3] rfl scProblem.nd rfl (Or.inl rfl) (Xj rfl M.range_ (Qa (pv 2) Qd)) (fun _ _ _ => (Qs (i := 0) (show (["_law_k", "_law_script", "_law_many", "_law_count", "_law_great"] : List Str).Nodup by decide +kernel) rfl (Or.inl rfl) (Or.inr rfl))) (fun _ _ _ => Jm) (fun _ _ _ => (Xq cl_row (hr.mono (by decide)) (Qa (Xq cl_left (hr.mono (by decide)) (Qa (pv 1) (Qa (Ql Xl Qg (pv 0)) (Qa (Ql Xl (pv 3) Qg) Qd)))) (Qa (pv 2) (Qa (pv 4) Qd))))))
  (Qk (Xh (Yk (Qa (pv 4) (Qa (Qq Qz (Xq cl_row (hr.mono (by decide)) (Qa (Xq cl_left (hr.mono (by decide)) (Qa (pv 0) (Qa Qg (Qa (Ql Xl (pv 2) Qg) Qd)))) (Qa (pv 1) (Qa (pv 3) Qd)))) Qg (fun _ _ => rfl)) Qd))))))), ?_⟩
 refine Zk ?_
 intro rT3 rT2
 have hz : (1000 : Nat) < sizeLine := by decide
 refine ⟨_, rfl, a, ns, 0, rfl, hS, by decide, fun z => ⟨_, _, rfl, rfl, ⟨by decide, by decide⟩, _, _, rfl, rfl, (by show (0 : Int) < _; decide +kernel), rfl, ?_⟩⟩
 refine ⟨_, rfl, count, rfl, by omega, by omega, fun D hD => ?_⟩
 let Pv3 : Nat → St → List V → Hp → Prop := fun i τ ys H1 => ∃ (rs : List (List Int × Int)) (v : Option V), τ = [v, some (.ref a), some (.int many), some (.int count), some (.bl (decide (V.int (z / 64 % 8) = V.int 1)))] ∧ RowsAre K H1 ys rs ∧ (∀ r ∈ rs, (r.1.length : Int) = many) ∧ rs.length = i ∧ H1 D = some (.lst ys) ∧ Same H H1
 refine Js (n := count.toNat) Pv3
  ?_ (fun i τ ys H1 hi h => ?_) (fun i τ ys H1 hi h => hi) (fun τ ys H1 h => jK _) ?_ ?_
 ·exact ⟨[], none, rfl, .nil, (fun r hr => nomatch hr), rfl, Qb, Qc hD _⟩
 ·obtain ⟨rs, v, rfl, hr', hm, rfl, hD1, s1⟩ := h
  exact ⟨hD1, by rw [hr'.length]; omega⟩
 ·rintro i τ ys H1 x H2 hi ⟨rs, v, rfl, hr', hm, rfl, hD1, s1⟩ ⟨rfl, rfl⟩
  refine ⟨_, rfl, _, rfl, _, _, rfl, rfl, _, rfl, _, _, rfl, rfl, a, ns, _, _, rfl, s1.seq hS, by omega, by omega, by omega, by omega, fun y => ?_⟩
  refine ⟨_, rfl, _, rfl, y, many, decide (V.int (z / 64 % 8) = V.int 1), rfl, h2, by omega, fun t r H3 s3 rt hl => ⟨s3 _ _ hD1, rs ++ [r], _, rfl, ?_, ?_, by rw [yY]; rfl, Qb, fun b o e => ?_⟩⟩
  ·exact RowsAre.snoc (hr'.imp fun _ _ z => (z.same s3).upd (s3 _ _ hD1)) (rt.upd (s3 _ _ hD1))
  ·intro r' hr2
   rcases jQc.mp hr2 with z | z
   ·exact hm r' z
   ·rw [jQa.mp z]; exact hl
  ·rw [Qi (Qf e hD)]
   exact s3 _ _ (s1 b o e)
 ·rintro τ ys H1 ⟨rs, v, rfl, hr', hm, hl, hD1, s1⟩
  refine ⟨_, rfl, _, rfl, _, rfl, _, _, rfl, rfl, a, ns, _, _, rfl, s1.seq hS, by decide, by decide, by omega, by omega, fun y => ?_⟩
  refine ⟨_, rfl, _, rfl, y, many, decide (V.int (z / 64 % 8) = V.int 1), rfl, h2, by omega, fun t r H3 s3 rt hl' => ?_⟩
  obtain ⟨p, rt1, rt2⟩ := rt
  refine ⟨t, _, _, _, rfl, rfl, rt1, at0, by show 2 ≤ sizeLine; decide, fun u hu' => ?_⟩
  have s4 : Same H3 (upd H3 u (.tup [.ref D, .ref p])) := Qc hu' _
  exact q u rs r.1 _ (s1.trans (s3.trans s4)) ⟨D, p, ys, Xb Qb, s4.seq (Qj (s3 _ _ hD1)), hr'.imp fun _ _ z => (z.same s3).same s4, s4.tup rt2⟩ hm hl' (by omega)
theorem scCopy : FnScope ["_law_problem_here"] ["_law_problem_here"] (Qh Qgp) := ⟨rfl, rfl, rfl, by decide +kernel, rfl, by decide +kernel, by decide +kernel⟩
theorem okCopy (F : Fn K mg "_law_copy" Qgp) (M : Mg mg) : Cal P w K mg base 1 "_law_copy" ["_law_problem_here"] (Qhi K) := by
 refine Xz F scCopy (fun _ _ _ _ _ _ => bind1 (fun _ => rfl)) (fun vs H Q E h => ?_) (fun f cdv A outer s H vs Q E hr h => ?_)
 ·obtain ⟨t, rs, cs, rfl, _⟩ := h
  rfl
 obtain ⟨t, rs, cs, rfl, ⟨l, c, vs, ht, hl, hrw, hc⟩, hn, q⟩ := h
 refine ⟨_, (Qk (Xh (Yk (Qa (Qct ["_law_row_here"] [none] rfl (Yx (Qq Qz (pv 0) Qg (fun _ _ => rfl))) (fun _ _ _ => (Qs (i := 0) (show (["_law_row_here"] : List Str).Nodup by decide +kernel) rfl (Or.inl rfl) (Or.inr rfl))) (fun _ _ _ => Jm) (fun _ _ _ => (Yk (Qa (Qw (Kj (K := K) rfl) rfl M.tuple_ Yh (Qa (Qw (Kr (K := K) rfl) rfl M.list_ Yy (Qa (Qq (Yi (K := K) rfl) (pv 0) Qg (fun _ _ => rfl)) Qd)) Qd)) (Qa (Qq (Yi (K := K) rfl) (pv 0) Qg (fun _ _ => rfl)) Qd))))) (Qa (Qw Xf rfl M.tuple_ Yh (Qa (Qw Yc rfl M.list_ Yy (Qa (Qq Qz (pv 0) Qg (fun _ _ => rfl)) Qd)) Qd)) Qd))))), ?_⟩
 have hz : (1000 : Nat) < sizeLine := by decide
 have lv := hrw.length
 refine ⟨_, rfl, t, _, _, _, rfl, rfl, ht, at0, l, rfl, ⟨_, hl⟩, fun D hD => ?_⟩
 let Pv4 : Nat → St → List V → Hp → Prop := fun i τ ys H1 => ∃ v : Option V, τ = [v] ∧ RowsAre K H1 ys (rs.take i) ∧ H1 D = some (.lst ys) ∧ Same H H1
 refine Js (n := rs.length) Pv4 ?_ (fun i τ ys H1 hi h => ?_) (fun i τ ys H1 hi h => ?_) (fun τ ys H1 h => ?_) ?_ ?_
 ·exact ⟨none, rfl, .nil, Qb, Qc hD _⟩
 ·obtain ⟨v, rfl, hr1, hD1, s1⟩ := h
  exact ⟨hD1, by rw [hr1.length, jYb]; omega⟩
 ·obtain ⟨v, rfl, hr1, hD1, s1⟩ := h
  exact ⟨vs, vs[i]'(by omega), s1.seq hl, gE (by omega)⟩
 ·obtain ⟨v, rfl, hr1, hD1, s1⟩ := h
  exact ⟨vs, s1.seq hl, by omega⟩
 ·rintro i τ ys H1 x H2 hi ⟨v, rfl, hr1, hD1, s1⟩ ⟨rfl, e1⟩
  obtain ⟨t', r, rfl, er, p, rt1, rt2⟩ := hrw.get (e1 _ (s1.seq hl))
  refine ⟨_, rfl, t', _, _, _, rfl, rfl, s1.tup rt1, at0, p, _, rfl, .inr (s1.tup rt2), fun l2 hl2 => ?_⟩
  refine ⟨l2, _, rfl, .inl ⟨Qj Qb, fun l3 hl3 => ?_⟩⟩
  have s2 : Same H2 (upd (upd H2 l2 (.lst (r.1.map V.int))) l3 (.tup (r.1.map V.int))) := (Qc hl2 _).trans (Qc hl3 _)
  refine ⟨_, rfl, t', _, _, _, rfl, rfl, (s1.trans s2).tup rt1, at1, by show 2 ≤ sizeLine; decide, fun t2 ht2 => ?_⟩
  have s3 := s2.trans (Qc ht2 (.tup [.ref l3, .int r.2]))
  have n3 : l3 ≠ t2 := Qf Qb ht2
  refine ⟨s3 _ _ hD1, _, rfl, ?_, Qb, fun b o e => ?_⟩
  ·rw [Qfk er]
   exact RowsAre.snoc (hr1.imp fun _ _ z => (z.same s3).upd (s3 _ _ hD1)) (RowAt.upd (s3 _ _ hD1) ⟨l3, Xb Qb, Xb (by rw [Qi n3]; exact Qb)⟩)
  ·rw [Qi (Qf e hD)]; exact s3 _ _ (s1 _ _ e)
 ·rintro τ ys H1 ⟨v, rfl, hr1, hD1, s1⟩
  rw [jJf] at hr1
  refine ⟨_, rfl, t, _, _, _, rfl, rfl, s1.tup ht, at1, c, _, rfl, .inr (s1.tup hc), fun l2 hl2 => ?_⟩
  refine ⟨l2, _, rfl, .inl ⟨Qj Qb, fun l3 hl3 => ?_⟩⟩
  have s2 : Same H1 (upd (upd H1 l2 (.lst (cs.map V.int))) l3 (.tup (cs.map V.int))) := (Qc hl2 _).trans (Qc hl3 _)
  refine ⟨by show 2 ≤ sizeLine; decide, fun t2 ht2 => ?_⟩
  have s3 := s2.trans (Qc ht2 (.tup [.ref D, .ref l3]))
  have n3 : l3 ≠ t2 := Qf Qb ht2
  exact q t2 _ (s1.trans s3) ⟨D, l3, ys, Xb Qb, s3.seq (Qj hD1), hr1.imp fun _ _ z => z.same s3, Xb (by rw [Qi n3]; exact Qb)⟩
end
abbrev Qgr : Stmt := top 1
abbrev Zn : Stmt := top 2
abbrev sMay : Stmt := top 3
section
variable {P : Program} {w : World} {K : Fg} {mg : Str → Option Value} {base : Heap}
theorem scExch : FnScope ["row", "one", "other", "numbers"] ["row", "one", "other"] (Qh Qgr) := ⟨rfl, rfl, rfl, by decide +kernel, rfl, by decide +kernel, by decide +kernel⟩
theorem okExch (F : Fn K mg "exchanged" Qgr) (M : Mg mg) : Cal P w K mg base 1 "exchanged" ["row", "one", "other"] (Qhk K) := by
 refine Xz F scExch (fun _ _ _ _ _ _ => Qdw (fun _ _ _ => rfl)) (fun vs H Q E h => ?_) (fun f cdv A outer s H vs Q E hr h => ?_)
 ·obtain ⟨r, row, i, j, rfl, _⟩ := h
  rfl
 obtain ⟨r, row, i, j, rfl, ⟨p, hr1, hr2⟩, hi, hj, hn, q⟩ := h
 refine ⟨_, (Qe (Qm (i := 3) scExch.nd rfl (Or.inl rfl) (Qw Yc rfl M.list_ Yy (Qa (Qq Qz (pv 0) Qg (fun _ _ => rfl)) Qd)))
  (Qe (Ji (Qq Qz (Qq Qz (pv 0) Qg (fun _ _ => rfl)) (pv 2) (fun _ _ => rfl)) (Jh (pv 3) (pv 1) set_list))
  (Qe (Ji (Qq Qz (Qq Qz (pv 0) Qg (fun _ _ => rfl)) (pv 1) (fun _ _ => rfl)) (Jh (pv 3) (pv 2) set_list))
  (Qk (Xh (Yk (Qa (Qw Xf rfl M.tuple_ Yh (Qa (pv 3) Qd)) (Qa (Qq Qz (pv 0) Qg (fun _ _ => rfl)) Qd)))))))), ?_⟩
 refine Qfz ?_
 intro rT4 rT3 rT2
 have hz : (1000 : Nat) < sizeLine := by decide
 refine ⟨_, rfl, r, _, _, _, rfl, rfl, hr1, at0, p, _, rfl, .inr hr2, fun L hL => ?_⟩
 have s1 := Qc hL (.lst (row.1.map V.int))
 have hL1 : upd H L (.lst (row.1.map V.int)) L = some (.lst (row.1.map V.int)) := Qb
 generalize upd H L (.lst (row.1.map V.int)) = H1 at s1 hL1 ⊢
 refine ⟨_, rfl, r, _, _, _, rfl, rfl, s1.tup hr1, at0, _, rfl, p, _, _, _, rfl, rfl, s1.tup hr2, atK6 hj, ?_⟩
 refine ⟨_, rfl, _, rfl, L, _, _, i, rfl, rfl, hL1, Wq (by rw [jX]; exact hi), ?_⟩
 have s2 : Same H (upd H1 L (.lst ((row.1.map V.int).set i (.int (row.1.getD j 0))))) := fun b o e => by rw [Qi (Qf e hL)]; exact s1 _ _ e
 have hL2 : upd H1 L (.lst ((row.1.map V.int).set i (.int (row.1.getD j 0)))) L = some (.lst ((row.1.set i (row.1.getD j 0)).map V.int)) := by rw [Qb, jYa]
 generalize upd H1 L (.lst ((row.1.map V.int).set i (.int (row.1.getD j 0)))) = H2 at s2 hL2 ⊢
 refine ⟨_, rfl, r, _, _, _, rfl, rfl, s2.tup hr1, at0, _, rfl, p, _, _, _, rfl, rfl, s2.tup hr2, atK6 hi, ?_⟩
 refine ⟨_, rfl, _, rfl, L, _, _, j, rfl, rfl, hL2, Wq (by rw [jX, wJ]; exact hj), ?_⟩
 have s3 : Same H (upd H2 L (.lst (((row.1.set i (row.1.getD j 0)).map V.int).set j (.int (row.1.getD i 0))))) := fun b o e => by rw [Qi (Qf e hL)]; exact s2 _ _ e
 have hL3 : upd H2 L (.lst (((row.1.set i (row.1.getD j 0)).map V.int).set j (.int (row.1.getD i 0)))) L = some (.lst (((row.1.set i (row.1.getD j 0)).set j (row.1.getD i 0)).map V.int)) := by rw [Qb]; exact congrArg (fun l => some (HO.lst l)) jYa.symm
 generalize upd H2 L (.lst (((row.1.set i (row.1.getD j 0)).map V.int).set j (.int (row.1.getD i 0)))) = H3 at s3 hL3 ⊢
 refine ⟨_, rfl, L, _, rfl, .inl ⟨Qj hL3, fun w hw => ?_⟩⟩
 have s4 := s3.trans (Qc hw (.tup (((row.1.set i (row.1.getD j 0)).set j (row.1.getD i 0)).map V.int)))
 refine ⟨_, rfl, r, _, _, _, rfl, rfl, s4.tup hr1, at1, by show 2 ≤ sizeLine; decide, fun r' hr' => ?_⟩
 exact q r' _ (s4.trans (Qc hr' _)) ⟨w, Xb Qb, Xb (by rw [Qi (Qf Qb hr')]; exact Qb)⟩
theorem scCounted : FnScope ["things", "often", "thing"] ["things"] (Qh Zn) := ⟨rfl, rfl, rfl, by decide +kernel, rfl, by decide +kernel, by decide +kernel⟩
theorem Qel (F : Fn K mg "counted" Zn) (M : Mg mg) : Cal P w K mg base 1 "counted" ["things"] (Wk P w K) := by
 refine Xz F scCounted (fun _ _ _ _ _ _ => bind1 (fun _ => rfl)) (fun vs H Q E h => ?_) (fun f cdv A outer s H vs Q E hr h => ?_)
 ·obtain ⟨l, us, rs, rfl, _⟩ := h
  rfl
 obtain ⟨l, us, rs, rfl, hl, hrw, hn, q⟩ := h
 have hu6 : (A.deeper (PyProof.Rows.envOfC "counted" (Qh Zn) s.heap.objs.size f cdv)).units + 6 < cLine := zY (zJ (by decide) _) hr.un
 refine ⟨_, (Qe (Qm (i := 1) scCounted.nd rfl (Or.inl rfl) Qin)
  (Qe (Yb PassesOwn.never rfl (Yx (pv 0)) (Qs (i := 2) scCounted.nd rfl (Or.inl rfl) (Or.inl rfl)) (Qk (Qip (zY (zJ (show 2 ≤ 6 by decide) _) hu6) (pv 1) (pv 2) (Ql Xl (Qfv (zY (zJ (show 2 ≤ 6 by decide) _) hu6) (pv 1) (pv 2) Qg ⟨rfl, rfl, rfl, rfl⟩) Qg) rfl)))
  (Qk (Xh (pv 1))))), ?_⟩
 refine Zk ?_
 intro rT3 rT2
 have hz : (1000 : Nat) < sizeLine := by decide
 have lv := hrw.length
 refine fun d ob hd rd0 => ?_
 have s1 := Qc hd ob
 generalize upd H d ob = H1 at s1 rd0 ⊢
 let Pv5 : Nat → St → Hp → Prop := fun i σ H2 => ∃ (x : Option V) (kvs : List (Row × V)), σ = [some (.ref l), some (.ref d), x] ∧ RD P w K H2 d kvs ∧ Wj (rs.take i) kvs ∧ kvs.length ≤ i ∧ Same H H2
 refine ⟨_, rfl, l, rfl, ⟨_, s1.seq hl⟩, Qai (K := K) (a := l) (xs := us) Pv5 ⟨none, [], rfl, rd0, Qef, jK _, s1⟩ (fun i σ H2 _ h => ?_) ?_ ?_⟩
 ·obtain ⟨x, kvs, rfl, rd, of, lk, s2⟩ := h
  exact s2.seq hl
 ·rintro i x σ H2 e1 ⟨x', kvs, rfl, rd, of, lk, s2⟩
  obtain ⟨t, r, rfl, er, hrt⟩ := hrw.get e1
  have hi : i < us.length := (kX.mp e1).1
  obtain ⟨z, ez, of2⟩ := Qby of r
  refine ⟨_, rfl, d, kvs, rfl, rd, _, rfl, t, kvs, r, rfl, rd, hrt.same s2, z, 1, ez, rfl, ?_⟩
  refine ⟨_, rfl, _, rfl, d, t, kvs, r, rfl, rfl, rd, hrt.same s2, by omega, fun ob2 rd2 up => ?_⟩
  refine ⟨_, _, rfl, rd2, by rw [Qfk er]; exact of2, wK (Jt kvs r _) (by omega), fun b o e => ?_⟩
  rw [Qi (Qf e hd)]; exact s2 _ _ e
 ·rintro σ H2 ⟨x, kvs, rfl, rd, of, lk, s2⟩
  rw [lv, jJf] at of
  exact ⟨_, rfl, q d kvs H2 s2 rd of⟩
theorem scMay : FnScope ["often", "one", "other", "row"] ["often", "one", "other"] (Qh sMay) := ⟨rfl, rfl, rfl, by decide +kernel, rfl, by decide +kernel, by decide +kernel⟩
theorem okMay (F : Fn K mg "may_exchange" sMay) (M : Mg mg) (c_exchanged : Cal P w K mg base 1 "exchanged" ["row", "one", "other"] (Qhk K)) : Cal P w K mg base 2 "may_exchange" ["often", "one", "other"] (spMay P w K) := by
 refine Xz F scMay (fun _ _ _ _ _ _ => Qdw (fun _ _ _ => rfl)) (fun vs H Q E h => ?_) (fun f cdv A outer s H vs Q E hr h => ?_)
 ·obtain ⟨d, kvs, rs, i, j, n, rfl, _⟩ := h
  rfl
 obtain ⟨d, kvs, rs, i, j, n, rfl, rd, of, hln, hi, hj, hn, q⟩ := h
 have hu6 : (A.deeper (PyProof.Rows.envOfC "may_exchange" (Qh sMay) s.heap.objs.size f cdv)).units + 6 < cLine := zY (zJ (by decide) _) hr.un
 refine ⟨_, (Qe (Yb PassesOwn.never rfl (Qiq (pv 0)) (Qs (i := 3) scMay.nd rfl (Or.inl rfl) (Or.inl rfl)) (Qk (Kh (PW.pt (Qcc (Xm Qhu (Qq Qz (Qq Qz (pv 3) Qg (fun _ _ => rfl)) (pv 1) (fun _ _ => rfl)) (Qq Qz (Qq Qz (pv 3) Qg (fun _ _ => rfl)) (pv 2) (fun _ _ => rfl)) (Xs _)) (Wl (Xm Qhu (Qfu (zY (zJ (show 2 ≤ 6 by decide) _) hu6) (pv 0) (Xq c_exchanged (hr.mono (by decide)) (Qa (pv 3) (Qa (pv 1) (Qa (pv 2) Qd)))) ⟨rfl, rfl, rfl, rfl⟩) (Qio (zY (zJ (show 2 ≤ 6 by decide) _) hu6) (pv 0) (pv 3) (fun _ _ => rfl)) (Xs _))))) (Qk (Xh Qcb)) Ye)))
  (Qk (Xh Qcb))), ?_⟩
 have hz : (1000 : Nat) < sizeLine := by decide
 refine ⟨_, rfl, d, kvs, rfl, rd, fun ob xs hob kr => Qgq (d := d) (ob := ob) (xs := xs) (fun m σ H1 => ∃ x : Option V, σ = [some (.ref d), some (.int (i : Int)), some (.int (j : Int)), x] ∧ (∀ k, k < m → ∀ q, xs[k]? = some q → q.1.1.getD i 0 ≠ q.1.1.getD j 0 → cnt rs (exR i j q.1) = cnt rs q.1) ∧ Same H H1) ⟨none, rfl, fun k hk => absurd hk (Nat.not_lt_zero _), Same.refl _⟩ (fun m σ H1 _ h => ?_) ?_ ?_⟩
 ·obtain ⟨x, rfl, _, s1⟩ := h
  exact s1 _ _ hob
 ·rintro m x σ H1 e1 ⟨x', rfl, hk, s1⟩
  have hm : m < xs.length := (kX.mp e1).1
  have lk : kvs.length = xs.length := Paired.length kr
  obtain ⟨y, ey, k1, k2, _⟩ := Paired.getR kr (gE (show m < kvs.length by omega))
  rw [e1] at ey
  cases ey
  have mem : x.1 ∈ rs := by rw [← k1]; exact Qeg of (jYc _)
  rw [k1] at k2
  have lr := hln _ mem
  obtain ⟨p, hr1, hr2⟩ := id (k2.same s1)
  have vx := of x.1
  rw [if_pos mem] at vx
  refine ⟨_, rfl, x.2.1, _, _, _, rfl, rfl, hr1, at0, _, rfl, p, _, _, _, rfl, rfl, hr2, atK6 (by omega), _, rfl, x.2.1, _, _, _, rfl, rfl, hr1, at0, _, rfl, p, _, _, _, rfl, rfl, hr2, atK6 (by omega), rfl, _, rfl, ?_⟩
  rw [Qdz]
  have nx : ∀ (H2 : Hp) (y : Option V), Same H H2 → (x.1.1.getD i 0 ≠ x.1.1.getD j 0 → cnt rs (exR i j x.1) = cnt rs x.1) → ∃ x : Option V, [some (V.ref d), some (.int (i : Int)), some (.int (j : Int)), y] = [some (.ref d), some (.int (i : Int)), some (.int (j : Int)), x] ∧ (∀ k, k < m + 1 → ∀ q, xs[k]? = some q → q.1.1.getD i 0 ≠ q.1.1.getD j 0 → cnt rs (exR i j q.1) = cnt rs q.1) ∧ Same H H2 := fun H2 y s2 hx => ⟨y, rfl, fun k hk' q eq => by
   by_cases e : k = m
   ·subst e; rw [e1] at eq; cases eq; exact hx
   ·exact hk k (by omega) q eq, s2⟩
  refine ite2 (fun y => ?_) (fun y => ?_)
  ·have ne : x.1.1.getD i 0 ≠ x.1.1.getD j 0 := fun z => by rw [kW z] at y; cases y
   refine ⟨_, rfl, d, kvs, rfl, rd.same s1, _, rfl, _, rfl, _, rfl, x.2.1, x.1, i, j, rfl, k2.same s1, by omega, by omega, by omega, fun r' H2 s2 rr => ?_⟩
   have s12 := s1.trans s2
   refine ⟨r', kvs, _, rfl, rd.same s12, rr, ?_⟩
   refine ⟨_, rfl, _, rfl, d, x.2.1, kvs, x.1, _, rfl, rfl, rd.same s12, k2.same s12, vx, ?_⟩
   have vy := of (exR i j x.1)
   by_cases m2 : exR i j x.1 ∈ rs
   ·rw [if_pos m2] at vy
    rw [vy]
    refine ⟨rfl, _, rfl, ?_⟩
    show if (!decide (V.int _ = V.int _)) = true then _ else _
    rw [Qdz]
    refine ite2 (fun z => ?_) (fun z => ?_)
    ·refine q false H2 s12 ⟨fun w => (nomatch w), fun w => ?_⟩
     rw [w x.1 mem ne, kW rfl] at z
     cases z
    ·refine nx H2 _ s12 fun _ => Classical.byContradiction fun w => z ?_
     rw [kJ (fun u => w (by omega))]
     rfl
   ·rw [if_neg m2] at vy
    rw [vy]
    refine ⟨rfl, _, rfl, iteT (q false H2 s12 ⟨fun w => (nomatch w), fun w => absurd (cnt_pos.mp ?_) m2⟩)⟩
    rw [w x.1 mem ne]
    exact cnt_pos.mpr mem
  ·refine nx H1 _ s1 fun w => absurd ?_ y
   rw [kJ w]
   rfl
 ·rintro σ H1 ⟨x, rfl, hk, s1⟩
  refine q true H1 s1 ⟨fun _ r hr => ?_, fun _ => rfl⟩
  obtain ⟨p, hp, rfl⟩ := Qeh of hr
  obtain ⟨k, hk1, ek⟩ := kQb hp
  obtain ⟨y, ey, k1, _⟩ := Paired.getR kr (gE hk1)
  rw [ek] at k1
  rw [k1]
  exact hk k (kX.mp ey).1 y ey
end
abbrev Qgs : Stmt := top 13
abbrev sLed : Stmt := top 14
section
variable {P : Program} {w : World} {K : Fg} {mg : Str → Option Value} {base : Heap}
theorem scNumb : FnScope ["_law_many", "_law_left_here", "_law_order", "_law_k"] ["_law_many", "_law_left_here"] (Qh Qgs) := ⟨rfl, rfl, rfl, by decide +kernel, rfl, by decide +kernel, by decide +kernel⟩
theorem okNumb (F : Fn K mg "_law_numbered" Qgs) (M : Mg mg) : Cal P w K mg base 1 "_law_numbered" ["_law_many", "_law_left_here"] (Qhl K) := by
 refine Xz F scNumb (fun _ _ _ _ _ _ => Qbx (fun _ _ => rfl)) (fun vs H Q E h => ?_) (fun f cdv A outer s H vs Q E hr h => ?_)
 ·obtain ⟨many, z, rfl, _⟩ := h
  rfl
 obtain ⟨many, z, rfl, h2, h3, q⟩ := h
 refine ⟨_, (Qe (Qm (i := 2) scNumb.nd rfl (Or.inl rfl) (Yo Qd))
  (Qe (Yb PassesOwn.never rfl (Xj rfl M.range_ (Qa (pv 0) Qd)) (Qs (i := 3) scNumb.nd rfl (Or.inl rfl) (Or.inl rfl)) (Qe (Yl (Vl PySem.F.plainAttrs_list PySem.F.slot_list_insert PySem.F.type_list_insert Qcy (pv 2) (Qa (Ql Xw (pv 1) (Ql Xl (pv 3) Qg)) (Qa (pv 3) Qd))))
  (Qk (Qm (i := 1) scNumb.nd rfl (Or.inl rfl) (Ql Qau (pv 1) (Ql Xl (pv 3) Qg))))))
  (Qk (Xh (pv 2))))), ?_⟩
 refine Zk ?_
 intro rT3 rT2
 have hz : (1000 : Nat) < sizeLine := by decide
 refine ⟨by show 0 ≤ sizeLine; decide, fun p hp => ?_⟩
 let Pv6 : Nat → St → Hp → Prop := fun i σ H1 => ∃ (t : List Nat) (z : Int) (v : Option V), σ = [some (.int many), some (.int z), some (.ref p), v] ∧ IsTurn i t ∧ H1 p = some (.lst ((tI t).map V.int)) ∧ Same H H1
 refine ⟨_, rfl, many, rfl, by omega, by omega, Xi (lo := 0) (n := many.toNat) Pv6 ⟨[], z, none, rfl, ⟨.refl _⟩, Qb, Qc hp _⟩ ?_ ?_⟩
 ·rintro i σ H1 hi ⟨t, z, v, rfl, T, hp1, s1⟩
  have lt := T.length
  have pz : (0 : Int) < 0 + (i : Int) + 1 := by omega
  have n0 := jZb z (Int.ne_of_gt pz)
  have n1 := jXb z pz
  refine ⟨_, rfl, .inl ⟨rfl, _, Qj hp1⟩, _, rfl, _, rfl, _, _, rfl, rfl, _, _, rfl, rfl, pz, _, rfl, p, _, _, _, rfl, rfl, hp1, n0, by rw [jX, Yw]; omega, by rw [jX, Yw]; omega, ?_⟩
  refine ⟨_, rfl, _, rfl, _, _, rfl, rfl, _, _, rfl, rfl, bigB pz (by omega), ?_⟩
  refine ⟨t.take (z % (0 + (i : Int) + 1)).toNat ++ i :: t.drop (z % (0 + (i : Int) + 1)).toNat, _, _, rfl, Qfm T _, ?_, fun b o e => ?_⟩
  ·rw [Qb]
   unfold insV tI
   rw [zW, zK, zW, zK, List.map_take, List.map_take, List.map_drop, List.map_drop]
   simp
  ·rw [Qi (Qf e hp)]; exact s1 _ _ e
 ·rintro σ H1 ⟨t, z, v, rfl, T, hp1, s1⟩
  exact ⟨_, rfl, q p t H1 s1 hp1 T⟩
theorem scLed : FnScope ["_law_row_here", "_law_turn", "_law_numbers", "_law_i"] ["_law_row_here", "_law_turn"] (Qh sLed) := ⟨rfl, rfl, rfl, by decide +kernel, rfl, by decide +kernel, by decide +kernel⟩
theorem okLed (F : Fn K mg "_law_led" sLed) (M : Mg mg) : Cal P w K mg base 1 "_law_led" ["_law_row_here", "_law_turn"] (Kx K) := by
 refine Xz F scLed (fun _ _ _ _ _ _ => Qbx (fun _ _ => rfl)) (fun vs H Q E h => ?_) (fun f cdv A outer s H vs Q E hr h => ?_)
 ·obtain ⟨r, u, row, n, t, rfl, _⟩ := h
  rfl
 obtain ⟨r, u, row, n, t, rfl, ⟨p, hr1, hr2⟩, hu1, T, hl, hn, q⟩ := h
 refine ⟨_, (Qe (Qm (i := 2) scLed.nd rfl (Or.inl rfl) (Ql op_rep (Yo (Qa Qg Qd)) (Qv Xd rfl M.len Jq (Qa (pv 1) Qd))))
  (Qe (Yb PassesOwn.never rfl (Xj rfl M.range_ (Qa (Qv Xd rfl M.len Jq (Qa (pv 1) Qd)) Qd)) (Qs (i := 3) scLed.nd rfl (Or.inl rfl) (Or.inl rfl)) (Qk (Ji (Qq Qz (Qq Qz (pv 0) Qg (fun _ _ => rfl)) (pv 3) (fun _ _ => rfl)) (Jh (pv 2) (Qq Xn (pv 1) (pv 3) (fun _ _ => rfl)) set_list))))
  (Qk (Xh (Yk (Qa (Qw Xf rfl M.tuple_ Yh (Qa (pv 2) Qd)) (Qa (Qq Qz (pv 0) Qg (fun _ _ => rfl)) Qd))))))), ?_⟩
 refine Zk ?_
 intro rT3 rT2
 have hz : (1000 : Nat) < sizeLine := by decide
 have lt := T.length
 have lT : ((tI t).map V.int).length = n := by rw [jX, Yw]; exact lt
 refine ⟨by show 1 ≤ sizeLine; decide, fun p1 hp1 => ?_⟩
 have s1 : Same H (upd H p1 (.lst [.int 0])) := Qc hp1 _
 refine ⟨_, rfl, u, _, rfl, .inl (s1.seq hu1), p1, _, _, rfl, rfl, Qb, by omega, ?_, ?_, fun p2 hp2 => ?_⟩
 ·rw [jX, Yw]; omega
 ·rw [jX, Yw, jKf]; omega
 have s2 := s1.trans (Qc hp2 (.lst (List.replicate (Int.toNat ((((tI t).map V.int).length : Nat) : Int)) [V.int 0]).flatten))
 have e0 : (List.replicate (Int.toNat ((((tI t).map V.int).length : Nat) : Int)) [V.int 0]).flatten = (put row.1 t 0).map V.int := by
  rw [rep1, jX, Yw]
  show _ = (List.replicate t.length 0).map V.int
  rw [List.map_replicate]
  rfl
 refine ⟨_, rfl, u, _, rfl, .inl (s2.seq hu1), _, rfl, by omega, by rw [lT]; omega, Xi (lo := 0) (n := Int.toNat ((((tI t).map V.int).length : Nat) : Int)) (fun i σ H3 => ∃ v : Option V, σ = [some (.ref r), some (.ref u), some (.ref p2), v] ∧ H3 p2 = some (.lst ((put row.1 t i).map V.int)) ∧ Same H H3) ⟨none, rfl, ?_, s2⟩ ?_ ?_⟩
 ·rw [Qb, e0]
 ·rintro i σ H3 hi ⟨v, rfl, hD3, s3⟩
  have hi' : i < n := by rw [lT] at hi; omega
  have i1 : i < row.1.length := by omega
  have i2 : i < t.length := by omega
  have g1 : (row.1.map V.int)[i]? = some (V.int row.1[i]) := by rw [kQ, gE i1]; rfl
  have g2 : ((tI t).map V.int)[i]? = some (V.int (t[i] : Nat)) := by rw [kQ, Qhf (gE i2)]; rfl
  have z1 : (0 : Int) + (i : Int) = ((i : Nat) : Int) := by omega
  refine ⟨_, rfl, r, _, _, _, rfl, rfl, s3.tup hr1, at0, _, rfl, p, _, _, _, rfl, rfl, s3.tup hr2, by rw [z1]; exact Qbs g1, ?_⟩
  refine ⟨_, rfl, _, rfl, _, rfl, u, _, _, _, rfl, rfl, s3.seq hu1, by rw [z1]; exact Qbs g2, p2, _, _, t[i], rfl, rfl, hD3, Wq (by rw [jX, Yg, lt]; exact T.lt (gE i2)), _, rfl, ?_, fun b o e => ?_⟩
  ·rw [Qb, Qfo (gE i1) (gE i2), jYa]
  ·have nb : b ≠ p2 := fun z => by subst z; rw [s1 _ _ e] at hp2; cases hp2
   rw [Qi nb]; exact s3 _ _ e
 ·rintro σ H3 ⟨v, rfl, hD3, s3⟩
  have en : Int.toNat ((((tI t).map V.int).length : Nat) : Int) = n := by rw [lT]; omega
  rw [en] at hD3
  refine ⟨_, rfl, p2, _, rfl, .inl ⟨Qj hD3, fun w hw => ?_⟩⟩
  have s4 := s3.trans (Qc hw (.tup ((put row.1 t n).map V.int)))
  refine ⟨_, rfl, r, _, _, _, rfl, rfl, s4.tup hr1, at1, by show 2 ≤ sizeLine; decide, fun r' hr' => ?_⟩
  exact q r' _ (s4.trans (Qc hr' _)) ⟨w, Xb Qb, Xb (by rw [Qi (Qf Qb hr')]; exact Qb)⟩
end
abbrev Zo : Stmt := top 15
section
variable {P : Program} {w : World} {K : Fg} {mg : Str → Option Value} {base : Heap}
theorem Qem {cs : List Int} {t : List Nat} {n : Nat} (hl : cs.length = n) : ((List.range n).map fun k => cs.getD (t.getD k 0) 0) = cs ↔ Qdx cs t n := by
 have g : ∀ k, k < n → ((List.range n).map fun k => cs.getD (t.getD k 0) 0).getD k 0 = cs.getD (t.getD k 0) 0 := fun k hk => by
  rw [jJ, kQ, wY hk]; rfl
 constructor
 ·intro h k hk
  have := g k hk
  rw [h] at this
  exact this
 ·intro h
  refine Jd (by rw [jX, xX, hl]) fun k hk => ?_
  rw [jX, xX] at hk
  rw [g k hk, h k hk]
theorem Qgt {xs ys : List Int} : (D.lst (xs.map .int) = D.lst (ys.map .int)) ↔ xs = ys := by
 constructor
 ·intro h
  injection h with h
  exact Yt (fun a b e => by injection e) h
 ·rintro rfl; rfl
theorem Qen : FnScope ["_law_problem_here", "_law_turn"] ["_law_problem_here", "_law_turn"] (Qh Zo) := ⟨rfl, rfl, rfl, by decide +kernel, rfl, by decide +kernel, by decide +kernel⟩
theorem Qeo (F : Fn K mg "_law_keeps" Zo) (M : Mg mg) (cl_led : Cal P w K mg base 1 "_law_led" ["_law_row_here", "_law_turn"] (Kx K)) : Cal P w K mg base 2 "_law_keeps" ["_law_problem_here", "_law_turn"] (spKT K) := by
 refine Xz F Qen (fun _ _ _ _ _ _ => Qbx (fun _ _ => rfl)) (fun vs H Q E h => ?_) (fun f cdv A outer s H vs Q E hr h => ?_)
 ·obtain ⟨p, u, rs, cs, n, t, rfl, _⟩ := h
  rfl
 obtain ⟨p, u, rs, cs, n, t, rfl, pr, hu1, T, hn, hrl, hcl, h60, q⟩ := h
 have hu6 : (A.deeper (PyProof.Rows.envOfC "_law_keeps" (Qh Zo) s.heap.objs.size f cdv)).units + 6 < cLine := zY (zJ (by decide) _) hr.un
 refine ⟨_, (Qe (Kh (Xm (Qar (n := 6) hu6) (Qct ["_law_place", "_law_problem_here"] [none, some 0] rfl (Yx (pv 1)) (fun _ _ _ => (Qs (i := 0) (show (["_law_place", "_law_problem_here"] : List Str).Nodup by decide +kernel) rfl (Or.inl rfl) (Or.inr rfl))) (fun _ _ _ => Jm) (fun _ _ _ => (Qq (Yi (K := K) rfl) (Qq (Yi (K := K) rfl) (pv 1) Qg (fun _ _ => rfl)) (pv 0) (fun _ _ => rfl)))) (Qw Yc rfl M.list_ Yy (Qa (Qq Qz (pv 0) Qg (fun _ _ => rfl)) Qd)) (Xs _)) (Qk (Xh Qcb)) Ye)
  (Qk (Xh (Wm (Qcw (n := 6) hu6) (Qv (Zw (K := K) rfl hu6) rfl M.sorted Jr (Qa (Qct ["_law_row_here", "_law_turn"] [none, some 1] rfl (Yx (Qq Qz (pv 0) Qg (fun _ _ => rfl))) (fun _ _ _ => (Qs (i := 0) (show (["_law_row_here", "_law_turn"] : List Str).Nodup by decide +kernel) rfl (Or.inl rfl) (Or.inr rfl))) (fun _ _ _ => Jm) (fun _ _ _ => (Xq cl_led (hr.mono (by decide)) (Qa (pv 0) (Qa (pv 1) Qd))))) Qd)) (Qv (Zw (K := K) rfl hu6) rfl M.sorted Jr (Qa (Qq Qz (pv 0) Qg (fun _ _ => rfl)) Qd)) (Xs _))))), ?_⟩
 have hz : (1000 : Nat) < sizeLine := by decide
 obtain ⟨l, c, vs, ht, hl, hrw, hc⟩ := id pr
 have lt := T.length
 have lv := hrw.length
 have lT : ((tI t).map V.int).length = n := by rw [jX, Yw]; exact lt
 refine ⟨_, rfl, u, rfl, ⟨_, hu1⟩, fun D hD => ?_⟩
 let Pv7 : Nat → St → List V → Hp → Prop := fun i τ ys H1 => ∃ v : Option V, τ = [v, some (.ref p)] ∧ ys = ((List.range i).map fun k => cs.getD (t.getD k 0) 0).map V.int ∧ H1 D = some (.lst ys) ∧ Same H H1
 refine Js (n := n) Pv7 ?_ (fun i τ ys H1 hi h => ?_) (fun i τ ys H1 hi h => ?_) (fun τ ys H1 h => ?_) ?_ ?_
 ·exact ⟨none, rfl, rfl, Qb, Qc hD _⟩
 ·obtain ⟨v, rfl, rfl, hD1, s1⟩ := h
  exact ⟨hD1, by rw [jX, jX, xX]; omega⟩
 ·obtain ⟨v, rfl, rfl, hD1, s1⟩ := h
  exact ⟨_, _, s1.seq hu1, gE (by omega)⟩
 ·obtain ⟨v, rfl, rfl, hD1, s1⟩ := h
  exact ⟨_, s1.seq hu1, by omega⟩
 ·rintro i τ ys H1 x H2 hi ⟨v, rfl, rfl, hD1, s1⟩ ⟨rfl, e1⟩
  obtain ⟨x, ex, rfl⟩ := Kv (e1 _ (s1.seq hu1))
  obtain ⟨k, ek, rfl⟩ := tI_at ex
  refine ⟨_, rfl, p, _, _, _, rfl, rfl, s1.tup ht, at1, _, rfl, c, _, _, _, rfl, rfl, s1.tup hc, atK6 (by have := T.lt ek; omega), hD1, _, rfl, ?_, Qb, fun b o e => ?_⟩
  ·rw [jQd, zW, zW, zK, zK, List.map_nil, Qgf ek]
   rfl
  ·rw [Qi (Qf e hD)]; exact s1 _ _ e
 rintro τ ys H1 ⟨v, rfl, rfl, hD1, s1⟩
 refine ⟨_, rfl, p, _, _, _, rfl, rfl, s1.tup ht, at1, c, _, rfl, .inr (s1.tup hc), fun L hL => ?_⟩
 have s2 := s1.trans (Qc hL (.lst (cs.map V.int)))
 have hD2 := Qc hL (.lst (cs.map V.int)) _ _ hD1
 have hL2 : upd H1 L (.lst (cs.map V.int)) L = some (.lst (cs.map V.int)) := Qb
 generalize upd H1 L (.lst (cs.map V.int)) = H2 at s2 hD2 hL2 ⊢
 refine ⟨D, L, _, _, rfl, rfl, lstD (Qj hD2), lstD (Qj hL2), Qfn _ _, fun b hb => ⟨_, rfl, ?_⟩⟩
 rw [Qgt, Qem hcl] at hb
 cases b with
 | false => exact iteT (q false H2 s2 ⟨fun z => (nomatch z), fun z => absurd (hb.mpr z.1) (by intro w; cases w)⟩)
 | true =>
  have ok := hb.mp rfl
  refine iteF ⟨_, rfl, p, _, _, _, rfl, rfl, s2.tup ht, at0, l, rfl, ⟨_, s2.seq hl⟩, fun D2 hD2 => ?_⟩
  let Pv8 : Nat → St → List V → Hp → Prop := fun i τ ys H3 => ∃ v : Option V, τ = [v, some (.ref u)] ∧ RowsAre K H3 ys ((rs.take i).map (ledR t n)) ∧ H3 D2 = some (.lst ys) ∧ Same H2 H3
  refine Js (n := rs.length) Pv8 ?_ (fun i τ ys H3 hi h => ?_) (fun i τ ys H3 hi h => ?_) (fun τ ys H3 h => ?_) ?_ ?_
  ·exact ⟨none, rfl, .nil, Qb, Qc hD2 _⟩
  ·obtain ⟨v, rfl, hra, hD3, s3⟩ := h
   have := hra.length
   rw [jX, jYb] at this
   exact ⟨hD3, by omega⟩
  ·obtain ⟨v, rfl, hra, hD3, s3⟩ := h
   exact ⟨vs, vs[i]'(by omega), (s2.trans s3).seq hl, gE (by omega)⟩
  ·obtain ⟨v, rfl, hra, hD3, s3⟩ := h
   exact ⟨vs, (s2.trans s3).seq hl, by omega⟩
  ·rintro i τ ys H3 x H4 hi ⟨v, rfl, hra, hD3, s3⟩ ⟨rfl, e1⟩
   obtain ⟨t', r, rfl, er, hrt⟩ := hrw.get (e1 _ ((s2.trans s3).seq hl))
   refine ⟨_, rfl, _, rfl, t', u, r, n, t, rfl, hrt.same (s2.trans s3), (s2.trans s3).seq hu1, T, hrl r (xY er), by omega, fun r' H5 s5 rr => ?_⟩
   have hD5 := s5 _ _ hD3
   refine ⟨hD5, _, rfl, ?_, Qb, fun b o e => ?_⟩
   ·rw [Qfk er, zW]
    exact Wh (Wi hD5 (Xg s5 hra)) (rr.upd hD5)
   ·rw [Qi (Qf e hD2)]; exact s5 _ _ (s3 _ _ e)
  rintro τ ys H3 ⟨v, rfl, hra, hD3, s3⟩
  rw [jJf] at hra
  have ly := hra.length
  rw [jX] at ly
  have s23 := s2.trans s3
  refine ⟨D2, ys, _, rfl, Qj hD3, hra, by omega, fun S ws qs hS hws lws pq sq => ?_⟩
  have s4 := Qc hS (.lst ws)
  refine ⟨_, rfl, p, _, _, _, rfl, rfl, (s23.trans s4).tup ht, at0, l, vs, rs, rfl, (s23.trans s4).seq hl, Xg (s23.trans s4) hrw, by omega, fun S2 ws2 qs2 hS2 hws2 lws2 pq2 sq2 => ?_⟩
  have s5 := Qc hS2 (.lst ws2)
  refine ⟨S, S2, _, _, rfl, rfl, RowsAre.hasD (Qj (s5 _ _ Qb)) (Xg (s4.trans s5) hws), RowsAre.hasD (Qj Qb) (Xg s5 hws2), Vt qs qs2, fun c hc => q c _ ((s23.trans s4).trans s5) ?_⟩
  rw [hc, Qdy]
  constructor
  ·rintro rfl
   exact ⟨ok, pq.symm.trans pq2⟩
  ·intro h
   exact Zs (pq.trans (h.2.trans pq2.symm)) sq sq2
end
abbrev sExs : Stmt := top 4
section
variable {P : Program} {w : World} {K : Fg} {mg : Str → Option Value} {base : Heap}
def Qhm (K : Fg) : Sp := fun vs H Q _ => ∃ (p : Addr) (rs : List Row) (cs : List Int) (n : Nat) (f : Nat → Nat → Bool), vs = [.ref p] ∧ ProbAt K H p rs cs ∧ cs.length = n ∧ n ≤ 7 ∧ (∀ r ∈ rs, r.1.length = n) ∧ rs.length < 60 ∧ (∀ i j, i < n → j < n → (f i j = true ↔ Wg rs cs (swT n i j) n)) ∧
 ∀ (l : Addr) (ws : List V) (H' : Hp), Same H H' → H l = none → H' l = some (.lst ws) → Xc K H' ws (outP f n n) → Q (.ref l) H'
theorem Qiy {X : Cx} {K : Fg} {pos : Pos} {es : List Expr} {k : Nat} {t : TGs} {n : Nat} (hK : X.K = K) (hc : X.calm = true) (h : PGs X es t) (hn : autoParam ((assignEach es X.env).length = n) L2.aRfl._auto_1) (hst : autoParam ((assignEach es X.env).findIdx? (·.1) = none) L2.aRfl._auto_1) : PG X (.Tuple es k pos) (gTup K n t) := by
 subst hK; exact pg_tup hc h hn hst
def ColAt (K : Fg) (H : Hp) (D : Addr) (rs : List Row) (cs : List Int) (v : V) (k : Nat) : Prop := ∃ (a S : Addr) (ws : List V) (qs : List (Int × Int)), v = .ref a ∧ S ≠ D ∧ SqT K H a [.int (cs.getD k 0), .ref S] ∧ H S = some (.lst ws) ∧ Xc K H ws qs ∧ qs.Perm (Zx rs k) ∧ qs.Pairwise (fun x y => Xe (prR y) (prR x) = false)
theorem ColAt.same {K : Fg} {H H' : Hp} {D : Addr} {rs : List Row} {cs : List Int} {v : V} {k : Nat} (s : Same H H') (h : ColAt K H D rs cs v k) : ColAt K H' D rs cs v k := by
 obtain ⟨a, S, ws, qs, e, n, h1, h2, h3, h4, h5⟩ := h; exact ⟨a, S, ws, qs, e, n, s.tup h1, s _ _ h2, Xu s h3, h4, h5⟩
theorem ColAt.upd {K : Fg} {H : Hp} {D : Addr} {rs : List Row} {cs : List Int} {v : V} {k : Nat} {ys zs : List V} (hD : H D = some (.lst ys)) (h : ColAt K H D rs cs v k) : ColAt K (upd H D (.lst zs)) D rs cs v k := by
 obtain ⟨a, S, ws, qs, e, n, h1, h2, h3, h4, h5⟩ := h; exact ⟨a, S, ws, qs, e, n, Yz hD h1, by rw [Qi n]; exact h2, Vc hD h3, h4, h5⟩
theorem Qgu {a b : Int} {xs ys : List (Int × Int)} : (D.tup [.int a, .lst (xs.map prD)] = D.tup [.int b, .lst (ys.map prD)]) ↔ (a = b ∧ xs = ys) := by
 constructor
 ·intro h
  injection h with h
  injection h with h1 h2
  injection h1 with h1
  injection h2 with h2 _
  exact ⟨h1, prsD_inj.mp h2⟩
 ·rintro ⟨rfl, rfl⟩; rfl
theorem scExs : FnScope ["problem", "rows", "costs", "often", "columns", "told", "one", "other"] ["problem"] (Qh sExs) := ⟨rfl, rfl, rfl, by decide +kernel, rfl, by decide +kernel, by decide +kernel⟩
theorem okExs (F : Fn K mg "exchanges" sExs) (M : Mg mg) (c_counted : Cal P w K mg base 1 "counted" ["things"] (Wk P w K)) (c_may_exchange : Cal P w K mg base 2 "may_exchange" ["often", "one", "other"] (spMay P w K)) : Cal P w K mg base 3 "exchanges" ["problem"] (Qhm K) := by
 refine Xz F scExs (fun _ _ _ _ _ _ => bind1 (fun _ => rfl)) (fun vs H Q E h => ?_) (fun f cdv A outer s H vs Q E hr h => ?_)
 ·obtain ⟨p, rs, cs, n, fB, rfl, _⟩ := h
  rfl
 obtain ⟨p, rs, cs, n, fB, rfl, pr, hcl, hn, hrl, h60, hf, q⟩ := h
 have hu6 : (A.deeper (PyProof.Rows.envOfC "exchanges" (Qh sExs) s.heap.objs.size f cdv)).units + 6 < cLine := zY (zJ (by decide) _) hr.un
 refine ⟨_, (Qe (Qm (i := 1) scExs.nd rfl (Or.inr rfl) (Qq Qz (pv 0) Qg (fun _ _ => rfl)))
  (Qe (Qm (i := 2) scExs.nd rfl (Or.inl rfl) (Qq Qz (pv 0) Qg (fun _ _ => rfl)))
  (Qe (Qm (i := 3) scExs.nd rfl (Or.inl rfl) (Xq c_counted (hr.mono (by decide)) (Qa (pv 1) Qd)))
  (Qe (Qfh (i := 4) ["choice", "cost", "rows"] [none, none, some 1] rfl scExs.nd rfl (Or.inl rfl) (Qig false rfl M.enumerate_ (Qa (pv 2) Qd)) (fun _ _ _ => (Qiy (K := K) (n := 2) rfl rfl (Qaf (Qs (i := 0) (show (["choice", "cost", "rows"] : List Str).Nodup by decide +kernel) rfl (Or.inr rfl) (Or.inl rfl)) (Qaf (Qs (i := 1) (show (["choice", "cost", "rows"] : List Str).Nodup by decide +kernel) rfl (Or.inl rfl) (Or.inr rfl)) Qhs)))) (fun _ _ _ => Jm) (fun _ _ _ => (Yk (Qa (pv 1) (Qa (Qv (Wf (K := K) rfl hu6) rfl M.sorted Jr (Qa (Qct ["row", "choice"] [none, some 0] rfl (Qfi (K := K) rfl (pv 2)) (fun _ _ _ => (Qs (i := 0) (show (["row", "choice"] : List Str).Nodup by decide +kernel) rfl (Or.inl rfl) (Or.inr rfl))) (fun _ _ _ => Jm) (fun _ _ _ => (Yk (Qa (Qq (Yi (K := K) rfl) (pv 0) Qg (fun _ _ => rfl)) (Qa (Qq (Yi (K := K) rfl) (Qq (Yi (K := K) rfl) (pv 0) Qg (fun _ _ => rfl)) (pv 1) (fun _ _ => rfl)) Qd))))) Qd)) Qd)))))
  (Qe (Qm (i := 5) scExs.nd rfl (Or.inl rfl) (Yo Qd))
  (Qe (Yb PassesOwn.never rfl (Xj rfl M.range_ (Qa (Qv Xd rfl M.len Jq (Qa (pv 2) Qd)) Qd)) (Qs (i := 6) scExs.nd rfl (Or.inl rfl) (Or.inl rfl)) (Qk (Yb PassesOwn.never rfl (Ve rfl M.range_ (Qa (Ql Xl (pv 6) Qg) (Qa (Qv Xd rfl M.len Jq (Qa (pv 2) Qd)) Qd))) (Qs (i := 7) scExs.nd rfl (Or.inl rfl) (Or.inl rfl)) (Qk (Kh (PW.pt (Qcc (Xm (Qcw (n := 6) hu6) (Qq Xn (pv 4) (pv 6) (fun _ _ => rfl)) (Qq Xn (pv 4) (pv 7) (fun _ _ => rfl)) (Xs _)) (Wl (Qae (Xq c_may_exchange (hr.mono (by decide)) (Qa (pv 3) (Qa (pv 6) (Qa (pv 7) Qd)))))))) (Qk (Yl (Vl PySem.F.plainAttrs_list PySem.F.slot_list_append PySem.F.type_list_append Xk (pv 5) (Qa (Yk (Qa (pv 6) (Qa (pv 7) Qd))) Qd)))) Ye)))))
  (Qk (Xh (pv 5))))))))), ?_⟩
 refine Qgc ?_
 intro rT7 rT6 rT5 rT4 rT3 rT2
 have hz : (1000 : Nat) < sizeLine := by decide
 obtain ⟨l, c, vs, ht, hl, hrw, hc⟩ := id pr
 have lv := hrw.length
 have lc : (cs.map V.int).length = n := by rw [jX]; exact hcl
 refine ⟨_, rfl, p, _, _, _, rfl, rfl, ht, at0, ?_⟩
 refine ⟨_, rfl, p, _, _, _, rfl, rfl, ht, at1, ?_⟩
 refine ⟨_, rfl, l, vs, rs, rfl, hl, hrw, by omega, fun d kvs H1 s1 rd of => ?_⟩
 have sq0 : ∀ {H' : Hp}, Same H H' → Sq K false H' c (cs.map V.int) := fun s => s.tup hc
 refine ⟨_, rfl, c, rfl, ⟨_, sq0 s1⟩, fun D hD => ?_⟩
 let Pv9 : Nat → St → List V → Hp → Prop := fun i τ ys H2 => ∃ u v : Option V, τ = [u, v, some (.ref l)] ∧ ys.length = i ∧ (∀ k v, ys[k]? = some v → ColAt K H2 D rs cs v k) ∧ H2 D = some (.lst ys) ∧ Same H1 H2
 refine Js (n := n) Pv9 ?_ (fun i τ ys H2 hi h => ?_) (fun i τ ys H2 hi h => ?_) (fun τ ys H2 h => ?_) ?_ ?_
 ·exact ⟨none, none, rfl, rfl, fun k v e => by simp at e, Qb, Qc hD _⟩
 ·obtain ⟨u, v, rfl, ly, hcol, hD2, s2⟩ := h
  exact ⟨hD2, by omega⟩
 ·obtain ⟨u, v, rfl, ly, hcol, hD2, s2⟩ := h
  exact ⟨_, _, sq0 (s1.trans s2), gE (by omega)⟩
 ·obtain ⟨u, v, rfl, ly, hcol, hD2, s2⟩ := h
  exact ⟨_, sq0 (s1.trans s2), by omega⟩
 ·rintro i τ ys H2 x H3 hi ⟨u, v, rfl, ly, hcol, hD2, s2⟩ ⟨T, x, rfl, hT, rfl, ex⟩
  obtain ⟨y, ey, rfl⟩ := Kv (ex _ (sq0 (s1.trans s2)))
  have sT := Qc hT (.tup [.int (i : Nat), .int y])
  refine ⟨T, _, rfl, Xb Qb, rfl, _, _, rfl, _, _, rfl, rfl, ?_⟩
  have s12 := (s1.trans s2).trans sT
  have hD3 := sT _ _ hD2
  have s23 := s2.trans sT
  have hcol3 : ∀ k v, ys[k]? = some v → ColAt K (upd H2 T (.tup [.int (i : Nat), .int y])) D rs cs v k := fun k v e => (hcol k v e).same sT
  generalize upd H2 T (.tup [.int (i : Nat), .int y]) = H3 at s12 hD3 s23 hcol3 ⊢
  refine ⟨_, rfl, _, rfl, l, rfl, ⟨_, s12.seq hl⟩, fun E' hE => ?_⟩
  let Pv10 : Nat → St → List V → Hp → Prop := fun m τ zs H4 => ∃ x : Option V, τ = [x, some (.int (i : Nat))] ∧ Xc K H4 zs (Zx (rs.take m) i) ∧ H4 E' = some (.lst zs) ∧ Same H3 H4
  refine Js (n := rs.length) Pv10 ?_ (fun m τ zs H4 hm h => ?_) (fun m τ zs H4 hm h => ?_) (fun τ zs H4 h => ?_) ?_ ?_
  ·exact ⟨none, rfl, .nil, Qb, Qc hE _⟩
  ·obtain ⟨x, rfl, hpr, hE4, s4⟩ := h
   have := Paired.length hpr
   unfold Zx at this
   rw [jX, jYb] at this
   exact ⟨hE4, by omega⟩
  ·obtain ⟨x, rfl, hpr, hE4, s4⟩ := h
   exact ⟨vs, vs[m]'(by omega), (s12.trans s4).seq hl, gE (by omega)⟩
  ·obtain ⟨x, rfl, hpr, hE4, s4⟩ := h
   exact ⟨vs, (s12.trans s4).seq hl, by omega⟩
  ·rintro m τ zs H4 x H5 hm ⟨x', rfl, hpr, hE4, s4⟩ ⟨rfl, e1⟩
   obtain ⟨t', r, rfl, er, hrt⟩ := hrw.get (e1 _ ((s12.trans s4).seq hl))
   obtain ⟨pp, hr1, hr2⟩ := hrt.same (s12.trans s4)
   have lr := hrl r (xY er)
   refine ⟨_, rfl, t', _, _, _, rfl, rfl, hr1, at1, _, rfl, t', _, _, _, rfl, rfl, hr1, at0, _, rfl, pp, _, _, _, rfl, rfl, hr2, atK6 (by omega), by show 2 ≤ sizeLine; decide, fun a ha => ?_⟩
   have sa := Qc ha (.tup [.int r.2, .int (r.1.getD i 0)])
   refine ⟨sa _ _ hE4, _, rfl, ?_, Qb, fun b o e => ?_⟩
   ·rw [Qfk er]
    unfold Zx at hpr ⊢
    rw [zW]
    exact Vb (Vc (sa _ _ hE4) (Xu sa hpr)) ⟨a, rfl, Yz (sa _ _ hE4) (Xb Qb)⟩
   ·rw [Qi (Qf e hE)]; exact sa _ _ (s4 _ _ e)
  rintro τ zs H4 ⟨x, rfl, hpr, hE4, s4⟩
  rw [jJf] at hpr
  have lz := Paired.length hpr
  unfold Zx at lz
  rw [jX] at lz
  refine ⟨E', zs, _, rfl, Qj hE4, hpr, by omega, fun S ws qs hS pws lws pq sq => ?_⟩
  have sS := Qc hS (.lst ws)
  refine ⟨by show 2 ≤ sizeLine; decide, fun a ha => ?_⟩
  have sa := Qc ha (.tup [.int y, .ref S])
  have sSa := sS.trans sa
  have s46 := s4.trans sSa
  have nS : S ≠ D := fun z => by subst z; rw [s4 _ _ hD3] at hS; cases hS
  have hS6 := sa _ _ (Qb (H := H4) (a := S) (o := .lst ws))
  have hD6 := s46 _ _ hD3
  have hA6 : SqT K (upd (upd H4 S (.lst ws)) a (.tup [.int y, .ref S])) a [.int y, .ref S] := Xb Qb
  have pw6 := Xu sSa pws
  have s26 := s23.trans s46
  have hcol6 : ∀ k v, ys[k]? = some v → ColAt K (upd (upd H4 S (.lst ws)) a (.tup [.int y, .ref S])) D rs cs v k := fun k v e => (hcol3 k v e).same s46
  generalize upd (upd H4 S (.lst ws)) a (.tup [.int y, .ref S]) = H6 at hS6 hD6 hA6 pw6 s26 hcol6 ⊢
  refine ⟨hD6, _, _, rfl, by rw [yY, ly]; rfl, fun k v e => ?_, Qb, fun b o e => ?_⟩
  ·by_cases hk : k < ys.length
   ·rw [List.getElem?_append_left hk] at e
    exact (hcol6 k v e).upd hD6
   ·rw [List.getElem?_append_right (by omega)] at e
    have hk2 : k = i := by
     have := (kX.mp e).1
     rw [jKf] at this
     omega
    subst hk2
    rw [show k - ys.length = 0 by omega] at e
    cases e
    refine ColAt.upd hD6 ⟨a, S, ws, qs, rfl, nS, ?_, hS6, pw6, pq, sq⟩
    rw [Qge ey]; exact hA6
  ·rw [Qi (Qf e hD)]; exact s26 _ _ e
 rintro τ ys H2 ⟨u, v, rfl, ly, hcol, hD2, s2⟩
 have s12 := s1.trans s2
 have rd2 := rd.same s2
 refine ⟨by show 0 ≤ sizeLine; decide, fun G hG => ?_⟩
 have sG := Qc hG (.lst [])
 refine ⟨_, rfl, c, _, rfl, .inr ((s12.trans sG).tup hc), _, rfl, by omega, by rw [lc]; omega, Xi (lo := 0) (n := Int.toNat (((cs.map V.int).length : Nat) : Int)) (fun i σ H3 => ∃ (x y : Option V) (ws : List V), σ = [some (.ref p), some (.ref l), some (.ref c), some (.ref d), some (.ref D), some (.ref G), x, y] ∧ H3 G = some (.lst ws) ∧ Xc K H3 ws (outP fB n i) ∧ Same H2 H3) ⟨none, none, [], rfl, Qb, .nil, sG⟩ ?_ ?_⟩
 ·rintro i σ H3 hi ⟨x, y, ws, rfl, hG3, hpr, s3⟩
  have hi' : i < n := by rw [lc] at hi; omega
  rw [show (0 : Int) + (i : Int) = ((i : Nat) : Int) by omega]
  refine ⟨_, rfl, _, _, rfl, rfl, _, rfl, c, _, rfl, .inr ((s12.trans s3).tup hc), _, _, rfl, ⟨by omega, by omega, by rw [lc]; omega, by rw [lc]; omega⟩, Xi (lo := (i : Int) + 1) (n := ((((cs.map V.int).length : Nat) : Int) - ((i : Int) + 1)).toNat) (fun k σ H4 => ∃ (y : Option V) (ws : List V), σ = [some (.ref p), some (.ref l), some (.ref c), some (.ref d), some (.ref D), some (.ref G), some (.int (i : Nat)), y] ∧ H4 G = some (.lst ws) ∧ Xc K H4 ws (outP fB n i ++ inP fB i k) ∧ Same H2 H4) ⟨y, ws, rfl, hG3, by show Xc K H3 ws (outP fB n i ++ []); rw [jYe]; exact hpr, s3⟩ ?_ ?_⟩
  ·rintro k σ H4 hk ⟨y, ws, rfl, hG4, hpr4, s4⟩
   have hk' : i + 1 + k < n := by rw [lc] at hk; omega
   rw [show (i : Int) + 1 + (k : Int) = ((i + 1 + k : Nat) : Int) by omega]
   obtain ⟨a1, S1, w1, q1, e1, n1, c1, c2, c3, c4, c5⟩ := (hcol i _ (gE (by omega))).same s4
   obtain ⟨a2, S2, w2, q2, e2, n2, d1, d2, d3, d4, d5⟩ := (hcol (i + 1 + k) _ (gE (by omega))).same s4
   have lw := Paired.length hpr4
   rw [yY] at lw
   have l1 := Va fB n i
   have l2 := Qab fB i k
   have l3 : i * n ≤ 7 * 7 := Nat.mul_le_mul (by omega) hn
   have due := Qed hn hi' hk' (cs := cs) hrl
   rw [← hf i (i + 1 + k) hi' hk'] at due
   have no : ∀ (H5 : Hp) (y : Option V) (ws : List V), fB i (i + 1 + k) = false → H5 G = some (.lst ws) → Xc K H5 ws (outP fB n i ++ inP fB i k) → Same H2 H5 → ∃ (y' : Option V) (ws : List V), [some (V.ref p), some (.ref l), some (.ref c), some (.ref d), some (.ref D), some (.ref G), some (.int (i : Nat)), y] = [some (.ref p), some (.ref l), some (.ref c), some (.ref d), some (.ref D), some (.ref G), some (.int (i : Nat)), y'] ∧ H5 G = some (.lst ws) ∧ Xc K H5 ws (outP fB n i ++ inP fB i (k + 1)) ∧ Same H2 H5 := fun H5 y ws e h1 h2 h3 => ⟨y, ws, rfl, h1, by rw [Je, if_neg (by rw [e]; exact jW), jYe]; exact h2, h3⟩
   refine ⟨_, rfl, _, rfl, D, _, _, _, rfl, rfl, Qj (s4 _ _ hD2), Qbs (by rw [gE (by omega), e1]), _, rfl, _, rfl, D, _, _, _, rfl, rfl, Qj (s4 _ _ hD2), Qbs (by rw [gE (by omega), e2]), a1, a2, _, _, rfl, rfl, pairD c1 (.int _) (Jf (Qj c2) c3), pairD d1 (.int _) (Jf (Qj d2) d3), Zj (.int _ _) (Qbg _ _), fun b hb => ⟨_, rfl, ?_⟩⟩
   rw [Qgu] at hb
   cases b with
   | false =>
    refine iteF (no H4 _ ws ?_ hG4 hpr4 s4)
    refine Bool.eq_false_iff.mpr fun z => ?_
    obtain ⟨⟨z1, z2⟩, _⟩ := due.mpr z
    exact absurd (hb.mpr ⟨z1, Qaa (c4.trans (z2.trans d4.symm)) c5 d5⟩) (by intro w; cases w)
   | true =>
    obtain ⟨z1, z2⟩ := hb.mp rfl
    subst z2
    have cp := c4.symm.trans d4
    refine iteT ⟨_, rfl, _, rfl, _, rfl, d, kvs, rs, i, i + 1 + k, n, rfl, rd2.same s4, of, hrl, hi', hk', by omega, fun m H5 s5 hm => ⟨_, rfl, ?_⟩⟩
    have s45 := s4.trans s5
    have hG5 := s5 _ _ hG4
    cases m with
    | false =>
     refine iteF (no H5 _ ws ?_ hG5 (Xu s5 hpr4) s45)
     refine Bool.eq_false_iff.mpr fun z => ?_
     exact absurd (hm.mpr (due.mpr z).2) (by intro w; cases w)
    | true =>
     have fy : fB i (i + 1 + k) = true := due.mp ⟨⟨z1, cp⟩, hm.mp rfl⟩
     refine iteT ⟨_, rfl, .inl ⟨rfl, _, Qj hG5⟩, _, rfl, _, rfl, by show 2 ≤ sizeLine; decide, fun a ha => ?_⟩
     have sa := Qc ha (.tup [.int (i : Nat), .int ((i + 1 + k : Nat) : Int)])
     refine ⟨G, ws, _, rfl, rfl, sa _ _ hG5, by omega, _, _, rfl, Qb, ?_, fun b o e => ?_⟩
     ·rw [Je, if_pos fy, ← List.append_assoc]
      exact Vb (Vc (sa _ _ hG5) (Xu (s5.trans sa) hpr4)) ⟨a, rfl, Yz (sa _ _ hG5) (Xb Qb)⟩
     ·rw [Qi (Qf e hG)]; exact sa _ _ (s45 _ _ e)
  ·rintro σ H4 ⟨y, ws, rfl, hG4, hpr4, s4⟩
   refine ⟨_, _, ws, rfl, hG4, ?_, s4⟩
   rw [Ke]
   rw [show ((((cs.map V.int).length : Nat) : Int) - ((i : Int) + 1)).toNat = n - (i + 1) by rw [lc]; omega] at hpr4
   exact hpr4
 ·rintro σ H3 ⟨x, y, ws, rfl, hG3, hpr, s3⟩
  rw [show Int.toNat (((cs.map V.int).length : Nat) : Int) = n by rw [lc]; omega] at hpr
  refine ⟨_, rfl, q G ws H3 (s12.trans s3) ?_ hG3 hpr⟩
  cases e : H G with
  | none => rfl
  | some o => rw [s12 _ _ e] at hG; cases hG
end
abbrev Zp : Stmt := top 16
section
variable {P : Program} {w : World} {K : Fg} {mg : Str → Option Value} {base : Heap}
def orbM (t : List Nat) (n : Nat) (r : Row) (k : Nat) : List Row := (List.range k).map (ledM t n r)
theorem Qep (t : List Nat) (n : Nat) (r : Row) (k : Nat) : orbM t n r (k + 1) = orbM t n r k ++ [ledM t n r k] := by
 unfold orbM; rw [jQd, zW]; rfl
theorem Vd (t : List Nat) (n : Nat) (r : Row) (k : Nat) : (orbM t n r k).length = k := by unfold orbM; rw [jX, xX]
theorem Qeq {K : Fg} {H : Hp} {ws : List V} {t : List Nat} {n : Nat} {r : Row} {k : Nat} (hk : 1 ≤ k) (h : RowsAre K H ws (orbM t n r k)) : ∃ a, atI ws (-1) = some (.ref a) ∧ RowAt K H a (ledM t n r (k - 1)) := by
 have lw := h.length
 rw [Vd] at lw
 obtain ⟨a, q, e1, e2, z⟩ := h.get (gE (show ws.length - 1 < ws.length by omega))
 refine ⟨a, Qbd (by rw [gE (by omega), e1]) (by omega), ?_⟩
 unfold orbM at e2
 rw [kQ, wY (by omega)] at e2
 have : ledM t n r (ws.length - 1) = q := Option.some.inj e2
 rw [← this, lw] at z
 exact z
def plM (t : List Nat) (n i k : Nat) : List Int := (List.range k).map fun m => (((pw n t m).getD i 0 : Nat) : Int)
theorem Qgv (t : List Nat) (n i k : Nat) : plM t n i (k + 1) = plM t n i k ++ [(((pw n t k).getD i 0 : Nat) : Int)] := by
 unfold plM; rw [jQd, zW]; rfl
theorem Kg (t : List Nat) (n i k : Nat) : (plM t n i k).length = k := by unfold plM; rw [jX, xX]
theorem Qbj {t : List Nat} {n i k : Nat} (hk : 1 ≤ k) : atI ((plM t n i k).map V.int) (-1) = some (.int (((pw n t (k - 1)).getD i 0 : Nat) : Int)) := by
 refine Qbd ?_ ?_
 ·rw [jX, Kg]
  unfold plM
  rw [kQ, kQ, wY (by omega)]
  rfl
 ·rw [jX, Kg]; omega
theorem Qiz {n : Nat} {t : List Nat} (T : IsTurn n t) {i k : Nat} (hi : i < n) : t.getD ((pw n t k).getD i 0) 0 = (pw n t (k + 1)).getD i 0 := by
 show _ = (after (pw n t k) t).getD i 0
 obtain ⟨e, _⟩ := getT (Zd T k) hi
 unfold after
 rw [jJ (l := List.map _ _), kQ, e]
 rfl
theorem scAlike27 : FnScope ["_law_problem_here", "_law_turn", "_law_rows", "_law_row_here", "_law_more", "_law_costs", "_law_i", "_law_lot"] ["_law_problem_here", "_law_turn"] (Qh Zp) := ⟨rfl, rfl, rfl, by decide +kernel, rfl, by decide +kernel, by decide +kernel⟩
theorem Qer (F : Fn K mg "_law_alike" Zp) (M : Mg mg) (cl_led : Cal P w K mg base 1 "_law_led" ["_law_row_here", "_law_turn"] (Kx K)) : Cal P w K mg base 2 "_law_alike" ["_law_problem_here", "_law_turn"] (Qej K) := by
 refine Xz F scAlike27 (fun _ _ _ _ _ _ => Qbx (fun _ _ => rfl)) (fun vs H Q E h => ?_) (fun f cdv A outer s H vs Q E hr h => ?_)
 ·obtain ⟨p, u, rs, cs, n, t, rfl, _⟩ := h
  rfl
 obtain ⟨p, u, rs, cs, n, t, rfl, pr, hu1, T, hn, hrl, hcl, h3, q⟩ := h
 have hu6 : (A.deeper (PyProof.Rows.envOfC "_law_alike" (Qh Zp) s.heap.objs.size f cdv)).units + 6 < cLine := zY (zJ (by decide) _) hr.un
 refine ⟨_, (Qe (Qm (i := 2) scAlike27.nd rfl (Or.inl rfl) (Yo Qd))
  (Qe (Yb PassesOwn.never rfl (Yx (Qq Qz (pv 0) Qg (fun _ _ => rfl))) (Qs (i := 3) scAlike27.nd rfl (Or.inl rfl) (Or.inl rfl)) (Qe (Qm (i := 4) scAlike27.nd rfl (Or.inl rfl) (Yo (Qa (pv 3) Qd)))
  (Qe (Qag PassesOwn.never (Xm (Qar (n := 6) hu6) (Xq cl_led (hr.mono (by decide)) (Qa (Qq Xn (pv 4) (Qev Qak Qg) (fun _ _ => rfl)) (Qa (pv 1) Qd))) (pv 3) (Xs _)) (Qk (Yl (Vl PySem.F.plainAttrs_list PySem.F.slot_list_append PySem.F.type_list_append Xk (pv 4) (Qa (Xq cl_led (hr.mono (by decide)) (Qa (Qq Xn (pv 4) (Qev Qak Qg) (fun _ _ => rfl)) (Qa (pv 1) Qd))) Qd)))))
  (Qk (Qm (i := 2) scAlike27.nd rfl (Or.inl rfl) (Ql op_cat (pv 2) (pv 4)))))))
  (Qe (Qm (i := 5) scAlike27.nd rfl (Or.inl rfl) (Yo Qd))
  (Qe (Yb PassesOwn.never rfl (Xj rfl M.range_ (Qa (Qv Xd rfl M.len Jq (Qa (pv 1) Qd)) Qd)) (Qs (i := 6) scAlike27.nd rfl (Or.inl rfl) (Or.inl rfl)) (Qe (Qm (i := 7) scAlike27.nd rfl (Or.inl rfl) (Yo (Qa (pv 6) Qd)))
  (Qe (Qag PassesOwn.never (Xm Qhu (Qq Xn (pv 1) (Qq Xn (pv 7) (Qev Qak Qg) (fun _ _ => rfl)) (fun _ _ => rfl)) (pv 6) (Xs _)) (Qk (Yl (Vl PySem.F.plainAttrs_list PySem.F.slot_list_append PySem.F.type_list_append Xk (pv 7) (Qa (Qq Xn (pv 1) (Qq Xn (pv 7) (Qev Qak Qg) (fun _ _ => rfl)) (fun _ _ => rfl)) Qd)))))
  (Qk (Yl (Vl PySem.F.plainAttrs_list PySem.F.slot_list_append PySem.F.type_list_append Xk (pv 5) (Qa (Qq Qz (Qq Qz (pv 0) Qg (fun _ _ => rfl)) (Qv (Qdq rfl) rfl M.min Qhc (Qa (pv 7) Qd)) (fun _ _ => rfl)) Qd)))))))
  (Qk (Xh (Yk (Qa (pv 2) (Qa (Qw Xf rfl M.tuple_ Yh (Qa (pv 5) Qd)) Qd))))))))), ?_⟩
 have hz : (1000 : Nat) < sizeLine := by decide
 obtain ⟨l, c, vs, ht, hl, hrw, hc⟩ := id pr
 have lt := T.length
 have lv := hrw.length
 have lT : ((tI t).map V.int).length = n := by rw [jX, Yw]; exact lt
 have rg : ∀ {H1 : Hp} {h' : Addr} {row : Row} {k : Nat}, RowAt K H1 h' (put (ledM t n row k).1 t n, (ledM t n row k).2) → RowAt K H1 h' (ledM t n row (k + 1)) := fun z => z
 obtain ⟨M', m1, m2, em⟩ := Qft T hn
 refine ⟨by show 0 ≤ sizeLine; decide, fun g0 hg0 => ?_⟩
 have s0 := Qc hg0 (.lst [])
 let Pv11 : Nat → St → Hp → Prop := fun i σ H1 => ∃ (g : Addr) (ws : List V) (rs' : List Row) (x y : Option V), σ = [some (.ref p), some (.ref u), some (.ref g), x, y, none, none, none] ∧ H1 g = some (.lst ws) ∧ RowsAre K H1 ws rs' ∧ (∀ r ∈ rs', r.1.length = n) ∧ rs'.length ≤ 12 * i ∧ Same H H1
 refine ⟨_, rfl, p, _, _, _, rfl, rfl, s0.tup ht, at0, l, rfl, ⟨_, s0.seq hl⟩, Qai (K := K) (a := l) (xs := vs) Pv11 ⟨g0, [], [], none, none, rfl, Qb, .nil, (fun r hr' => nomatch hr'), jK _, s0⟩ (fun i σ H1 _ h => ?_) ?_ ?_⟩
 ·obtain ⟨g, ws, rs', x, y, rfl, hg, hra, hln, hlen, s1⟩ := h
  exact s1.seq hl
 ·rintro i x σ H1 e1 ⟨g, ws, rs', x', y', rfl, hg, hra, hln, hlen, s1⟩
  obtain ⟨t', row, rfl, er, hrt⟩ := hrw.get e1
  have hi : i < rs.length := (kX.mp er).1
  have lr := hrl row (xY er)
  have eM : ledM t n row M' = row := by rw [Qea T lr, em, Vv lr]
  refine ⟨_, rfl, by show 1 ≤ sizeLine; decide, fun m hm => ?_⟩
  have sm := Qc hm (.lst [.ref t'])
  have hm0 : upd H1 m (.lst [.ref t']) m = some (.lst [.ref t']) := Qb
  generalize upd H1 m (.lst [.ref t']) = H1' at sm hm0 ⊢
  refine Qaj (fun σ H2 => ∃ (k : Nat) (w2 : List V), σ = [some (.ref p), some (.ref u), some (.ref g), some (.ref t'), some (.ref m), none, none, none] ∧ 1 ≤ k ∧ k ≤ M' ∧ H2 m = some (.lst w2) ∧ RowsAre K H2 w2 (orbM t n row k) ∧ Same H1 H2)
   (fun σ H2 => match H2 m with | some (.lst ws) => M' - ws.length | _ => 0) ⟨1, [.ref t'], rfl, jK _, m1, hm0, Qgg (hrt.same (s1.trans sm)), sm⟩ ?_ ?_
  ·rintro σ H2 ⟨k, w2, rfl, k1, k2, hm2, ho, s2⟩
   have lw := ho.length
   rw [Vd] at lw
   obtain ⟨a, ea, za⟩ := Qeq k1 ho
   have s12 := s1.trans s2
   refine ⟨_, rfl, _, rfl, m, _, _, _, rfl, rfl, Qj hm2, ea, _, rfl, a, u, ledM t n row (k - 1), n, t, rfl, za, s12.seq hu1, T, Kz T lr _, by omega, fun r' H3 s3 rr => ?_⟩
   have rr := rg rr
   rw [show k - 1 + 1 = k by omega] at rr
   refine ⟨_, rfl, r', t', _, _, rfl, rfl, rr.hasD, (hrt.same (s12.trans s3)).hasD, Qaz _ _, fun b hb => ⟨_, rfl, ?_⟩⟩
   have hm3 := s3 _ _ hm2
   have ho3 := Xg s3 ho
   have s23 := s2.trans s3
   have s13 := s1.trans s23
   cases b with
   | true =>
    refine iteF ⟨_, rfl, _, rfl, g, m, ws, w2, rfl, rfl, s23 _ _ hg, hm3, by have := hra.length; omega, fun g2 hg2 => ?_⟩
    have sg := Qc hg2 (.lst (ws ++ w2))
    refine ⟨g2, _, rs' ++ orbM t n row k, _, _, rfl, Qb, Xg sg (Qeb (Xg s23 hra) ho3), fun x hx => ?_, by rw [yY, Vd]; omega, s13.trans sg⟩
    rcases jQc.mp hx with y | y
    ·exact hln x y
    ·obtain ⟨k', _, rfl⟩ := jZe.mp y
     exact Kz T lr _
   | false =>
    have ne : ledM t n row k ≠ row := fun z => nomatch hb.mpr (congrArg rowD z)
    have km : k < M' := Nat.lt_of_le_of_ne k2 fun z => ne (by rw [z]; exact eM)
    refine iteT ⟨_, rfl, .inl ⟨rfl, _, Qj hm3⟩, _, rfl, _, rfl, m, _, _, _, rfl, rfl, Qj hm3, ea, _, rfl, a, u, ledM t n row (k - 1), n, t, rfl, za.same s3, s13.seq hu1, T, Kz T lr _, by omega, fun r2 H4 s4 rr2 => ?_⟩
    have rr2 := rg rr2
    rw [show k - 1 + 1 = k by omega] at rr2
    have hm4 := s4 _ _ hm3
    refine ⟨m, w2, _, rfl, rfl, hm4, by omega, ⟨k + 1, _, rfl, by omega, by omega, Qb, ?_, fun b o e => ?_⟩, ?_⟩
    ·rw [Qep]
     exact Wh (Wi hm4 (Xg s4 ho3)) (rr2.upd hm4)
    ·rw [Qi (Qf e hm)]; exact s4 _ _ (s23 _ _ e)
    ·show (match upd H4 m (.lst (w2 ++ [V.ref r2])) m with | some (.lst ws) => M' - ws.length | _ => 0) < (match H2 m with | some (.lst ws) => M' - ws.length | _ => 0)
     rw [Qb, hm2]
     show M' - (w2 ++ [V.ref r2]).length < M' - w2.length
     rw [yY]
     show M' - (w2.length + 1) < M' - w2.length
     omega
  ·rintro σ H2 Q1 Q2 hq ⟨x1, e1, x2, e2, a1, a2, a3, a4, f1, f2, f3, f4, x5, e5, b1, b2, b3, b4, b5, b6, b7, b8, b9, b10, b11, b12⟩
   refine ⟨x1, e1, x2, e2, a1, a2, a3, a4, f1, f2, f3, f4, x5, e5, b1, b2, b3, b4, b5, b6, b7, b8, b9, b10, b11, fun r' H3 s3 rr => ?_⟩
   obtain ⟨y1, y2, y3, y4, y5, y6, y7, y8, y9, y10, y11, y12⟩ := b12 r' H3 s3 rr
   exact ⟨y1, y2, y3, y4, y5, y6, y7, y8, y9, y10, y11, fun b hb => let ⟨z1, z2, z3⟩ := y12 b hb; ⟨z1, z2, hq _ _ z3⟩⟩
 rintro σ H1 ⟨g, ws, rs', x3, x4, rfl, hg, hra, hln, hlen, s1⟩
 refine ⟨by show 0 ≤ sizeLine; decide, fun C0 hC0 => ?_⟩
 have sC := Qc hC0 (.lst [])
 refine ⟨_, rfl, u, _, rfl, .inl ((s1.trans sC).seq hu1), _, rfl, by omega, by rw [lT]; omega, Xi (lo := 0) (n := Int.toNat ((((tI t).map V.int).length : Nat) : Int)) (fun i σ H2 => ∃ (ds : List Int) (x6 x7 : Option V), σ = [some (.ref p), some (.ref u), some (.ref g), x3, x4, some (.ref C0), x6, x7] ∧ H2 C0 = some (.lst (ds.map V.int)) ∧ ds.length = i ∧ Same H1 H2) ⟨[], none, none, rfl, Qb, rfl, sC⟩ ?_ ?_⟩
 ·rintro i σ H2 hi ⟨ds, x6, x7, rfl, hC2, ld, s2⟩
  have hi' : i < n := by rw [lT] at hi; omega
  rw [show (0 : Int) + (i : Int) = ((i : Nat) : Int) by omega]
  refine ⟨_, rfl, by show 1 ≤ sizeLine; decide, fun L hL => ?_⟩
  have sL := Qc hL (.lst [.int (i : Nat)])
  have hL0 : upd H2 L (.lst [.int (i : Nat)]) L = some (.lst ((plM t n i 1).map V.int)) := by
   rw [Qb]
   show _ = some (HO.lst [V.int (((List.range n).getD i 0 : Nat) : Int)])
   rw [jJ, wY hi']
   rfl
  generalize upd H2 L (.lst [.int (i : Nat)]) = H2' at sL hL0 ⊢
  have pl : ∀ k, (pw n t k).getD i 0 < n := fun k => (getT (Zd T k) hi').2
  refine Qaj (fun σ H3 => ∃ k : Nat, σ = [some (.ref p), some (.ref u), some (.ref g), x3, x4, some (.ref C0), some (.int (i : Nat)), some (.ref L)] ∧ 1 ≤ k ∧ k ≤ M' ∧ H3 L = some (.lst ((plM t n i k).map V.int)) ∧ Same H2 H3)
   (fun σ H3 => match H3 L with | some (.lst ws) => M' - ws.length | _ => 0) ⟨1, rfl, jK _, m1, hL0, sL⟩ ?_ ?_
  ·rintro σ H3 ⟨k, rfl, k1, k2, hL3, s3⟩
   have s13 := (s1.trans s2).trans s3
   obtain ⟨et, _⟩ := getT T (pl (k - 1))
   have ps := Qiz T (k := k - 1) hi'
   rw [show k - 1 + 1 = k by omega] at ps
   rw [ps] at et
   have au : atI ((tI t).map V.int) (((pw n t (k - 1)).getD i 0 : Nat) : Int) = some (.int (((pw n t k).getD i 0 : Nat) : Int)) := Qbs (by rw [kQ, Qhf et]; rfl)
   refine ⟨_, rfl, _, rfl, _, rfl, L, _, _, _, rfl, rfl, Qj hL3, Qbj k1, u, _, _, _, rfl, rfl, s13.seq hu1, au, _, rfl, rfl, _, rfl, ?_⟩
   rw [Qdz]
   refine ite2 (fun y => ?_) (fun y => ?_)
   ·have ne : (pw n t k).getD i 0 ≠ i := fun z => by rw [kW (show (((pw n t k).getD i 0 : Nat) : Int) = ((i : Nat) : Int) by rw [z])] at y; cases y
    have km : k < M' := Nat.lt_of_le_of_ne k2 fun z => ne (by rw [z, em, jJ, wY hi']; rfl)
    refine ⟨_, rfl, .inl ⟨rfl, _, Qj hL3⟩, _, rfl, _, rfl, _, rfl, L, _, _, _, rfl, rfl, Qj hL3, Qbj k1, u, _, _, _, rfl, rfl, s13.seq hu1, au, L, _, _, rfl, rfl, hL3, by rw [jX, Kg]; omega, ⟨k + 1, rfl, by omega, by omega, ?_, fun b o e => ?_⟩, ?_⟩
    ·rw [Qb, Qgv, zW]; rfl
    ·rw [Qi (Qf e hL)]; exact s3 _ _ e
    ·show (match upd H3 L (.lst ((plM t n i k).map V.int ++ [V.int (((pw n t k).getD i 0 : Nat) : Int)])) L with | some (.lst ws) => M' - ws.length | _ => 0) < (match H3 L with | some (.lst ws) => M' - ws.length | _ => 0)
     rw [Qb, hL3]
     show M' - ((plM t n i k).map V.int ++ [V.int (((pw n t k).getD i 0 : Nat) : Int)]).length < M' - ((plM t n i k).map V.int).length
     rw [yY, jX, Kg]
     show M' - (k + 1) < M' - k
     omega
   ·refine ⟨_, rfl, .inl ⟨rfl, _, Qj (s3 _ _ hC2)⟩, _, rfl, p, _, _, _, rfl, rfl, s13.tup ht, at1, _, rfl, L, _, rfl, Qj hL3, fun z => ?_, fun mn hmn _ => ?_⟩
    ·have := Kg t n i k
     rw [z] at this
     simp at this
     omega
    ·obtain ⟨m', _, rfl⟩ := jZe.mp hmn
     refine ⟨c, _, _, _, rfl, rfl, s13.tup hc, atK6 (by have := pl m'; omega), C0, _, _, rfl, rfl, s3 _ _ hC2, by rw [jX]; omega, ds ++ [cs.getD ((pw n t m').getD i 0) 0], _, _, rfl, by rw [Qb, zW]; rfl, by rw [yY, ld]; rfl, fun b o e => ?_⟩
     rw [Qi (Qf e hC0)]; exact s3 _ _ (s2 _ _ e)
  ·rintro σ H3 Q1 Q2 hq ⟨x1, e1, x2, e2, x3, e3, a1, a2, a3, a4, f1, f2, f3, f4, b1, b2, b3, b4, g1, g2, g3, g4, x5, e5, w1, y1, y2, y3⟩
   exact ⟨x1, e1, x2, e2, x3, e3, a1, a2, a3, a4, f1, f2, f3, f4, b1, b2, b3, b4, g1, g2, g3, g4, x5, e5, w1, y1, y2, hq _ _ y3⟩
 ·rintro σ H2 ⟨ds, x6, x7, rfl, hC2, ld, s2⟩
  rw [show Int.toNat ((((tI t).map V.int).length : Nat) : Int) = n by rw [lT]; omega] at ld
  refine ⟨_, rfl, _, rfl, C0, _, rfl, .inl ⟨Qj hC2, fun cc hcc => ⟨by show 2 ≤ sizeLine; decide, fun P' hP' => ?_⟩⟩⟩
  have sB := Qc hP' (.tup [.ref g, .ref cc])
  have sA := (Qc hcc (.tup (ds.map V.int))).trans sB
  exact q P' rs' ds _ ((s1.trans s2).trans sA) ⟨g, cc, ws, Xb Qb, Qj ((s2.trans sA) _ _ hg), Xg (s2.trans sA) hra, sB.tup (Xb Qb)⟩ hln ld (by omega)
end
abbrev sLaw : Stmt := top 17
section
variable {P : Program} {w : World} {K : Fg} {mg : Str → Option Value} {base : Heap}
theorem Qbk (n i j : Nat) : ((((tI (List.range n)).map V.int).set i (.int (j : Int))).set j (.int (i : Int))) = (tI (swT n i j)).map V.int := by
 unfold swT tI; rw [jYa, jYa, jYa, jYa]
theorem Qhn (z : Int) {m : Int} (hm : 0 < m) : ∃ k : Nat, z % m = (k : Int) ∧ k < m.toNat := by
 have a := jZb z (Int.ne_of_gt hm)
 have b := jXb z hm
 exact ⟨(z % m).toNat, by omega, by omega⟩
theorem Qja (n : Nat) : (List.replicate n true).all id = true := by
 rw [yW]
 intro x hx
 rw [(List.mem_replicate.mp hx).2]
 rfl
theorem scLaw : FnScope ["_law_script", "_law_many", "_law_problem_here", "_law_left_here", "_law_turn", "_law_one", "_law_other", "_law_due", "_law_handed", "_law_again", "_law_found"] ["_law_script"] (Qh sLaw) := ⟨rfl, rfl, rfl, by decide +kernel, rfl, by decide +kernel, by decide +kernel⟩
theorem okLaw {f : Addr} {fd : FuncData} (F : Fun K "law" "law" sLaw f fd) (M : Mg mg) (cl_cell_at : Cal P w K mg base 1 "_law_cell_at" ["_law_script", "_law_k"] (Qay K)) (cl_problem : Cal P w K mg base 3 "_law_problem" ["_law_script", "_law_many", "_law_count"] (Kf K)) (cl_numbered : Cal P w K mg base 1 "_law_numbered" ["_law_many", "_law_left_here"] (Qhl K)) (cl_alike : Cal P w K mg base 2 "_law_alike" ["_law_problem_here", "_law_turn"] (Qej K)) (cl_keeps : Cal P w K mg base 2 "_law_keeps" ["_law_problem_here", "_law_turn"] (spKT K)) (cl_copy : Cal P w K mg base 1 "_law_copy" ["_law_problem_here"] (Qhi K)) (c_exchanges : Cal P w K mg base 3 "exchanges" ["problem"] (Qhm K)) (cl_whole : Cal P w K mg base 1 "_law_whole" ["_law_found"] (Qdf)) : FnOk P w K mg base CX0 5 f fd ["_law_script"] (Qfp K) := by
 refine F.ok scLaw (fun vs H Q E h => ?_) (fun cdv A outer s H vs Q E hr h => ?_)
 ·obtain ⟨a, ns, rfl, _⟩ := h
  rfl
 obtain ⟨a, ns, rfl, hS, h63, q⟩ := h
 have hu6 : (A.deeper (PyProof.Rows.envOfC "law" (Qh sLaw) s.heap.objs.size f cdv)).units + 6 < cLine := zY (zJ (by decide) _) hr.un
 have hu : (A.deeper (PyProof.Rows.envOfC "law" (Qh sLaw) s.heap.objs.size f cdv)).units + 1 < cLine := zY (zJ (by decide) _) hr.un
 refine ⟨_, (Qe (Qm (i := 1) scLaw.nd rfl (Or.inl rfl) (Ql Xw (Xq cl_cell_at (hr.mono (by decide)) (Qa (pv 0) (Qa Qg Qd))) Qg))
  (Qe (Qm (i := 2) scLaw.nd rfl (Or.inl rfl) (Xq cl_problem (hr.mono (by decide)) (Qa (pv 0) (Qa (pv 1) (Qa (Ql Xw (Ql Yn (Xq cl_cell_at (hr.mono (by decide)) (Qa (pv 0) (Qa Qg Qd))) Qg) Qg) Qd)))))
  (Qe (Qm (i := 3) scLaw.nd rfl (Or.inl rfl) (Xq cl_cell_at (hr.mono (by decide)) (Qa (pv 0) (Qa Qg Qd))))
  (Qe (Qm (i := 4) scLaw.nd rfl (Or.inl rfl) (Xq cl_numbered (hr.mono (by decide)) (Qa (pv 1) (Qa (Ql Yn (pv 3) Qg) Qd))))
  (Qe (Kh (PW.pt (Qcc (Xm Qht (Ql Xw (pv 3) Qg) Qg (Xs _)) (Wl (Xm op_gt (pv 1) Qg (Xs _))))) (Qe (Qm (i := 4) scLaw.nd rfl (Or.inl rfl) (Qw (Zg rfl) rfl M.list_ Yy (Qa (Qas M.range_ (Qa (pv 1) Qd)) Qd)))
  (Qe (Qm (i := 5) scLaw.nd rfl (Or.inl rfl) (Ql Xw (Ql Yn (pv 3) Qg) (pv 1)))
  (Qe (Qm (i := 6) scLaw.nd rfl (Or.inl rfl) (Ql Xw (Ql Xl (Ql Xl (pv 5) Qg) (Ql Xw (Ql Yn (pv 3) Qg) (Ql Vf (pv 1) Qg))) (pv 1)))
  (Qe (Ji (pv 6) (Jh (pv 4) (pv 5) set_list))
  (Qk (Ji (pv 5) (Jh (pv 4) (pv 6) set_list))))))) Ye)
  (Qe (Kh (Xm op_gt (Ql Xw (pv 3) Qg) Qg (Xs _)) (Qk (Qm (i := 2) scLaw.nd rfl (Or.inl rfl) (Xq cl_alike (hr.mono (by decide)) (Qa (pv 2) (Qa (pv 4) Qd))))) Ye)
  (Qe (Qm (i := 7) scLaw.nd rfl (Or.inl rfl) (Yo Qd))
  (Qe (Yb PassesOwn.never rfl (Xj rfl M.range_ (Qa (pv 1) Qd)) (Qs (i := 5) scLaw.nd rfl (Or.inl rfl) (Or.inl rfl)) (Qk (Yb PassesOwn.never rfl (Ve rfl M.range_ (Qa (Ql Xl (pv 5) Qg) (Qa (pv 1) Qd))) (Qs (i := 6) scLaw.nd rfl (Or.inl rfl) (Or.inl rfl)) (Qe (Qm (i := 4) scLaw.nd rfl (Or.inl rfl) (Qw (Zg rfl) rfl M.list_ Yy (Qa (Qas M.range_ (Qa (pv 1) Qd)) Qd)))
  (Qe (Ji (pv 6) (Jh (pv 4) (pv 5) set_list))
  (Qe (Ji (pv 5) (Jh (pv 4) (pv 6) set_list))
  (Qk (Kh (Qae (Xq cl_keeps (hr.mono (by decide)) (Qa (pv 2) (Qa (pv 4) Qd)))) (Qk (Yl (Vl PySem.F.plainAttrs_list PySem.F.slot_list_append PySem.F.type_list_append Xk (pv 7) (Qa (Yk (Qa (pv 5) (Qa (pv 6) Qd))) Qd)))) Ye))))))))
  (Qe (Qm (i := 8) scLaw.nd rfl (Or.inl rfl) (Xq cl_copy (hr.mono (by decide)) (Qa (pv 2) Qd)))
  (Qe (Yb PassesOwn.never rfl (Xj rfl M.range_ (Qa Qg Qd)) (Qs (i := 9) scLaw.nd rfl (Or.inl rfl) (Or.inl rfl)) (Qe (Qm (i := 10) scLaw.nd rfl (Or.inl rfl) (Xq c_exchanges (hr.mono (by decide)) (Qa (pv 8) Qd)))
  (Qe (Kh (PW.pt (pw_or (Qgw (Qae (Qv Wb rfl M.isinstance Xt (Qa (pv 10) (Qa (Qfe M.list_ Yy) Qd))))) (pw_or (Xm (Qar (n := 6) hu6) (pv 10) (pv 7) (Xs _)) (pw_or1 (Xm (Qar (n := 6) hu6) (pv 8) (pv 2) (Xs _)))))) (Qk (Xh Qcb)) Ye)
  (Qe (Kh (Qgw (Qae (Qv (Qcv rfl) rfl M.all bt_all (Qa (Qct ["_law_pair"] [none] rfl (Yx (pv 10)) (fun _ _ _ => (Qs (i := 0) (show (["_law_pair"] : List Str).Nodup by decide +kernel) rfl (Or.inl rfl) (Or.inr rfl))) (fun _ _ _ => Jm) (fun _ _ _ => (Qcd (Qv (Qbv (K := K) rfl) rfl M.isinstance Xt (Qa (pv 0) (Qa (Qfe M.tuple_ Yh) Qd))) (Qcd (Xq cl_whole (hr.mono (by decide)) (Qa (Qq (Yi (K := K) rfl) (pv 0) Qg (fun _ _ => rfl)) Qd)) (Qgx (Xq cl_whole (hr.mono (by decide)) (Qa (Qq (Yi (K := K) rfl) (pv 0) Qg (fun _ _ => rfl)) Qd))))))) Qd)))) (Qk (Xh Qcb)) Ye)
  (Qk (Yl (Vl PySem.F.plainAttrs_list PySem.F.slot_list_append PySem.F.type_list_append Xk (pv 10) (Qa (Yk (Qa Qg (Qa Qg Qd))) Qd))))))))
  (Qk (Xh (Wm (Qcw (n := 6) hu6) (pv 8) (pv 2) (Xs _)))))))))))))), ?_⟩
 have hz : (1000 : Nat) < sizeLine := by decide
 refine ⟨_, rfl, a, ns, 0, rfl, hS, by decide, fun z0 => ⟨_, _, rfl, rfl, (by show (0 : Int) < _; decide +kernel), ?_⟩⟩
 have m0 := jZb z0 (show (8 : Int) ≠ 0 by decide)
 have m1 := jXb z0 (show (0 : Int) < 8 by decide)
 refine ⟨_, rfl, _, rfl, _, rfl, a, ns, 0, rfl, hS, by decide, fun z1 => ⟨_, _, rfl, rfl, ⟨by decide, by decide⟩, _, _, rfl, rfl, (by show (0 : Int) < _; decide +kernel), ?_⟩⟩
 have n0 := jZb (z1 / 8) (show (4 : Int) ≠ 0 by decide)
 have n1 := jXb (z1 / 8) (show (0 : Int) < 4 by decide)
 refine ⟨a, ns, _, _, rfl, hS, m0, by omega, n0, by omega, fun p rs cs H1 s1 pt hr1 hcl hrl => ?_⟩
 refine ⟨_, rfl, a, ns, 2, rfl, s1.seq hS, by decide, fun z2 => ?_⟩
 refine ⟨_, rfl, _, rfl, _, _, rfl, rfl, ⟨by decide, by decide⟩, _, _, rfl, m0, by omega, fun u t H2 s2 hu T => ?_⟩
 refine Qgh (fun σ' H' => ∃ (u : Addr) (t : List Nat) (x5 x6 : Option V), σ' = [some (.ref a), some (.int (z0 % 8)), some (.ref p), some (.int z2), some (.ref u), x5, x6, none, none, none, none] ∧ H' u = some (.lst ((tI t).map V.int)) ∧ IsTurn (z0 % 8).toNat t ∧ Same H1 H') ?_ fun REST => ?_
 ·rintro σ' H' ⟨u, t, x5, x6, rfl, hu, T, s2⟩
  refine Qit (fun σ' H' => ∃ (P : Addr) (rs : List Row) (cs : List Int) (x4 x5 x6 : Option V), σ' = [some (.ref a), some (.int (z0 % 8)), some (.ref P), some (.int z2), x4, x5, x6, none, none, none, none] ∧ ProbAt K H' P rs cs ∧ (∀ r ∈ rs, r.1.length = (z0 % 8).toNat) ∧ cs.length = (z0 % 8).toNat ∧ rs.length ≤ 36) ?_ fun REST2 => ?_
  ·clear pt hr1 hcl hrl
   rintro σ' H' ⟨P, rs, cs, x4, x5, x6, rfl, pr, hln, hcl, hrl⟩
   refine ⟨by show 0 ≤ sizeLine; decide, fun G hG => ?_⟩
   have sG := Qc hG (.lst [])
   obtain ⟨fB, hfB⟩ : ∃ f : Nat → Nat → Bool, ∀ i j, f i j = true ↔ Wg rs cs (swT (z0 % 8).toNat i j) (z0 % 8).toNat := ⟨fun i j => @decide _ (Classical.propDecidable _), fun i j => @decide_eq_true_iff _ (Classical.propDecidable _)⟩
   let Pv12 : Nat → St → Hp → Prop := fun i σ H2 => ∃ (x4 x5 x6 : Option V) (ws : List V), σ = [some (.ref a), some (.int (z0 % 8)), some (.ref P), some (.int z2), x4, x5, x6, some (.ref G), none, none, none] ∧ H2 G = some (.lst ws) ∧ Xc K H2 ws (outP fB (z0 % 8).toNat i) ∧ Same H' H2
   refine ⟨_, rfl, z0 % 8, rfl, by omega, by omega, Xi (lo := 0) (n := (z0 % 8).toNat) Pv12 ⟨x4, x5, x6, [], rfl, Qb, .nil, sG⟩ ?_ ?_⟩
   ·rintro i σ H2 hi ⟨x4, x5, x6, ws, rfl, hG2, hpr, s2⟩
    rw [show (0 : Int) + (i : Int) = ((i : Nat) : Int) by omega]
    refine ⟨_, rfl, _, _, rfl, rfl, _, rfl, _, _, rfl, ⟨by omega, by omega, by omega, by omega⟩, Xi (lo := (i : Int) + 1) (n := (z0 % 8 - ((i : Int) + 1)).toNat) (fun k σ H3 => ∃ (x4 x6 : Option V) (ws : List V), σ = [some (.ref a), some (.int (z0 % 8)), some (.ref P), some (.int z2), x4, some (.int (i : Nat)), x6, some (.ref G), none, none, none] ∧ H3 G = some (.lst ws) ∧ Xc K H3 ws (outP fB (z0 % 8).toNat i ++ inP fB i k) ∧ Same H' H3) ⟨x4, x6, ws, rfl, hG2, by show Xc K H2 ws (outP fB (z0 % 8).toNat i ++ []); rw [jYe]; exact hpr, s2⟩ ?_ ?_⟩
    ·rintro k σ H3 hk ⟨x4, x6, ws, rfl, hG3, hpr3, s3⟩
     have hk' : i + 1 + k < (z0 % 8).toNat := by omega
     rw [show (i : Int) + 1 + (k : Int) = ((i + 1 + k : Nat) : Int) by omega]
     obtain ⟨TS, _⟩ := Qbf (n := (z0 % 8).toNat) (i := i) (j := i + 1 + k) (by omega) hi hk'
     have lw := Paired.length hpr3
     rw [yY] at lw
     have l1 := Va fB (z0 % 8).toNat i
     have l2 := Qab fB i k
     have l3 : i * (z0 % 8).toNat ≤ 7 * 7 := Nat.mul_le_mul (by omega) (by omega)
     refine ⟨_, rfl, _, rfl, fun R hR => ⟨R, _, rfl, Qb, m0, by omega, fun L hL => ?_⟩⟩
     have sL := (Qc hR (.rng 0 (z0 % 8))).trans (Qc hL (.lst ((List.range (z0 % 8).toNat).map fun i => V.int (i : Nat))))
     have nL : H3 L = none := by
      cases e : H3 L with
      | none => rfl
      | some o => rw [Qc hR (.rng 0 (z0 % 8)) _ _ e] at hL; cases hL
     have hL3 : upd (upd H3 R (.rng 0 (z0 % 8))) L (.lst ((List.range (z0 % 8).toNat).map fun i => V.int (i : Nat))) L = some (.lst ((tI (List.range (z0 % 8).toNat)).map V.int)) := by
      rw [Qb]; unfold tI; rw [jKa]; rfl
     generalize upd (upd H3 R (.rng 0 (z0 % 8))) L (.lst ((List.range (z0 % 8).toNat).map fun i => V.int (i : Nat))) = H4 at sL hL3 ⊢
     have lR : ((tI (List.range (z0 % 8).toNat)).map V.int).length = (z0 % 8).toNat := by rw [jX, Yw, xX]
     refine ⟨_, rfl, _, rfl, _, rfl, L, _, _, i, rfl, rfl, hL3, Wq (by rw [lR]; exact hi), ?_⟩
     refine ⟨_, rfl, _, rfl, _, rfl, L, _, _, i + 1 + k, rfl, rfl, Qb, Wq (by rw [wJ, lR]; exact hk'), ?_⟩
     rw [Qbk]
     have s35 : Same H3 (upd (upd H4 L (.lst (((tI (List.range (z0 % 8).toNat)).map V.int).set i (.int ((i + 1 + k : Nat) : Int))))) L (.lst ((tI (swT (z0 % 8).toNat i (i + 1 + k))).map V.int))) := fun b o e => by rw [Qi (Qf e nL), Qi (Qf e nL)]; exact sL _ _ e
     have hL5 : upd (upd H4 L (.lst (((tI (List.range (z0 % 8).toNat)).map V.int).set i (.int ((i + 1 + k : Nat) : Int))))) L (.lst ((tI (swT (z0 % 8).toNat i (i + 1 + k))).map V.int)) L = some (.lst ((tI (swT (z0 % 8).toNat i (i + 1 + k))).map V.int)) := Qb
     generalize upd (upd H4 L (.lst (((tI (List.range (z0 % 8).toNat)).map V.int).set i (.int ((i + 1 + k : Nat) : Int))))) L (.lst ((tI (swT (z0 % 8).toNat i (i + 1 + k))).map V.int)) = H5 at s35 hL5 ⊢
     refine ⟨_, rfl, _, rfl, P, L, rs, cs, (z0 % 8).toNat, swT (z0 % 8).toNat i (i + 1 + k), rfl, pr.same (s3.trans s35), Qj hL5, TS, by omega, hln, hcl, by omega, fun b H6 s6 hb => ⟨_, rfl, ?_⟩⟩
     have s36 := s35.trans s6
     have hG6 := s36 _ _ hG3
     rw [← hfB] at hb
     cases b with
     | false =>
      refine iteF ⟨_, _, ws, rfl, hG6, ?_, s3.trans s36⟩
      rw [Je, if_neg (fun z => nomatch hb.mpr z), jYe]
      exact Xu s36 hpr3
     | true =>
      refine iteT ⟨_, rfl, .inl ⟨rfl, _, Qj hG6⟩, _, rfl, _, rfl, by show 2 ≤ sizeLine; decide, fun x hx => ?_⟩
      have sx := Qc hx (.tup [.int (i : Nat), .int ((i + 1 + k : Nat) : Int)])
      refine ⟨G, ws, _, rfl, rfl, sx _ _ hG6, by omega, _, _, _, rfl, Qb, ?_, fun b o e => ?_⟩
      ·rw [Je, if_pos (hb.mp rfl), ← List.append_assoc]
       exact Vb (Vc (sx _ _ hG6) (Xu (s36.trans sx) hpr3)) ⟨x, rfl, Yz (sx _ _ hG6) (Xb Qb)⟩
      ·rw [Qi (Qf e hG)]; exact sx _ _ (s36 _ _ (s3 _ _ e))
    ·rintro σ H3 ⟨x4, x6, ws, rfl, hG3, hpr3, s3⟩
     refine ⟨_, _, _, ws, rfl, hG3, ?_, s3⟩
     rw [Ke]
     rw [show (z0 % 8 - ((i : Int) + 1)).toNat = (z0 % 8).toNat - (i + 1) by omega] at hpr3
     exact hpr3
   rintro σ H2 ⟨x4, x5, x6, ws, rfl, hG2, hprG, s2⟩
   have pr2 := pr.same s2
   refine ⟨_, rfl, P, rs, cs, rfl, pr2, by omega, fun P2 H3 s3 pr3 => ?_⟩
   have prP := pr2.same s3
   have hG3 := s3 _ _ hG2
   have hpG := Xu s3 hprG
   let Pv13 : Nat → St → Hp → Prop := fun i σ H4 => ∃ x9 x10 : Option V, σ = [some (.ref a), some (.int (z0 % 8)), some (.ref P), some (.int z2), x4, x5, x6, some (.ref G), some (.ref P2), x9, x10] ∧ Same H3 H4
   refine ⟨2, rfl, by decide, by decide, Xi (lo := 0) (n := (2 : Int).toNat) Pv13 ⟨none, none, rfl, Same.refl _⟩ ?_ ?_⟩
   ·rintro i σ H4 hi ⟨x9, x10, rfl, s4⟩
    refine ⟨_, rfl, P2, rs, cs, (z0 % 8).toNat, fB, rfl, pr3.same s4, hcl, by omega, hln, by omega, fun i j _ _ => hfB i j, fun l w2 H5 s5 nl hl5 hp5 => ?_⟩
    have s45 := s4.trans s5
    have lw := Paired.length hp5
    have l1 := Va fB (z0 % 8).toNat (z0 % 8).toNat
    have l3 : (z0 % 8).toNat * (z0 % 8).toNat ≤ 7 * 7 := Nat.mul_le_mul (by omega) (by omega)
    refine ⟨_, rfl, _, "list", true, rfl, .list, .inr ⟨⟨_, Qj hl5⟩, rfl⟩, _, rfl, iteF ⟨_, rfl, _, rfl, l, G, _, _, rfl, rfl, Jf (Qj hl5) hp5, Jf (Qj (s45 _ _ hG3)) (Xu s45 hpG), Qbg _ _, fun b hb => ?_⟩⟩
    rw [hb.mpr rfl]
    refine ⟨_, rfl, iteF ⟨_, rfl, _, rfl, P2, P, _, _, rfl, rfl, (pr3.same s45).hasD, (prP.same s45).hasD, Vu _ _ _ _, fun b2 hb2 => ?_⟩⟩
    rw [hb2.mpr rfl]
    refine ⟨_, rfl, iteF ?_⟩
    refine ⟨_, rfl, l, rfl, ⟨_, Qj hl5⟩, fun E' hE => ?_⟩
    let Pv14 : Nat → St → List V → Hp → Prop := fun m τ ys H6 => ∃ x : Option V, τ = [x] ∧ ys = (List.replicate m true).map V.bl ∧ H6 E' = some (.lst ys) ∧ Same H5 H6
    refine Js (n := w2.length) Pv14 ?_ (fun m τ ys H6 hm h => ?_) (fun m τ ys H6 hm h => ?_) (fun τ ys H6 h => ?_) ?_ ?_
    ·exact ⟨none, rfl, rfl, Qb, Qc hE _⟩
    ·obtain ⟨x, rfl, rfl, hE6, s6⟩ := h
     exact ⟨hE6, by rw [jX, jKd]; omega⟩
    ·obtain ⟨x, rfl, rfl, hE6, s6⟩ := h
     exact ⟨_, _, Qj (s6 _ _ hl5), gE hm⟩
    ·obtain ⟨x, rfl, rfl, hE6, s6⟩ := h
     exact ⟨_, Qj (s6 _ _ hl5), jK _⟩
    ·rintro m τ ys H6 x H7 hm ⟨x', rfl, rfl, hE6, s6⟩ ⟨rfl, e1⟩
     obtain ⟨pp, ep, b1, rfl, hb1⟩ := Paired.getR hp5 (e1 _ (Qj (s6 _ _ hl5)))
     have hb1 := s6.tup hb1
     refine ⟨_, rfl, _, "tuple", true, rfl, .tuple, .inl ⟨⟨_, hb1⟩, rfl⟩, true, rfl, iteT ⟨_, rfl, b1, _, _, _, rfl, rfl, hb1, at0, _, rfl, true, rfl, iteT ⟨_, rfl, b1, _, _, _, rfl, rfl, hb1, at1, _, rfl, hE6, _, rfl, ?_, Qb, fun b o e => ?_⟩⟩⟩
     ·rw [List.replicate_succ', zW]; rfl
     ·rw [Qi (Qf e hE)]; exact s6 _ _ e
    rintro τ ys H6 ⟨x, rfl, rfl, hE6, s6⟩
    refine ⟨E', _, rfl, Qj hE6, _, rfl, ?_⟩
    rw [Qja]
    refine iteF ⟨_, rfl, .inl ⟨rfl, _, Qj (s6 _ _ hl5)⟩, by show 2 ≤ sizeLine; decide, fun x hx => ?_⟩
    have sx := Qc hx (.tup [.int 0, .int 0])
    refine ⟨l, _, _, rfl, rfl, sx _ _ (s6 _ _ hl5), by omega, _, _, rfl, fun b o e => ?_⟩
    rw [Qi (Qf (s4 _ _ e) nl)]
    exact sx _ _ (s6 _ _ (s45 _ _ e))
   ·rintro σ H4 ⟨x9, x10, rfl, s4⟩
    refine ⟨_, rfl, _, rfl, P2, P, _, _, rfl, rfl, (pr3.same s4).hasD, (prP.same s4).hasD, Vu _ _ _ _, fun c hc => ?_⟩
    rw [hc.mpr rfl]
    exact q _
  ·have hln : ∀ r ∈ rs, r.1.length = (z0 % 8).toNat := fun r hr' => by have := hr1 r hr'; omega
   refine ⟨_, rfl, _, _, rfl, rfl, (by show (0 : Int) < _; decide +kernel), _, _, rfl, rfl, _, rfl, ite2 (fun _ => ⟨_, rfl, _, rfl, p, u, rs, cs, (z0 % 8).toNat, t, rfl, pt.same s2, Qj hu, T, by omega, hln, by omega, by omega, fun p' rs' cs' H3 s3 pr3 l3 c3 r3 => REST2 _ _ ⟨p', rs', cs', _, _, _, rfl, pr3, l3, c3, r3⟩⟩) (fun _ => REST2 _ _ ⟨p, rs, cs, _, _, _, rfl, pt.same s2, hln, by omega, by omega⟩)⟩
 ·refine ⟨_, rfl, _, _, rfl, rfl, (by show (0 : Int) < _; decide +kernel), rfl, _, rfl, ite2 (fun _ => ⟨_, rfl, _, _, rfl, rfl, _, rfl, ite2 (fun c2 => ?_) (fun _ => REST _ _ ⟨u, t, _, _, rfl, hu, T, s2⟩)⟩) (fun _ => REST _ _ ⟨u, t, _, _, rfl, hu, T, s2⟩)⟩
  have c2' : 1 < z0 % 8 := xV c2
  refine ⟨_, rfl, _, rfl, fun R hR => ⟨R, _, rfl, Qb, m0, by omega, fun L hL => ?_⟩⟩
  have sL := (Qc hR (.rng 0 (z0 % 8))).trans (Qc hL (.lst ((List.range (z0 % 8).toNat).map fun i => V.int (i : Nat))))
  have nL : H2 L = none := by
   cases e : H2 L with
   | none => rfl
   | some o => rw [Qc hR (.rng 0 (z0 % 8)) _ _ e] at hL; cases hL
  have hL3 : upd (upd H2 R (.rng 0 (z0 % 8))) L (.lst ((List.range (z0 % 8).toNat).map fun i => V.int (i : Nat))) L = some (.lst ((tI (List.range (z0 % 8).toNat)).map V.int)) := by
   rw [Qb]; unfold tI; rw [jKa]; rfl
  generalize upd (upd H2 R (.rng 0 (z0 % 8))) L (.lst ((List.range (z0 % 8).toNat).map fun i => V.int (i : Nat))) = H3 at sL hL3 ⊢
  have lR : ((tI (List.range (z0 % 8).toNat)).map V.int).length = (z0 % 8).toNat := by rw [jX, Yw, xX]
  refine ⟨_, rfl, _, _, rfl, rfl, ⟨by decide, by decide⟩, _, rfl, _, _, rfl, rfl, by omega, ?_⟩
  obtain ⟨ia, ei, hia⟩ := Qhn (z2 / 4) (m := z0 % 8) (by omega)
  refine ⟨_, rfl, _, _, rfl, rfl, _, rfl, _, _, rfl, rfl, ⟨by decide, by decide⟩, _, rfl, _, _, rfl, rfl, _, _, rfl, rfl, by omega, _, _, rfl, rfl, _, rfl, _, _, rfl, rfl, by omega, ?_⟩
  obtain ⟨ja, ej, hja⟩ := Qhn (z2 / 4 % (z0 % 8) + 1 + z2 / 64 % (z0 % 8 - 1)) (m := z0 % 8) (by omega)
  refine ⟨_, rfl, _, rfl, _, rfl, L, _, _, ia, rfl, rfl, hL3, by rw [ei]; exact Wq (by rw [lR]; exact hia), ?_⟩
  refine ⟨_, rfl, _, rfl, _, rfl, L, _, _, ja, rfl, rfl, Qb, by rw [ej]; exact Wq (by rw [wJ, lR]; exact hja), ?_⟩
  refine REST _ _ ⟨L, swT (z0 % 8).toNat ia ja, _, _, rfl, ?_, (Qbf (by omega) hia hja).1, fun b o e => ?_⟩
  ·rw [Qb]
   show some (HO.lst ((((tI (List.range (z0 % 8).toNat)).map V.int).set ia (V.int ((z2 / 4 % (z0 % 8) + 1 + z2 / 64 % (z0 % 8 - 1)) % (z0 % 8)))).set ja (V.int (z2 / 4 % (z0 % 8))))) = _
   rw [ej, ei, Qbk]
  ·have e2 := s2 _ _ e
   rw [Qi (Qf e2 nL), Qi (Qf e2 nL)]
   exact sL _ _ e2
end
def htop (i : Nat) : Stmt := PySem.Challenge.pw_nonebetter_k27_choices_exchanged.main.body.getD i (.Pass ⟨0, 0, 0, 0⟩)
def hob0 (i : Nat) (P : Params) : Obj :=
 bif Nat.beq i 2 then .mk .none none (.dict #[]) #[] else
 bif Nat.beq i 3 then .mk (.type "dict") none (.dict #[.mk (PyData.keyHash P "__name__") (.str "__name__" 165) (.str "law_nonebetter_k27_choices_exchanged" 224), .mk (PyData.keyHash P "__doc__") (.str "__doc__" 166) .none, .mk (PyData.keyHash P "__package__") (.str "__package__" 167) .none, .mk (PyData.keyHash P "__loader__") (.str "__loader__" 168) (.builtin "__main__.__loader__#opaque"), .mk (PyData.keyHash P "__spec__") (.str "__spec__" 169) .none, .mk (PyData.keyHash P "__annotations__") (.str "__annotations__" 170) (.ref 6), .mk (PyData.keyHash P "__builtins__") (.str "__builtins__" 171) (.ref 4), .mk (PyData.keyHash P "__file__") (.str "__file__" 173) (.str "/claim/cut.py" 172), .mk (PyData.keyHash P "__cached__") (.str "__cached__" 174) .none, .mk (PyData.keyHash P "exchanged") (.str "exchanged" 198) (.ref 21), .mk (PyData.keyHash P "counted") (.str "counted" 207) (.ref 28), .mk (PyData.keyHash P "may_exchange") (.str "may_exchange" 217) (.ref 35), .mk (PyData.keyHash P "exchanges") (.str "exchanges" 223) (.ref 40), .mk (PyData.keyHash P "_law_whole") (.str "_law_whole" 232) (.ref 47), .mk (PyData.keyHash P "_law_cell_at") (.str "_law_cell_at" 240) (.ref 54), .mk (PyData.keyHash P "_law_mixed") (.str "_law_mixed" 249) (.ref 61), .mk (PyData.keyHash P "_law_left") (.str "_law_left" 261) (.ref 68), .mk (PyData.keyHash P "_law_row") (.str "_law_row" 273) (.ref 75), .mk (PyData.keyHash P "_law_problem") (.str "_law_problem" 279) (.ref 80), .mk (PyData.keyHash P "_law_copy") (.str "_law_copy" 285) (.ref 85), .mk (PyData.keyHash P "_law_numbered") (.str "_law_numbered" 295) (.ref 92), .mk (PyData.keyHash P "_law_led") (.str "_law_led" 305) (.ref 99), .mk (PyData.keyHash P "_law_keeps") (.str "_law_keeps" 311) (.ref 104), .mk (PyData.keyHash P "_law_alike") (.str "_law_alike" 325) (.ref 111), .mk (PyData.keyHash P "law") (.str "law" 331) (.ref 116)] 25) #[] else
 bif Nat.beq i 6 then .mk (.type "dict") none (.dict #[]) #[] else
 bif Nat.beq i 15 then .mk (.type "tuple") none (.seq #[]) #[] else
 .mk (.type "tuple") none (.seq #[.str "row" 192, .str "one" 193, .str "other" 194, .str "numbers" 195]) #[]
def hob1 (i : Nat) (P : Params) : Obj :=
 bif Nat.beq i 18 then .mk (.type "tuple") none (.seq #[]) #[] else
 bif Nat.beq i 20 then .mk (.type "code") none (.fields #[.str "exchanged" 189, .str "exchanged" 190, .str "/claim/cut.py" 191, .int 2 0, .int 3 0, .int 0 0, .int 0 0, .int 3 0, .ref 15, .bool Bool.true, .int 181 0, .ref 16, .none, .ref 17, .ref 18, .ref 19, .int 196 0, .int 2 0, .str "/claim/cut.py" 197]) #[] else
 bif Nat.beq i 21 then .mk (.type "function") (none) (.func (.mk "exchanged" "exchanged" (L2.Qt (htop 1)) (.stmts (L2.Qn (htop 1))) (L2.Qh (htop 1)) (3) ([]) (.none) (.none) (.none) (.str "nonebetter.likes" 187) (none) (.ref 20) (.none) (0))) (#[]) else
 bif Nat.beq i 22 then .mk (.type "tuple") none (.seq #[]) #[] else
 .mk (.type "tuple") none (.seq #[.str "things" 202, .str "often" 203, .str "thing" 204]) #[]
def hob2 (i : Nat) (P : Params) : Obj :=
 bif Nat.beq i 25 then .mk (.type "tuple") none (.seq #[]) #[] else
 bif Nat.beq i 27 then .mk (.type "code") none (.fields #[.str "counted" 199, .str "counted" 200, .str "/claim/cut.py" 201, .int 7 0, .int 1 0, .int 0 0, .int 0 0, .int 3 0, .ref 22, .bool Bool.true, .int 181 0, .ref 23, .none, .ref 24, .ref 25, .ref 26, .int 205 0, .int 7 0, .str "/claim/cut.py" 206]) #[] else
 bif Nat.beq i 28 then .mk (.type "function") (none) (.func (.mk "counted" "counted" (L2.Qt (htop 2)) (.stmts (L2.Qn (htop 2))) (L2.Qh (htop 2)) (3) ([]) (.none) (.none) (.none) (.str "nonebetter.likes" 187) (none) (.ref 27) (.none) (0))) (#[]) else
 bif Nat.beq i 29 then .mk (.type "tuple") none (.seq #[]) #[] else
 .mk (.type "tuple") none (.seq #[.str "often" 211, .str "one" 212, .str "other" 213, .str "row" 214]) #[]
def hob3 (i : Nat) (P : Params) : Obj :=
 bif Nat.beq i 32 then .mk (.type "tuple") none (.seq #[]) #[] else
 bif Nat.beq i 34 then .mk (.type "code") none (.fields #[.str "may_exchange" 208, .str "may_exchange" 209, .str "/claim/cut.py" 210, .int 12 0, .int 3 0, .int 0 0, .int 0 0, .int 3 0, .ref 29, .bool Bool.true, .int 181 0, .ref 30, .none, .ref 31, .ref 32, .ref 33, .int 215 0, .int 12 0, .str "/claim/cut.py" 216]) #[] else
 bif Nat.beq i 35 then .mk (.type "function") (none) (.func (.mk "may_exchange" "may_exchange" (L2.Qt (htop 3)) (.stmts (L2.Qn (htop 3))) (L2.Qh (htop 3)) (3) ([]) (.none) (.none) (.none) (.str "nonebetter.likes" 187) (none) (.ref 34) (.none) (0))) (#[]) else
 bif Nat.beq i 36 then .mk (.type "tuple") none (.seq #[]) #[] else
 .mk (.type "code") none (.fields #[.str "exchanges" 218, .str "exchanges" 219, .str "/claim/cut.py" 220, .int 17 0, .int 1 0, .int 0 0, .int 0 0, .int 3 0, .ref 36, .bool Bool.true, .int 181 0, .ref 37, .none, .none, .none, .ref 38, .int 221 0, .int 17 0, .str "/claim/cut.py" 222]) #[]
def hob4 (i : Nat) (P : Params) : Obj :=
 bif Nat.beq i 40 then .mk (.type "function") (none) (.func (.mk "exchanges" "exchanges" (L2.Qt (htop 4)) (.stmts (L2.Qn (htop 4))) (L2.Qh (htop 4)) (3) ([]) (.none) (.none) (.none) (.str "nonebetter.likes" 187) (none) (.ref 39) (.none) (0))) (#[]) else
 bif Nat.beq i 41 then .mk (.type "tuple") none (.seq #[]) #[] else
 bif Nat.beq i 43 then .mk (.type "tuple") none (.seq #[.str "_law_found" 229]) #[] else
 bif Nat.beq i 44 then .mk (.type "tuple") none (.seq #[]) #[] else
 .mk (.type "code") none (.fields #[.str "_law_whole" 226, .str "_law_whole" 227, .str "/claim/cut.py" 228, .int 29 0, .int 1 0, .int 0 0, .int 0 0, .int 3 0, .ref 41, .bool Bool.true, .int 181 0, .ref 42, .none, .ref 43, .ref 44, .ref 45, .int 230 0, .int 29 0, .str "/claim/cut.py" 231]) #[]
def hob5 (i : Nat) (P : Params) : Obj :=
 bif Nat.beq i 47 then .mk (.type "function") (none) (.func (.mk "_law_whole" "_law_whole" (L2.Qt (htop 6)) (.stmts (L2.Qn (htop 6))) (L2.Qh (htop 6)) (3) ([]) (.none) (.none) (.none) (.str "law_nonebetter_k27_choices_exchanged" 224) (none) (.ref 46) (.none) (0))) (#[]) else
 bif Nat.beq i 48 then .mk (.type "tuple") none (.seq #[]) #[] else
 bif Nat.beq i 50 then .mk (.type "tuple") none (.seq #[.str "_law_script" 236, .str "_law_k" 237]) #[] else
 bif Nat.beq i 51 then .mk (.type "tuple") none (.seq #[]) #[] else
 .mk (.type "code") none (.fields #[.str "_law_cell_at" 233, .str "_law_cell_at" 234, .str "/claim/cut.py" 235, .int 31 0, .int 2 0, .int 0 0, .int 0 0, .int 3 0, .ref 48, .bool Bool.true, .int 181 0, .ref 49, .none, .ref 50, .ref 51, .ref 52, .int 238 0, .int 31 0, .str "/claim/cut.py" 239]) #[]
def hob6 (i : Nat) (P : Params) : Obj :=
 bif Nat.beq i 54 then .mk (.type "function") (none) (.func (.mk "_law_cell_at" "_law_cell_at" (L2.Qt (htop 7)) (.stmts (L2.Qn (htop 7))) (L2.Qh (htop 7)) (3) ([]) (.none) (.none) (.none) (.str "law_nonebetter_k27_choices_exchanged" 224) (none) (.ref 53) (.none) (0))) (#[]) else
 bif Nat.beq i 55 then .mk (.type "tuple") none (.seq #[]) #[] else
 bif Nat.beq i 57 then .mk (.type "tuple") none (.seq #[.str "_law_cell" 244, .str "_law_k" 245, .str "_law_number" 246]) #[] else
 bif Nat.beq i 58 then .mk (.type "tuple") none (.seq #[]) #[] else
 .mk (.type "code") none (.fields #[.str "_law_mixed" 241, .str "_law_mixed" 242, .str "/claim/cut.py" 243, .int 35 0, .int 2 0, .int 0 0, .int 0 0, .int 3 0, .ref 55, .bool Bool.true, .int 181 0, .ref 56, .none, .ref 57, .ref 58, .ref 59, .int 247 0, .int 35 0, .str "/claim/cut.py" 248]) #[]
def hob7 (i : Nat) (P : Params) : Obj :=
 bif Nat.beq i 61 then .mk (.type "function") (none) (.func (.mk "_law_mixed" "_law_mixed" (L2.Qt (htop 8)) (.stmts (L2.Qn (htop 8))) (L2.Qh (htop 8)) (3) ([]) (.none) (.none) (.none) (.str "law_nonebetter_k27_choices_exchanged" 224) (none) (.ref 60) (.none) (0))) (#[]) else
 bif Nat.beq i 62 then .mk (.type "tuple") none (.seq #[]) #[] else
 bif Nat.beq i 64 then .mk (.type "tuple") none (.seq #[.str "_law_script" 253, .str "_law_k" 254, .str "_law_count" 255, .str "_law_left_here" 256, .str "_law_j" 257, .str "_law_found" 258]) #[] else
 bif Nat.beq i 65 then .mk (.type "tuple") none (.seq #[]) #[] else
 .mk (.type "code") none (.fields #[.str "_law_left" 250, .str "_law_left" 251, .str "/claim/cut.py" 252, .int 39 0, .int 3 0, .int 0 0, .int 0 0, .int 3 0, .ref 62, .bool Bool.true, .int 181 0, .ref 63, .none, .ref 64, .ref 65, .ref 66, .int 259 0, .int 39 0, .str "/claim/cut.py" 260]) #[]
def hob8 (i : Nat) (P : Params) : Obj :=
 bif Nat.beq i 68 then .mk (.type "function") (none) (.func (.mk "_law_left" "_law_left" (L2.Qt (htop 9)) (.stmts (L2.Qn (htop 9))) (L2.Qh (htop 9)) (3) ([]) (.none) (.none) (.none) (.str "law_nonebetter_k27_choices_exchanged" 224) (none) (.ref 67) (.none) (0))) (#[]) else
 bif Nat.beq i 69 then .mk (.type "tuple") none (.seq #[]) #[] else
 bif Nat.beq i 71 then .mk (.type "tuple") none (.seq #[.str "_law_left_here" 265, .str "_law_many" 266, .str "_law_great" 267, .str "_law_numbers" 268, .str "_law_base" 269, .str "_law_k" 270]) #[] else
 bif Nat.beq i 72 then .mk (.type "tuple") none (.seq #[]) #[] else
 .mk (.type "code") none (.fields #[.str "_law_row" 262, .str "_law_row" 263, .str "/claim/cut.py" 264, .int 49 0, .int 3 0, .int 0 0, .int 0 0, .int 3 0, .ref 69, .bool Bool.true, .int 181 0, .ref 70, .none, .ref 71, .ref 72, .ref 73, .int 271 0, .int 49 0, .str "/claim/cut.py" 272]) #[]
def hob9 (i : Nat) (P : Params) : Obj :=
 bif Nat.beq i 75 then .mk (.type "function") (none) (.func (.mk "_law_row" "_law_row" (L2.Qt (htop 10)) (.stmts (L2.Qn (htop 10))) (L2.Qh (htop 10)) (3) ([]) (.none) (.none) (.none) (.str "law_nonebetter_k27_choices_exchanged" 224) (none) (.ref 74) (.none) (0))) (#[]) else
 bif Nat.beq i 76 then .mk (.type "tuple") none (.seq #[]) #[] else
 bif Nat.beq i 79 then .mk (.type "code") none (.fields #[.str "_law_problem" 274, .str "_law_problem" 275, .str "/claim/cut.py" 276, .int 57 0, .int 3 0, .int 0 0, .int 0 0, .int 3 0, .ref 76, .bool Bool.true, .int 181 0, .ref 77, .none, .none, .none, .ref 78, .int 277 0, .int 57 0, .str "/claim/cut.py" 278]) #[] else
 bif Nat.beq i 80 then .mk (.type "function") (none) (.func (.mk "_law_problem" "_law_problem" (L2.Qt (htop 11)) (.stmts (L2.Qn (htop 11))) (L2.Qh (htop 11)) (3) ([]) (.none) (.none) (.none) (.str "law_nonebetter_k27_choices_exchanged" 224) (none) (.ref 79) (.none) (0))) (#[]) else
 .mk (.type "tuple") none (.seq #[]) #[]
def hob10 (i : Nat) (P : Params) : Obj :=
 bif Nat.beq i 84 then .mk (.type "code") none (.fields #[.str "_law_copy" 280, .str "_law_copy" 281, .str "/claim/cut.py" 282, .int 61 0, .int 1 0, .int 0 0, .int 0 0, .int 3 0, .ref 81, .bool Bool.true, .int 181 0, .ref 82, .none, .none, .none, .ref 83, .int 283 0, .int 61 0, .str "/claim/cut.py" 284]) #[] else
 bif Nat.beq i 85 then .mk (.type "function") (none) (.func (.mk "_law_copy" "_law_copy" (L2.Qt (htop 12)) (.stmts (L2.Qn (htop 12))) (L2.Qh (htop 12)) (3) ([]) (.none) (.none) (.none) (.str "law_nonebetter_k27_choices_exchanged" 224) (none) (.ref 84) (.none) (0))) (#[]) else
 bif Nat.beq i 86 then .mk (.type "tuple") none (.seq #[]) #[] else
 bif Nat.beq i 88 then .mk (.type "tuple") none (.seq #[.str "_law_many" 289, .str "_law_left_here" 290, .str "_law_order" 291, .str "_law_k" 292]) #[] else
 .mk (.type "tuple") none (.seq #[]) #[]
def hob11 (i : Nat) (P : Params) : Obj :=
 bif Nat.beq i 91 then .mk (.type "code") none (.fields #[.str "_law_numbered" 286, .str "_law_numbered" 287, .str "/claim/cut.py" 288, .int 63 0, .int 2 0, .int 0 0, .int 0 0, .int 3 0, .ref 86, .bool Bool.true, .int 181 0, .ref 87, .none, .ref 88, .ref 89, .ref 90, .int 293 0, .int 63 0, .str "/claim/cut.py" 294]) #[] else
 bif Nat.beq i 92 then .mk (.type "function") (none) (.func (.mk "_law_numbered" "_law_numbered" (L2.Qt (htop 13)) (.stmts (L2.Qn (htop 13))) (L2.Qh (htop 13)) (3) ([]) (.none) (.none) (.none) (.str "law_nonebetter_k27_choices_exchanged" 224) (none) (.ref 91) (.none) (0))) (#[]) else
 bif Nat.beq i 93 then .mk (.type "tuple") none (.seq #[]) #[] else
 bif Nat.beq i 95 then .mk (.type "tuple") none (.seq #[.str "_law_row_here" 299, .str "_law_turn" 300, .str "_law_numbers" 301, .str "_law_i" 302]) #[] else
 .mk (.type "tuple") none (.seq #[]) #[]
def hob12 (i : Nat) (P : Params) : Obj :=
 bif Nat.beq i 98 then .mk (.type "code") none (.fields #[.str "_law_led" 296, .str "_law_led" 297, .str "/claim/cut.py" 298, .int 69 0, .int 2 0, .int 0 0, .int 0 0, .int 3 0, .ref 93, .bool Bool.true, .int 181 0, .ref 94, .none, .ref 95, .ref 96, .ref 97, .int 303 0, .int 69 0, .str "/claim/cut.py" 304]) #[] else
 bif Nat.beq i 99 then .mk (.type "function") (none) (.func (.mk "_law_led" "_law_led" (L2.Qt (htop 14)) (.stmts (L2.Qn (htop 14))) (L2.Qh (htop 14)) (3) ([]) (.none) (.none) (.none) (.str "law_nonebetter_k27_choices_exchanged" 224) (none) (.ref 98) (.none) (0))) (#[]) else
 bif Nat.beq i 100 then .mk (.type "tuple") none (.seq #[]) #[] else
 bif Nat.beq i 103 then .mk (.type "code") none (.fields #[.str "_law_keeps" 306, .str "_law_keeps" 307, .str "/claim/cut.py" 308, .int 74 0, .int 2 0, .int 0 0, .int 0 0, .int 3 0, .ref 100, .bool Bool.true, .int 181 0, .ref 101, .none, .none, .none, .ref 102, .int 309 0, .int 74 0, .str "/claim/cut.py" 310]) #[] else
 .mk (.type "function") (none) (.func (.mk "_law_keeps" "_law_keeps" (L2.Qt (htop 15)) (.stmts (L2.Qn (htop 15))) (L2.Qh (htop 15)) (3) ([]) (.none) (.none) (.none) (.str "law_nonebetter_k27_choices_exchanged" 224) (none) (.ref 103) (.none) (0))) (#[])
def hob13 (i : Nat) (P : Params) : Obj :=
 bif Nat.beq i 105 then .mk (.type "tuple") none (.seq #[]) #[] else
 bif Nat.beq i 107 then .mk (.type "tuple") none (.seq #[.str "_law_problem_here" 315, .str "_law_turn" 316, .str "_law_rows" 317, .str "_law_row_here" 318, .str "_law_more" 319, .str "_law_costs" 320, .str "_law_i" 321, .str "_law_lot" 322]) #[] else
 bif Nat.beq i 108 then .mk (.type "tuple") none (.seq #[]) #[] else
 bif Nat.beq i 110 then .mk (.type "code") none (.fields #[.str "_law_alike" 312, .str "_law_alike" 313, .str "/claim/cut.py" 314, .int 78 0, .int 2 0, .int 0 0, .int 0 0, .int 3 0, .ref 105, .bool Bool.true, .int 181 0, .ref 106, .none, .ref 107, .ref 108, .ref 109, .int 323 0, .int 78 0, .str "/claim/cut.py" 324]) #[] else
 .mk (.type "function") (none) (.func (.mk "_law_alike" "_law_alike" (L2.Qt (htop 16)) (.stmts (L2.Qn (htop 16))) (L2.Qh (htop 16)) (3) ([]) (.none) (.none) (.none) (.str "law_nonebetter_k27_choices_exchanged" 224) (none) (.ref 110) (.none) (0))) (#[])
def hob14 (i : Nat) (P : Params) : Obj :=
 bif Nat.beq i 112 then .mk (.type "tuple") none (.seq #[]) #[] else
 bif Nat.beq i 115 then .mk (.type "code") none (.fields #[.str "law" 326, .str "law" 327, .str "/claim/cut.py" 328, .int 92 0, .int 1 0, .int 0 0, .int 0 0, .int 3 0, .ref 112, .bool Bool.true, .int 181 0, .ref 113, .none, .none, .none, .ref 114, .int 329 0, .int 92 0, .str "/claim/cut.py" 330]) #[] else
 .mk (.type "function") (none) (.func (.mk "law" "law" (L2.Qt (htop 17)) (.stmts (L2.Qn (htop 17))) (L2.Qh (htop 17)) (3) ([]) (.none) (.none) (.none) (.str "law_nonebetter_k27_choices_exchanged" 224) (none) (.ref 115) (.none) (0))) (#[])
def hob (i : Nat) (P : Params) : Obj := (bif Nat.ble i 60 then (bif Nat.ble i 31 then (bif Nat.ble i 17 then hob0 i P else (bif Nat.ble i 24 then hob1 i P else hob2 i P)) else (bif Nat.ble i 46 then (bif Nat.ble i 39 then hob3 i P else hob4 i P) else (bif Nat.ble i 53 then hob5 i P else hob6 i P))) else (bif Nat.ble i 89 then (bif Nat.ble i 74 then (bif Nat.ble i 67 then hob7 i P else hob8 i P) else (bif Nat.ble i 81 then hob9 i P else hob10 i P)) else (bif Nat.ble i 104 then (bif Nat.ble i 96 then hob11 i P else hob12 i P) else (bif Nat.ble i 111 then hob13 i P else hob14 i P))))
def heapK : Params → W.Frag := fun P => (nat_lit 2, hob (nat_lit 2) P) :: (nat_lit 3, hob (nat_lit 3) P) :: (nat_lit 6, hob (nat_lit 6) P) :: (nat_lit 15, hob (nat_lit 15) P) :: (nat_lit 17, hob (nat_lit 17) P) :: (nat_lit 18, hob (nat_lit 18) P) :: (nat_lit 20, hob (nat_lit 20) P) :: (nat_lit 21, hob (nat_lit 21) P) :: (nat_lit 22, hob (nat_lit 22) P) :: (nat_lit 24, hob (nat_lit 24) P) :: (nat_lit 25, hob (nat_lit 25) P) :: (nat_lit 27, hob (nat_lit 27) P) :: (nat_lit 28, hob (nat_lit 28) P) :: (nat_lit 29, hob (nat_lit 29) P) :: (nat_lit 31, hob (nat_lit 31) P) :: (nat_lit 32, hob (nat_lit 32) P) :: (nat_lit 34, hob (nat_lit 34) P) :: (nat_lit 35, hob (nat_lit 35) P) :: (nat_lit 36, hob (nat_lit 36) P) :: (nat_lit 39, hob (nat_lit 39) P) :: (nat_lit 40, hob (nat_lit 40) P) :: (nat_lit 41, hob (nat_lit 41) P) :: (nat_lit 43, hob (nat_lit 43) P) :: (nat_lit 44, hob (nat_lit 44) P) :: (nat_lit 46, hob (nat_lit 46) P) :: (nat_lit 47, hob (nat_lit 47) P) :: (nat_lit 48, hob (nat_lit 48) P) :: (nat_lit 50, hob (nat_lit 50) P) :: (nat_lit 51, hob (nat_lit 51) P) :: (nat_lit 53, hob (nat_lit 53) P) :: (nat_lit 54, hob (nat_lit 54) P) :: (nat_lit 55, hob (nat_lit 55) P) :: (nat_lit 57, hob (nat_lit 57) P) :: (nat_lit 58, hob (nat_lit 58) P) :: (nat_lit 60, hob (nat_lit 60) P) :: (nat_lit 61, hob (nat_lit 61) P) :: (nat_lit 62, hob (nat_lit 62) P) :: (nat_lit 64, hob (nat_lit 64) P) :: (nat_lit 65, hob (nat_lit 65) P) :: (nat_lit 67, hob (nat_lit 67) P) :: (nat_lit 68, hob (nat_lit 68) P) :: (nat_lit 69, hob (nat_lit 69) P) :: (nat_lit 71, hob (nat_lit 71) P) :: (nat_lit 72, hob (nat_lit 72) P) :: (nat_lit 74, hob (nat_lit 74) P) :: (nat_lit 75, hob (nat_lit 75) P) :: (nat_lit 76, hob (nat_lit 76) P) :: (nat_lit 79, hob (nat_lit 79) P) :: (nat_lit 80, hob (nat_lit 80) P) :: (nat_lit 81, hob (nat_lit 81) P) :: (nat_lit 84, hob (nat_lit 84) P) :: (nat_lit 85, hob (nat_lit 85) P) :: (nat_lit 86, hob (nat_lit 86) P) :: (nat_lit 88, hob (nat_lit 88) P) :: (nat_lit 89, hob (nat_lit 89) P) :: (nat_lit 91, hob (nat_lit 91) P) :: (nat_lit 92, hob (nat_lit 92) P) :: (nat_lit 93, hob (nat_lit 93) P) :: (nat_lit 95, hob (nat_lit 95) P) :: (nat_lit 96, hob (nat_lit 96) P) :: (nat_lit 98, hob (nat_lit 98) P) :: (nat_lit 99, hob (nat_lit 99) P) :: (nat_lit 100, hob (nat_lit 100) P) :: (nat_lit 103, hob (nat_lit 103) P) :: (nat_lit 104, hob (nat_lit 104) P) :: (nat_lit 105, hob (nat_lit 105) P) :: (nat_lit 107, hob (nat_lit 107) P) :: (nat_lit 108, hob (nat_lit 108) P) :: (nat_lit 110, hob (nat_lit 110) P) :: (nat_lit 111, hob (nat_lit 111) P) :: (nat_lit 112, hob (nat_lit 112) P) :: (nat_lit 115, hob (nat_lit 115) P) :: (nat_lit 116, hob (nat_lit 116) P) :: []
theorem all_ok {P : Program} {w : World} {K : Fg} {mg : Str → Option Value} {base : Heap} (M : Mg mg) (F1 : Fn K mg "exchanged" Qgr) (F2 : Fn K mg "counted" Zn) (F3 : Fn K mg "may_exchange" sMay) (F4 : Fn K mg "_law_whole" Qbh) (F5 : Fn K mg "_law_cell_at" Qgm) (F6 : Fn K mg "_law_mixed" Qgn) (F7 : Fn K mg "_law_left" Qgo) (F8 : Fn K mg "_law_row" Qbi) (F9 : Fn K mg "_law_problem" Zm) (F10 : Fn K mg "_law_copy" Qgp) (F11 : Fn K mg "_law_numbered" Qgs) (F12 : Fn K mg "_law_led" sLed) (F13 : Fn K mg "_law_keeps" Zo) (F14 : Fn K mg "exchanges" sExs) (F15 : Fn K mg "_law_alike" Zp) {f : Addr} {fd : FuncData} (F16 : Fun K "law" "law" sLaw f fd) : FnOk P w K mg base CX0 5 f fd ["_law_script"] (Qfp K) := by
 have h_c_exchanged := okExch (P := P) (w := w) (base := base) F1 M
 have h_c_counted := Qel (P := P) (w := w) (base := base) F2 M
 have h_c_may_exchange := okMay (P := P) (w := w) (base := base) F3 M h_c_exchanged
 have h_cl_whole := Qiw (P := P) (w := w) (base := base) F4 M
 have h_cl_cell_at := okCell (P := P) (w := w) (base := base) F5 M
 have h_cl_mixed := okMix2 (P := P) (w := w) (base := base) F6 M
 have h_cl_left := okLeft (P := P) (w := w) (base := base) F7 M h_cl_cell_at h_cl_mixed
 have h_cl_row := Qix (P := P) (w := w) (base := base) F8 M
 have h_cl_problem := Qek (P := P) (w := w) (base := base) F9 M h_cl_cell_at h_cl_row h_cl_left
 have h_cl_copy := okCopy (P := P) (w := w) (base := base) F10 M
 have h_cl_numbered := okNumb (P := P) (w := w) (base := base) F11 M
 have h_cl_led := okLed (P := P) (w := w) (base := base) F12 M
 have h_cl_keeps := Qeo (P := P) (w := w) (base := base) F13 M h_cl_led
 have h_c_exchanges := okExs (P := P) (w := w) (base := base) F14 M h_c_counted h_c_may_exchange
 have h_cl_alike := Qer (P := P) (w := w) (base := base) F15 M h_cl_led
 have h_c_law := okLaw (P := P) (w := w) (base := base) F16 M h_cl_cell_at h_cl_problem h_cl_numbered h_cl_alike h_cl_keeps h_cl_copy h_c_exchanges h_cl_whole
 exact h_c_law
theorem walk {l : PySem.W.OpenLaw} {q : Program} {loose : List Str} {XP : (Str → Option Value) → Heap → Prop} {YP : World → Heap → Prop} {d : DefRec} {K : Params → Fg} (hn : l.most = some 63) (hdf : d.params.defaults = [])
  (hY : ∀ (w : World) (h : Heap), YP w h → (K w.params).In h)
  (F : ∀ (w : World) (mg : Str → Option Value) (fa : Addr) (h : Heap), (K w.params).In h → h.Ns mainGlobals mg → mg d.name = some (.ref fa) →
   ∃ fd : FuncData, (∀ (s : Shared) (u : Value), BindsTo s fd ⟨[u], []⟩ [("_law_script", u)]) ∧ ∀ base : Heap, (K w.params).In base → base.Ns mainGlobals mg → FnOk l.prog w (K w.params) mg base CX0 5 fa fd ["_law_script"] (Qfp (K w.params))) :
  PySem.W.WalkO q loose XP YP l.row.toRowW d [] (fun f vs => PySem.call f vs) :=
 L2.Qcr (n := 63) (k := 5) (x := "_law_script") (CX := fun _ => CX0) (sp := fun w => Qfp (K w.params)) hn (by decide) hdf ⟨rfl, by decide, by decide⟩ hY F (fun _ _ a ns hl hb hS => ⟨a, ns, rfl, hS, hl, fun _ => rfl⟩) fun _ _ _ _ _ z => z
end Nb
def Nb.pwv : PySem.Program := { PySem.Challenge.pw_nonebetter_k27_choices_exchanged with main := { PySem.Challenge.pw_nonebetter_k27_choices_exchanged.main with body := [Nb.htop 0, Nb.htop 1, Nb.htop 2, Nb.htop 3, Nb.htop 4, Nb.htop 5, Nb.htop 6, Nb.htop 7, Nb.htop 8, Nb.htop 9, Nb.htop 10, Nb.htop 11, Nb.htop 12, Nb.htop 13, Nb.htop 14, Nb.htop 15, Nb.htop 16, Nb.htop 17] } }
def PySem.W.Fast.tw1653918685017820470 : Nat → PySem.Params → PySem.Obj := Nb.hob
theorem PySem.W.Fast.te1653918685017820470 : Nb.hob = PySem.W.Fast.tw1653918685017820470 := rfl
def PySem.W.Fast.tw15222718090999215350 : PySem.Program := PySem.Challenge.pw_nonebetter_k27_choices_exchanged
theorem PySem.W.Fast.te15222718090999215350 : PySem.Challenge.pw_nonebetter_k27_choices_exchanged = PySem.W.Fast.tw15222718090999215350 := rfl
def PySem.W.Fast.tw9401860820342270615 : PySem.Program := Nb.pwv
theorem PySem.W.Fast.te9401860820342270615 : Nb.pwv = PySem.W.Fast.tw9401860820342270615 := rfl
def PySem.W.Fast.tw11570947652754012800 : Nat → PySem.Stmt := Nb.htop
theorem PySem.W.Fast.te11570947652754012800 : Nb.htop = PySem.W.Fast.tw11570947652754012800 := rfl
namespace PySem.W.Fast
end PySem.W.Fast
open PySem PySem.W PyProof.Rows
set_option maxRecDepth 100000 in
set_option maxHeartbeats 0 in
theorem PySem.Challenge.cw_nonebetter_k27_choices_exchanged_holds : PySem.Challenge.rw_nonebetter_k27_choices_exchanged.Holds := by
 w_on; o_law; show PySem.W.OpenRow.Holds { PySem.Challenge.rw_nonebetter_k27_choices_exchanged.row with prog := Nb.pwv }; o_head (PySem.W.kHook Nb.heapK (nat_lit 2 :: nat_lit 3 :: nat_lit 6 :: nat_lit 15 :: nat_lit 17 :: nat_lit 18 :: nat_lit 20 :: nat_lit 21 :: nat_lit 22 :: nat_lit 24 :: nat_lit 25 :: nat_lit 27 :: nat_lit 28 :: nat_lit 29 :: nat_lit 31 :: nat_lit 32 :: nat_lit 34 :: nat_lit 35 :: nat_lit 36 :: nat_lit 39 :: nat_lit 40 :: nat_lit 41 :: nat_lit 43 :: nat_lit 44 :: nat_lit 46 :: nat_lit 47 :: nat_lit 48 :: nat_lit 50 :: nat_lit 51 :: nat_lit 53 :: nat_lit 54 :: nat_lit 55 :: nat_lit 57 :: nat_lit 58 :: nat_lit 60 :: nat_lit 61 :: nat_lit 62 :: nat_lit 64 :: nat_lit 65 :: nat_lit 67 :: nat_lit 68 :: nat_lit 69 :: nat_lit 71 :: nat_lit 72 :: nat_lit 74 :: nat_lit 75 :: nat_lit 76 :: nat_lit 79 :: nat_lit 80 :: nat_lit 81 :: nat_lit 84 :: nat_lit 85 :: nat_lit 86 :: nat_lit 88 :: nat_lit 89 :: nat_lit 91 :: nat_lit 92 :: nat_lit 93 :: nat_lit 95 :: nat_lit 96 :: nat_lit 98 :: nat_lit 99 :: nat_lit 100 :: nat_lit 103 :: nat_lit 104 :: nat_lit 105 :: nat_lit 107 :: nat_lit 108 :: nat_lit 110 :: nat_lit 111 :: nat_lit 112 :: nat_lit 115 :: nat_lit 116 :: []) (fun _ => by kernel_rfl)); (case hw => w_witness2)
 k_fill
 refine Nb.walk (l := PySem.Challenge.rw_nonebetter_k27_choices_exchanged) rfl rfl (fun w h Y => PySem.W.kIn_of Y) ?F
 case F =>
  intro w mg fa h KX G hmg
  have F1 : L2.Fn (L2.KOf KX) mg "exchanged" Nb.Qgr := by
   dsimp only [L2.KOf]
   refine' L2.Yu KX G ?a ?l ?c ?k
   (case a => k_is); (case l => k_is); (case c => k_is); (case k => k_is)
  have F2 : L2.Fn (L2.KOf KX) mg "counted" Nb.Zn := by
   dsimp only [L2.KOf]
   refine' L2.Yu KX G ?a ?l ?c ?k
   (case a => k_is); (case l => k_is); (case c => k_is); (case k => k_is)
  have F3 : L2.Fn (L2.KOf KX) mg "may_exchange" Nb.sMay := by
   dsimp only [L2.KOf]
   refine' L2.Yu KX G ?a ?l ?c ?k
   (case a => k_is); (case l => k_is); (case c => k_is); (case k => k_is)
  have F4 : L2.Fn (L2.KOf KX) mg "_law_whole" Nb.Qbh := by
   dsimp only [L2.KOf]
   refine' L2.Yu KX G ?a ?l ?c ?k
   (case a => k_is); (case l => k_is); (case c => k_is); (case k => k_is)
  have F5 : L2.Fn (L2.KOf KX) mg "_law_cell_at" Nb.Qgm := by
   dsimp only [L2.KOf]
   refine' L2.Yu KX G ?a ?l ?c ?k
   (case a => k_is); (case l => k_is); (case c => k_is); (case k => k_is)
  have F6 : L2.Fn (L2.KOf KX) mg "_law_mixed" Nb.Qgn := by
   dsimp only [L2.KOf]
   refine' L2.Yu KX G ?a ?l ?c ?k
   (case a => k_is); (case l => k_is); (case c => k_is); (case k => k_is)
  have F7 : L2.Fn (L2.KOf KX) mg "_law_left" Nb.Qgo := by
   dsimp only [L2.KOf]
   refine' L2.Yu KX G ?a ?l ?c ?k
   (case a => k_is); (case l => k_is); (case c => k_is); (case k => k_is)
  have F8 : L2.Fn (L2.KOf KX) mg "_law_row" Nb.Qbi := by
   dsimp only [L2.KOf]
   refine' L2.Yu KX G ?a ?l ?c ?k
   (case a => k_is); (case l => k_is); (case c => k_is); (case k => k_is)
  have F9 : L2.Fn (L2.KOf KX) mg "_law_problem" Nb.Zm := by
   dsimp only [L2.KOf]
   refine' L2.Yu KX G ?a ?l ?c ?k
   (case a => k_is); (case l => k_is); (case c => k_is); (case k => k_is)
  have F10 : L2.Fn (L2.KOf KX) mg "_law_copy" Nb.Qgp := by
   dsimp only [L2.KOf]
   refine' L2.Yu KX G ?a ?l ?c ?k
   (case a => k_is); (case l => k_is); (case c => k_is); (case k => k_is)
  have F11 : L2.Fn (L2.KOf KX) mg "_law_numbered" Nb.Qgs := by
   dsimp only [L2.KOf]
   refine' L2.Yu KX G ?a ?l ?c ?k
   (case a => k_is); (case l => k_is); (case c => k_is); (case k => k_is)
  have F12 : L2.Fn (L2.KOf KX) mg "_law_led" Nb.sLed := by
   dsimp only [L2.KOf]
   refine' L2.Yu KX G ?a ?l ?c ?k
   (case a => k_is); (case l => k_is); (case c => k_is); (case k => k_is)
  have F13 : L2.Fn (L2.KOf KX) mg "_law_keeps" Nb.Zo := by
   dsimp only [L2.KOf]
   refine' L2.Yu KX G ?a ?l ?c ?k
   (case a => k_is); (case l => k_is); (case c => k_is); (case k => k_is)
  have F14 : L2.Fn (L2.KOf KX) mg "exchanges" Nb.sExs := by
   dsimp only [L2.KOf]
   refine' L2.Yu KX G ?a ?l ?c ?k
   (case a => k_is); (case l => k_is); (case c => k_is); (case k => k_is)
  have F15 : L2.Fn (L2.KOf KX) mg "_law_alike" Nb.Zp := by
   dsimp only [L2.KOf]
   refine' L2.Yu KX G ?a ?l ?c ?k
   (case a => k_is); (case l => k_is); (case c => k_is); (case k => k_is)
  have F16 : L2.Fn (L2.KOf KX) mg "law" Nb.sLaw := by
   dsimp only [L2.KOf]
   refine' L2.Yu KX G ?a ?l ?c ?k
   (case a => k_is); (case l => k_is); (case c => k_is); (case k => k_is)
  have M : Nb.Mg mg := by
   refine' ⟨PySem.W.mg_none_of KX G ?m_len, PySem.W.mg_none_of KX G ?m_min, PySem.W.mg_none_of KX G ?m_max, PySem.W.mg_none_of KX G ?m_sum, PySem.W.mg_none_of KX G ?m_all, PySem.W.mg_none_of KX G ?m_any, PySem.W.mg_none_of KX G ?m_abs, PySem.W.mg_none_of KX G ?m_isinstance, PySem.W.mg_none_of KX G ?m_sorted, PySem.W.mg_none_of KX G ?m_range_, PySem.W.mg_none_of KX G ?m_zip_, PySem.W.mg_none_of KX G ?m_tuple_, PySem.W.mg_none_of KX G ?m_list_, PySem.W.mg_none_of KX G ?m_int_, PySem.W.mg_none_of KX G ?m_bool_, PySem.W.mg_none_of KX G ?m_dict_, PySem.W.mg_none_of KX G ?m_enumerate_, PySem.W.mg_none_of KX G ?m_reversed_, PySem.W.mg_none_of KX G ?m_ValueError_, PySem.W.mg_none_of KX G ?m_set_, PySem.W.mg_none_of KX G ?m_str_⟩
   (case m_len => k_is)
   (case m_min => k_is)
   (case m_max => k_is)
   (case m_sum => k_is)
   (case m_all => k_is)
   (case m_any => k_is)
   (case m_abs => k_is)
   (case m_isinstance => k_is)
   (case m_sorted => k_is)
   (case m_range_ => k_is)
   (case m_zip_ => k_is)
   (case m_tuple_ => k_is)
   (case m_list_ => k_is)
   (case m_int_ => k_is)
   (case m_bool_ => k_is)
   (case m_dict_ => k_is)
   (case m_enumerate_ => k_is)
   (case m_reversed_ => k_is)
   (case m_ValueError_ => k_is)
   (case m_set_ => k_is)
   (case m_str_ => k_is)
  obtain ⟨f, fd, FF, hm⟩ := F16
  have e0 := hmg.symm.trans hm
  cases e0
  refine' ⟨fd, ?b, fun base kb nb => Nb.all_ok M F1 F2 F3 F4 F5 F6 F7 F8 F9 F10 F11 F12 F13 F14 F15 FF⟩
  obtain ⟨oc, od, kV, doc, pm, an, cdv, ct, osl, rfl, lk, hcd⟩ := FF.ex
  exact fun s u => .of_eq rfl

