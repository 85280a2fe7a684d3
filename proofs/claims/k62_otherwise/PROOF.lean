import PyProof.Rows.All
import Wide.All
import OpenK.AllK
import Wide.FinOn
import Lean
import PyProof.EqAt
import PyProof.EqKinds
import PyProof.TupleCall
import KE.KDictOf
import KE.KRevIter
import KE.KEqDict
import KE.KMinKey
import KE.KTryDeep
import KE.KIsAll
import KE.KSortTup
import OpenK.KTop
import KE.KPairComp
import KE.KDictSum
import PyProof.Rows.SortStr
import PyProof.NeKinds
import PyProof.Rows.SortShellK
import KE.KDictList
import PySem.Challenge.RW_nonebetter_k62_works_done_otherwise
noncomputable section
abbrev Fg := PySem.W.Frag
section
open PySem PySem.Spec PySem.W PyProof.Rows
abbrev jQ := @wpAny_bind
abbrev jX := @Nat.le_refl
abbrev jY := @List.length_append
abbrev jZ := @List.length_map
abbrev jJ := @Heap.get?_push_of_some
abbrev jK := @List.mem_cons_self
abbrev jV := @List.size_toArray
abbrev jW := @wpAny_pure
abbrev kQ := @List.mem_singleton
abbrev kX := @List.take_length
abbrev kY := @of_decide_eq_true
abbrev kZ := @decide_eq_true
abbrev kJ := @List.getElem?_eq_some_iff
abbrev kK := @List.append_assoc
abbrev kW := @List.mem_append
abbrev yQ := @List.map_append
abbrev yX := @Heap.get?_push_size
abbrev yY := @List.getElem?_map
abbrev yZ := @Bool.false_ne_true
abbrev yJ := @List.mem_cons
abbrev yK := @Heap.lt_size
abbrev yV := @List.mem_of_getElem?
abbrev yW := @List.length_cons
abbrev zQ := @List.mem_cons_of_mem
abbrev zX := @List.mem_append_right
abbrev zY := @Nat.lt_of_lt_of_le
abbrev zZ := @Nat.succ_le_succ
abbrev zJ := @List.map_cons
abbrev zK := @Nat.ne_of_lt
abbrev zV := @List.mem_map
abbrev zW := @decide_eq_false
abbrev xQ := @Nat.lt_of_le_of_lt
abbrev xX := @Int.emod_lt_of_pos
abbrev xY := @List.length_filter_le
abbrev xZ := @List.length_take
abbrev xJ := @Array.getElem_mem
abbrev xK := @List.mem_filter
abbrev xV := @Nat.add_le_add_left
abbrev xW := @Int.emod_nonneg
abbrev wQ := @List.perm_append_comm
abbrev wX := @Bool.and_eq_true
abbrev wY := @List.length_filterMap_le
abbrev wZ := @List.filter_cons_of_pos
abbrev wJ := @List.filter_cons_of_neg
abbrev wK := @Nat.zero_le
abbrev wV := @Array.toList_append
abbrev wW := @List.mem_iff_getElem?
abbrev jQa := @Nat.le_trans
abbrev jQb := @Nat.lt_of_succ_lt
abbrev jQc := @List.mem_filterMap
abbrev jQd := @List.filter_append
abbrev jQe := @List.append_nil
abbrev jQf := @List.pairwise_append
abbrev jXa := @List.pairwise_cons
abbrev jXb := @List.mem_append_left
abbrev jXc := @List.pairwise_singleton
abbrev jXd := @List.nodup_cons
abbrev jXe := @List.find?_cons
abbrev jXf := @List.lookup_cons
abbrev jYa := @List.any_eq_true
abbrev jYb := @List.mem_nil_iff
abbrev jYc := @List.getElem?_append_left
abbrev jYd := @List.drop_eq_getElem_cons
abbrev jYe := @Int.toNat_natCast
abbrev jYf := @Nat.lt_irrefl
abbrev jZa := @Option.isSome_iff_exists
abbrev jZb := @List.length_drop
abbrev jZc := @List.all_eq_true
abbrev jZd := @Bool.false_eq_true
abbrev jZe := @List.take_of_length_le
abbrev jZf := @Bool.eq_iff_iff
abbrev jJa := @Nat.min_eq_left
abbrev jJb := @List.sum_cons
abbrev jJc := @List.take_append_drop
abbrev jJd := @Array.getElem?_toList
abbrev jJe := @List.map_map
abbrev jJf := @Array.length_toList
abbrev jKa := @plainId_quiet
abbrev jKb := @Array.toList_push
abbrev jKc := @List.eq_nil_of_length_eq_zero
abbrev jKd := @List.filterMap_cons
abbrev jKe := @List.map_nil
abbrev jKf := @Heap.size_push
abbrev kQa := @List.drop_zero
abbrev kQb := @Array.perm_iff_toList_perm
abbrev kQc := @List.extract_eq_take_drop
abbrev kQd := @Nat.le_succ
abbrev kQe := @Nat.lt_succ_of_lt
abbrev kQf := @List.reverse_perm
abbrev kXa := @List.flatMap_cons
abbrev kXb := @List.any_cons
abbrev kXc := @List.getElem_mem
abbrev kXd := @List.filter_cons
abbrev kXe := @Int.ne_of_gt
abbrev kXf := @Bool.or_eq_true
abbrev kYa := @Option.map_some
abbrev kYb := @List.foldl_cons
abbrev kYc := @Array.toList_extract
abbrev kYd := @Array.toList_reverse
abbrev kYe := @List.not_lt
abbrev kYf := @List.map_congr_left
end
abbrev gE := @List.getElem?_eq_getElem
set_option Elab.async false
set_option linter.all false
set_option maxRecDepth 100000
set_option maxHeartbeats 4000000
set_option bootstrap.genMatcherCode false
set_option genSizeOfSpec false
set_option compiler.extract_closed false
namespace L2
theorem aRfl (h : True := by rfl) : True := h
theorem aDec (h : True := by decide) : True := h
theorem aFst (h : True := by first | exact .inl rfl | exact .inr rfl | assumption) : True := h
theorem aIrf (h : True := by intro _; rfl) : True := h
end L2
namespace L2
open PySem PySem.Spec PyProof.Rows
abbrev Key := Sum Int Str
def Qcx : Key → Value → Bool
 | .inl k, v => Value.isInt k v
 | .inr x, v => Value.isStrOf x v
def keyH (w : World) : Key → Int
 | .inl k => hashInt k
 | .inr x => hashStr w x
theorem Xt : ∀ {k : Key} {v : Value}, Qcx k v = true → (∃ i t, k = Sum.inl i ∧ v = Value.int i t) ∨ (∃ x t, k = Sum.inr x ∧ v = Value.str x t)
 | .inl i, v, h => by
  obtain ⟨t, e⟩ := Value.isInt_shape (k := i) (v := v) h
  exact .inl ⟨i, t, rfl, e⟩
 | .inr x, v, h => by
  obtain ⟨t, e⟩ := Value.isStrOf_shape (x := x) (v := v) h
  exact .inr ⟨x, t, rfl, e⟩
theorem Qfz (i : Int) (t : Tok) : Qcx (.inl i) (.int i t) = true := by simp [Qcx, Value.isInt]
theorem Qga (x : Str) (t : Tok) : Qcx (.inr x) (.str x t) = true := by simp [Qcx, Value.isStrOf]
theorem key_ll (a b : Int) : decide ((Sum.inl a : Key) = Sum.inl b) = (a == b) := by
 by_cases e : a = b
 ·subst e; simp
 ·have h : ¬ (Sum.inl a : Key) = Sum.inl b := fun q => e (Sum.inl.inj q)
  rw [zW h]
  exact (beq_eq_false_iff_ne.mpr e).symm
theorem key_rr (a b : Str) : decide ((Sum.inr a : Key) = Sum.inr b) = decide (a = b) := by
 by_cases e : a = b
 ·subst e; simp
 ·have h : ¬ (Sum.inr a : Key) = Sum.inr b := fun q => e (Sum.inr.inj q)
  rw [zW h, zW e]
theorem key_lr (a : Int) (b : Str) : decide ((Sum.inl a : Key) = Sum.inr b) = false := zW (fun q => nomatch q)
theorem key_rl (a : Str) (b : Int) : decide ((Sum.inr a : Key) = Sum.inl b) = false := zW (fun q => nomatch q)
def Xi (prog : Program) (w : World) : PySem.KeyKind prog w Key where
 is := Qcx
 hash := keyH w
 inj := fun v a b ha hb => by
  rcases Xt ha with ⟨i, t, rfl, rfl⟩ | ⟨x, t, rfl, rfl⟩
  ·rcases Xt hb with ⟨j, u, rfl, e⟩ | ⟨y, u, rfl, e⟩
   ·injection e with e1 _; rw [e1]
   ·exact nomatch e
  ·rcases Xt hb with ⟨j, u, rfl, e⟩ | ⟨y, u, rfl, e⟩
   ·exact nomatch e
   ·injection e with e1 _; rw [e1]
 byValue := fun k v h => by
  rcases Xt h with ⟨i, t, rfl, rfl⟩ | ⟨x, t, rfl, rfl⟩ <;> rfl
 pyHash := fun hv h => by
  rcases Xt hv with ⟨i, t, rfl, rfl⟩ | ⟨x, t, rfl, rfl⟩
  ·exact wpAny_pyHash_int h
  ·exact wpAny_pyHash_str h
 eqBool := fun hu hv h => by
  rcases Xt hu with ⟨i, t, rfl, rfl⟩ | ⟨x, t, rfl, rfl⟩
  ·rcases Xt hv with ⟨j, u, rfl, rfl⟩ | ⟨y, u, rfl, rfl⟩
   ·rw [key_ll] at h; exact wpAny_eqBool_int h
   ·rw [key_lr] at h; exact SeqAt.EqAt.int_str i t y u _ _ _ _ h
  ·rcases Xt hv with ⟨j, u, rfl, rfl⟩ | ⟨y, u, rfl, rfl⟩
   ·rw [key_rl] at h; exact SeqAt.EqAt.str_int x t j u _ _ _ _ h
   ·rw [key_rr] at h; exact wpAny_eqBool_str h
 «strs» := fun k x t v h => by
  rcases Xt h with ⟨i, u, rfl, e⟩ | ⟨y, u, rfl, e⟩
  ·exact nomatch e
  ·injection e with e1 _
   subst e1
   cases v <;> rfl
theorem Qez (prog : Program) (w : World) (k : Key) (v : Value) : (Xi prog w).is k v = Qcx k v := rfl
theorem Qcy (prog : Program) (w : World) (i : Int) (t : Tok) : (Xi prog w).is (.inl i) (.int i t) = true := Qfz i t
theorem Qcz (prog : Program) (w : World) (x : Str) (t : Tok) : (Xi prog w).is (.inr x) (.str x t) = true := Qga x t
inductive V where
 | non | bl (b : Bool) | int (i : Int) | str (x : Str) | byt (b : Array UInt8) | flt (b : UInt64) | ref (a : Addr) | ty (n : String)
 deriving DecidableEq
def RelV : V → Value → Prop
 | .non, u => u = Value.none
 | .bl b, u => u = Value.bool b
 | .int i, u => ∃ t, u = Value.int i t
 | .str x, u => ∃ t, u = Value.str x t
 | .byt b, u => ∃ t, u = Value.bytes b t
 | .flt b, u => ∃ t, u = Value.float b t
 | .ref a, u => u = Value.ref a
 | .ty n, u => u = Value.type n
abbrev Vals : List V → List Value → Prop := Paired RelV
theorem Vals.length {xs : List V} {us : List Value} (r : Vals xs us) : xs.length = us.length := Paired.length r
theorem Vals.get : ∀ {xs : List V} {us : List Value} {i : Nat} {x : V}, Vals xs us → xs[i]? = some x → ∃ u, us[i]? = some u ∧ RelV x u
 | _, _, _, _, .nil, e => by simp at e
 | _, _, 0, _, .cons r _, e => by simp at e; subst e; exact ⟨_, rfl, r⟩
 | _, _, i + 1, x, .cons _ t, e => by
  obtain ⟨u, h1, h2⟩ := Vals.get (i := i) (x := x) t (by simpa using e)
  exact ⟨u, by simpa using h1, h2⟩
theorem Vals.append {xs ys : List V} {us ws : List Value} (h : Vals xs us) (g : Vals ys ws) : Vals (xs ++ ys) (us ++ ws) := by
 induction h with
 | nil => exact g
 | cons r t ih => exact .cons r ih
theorem Vals.take : ∀ {xs : List V} {us : List Value} (n : Nat), Vals xs us → Vals (xs.take n) (us.take n)
 | _, _, 0, _ => .nil
 | _, _, _ + 1, .nil => .nil
 | _, _, n + 1, .cons r t => .cons r (Vals.take n t)
theorem Vals.drop : ∀ {xs : List V} {us : List Value} (n : Nat), Vals xs us → Vals (xs.drop n) (us.drop n)
 | _, _, 0, r => r
 | _, _, _ + 1, .nil => .nil
 | _, _, n + 1, .cons _ t => Vals.drop n t
def RelO : Option V → Option Value → Prop
 | some v, some u => RelV v u
 | none, none => True
 | _, _ => False
def KV {κ : Type} : List (κ × V) → List (κ × Value) → Prop := Paired fun (p : κ × V) (q : κ × Value) => p.1 = q.1 ∧ RelV p.2 q.2
def kV : Key → V
 | .inl i => .int i
 | .inr x => .str x
inductive HO where
 /-- a list -/
 | lst (xs : List V)
 /-- a tuple (never changes) -/
 | tup (xs : List V)
 /-- a dict whose keys are ints and texts; one whose keys are tuples of ints and texts (the empty one is both) -/
 | dK (kvs : List (Key × V)) | dT (kvs : List (List Key × V))
 /-- a set of ints: its members, its size -/
 | set (S : Int → Bool) (n : Nat)
 /-- an instance of the class at C, its dict at dx, its attributes -/
 | ins (C dx : Addr) (fs : List (Str × V))
 /-- the dict of the instance at x -/
 | own (x : Addr)
 /-- the dict of an exception -/
 | xd (fs : List (Str × V))
 /-- a bound method, f of x -/
 | met (f x : Addr)
 /-- a range object lo, lo + 1, .. below hi -/
 | rng (lo hi : Int)
 /-- a thing that is known to the object (the script; a dict while a loop walks it): read, never written while it is so -/
 | frz (o : Obj) (u : HO)
 /-- a code object's table -/
 | tbl (ps : Array Value)
 /-- any other thing, by what is true of its one object (a def of one's own: SetO a S n := HO.ext fun h => ..) -/
 | ext (φ : Heap → Prop)
abbrev Hp := Addr → Option HO
def upd (H : Hp) (a : Addr) (o : HO) : Hp := fun b => if b = a then some o else H b
theorem Qb {H : Hp} {a : Addr} {o : HO} : upd H a o a = some o := by unfold upd; rw [if_pos rfl]
theorem Qj {H : Hp} {a b : Addr} {o : HO} (h : b ≠ a) : upd H a o b = H b := by unfold upd; rw [if_neg h]
theorem Qda {H : Hp} {a : Addr} {o u : HO} : upd (upd H a o) a u = upd H a u := by
 funext b; unfold upd; split <;> rfl
theorem Yl {H : Hp} {a b : Addr} {o u : HO} (h : H a = some o) (h' : H b = some u) (d : o ≠ u) : a ≠ b := by
 intro e; subst e; rw [h] at h'; exact d (Option.some.inj h')
theorem Qk {H : Hp} {a b : Addr} {o : HO} (h : H a = some o) (h' : H b = none) : a ≠ b := by
 intro e; subst e; rw [h] at h'; cases h'
section
variable (P : Program) (w : World)
def ObjOk (H : Hp) (h : Heap) (a : Addr) : HO → Prop
 | .lst xs => xs.length ≤ sizeLine ∧ ∃ (its : List Value) (n : Nat), Vals xs its ∧ h.get? a = some { cls := .type "list", data := .seq its.toArray n }
 | .tup xs => xs.length ≤ sizeLine ∧ ∃ its : List Value, Vals xs its ∧ IsTup h a its.toArray
 | .dK kvs => kvs.length ≤ sizeLine ∧ (a == sysModules) = false ∧ ∃ vs, KV kvs vs ∧ h.DictOf (Xi P w) a vs
 | .dT kvs => kvs.length ≤ sizeLine ∧ (a == sysModules) = false ∧ ∃ xs : List (List Key × Addr × Value),
   Paired (fun (p : List Key × V) (q : List Key × Addr × Value) => p.1 = q.1 ∧ H q.2.1 = some (.tup (p.1.map kV)) ∧ RelV p.2 q.2.2) kvs xs ∧
   ∃ o es ep, h.get? a = some o ∧ o.ExactDict ∧ o.data = .dict es ep ∧ es.toList = xs.map (entryOfKey (tupleKind (Xi P w))) ∧ (xs.map (·.1)).Nodup
 | .set S n => h.SetOf (intKind P w) a S n
 | .ins C dx fs => H dx = some (.own a) ∧ fs.length ≤ 1000 ∧ dx ≠ a ∧ h.get? a = some (PySem.W.instObj C dx) ∧
   ∃ mA, h.Ns1 dx mA ∧ (∀ f, RelO (fs.lookup f) (mA f)) ∧ PySem.Within mA (fs.map (·.1))
 | .own _ => ∃ o, h.get? a = some o
 | .xd fs => ∃ mA, h.Ns1 a mA ∧ ∀ f, RelO (fs.lookup f) (mA f)
 | .rng lo hi => ∃ t u v, h.get? a = some { cls := .type "range", data := .fields #[.int lo t, .int hi u, .int 1 v] }
 | .frz o u => h.get? a = some o ∧ ObjOk H h a u
 | .tbl ps => h.get? a = some { cls := .none, data := .fields ps }
 | .met f x => h.get? a = some (PySem.W.methodObj (.ref f) (.ref x))
 | .ext φ => φ h ∧ (∃ o, h.get? a = some o) ∧ ∀ h1 h2 : Heap, φ h1 → (∀ o, h1.get? a = some o → h2.get? a = some o) → φ h2
def HOk (H : Hp) (h : Heap) : Prop := ∀ a o, H a = some o → ObjOk P w H h a o
end
section
variable {P : Program} {w : World} {H H' : Hp} {h h' : Heap} {a : Addr} {o : HO}
theorem ObjOk.lt (x : ObjOk P w H h a o) : a < h.objs.size := by
 cases o with
 | lst xs => obtain ⟨_, _, _, _, e⟩ := x; exact yK e
 | tup xs => obtain ⟨_, _, _, p⟩ := x; exact p.lt
 | dK kvs => obtain ⟨_, _, _, _, o, _, _, e, _⟩ := x; exact yK e
 | dT kvs => obtain ⟨_, _, _, _, o, _, _, e, _⟩ := x; exact yK e
 | set S n => obtain ⟨o, _, _, _, e, _⟩ := x; exact yK e
 | ins C dx fs => obtain ⟨_, _, _, e, _⟩ := x; exact yK e
 | own y => obtain ⟨_, e⟩ := x; exact yK e
 | xd fs => obtain ⟨_, ⟨_, _, _, e, _⟩, _⟩ := x; exact yK e
 | rng lo hi => obtain ⟨_, _, _, e⟩ := x; exact yK e
 | frz ob u => obtain ⟨e, _⟩ := x; exact yK e
 | tbl ps => exact yK (show h.get? a = some _ from x)
 | met f y => exact yK (show h.get? a = some _ from x)
 | ext φ => obtain ⟨_, ⟨_, e⟩, _⟩ := x; exact yK e
theorem Paired.mapP {α β : Type} {F G : α → β → Prop} {l₁ : List α} {l₂ : List β} (h : Paired F l₁ l₂) (f : ∀ a b, F a b → G a b) : Paired G l₁ l₂ := by
 induction h with
 | nil => exact .nil
 | cons r t ih => exact .cons (f _ _ r) ih
theorem ObjOk.stay (x : ObjOk P w H h a o) (k : ∀ b u, (b = a ∨ H b = some (.own a)) → h.get? b = some u → h'.get? b = some u)
  (ho : ∀ b, H b = some (.own a) → H' b = some (.own a)) (ht : ∀ b xs, H b = some (.tup xs) → H' b = some (.tup xs)) : ObjOk P w H' h' a o := by
 induction o with
 | lst xs => obtain ⟨z, its, n, r, e⟩ := x; exact ⟨z, its, n, r, k _ _ (.inl rfl) e⟩
 | tup xs => obtain ⟨z, its, r, ob, e, c⟩ := x; exact ⟨z, its, r, ob, k _ _ (.inl rfl) e, c⟩
 | dK kvs => obtain ⟨z, y, vs, r, ob, es, ep, e, c⟩ := x; exact ⟨z, y, vs, r, ob, es, ep, k _ _ (.inl rfl) e, c⟩
 | dT kvs =>
  obtain ⟨z, y, xs, r, ob, es, ep, e, c⟩ := x
  exact ⟨z, y, xs, Paired.mapP r fun p q z => ⟨z.1, ht _ _ z.2.1, z.2.2⟩, ob, es, ep, k _ _ (.inl rfl) e, c⟩
 | set S n => obtain ⟨ob, es, ep, t, e, c⟩ := x; exact ⟨ob, es, ep, t, k _ _ (.inl rfl) e, c⟩
 | ins C dx fs =>
  obtain ⟨d, z, ne, e, mA, ⟨od, es, ep, e2, c⟩, r⟩ := x
  exact ⟨ho _ d, z, ne, k _ _ (.inl rfl) e, mA, ⟨od, es, ep, k _ _ (.inr d) e2, c⟩, r⟩
 | own y => obtain ⟨ob, e⟩ := x; exact ⟨ob, k _ _ (.inl rfl) e⟩
 | xd fs => obtain ⟨mA, ⟨od, es, ep, e, c⟩, r⟩ := x; exact ⟨mA, ⟨od, es, ep, k _ _ (.inl rfl) e, c⟩, r⟩
 | rng lo hi => obtain ⟨t, u, v, e⟩ := x; exact ⟨t, u, v, k _ _ (.inl rfl) e⟩
 | frz ob u ih => obtain ⟨e, q⟩ := x; exact ⟨k _ _ (.inl rfl) e, ih q⟩
 | tbl ps =>
  have e : h.get? a = some { cls := .none, data := .fields ps } := x
  show h'.get? a = some { cls := .none, data := .fields ps }
  exact k a _ (.inl rfl) e
 | met f y =>
  have e : h.get? a = some (PySem.W.methodObj (.ref f) (.ref y)) := x
  show h'.get? a = some (PySem.W.methodObj (.ref f) (.ref y))
  exact k a _ (.inl rfl) e
 | ext φ => obtain ⟨p, ⟨o, e⟩, st⟩ := x; exact ⟨st _ _ p fun o q => k _ _ (.inl rfl) q, ⟨o, k _ _ (.inl rfl) e⟩, st⟩
theorem HOk.lt (x : HOk P w H h) (e : H a = some o) : a < h.objs.size := (x a o e).lt
theorem HOk.fresh (x : HOk P w H h) (e : h.objs.size ≤ a) : H a = none := by
 cases q : H a with
 | none => rfl
 | some u => exact absurd (zY (x.lt q) e) (jYf _)
theorem HOk.kept (x : HOk P w H h) (k : ∀ b u, h.get? b = some u → h'.get? b = some u) : HOk P w H h' := fun a o e =>
 (x a o e).stay (fun b u _ q => k b u q) (fun _ q => q) fun _ _ q => q
theorem HOk.laid (x : HOk P w H h) (k : ∀ b u, h.get? b = some u → h'.get? b = some u) (hp : h.objs.size ≤ a) (new : ObjOk P w (upd H a o) h' a o) : HOk P w (upd H a o) h' := fun b u e => by
 have hn := x.fresh hp
 by_cases hb : b = a
 ·subst hb; rw [Qb] at e; cases e; exact new
 ·rw [Qj hb] at e
  exact (x b u e).stay (fun c v _ q => k c v q) (fun c q => by rw [Qj (Qk q hn)]; exact q) fun c xs q => by rw [Qj (Qk q hn)]; exact q
end
def Rd (H : Hp) (a : Addr) (u : HO) : Prop := H a = some u ∨ ∃ o, H a = some (.frz o u)
theorem Rd.ok {P : Program} {w : World} {H : Hp} {h : Heap} {a : Addr} {u : HO} (r : Rd H a u) (x : HOk P w H h) : ObjOk P w H h a u := by
 rcases r with r | ⟨o, r⟩
 ·exact x a u r
 ·obtain ⟨_, q⟩ := x a _ r
  exact q
def Mut : Option HO → Prop
 | some (.lst _) => True
 | some (.dK _) => True
 | some (.dT _) => True
 | some (.set _ _) => True
 | some (.ins _ _ _) => True
 | some (.ext _) => True
 | _ => False
section
variable {P : Program} {w : World} {H : Hp} {h h' : Heap} {x e : Addr} {o' : HO}
theorem HOk.write (ok : HOk P w H h) (mu : Mut (H x)) (he : e = x ∨ H e = some (.own x)) (k : ∀ b u, b ≠ e → h.get? b = some u → h'.get? b = some u) (heo : ∃ u, h'.get? e = some u)
  (new : ObjOk P w (upd H x o') h' x o') : HOk P w (upd H x o') h' := fun b u q => by
 have nown : ∀ c y, H c = some (.own y) → c ≠ x := fun c y r z => by subst z; rw [r] at mu; exact mu
 have ntup : ∀ c xs, H c = some (.tup xs) → c ≠ x := fun c xs r z => by subst z; rw [r] at mu; exact mu
 by_cases hb : b = x
 ·subst hb; rw [Qb] at q; cases q; exact new
 ·rw [Qj hb] at q
  by_cases hbe : b = e
  ·have q' : H b = some (.own x) := by
    rcases he with z | z
    ·exact absurd (hbe.trans z) hb
    ·rw [hbe]; exact z
   rw [q] at q'; cases q'
   obtain ⟨v, hv⟩ := heo
   exact ⟨v, by rw [hbe]; exact hv⟩
  ·refine (ok b u q).stay (fun c v hc r => k c v ?_ r) (fun c r => by rw [Qj (nown c b r)]; exact r) fun c xs r => by rw [Qj (ntup c xs r)]; exact r
   rcases hc with rfl | hc
   ·exact hbe
   ·rintro rfl
    rcases he with z | z
    ·exact nown c b hc z
    ·rw [hc] at z; cases z; exact hb rfl
end
structure Un (fs ex : List Addr) (H H' : Hp) (h h' : Heap) : Prop where
 keep : ∀ b o, h.get? b = some o → H b = none → b ∉ fs → b ∉ ex → h'.get? b = some o
 slot : ∀ b o, h.get? b = some o → H b = none → b ∈ fs → b ∉ ex → ∃ sl, h'.get? b = some { o with slots := sl }
 free : ∀ b o, h.get? b = some o → H b = none → b ∉ ex → H' b = none
 there : ∀ b o, h.get? b = some o → b ∉ ex → ∃ o', h'.get? b = some o'
 tups : ∀ b xs, H b = some (.tup xs) → H' b = some (.tup xs)
 frzs : ∀ b o u, H b = some (.frz o u) → H' b = some (.frz o u)
 tbls : ∀ b ps, H b = some (.tbl ps) → ∃ more, H' b = some (.tbl (ps ++ more))
section
variable {fs fs' ex ex' : List Addr} {H H1 H2 : Hp} {h h1 h2 h' : Heap} {a x e : Addr} {o : HO}
theorem Un.any (u : Un fs ex H H1 h h1) {b : Addr} {ob : Obj} (q : h.get? b = some ob) (n : H b = none) (hx : b ∉ ex) : ∃ sl, h1.get? b = some { ob with slots := sl } := by
 by_cases hb : b ∈ fs
 ·exact u.slot b ob q n hb hx
 ·exact ⟨ob.slots, u.keep b ob q n hb hx⟩
theorem Un.kept (k : ∀ b u, h.get? b = some u → h'.get? b = some u) : Un fs ex H H h h' :=
 ⟨fun b ob q _ _ _ => k b ob q, fun b ob q _ _ _ => ⟨ob.slots, k b ob q⟩, fun _ _ _ n _ => n, fun b ob q _ => ⟨ob, k b ob q⟩, fun _ _ q => q, fun _ _ _ q => q, fun _ ps q => ⟨#[], by rw [q]; simp⟩⟩
theorem Un.refl : Un fs ex H H h h := Un.kept fun _ _ q => q
theorem Un.laid (k : ∀ b u, h.get? b = some u → h'.get? b = some u) (hp : h.objs.size ≤ a) (hn : H a = none) : Un fs ex H (upd H a o) h h' where
 keep := fun b u q _ _ _ => k b u q
 slot := fun b u q _ _ _ => ⟨u.slots, k b u q⟩
 free := fun b u q n _ => by rw [Qj (zK (zY (yK q) hp))]; exact n
 there := fun b u q _ => ⟨u, k b u q⟩
 tups := fun b xs q => by rw [Qj (Qk q hn)]; exact q
 frzs := fun b u xs q => by rw [Qj (Qk q hn)]; exact q
 tbls := fun b ps q => ⟨#[], by rw [Qj (Qk q hn), q]; simp⟩
theorem Un.write (mu : Mut (H x)) (he : e = x ∨ H e = some (.own x)) (k : ∀ b u, b ≠ e → h.get? b = some u → h'.get? b = some u) (heo : ∃ u, h'.get? e = some u) : Un fs ex H (upd H x o) h h' := by
 have hx : ∀ b, H b = none → b ≠ x := fun b n z => by subst z; rw [n] at mu; exact mu
 have hb : ∀ b, H b = none → b ≠ e := fun b n z => by
  subst z
  rcases he with r | r
  ·exact hx b n r
  ·rw [n] at r; cases r
 have hm : ∀ b u, H b = some u → ¬ Mut (some u) → b ≠ x := fun b u q nm z => by subst z; rw [q] at mu; exact nm mu
 refine ⟨fun b u q n _ _ => k b u (hb b n) q, fun b u q n _ _ => ⟨u.slots, k b u (hb b n) q⟩, fun b u q n _ => by rw [Qj (hx b n)]; exact n, fun b u q _ => ?_,
  fun b xs q => by rw [Qj (hm b _ q fun z => z)]; exact q, fun b u xs q => by rw [Qj (hm b _ q fun z => z)]; exact q, fun b ps q => ⟨#[], by rw [Qj (hm b _ q fun z => z), q]; simp⟩⟩
 by_cases hbe : b = e
 ·subst hbe; exact heo
 ·exact ⟨u, k b u hbe q⟩
end
def trk (h : Heap) (H : Hp) : List Addr := (List.range h.objs.size).filter fun a => (H a).isSome
def hidT (h : Heap) (H : Hp) : Heap := PySem.W.hideAll h (trk h H)
theorem Qgb (h : Heap) (H : Hp) : (hidT h H).objs.size = h.objs.size := PySem.W.hideAll_size _ _
theorem Qiq {h : Heap} {H : Hp} {b : Addr} {o : Obj} (e : h.get? b = some o) (n : H b = none) : (hidT h H).get? b = some o :=
 PySem.W.hideAll_get _ e fun hm => by
  have q : (H b).isSome = true := (xK.mp hm).2
  rw [n] at q; simp at q
theorem Qmc {h : Heap} {H : Hp} {b : Addr} {o : Obj} (e : (hidT h H).get? b = some o) : h.get? b = some o ∧ H b = none := by
 have e' : h.get? b = some o := PySem.W.of_hideAll (trk h H) e
 refine ⟨e', ?_⟩
 cases q : H b with
 | none => rfl
 | some x =>
  have hm : b ∈ trk h H := xK.mpr ⟨List.mem_range.mpr (yK e'), by simp [q]⟩
  have z : (hidT h H).get? b = none := PySem.W.hideAll_none (trk h H) hm
  rw [z] at e; cases e
structure Mod (K : Fg) (mg : Str → Option Value) (base : Heap) : Prop where
 kin : K.In base
 glob : base.Ns mainGlobals mg
 blt : ∃ mb, base.Ns builtinsNs mb ∧ ∀ x : Str, x ≠ "__name__" → mb x = bootBuiltins x
 nolimit : base.NoLimit
set_option genInjectivity false in
set_option genInjectivity false in
structure Cx where
 prog : Program
 w : World
 K : Fg
 mg : Str → Option Value
 base : Heap
 A : Around
 N : List Str
 s₀ : Shared
 H₀ : Hp
 env : Env
 outer : List Env
 stack : List Env
 ex : List Addr
 fn : Str → Bool
 calm : Bool
 pn : List (Addr × Obj)
 xe : Value → Shared → Prop
def frs (l : List Env) : List Addr := l.filterMap (·.frame)
abbrev Cx.fs (X : Cx) : List Addr := frs X.outer
def Vis (sc : Scope) (x : Str) : Prop := sc.names.lookup x = some .local ∨ sc.names.lookup x = some .cell ∨ sc.names.lookup x = some .free
def Loc (sc : Scope) (x : Str) : Prop := sc.names.lookup x = some .local ∨ sc.names.lookup x = some .cell
def Look (env : Env) (h : Heap) (m : Str → Option Value) (x : Str) (u : Value) : Prop :=
 (env.kindOf x = some .local ∧ m x = some u) ∨ ((env.kindOf x = some .cell ∨ env.kindOf x = some .free) ∧ ∃ c, env.cells.lookup x = some c ∧ h.IsCell c (some u))
structure Cx.Ok (X : Cx) : Prop where
 mod : Mod X.K X.mg X.base
 kind : X.env.scope.kind = .function
 glob : X.env.globals = mainGlobals
 blt : X.env.builtins = builtinsNs
 above : X.s₀.heap.objs.size ≤ X.env.locals
 inj : ∀ x y c, X.env.cells.lookup x = some c → X.env.cells.lookup y = some c → x = y
 has : ∀ x, (X.env.kindOf x = some .cell ∨ X.env.kindOf x = some .free) → ∃ c, X.env.cells.lookup x = some c
 cab : ∀ x c, X.fn x = true → X.env.cells.lookup x = some c → X.s₀.heap.objs.size ≤ c
 hd : X.calm = true → X.A.handled = none
 frames : X.A.frames = some X.stack
 stk : X.stack = X.outer ∨ (X.stack = X.env :: X.outer ∧ X.env.frame = some X.env.locals)
 exf : ∀ b ∈ X.ex, b ≠ X.env.locals ∧ ∀ x c, X.env.cells.lookup x = some c → c ≠ b
 bs : ∀ b o, X.base.get? b = some o → X.s₀.heap.get? b = some o ∧ X.H₀ b = none
 bsz : X.base.objs.size ≤ X.s₀.heap.objs.size
 noex : ∀ b o, X.base.get? b = some o → b ∉ X.ex
 exfs : ∀ b ∈ X.ex, b ∉ X.fs
 funs : X.s₀.heap.FunFrames X.base X.outer
 frf : ∀ b ∈ X.fs, X.H₀ b = none
structure Inv (X : Cx) (pins : List (Addr × Obj)) (σ : List (Option V)) (H : Hp) (s : Shared) : Prop where
 ok : X.Ok
 os : s.os = X.s₀.os
 bare : AllBare s.gens
 base : Un X.fs X.ex X.H₀ H X.s₀.heap s.heap
 loc : ∃ m, s.heap.Ns X.env.locals m ∧ ∀ (i : Nat) (x : Str) (v : V), X.N[i]? = some x → σ[i]? = some (some v) → Vis X.env.scope x → ∃ u, RelV v u ∧ Look X.env s.heap m x u
 cell : ∀ x c, X.env.cells.lookup x = some c → ∃ v, s.heap.IsCell c v
 free : H X.env.locals = none
 freeC : ∀ x c, X.env.cells.lookup x = some c → H c = none
 pin : ∀ p ∈ X.pn ++ pins, s.heap.get? p.1 = some p.2 ∧ H p.1 = none ∧ p.1 ≠ X.env.locals ∧ p.1 ∉ X.fs ∧ ∀ v, p.2.data ≠ .cell v
 hok : HOk X.prog X.w H s.heap
 len : σ.length = X.N.length
section
variable {X : Cx} {pins : List (Addr × Obj)} {σ : List (Option V)} {H H' : Hp} {s : Shared} {h' : Heap}
theorem Cx.Ok.nofr (ok : X.Ok) {b : Addr} {o : Obj} (e : X.base.get? b = some o) : b ∉ X.fs := fun hb => by
 have := (ok.funs.mem hb).1
 rw [e] at this; cases this
theorem Inv.bs (I : Inv X pins σ H s) : ∀ b o, X.base.get? b = some o → s.heap.get? b = some o ∧ H b = none := fun b o e =>
 ⟨I.base.keep b o (I.ok.bs b o e).1 (I.ok.bs b o e).2 (I.ok.nofr e) (I.ok.noex b o e), I.base.free b o (I.ok.bs b o e).1 (I.ok.bs b o e).2 (I.ok.noex b o e)⟩
theorem Inv.bk (I : Inv X pins σ H s) : ∀ b o, X.base.get? b = some o → s.heap.get? b = some o := fun b o e => (I.bs b o e).1
theorem Inv.mod (I : Inv X pins σ H s) : Mod X.K X.mg X.base := I.ok.mod
theorem Inv.kIn (I : Inv X pins σ H s) : X.K.In s.heap := I.ok.mod.kin.keeps I.bk
theorem Inv.lt (I : Inv X pins σ H s) : X.env.locals < s.heap.objs.size := by obtain ⟨_, hn, _⟩ := I.loc; exact hn.lt
theorem Inv.sz (I : Inv X pins σ H s) : X.s₀.heap.objs.size ≤ s.heap.objs.size := jQa I.ok.above (Nat.le_of_lt I.lt)
theorem Inv.nofs (I : Inv X pins σ H s) {a : Addr} (h : s.heap.objs.size ≤ a) : a ∉ X.fs := fun hb => by
 obtain ⟨_, o, ho, _⟩ := I.ok.funs.mem hb
 exact absurd (zY (yK ho) (jQa I.sz h)) (jYf _)
theorem Inv.cne (I : Inv X pins σ H s) : ∀ x c, X.env.cells.lookup x = some c → c ≠ X.env.locals := fun x c e z => by
 obtain ⟨v, o, ho, hd⟩ := I.cell x c e
 obtain ⟨m, ⟨o', es, ep, ho', hd', _⟩, _⟩ := I.loc
 rw [z, ho'] at ho; cases ho; rw [hd'] at hd; cases hd
theorem Inv.funs (I : Inv X pins σ H s) : s.heap.FunFrames X.base X.outer := by
 have all : ∀ (l : List Env), (∀ b ∈ frs l, b ∈ X.fs) → X.s₀.heap.FunFrames X.base l → s.heap.FunFrames X.base l := by
  intro l
  induction l with
  | nil => intro _ _; trivial
  | cons env r ih =>
   intro hs hl
   obtain ⟨hk, ⟨L, o, hf, hn, ho, hd⟩, hr⟩ := hl
   have hL : L ∈ X.fs := hs L (by unfold frs; rw [jKd, hf]; exact jK)
   obtain ⟨sl, e⟩ := I.base.slot L o ho (I.ok.frf L hL) hL fun z => I.ok.exfs L z hL
   exact ⟨hk, ⟨L, _, hf, hn, e, hd⟩, ih (fun b hb => hs b (by unfold frs; rw [jKd, hf]; exact zQ _ hb)) hr⟩
 exact all X.outer (fun _ hb => hb) I.ok.funs
theorem Inv.stack (I : Inv X pins σ H s) : s.heap.FunFrames X.base X.stack := by
 rcases I.ok.stk with e | ⟨e, hf⟩
 ·rw [e]; exact I.funs
 ·rw [e]
  obtain ⟨m, hn, _⟩ := I.loc
  refine .cons (by rw [I.ok.kind]; decide) hf hn ?_ I.funs
  exact Heap.get?_none_of_le (jQa I.ok.bsz I.ok.above)
theorem Inv.stkSub (I : Inv X pins σ H s) : ∀ b ∈ frs X.stack, b ∈ X.env.locals :: X.fs := fun b hb => by
 rcases I.ok.stk with e | ⟨e, hf⟩
 ·rw [e] at hb; exact zQ _ hb
 ·rw [e] at hb
  unfold frs at hb
  rw [jKd, hf] at hb
  exact hb
theorem Inv.stkFree (I : Inv X pins σ H s) : ∀ b ∈ frs X.stack, H b = none := fun b hb => by
 rcases yJ.mp (I.stkSub b hb) with e | hb
 ·rw [e]; exact I.free
 ·obtain ⟨_, o, ho, _⟩ := I.ok.funs.mem hb
  exact I.base.free b o ho (I.ok.frf b hb) fun z => I.ok.exfs b z hb
theorem Inv.step {g' : Array GenState} {t' : Nat} {d' : Drawn} {ch : List Addr} (I : Inv X pins σ H s)
  (hch : ∀ b ∈ ch, (b ∈ X.ex ∨ X.s₀.heap.objs.size ≤ b) ∧ b ≠ X.env.locals ∧ (∀ x c, X.env.cells.lookup x = some c → c ≠ b) ∧ ∀ p ∈ X.pn ++ pins, p.1 ≠ b)
  (keep : ∀ b o, b ≠ X.env.locals → b ∉ X.fs → b ∉ ch → s.heap.get? b = some o → H b = none → h'.get? b = some o)
  (slot : ∀ b o, b ≠ X.env.locals → b ∈ X.fs → b ∉ ch → s.heap.get? b = some o → H b = none → ∃ sl, h'.get? b = some { o with slots := sl }) (free : ∀ b o, b ∉ ch → s.heap.get? b = some o → H b = none → H' b = none)
  (there : ∀ b o, b ∉ ch → s.heap.get? b = some o → ∃ o', h'.get? b = some o')
  (tups : ∀ b xs, H b = some (.tup xs) → H' b = some (.tup xs)) (frzs : ∀ b o u, H b = some (.frz o u) → H' b = some (.frz o u)) (tbls : ∀ b ps, H b = some (.tbl ps) → ∃ more, H' b = some (.tbl (ps ++ more)))
  (ns : ∀ m, s.heap.Ns X.env.locals m → h'.Ns X.env.locals m) (hok : HOk X.prog X.w H' h') (hg : AllBare g') :
  Inv X pins σ H' { s with heap := h', gens := g', drawn := d', toks := t' } := by
 have neL : ∀ b o, X.s₀.heap.get? b = some o → b ≠ X.env.locals := fun b o e => zK (zY (yK e) I.ok.above)
 have neC : ∀ b o, X.s₀.heap.get? b = some o → b ∉ X.ex → b ∉ ch := fun b o e hx hb => by
  rcases (hch b hb).1 with z | z
  ·exact hx z
  ·exact absurd (zY (yK e) z) (jYf _)
 have cellK : ∀ x c, X.env.cells.lookup x = some c → ∀ v, s.heap.IsCell c v → h'.IsCell c v := fun x c e v ⟨o, ho, hd⟩ => by
  have nch : c ∉ ch := fun z => (hch c z).2.2.1 x c e rfl
  by_cases hc : c ∈ X.fs
  ·obtain ⟨sl, q⟩ := slot c o (I.cne x c e) hc nch ho (I.freeC x c e)
   exact ⟨_, q, hd⟩
  ·exact ⟨o, keep c o (I.cne x c e) hc nch ho (I.freeC x c e), hd⟩
 refine ⟨I.ok, I.os, hg, ⟨fun b o e n hb hx => ?_, fun b o e n hb hx => ?_, fun b o e n hx => ?_, fun b o e hx => ?_, fun b xs e => tups b xs (I.base.tups b xs e), fun b o xs e => frzs b o xs (I.base.frzs b o xs e), fun b ps e => ?_⟩, ?_, fun x c e => ?_, ?_, fun x c e => ?_, fun p hp => ?_, hok, I.len⟩
 ·exact keep b o (neL b o e) hb (neC b o e hx) (I.base.keep b o e n hb hx) (I.base.free b o e n hx)
 ·obtain ⟨sl, e1⟩ := I.base.slot b o e n hb hx
  obtain ⟨sl', e2⟩ := slot b _ (neL b o e) hb (neC b o e hx) e1 (I.base.free b o e n hx)
  exact ⟨sl', e2⟩
 ·obtain ⟨o', e1⟩ := I.base.there b o e hx
  exact free b o' (neC b o e hx) e1 (I.base.free b o e n hx)
 ·obtain ⟨o', e1⟩ := I.base.there b o e hx
  exact there b o' (neC b o e hx) e1
 ·obtain ⟨m1, e1⟩ := I.base.tbls b ps e
  obtain ⟨m2, e2⟩ := tbls b _ e1
  exact ⟨m1 ++ m2, by rw [e2, Array.append_assoc]⟩
 ·obtain ⟨m, hn, hl⟩ := I.loc
  refine ⟨m, ns m hn, fun i x v e1 e2 e3 => ?_⟩
  obtain ⟨u, r, l⟩ := hl i x v e1 e2 e3
  refine ⟨u, r, ?_⟩
  rcases l with l | ⟨k, c, e, z⟩
  ·exact .inl l
  ·exact .inr ⟨k, c, e, cellK x c e _ z⟩
 ·obtain ⟨v, z⟩ := I.cell x c e
  exact ⟨v, cellK x c e v z⟩
 ·obtain ⟨m, ⟨o, _, _, ho, _⟩, _⟩ := I.loc
  exact free _ o (fun z => (hch _ z).2.1 rfl) ho I.free
 ·obtain ⟨v, o, ho, hd⟩ := I.cell x c e
  exact free c o (fun z => (hch c z).2.2.1 x c e rfl) ho (I.freeC x c e)
 ·obtain ⟨e, n, ne, nf, d⟩ := I.pin p hp
  have nch : p.1 ∉ ch := fun z => (hch p.1 z).2.2.2 p hp rfl
  exact ⟨keep p.1 p.2 ne nf nch e n, free p.1 p.2 nch e n, ne, nf, d⟩
theorem Inv.un {t' : Nat} (I : Inv X pins σ H s) (u : Un X.fs [] H H' s.heap h') (hok : HOk X.prog X.w H' h') : Inv X pins σ H' { s with heap := h', toks := t' } := by
 obtain ⟨m, ⟨o, es, ep, ho, r⟩, _⟩ := id I.loc
 obtain ⟨sl, hL⟩ := u.any ho I.free (by simp)
 exact I.step (g' := s.gens) (d' := s.drawn) (ch := []) (fun _ z => nomatch z) (fun b o _ hb _ e n => u.keep b o e n hb (by simp)) (fun b o _ hb _ e n => u.slot b o e n hb (by simp)) (fun b o _ e n => u.free b o e n (by simp)) (fun b o _ e => u.there b o e (by simp)) u.tups u.frzs u.tbls (fun m' hm => by
  obtain ⟨o', es', ep', ho', r'⟩ := hm
  rw [ho] at ho'; cases ho'
  exact ⟨_, es', ep', hL, r'⟩) hok I.bare
theorem Inv.call {g' : Array GenState} {t' : Nat} {d' : Drawn} {ch : List Addr} (I : Inv X pins σ H s) (u : Un (frs X.stack) ch H H' s.heap h') (hok : HOk X.prog X.w H' h') (hg : AllBare g')
  (hch : ∀ b ∈ ch, (b ∈ X.ex ∨ X.s₀.heap.objs.size ≤ b) ∧ b ≠ X.env.locals ∧ (∀ x c, X.env.cells.lookup x = some c → c ≠ b) ∧ ∀ p ∈ X.pn ++ pins, p.1 ≠ b) :
  Inv X pins σ H' { s with heap := h', gens := g', drawn := d', toks := t' } := by
 obtain ⟨m, ⟨o, es, ep, ho, r⟩, _⟩ := id I.loc
 obtain ⟨sl, hL⟩ := u.any ho I.free fun z => (hch _ z).2.1 rfl
 exact I.step (ch := ch) hch (fun b o hL hb hc e n => u.keep b o e n (fun z => (yJ.mp (I.stkSub b z)).elim hL hb) hc) (fun b o _ _ hc e n => u.any e n hc) (fun b o hc e n => u.free b o e n hc) (fun b o hc e => u.there b o e hc) u.tups u.frzs u.tbls (fun m' hm => by
  obtain ⟨o', es', ep', ho', r'⟩ := hm
  rw [ho] at ho'; cases ho'
  exact ⟨_, es', ep', hL, r'⟩) hok hg
theorem Inv.turned {t' : Nat} {it : Addr} (I : Inv X pins σ H s) (k : ∀ b o, b ≠ it → s.heap.get? b = some o → h'.get? b = some o) (hn : H it = none) (hL : it ≠ X.env.locals)
  (h1 : it ∈ X.ex ∨ X.s₀.heap.objs.size ≤ it) (h2 : ∀ x c, X.env.cells.lookup x = some c → c ≠ it) (h3 : ∀ p ∈ X.pn ++ pins, p.1 ≠ it) : Inv X pins σ H { s with heap := h', toks := t' } := by
 have nit : ∀ b u, H b = some u → b ≠ it := fun b u e z => by rw [z, hn] at e; cases e
 refine I.step (g' := s.gens) (d' := s.drawn) (ch := [it]) (fun b hb => ?_) (fun b o _ _ hc e _ => k b o (fun z => hc (by simp [z])) e) (fun b o _ _ hc e _ => ⟨o.slots, k b o (fun z => hc (by simp [z])) e⟩) (fun _ _ _ _ n => n)
  (fun b o hc e => ⟨o, k b o (fun z => hc (by simp [z])) e⟩) (fun _ _ e => e) (fun _ _ _ e => e) (fun b ps e => ⟨#[], by rw [e]; simp⟩) (fun m hm => ?_) (fun b u e => ?_) I.bare
 ·have e : b = it := by simpa using hb
  subst e
  exact ⟨h1, hL, h2, h3⟩
 ·obtain ⟨o, es, ep, ho, r⟩ := hm
  exact ⟨o, es, ep, k _ o (Ne.symm hL) ho, r⟩
 ·refine (I.hok b u e).stay (fun c v hc q => k c v ?_ q) (fun _ q => q) fun _ _ q => q
  rcases hc with z | z
  ·rw [z]; exact nit b u e
  ·exact nit c _ z
theorem Inv.tok (I : Inv X pins σ H s) (t : Nat) : Inv X pins σ H { s with toks := t } := I.un (h' := s.heap) (t' := t) Un.refl I.hok
theorem Inv.kept {t' : Nat} (I : Inv X pins σ H s) (k : ∀ b u, s.heap.get? b = some u → h'.get? b = some u) : Inv X pins σ H { s with heap := h', toks := t' } := I.un (Un.kept k) (I.hok.kept k)
theorem Inv.laid {a : Addr} {o : HO} {t' : Nat} (I : Inv X pins σ H s) (k : ∀ b u, s.heap.get? b = some u → h'.get? b = some u) (hp : s.heap.objs.size ≤ a) (new : ObjOk X.prog X.w (upd H a o) h' a o) :
  Inv X pins σ (upd H a o) { s with heap := h', toks := t' } := I.un (Un.laid k hp (I.hok.fresh hp)) (I.hok.laid k hp new)
theorem Inv.write {x e : Addr} {o : HO} {t' : Nat} (I : Inv X pins σ H s) (mu : Mut (H x)) (he : e = x ∨ H e = some (.own x)) (k : ∀ b u, b ≠ e → s.heap.get? b = some u → h'.get? b = some u) (heo : ∃ u, h'.get? e = some u)
  (new : ObjOk X.prog X.w (upd H x o) h' x o) : Inv X pins σ (upd H x o) { s with heap := h', toks := t' } := I.un (Un.write mu he k heo) (I.hok.write mu he k heo new)
theorem Inv.pins_of {pins' : List (Addr × Obj)} (I : Inv X pins σ H s) (h : ∀ p ∈ pins', s.heap.get? p.1 = some p.2 ∧ H p.1 = none ∧ p.1 ≠ X.env.locals ∧ p.1 ∉ X.fs ∧ ∀ v, p.2.data ≠ .cell v) : Inv X pins' σ H s :=
 ⟨I.ok, I.os, I.bare, I.base, I.loc, I.cell, I.free, I.freeC, fun p hp => (kW.mp hp).elim (fun z => I.pin p (jXb _ z)) (h p), I.hok, I.len⟩
theorem Qdy {N : List Str} (hN : N.Nodup) {i j : Nat} {x : Str} (a : N[i]? = some x) (b : N[j]? = some x) : i = j := by
 obtain ⟨h1, e1⟩ := kJ.mp a
 obtain ⟨h2, e2⟩ := kJ.mp b
 exact (List.getElem_inj hN).mp (e1.trans e2.symm)
theorem Qbk {M : Model} {A : Around} {E : Value → Shared → Prop} {i : Nat} {x : Str} {v : V} {u : Value} {Q : Unit → Shared → Prop} (I : Inv X pins σ H s) (hN : X.N.Nodup) (hi : X.N[i]? = some x) (hx : Loc X.env.scope x) (r : RelV v u)
  (h : ∀ s', Inv X pins (σ.set i (some v)) H s' → (∃ a, Heap.SameBut a s.heap s'.heap ∧ (a = X.env.locals ∨ X.env.cells.lookup x = some a)) → Q () s') (hf : autoParam (X.fn x = true ∨ X.env.scope.names.lookup x = some .local) L2.aFst._auto_1) : wpAny M A (storeName X.env x u) Q E s := by
 obtain ⟨m, hn, hl⟩ := id I.loc
 have hcls : (X.env.scope.kind == .class || (X.env.scope.kind == .module && X.env.locals != X.env.globals)) = false := by rw [I.ok.kind]; rfl
 have hiσ : i < σ.length := by rw [I.len]; exact (kJ.mp hi).1
 have cne := I.cne
 have tracked : ∀ {a : Addr} {h' : Heap}, (∃ o, s.heap.get? a = some o ∧ H a = none) → Heap.SameBut a s.heap h' → HOk X.prog X.w H h' := fun {a h'} ha hs b ob e => by
  obtain ⟨_, _, hfree⟩ := ha
  refine (I.hok b ob e).stay (fun c w' hc q => (hs.2 c ?_).trans q) (fun _ q => q) fun _ _ q => q
  rintro rfl
  rcases hc with rfl | hc
  ·rw [hfree] at e; cases e
  ·rw [hfree] at hc; cases hc
 rcases hx with hk | hk
 ·refine wpAny_storeName_local hk hn (fun h' hn' hs => ?_) hcls
  obtain ⟨oL, _, _, hoL, _⟩ := id hn
  refine h _ ⟨I.ok, I.os, I.bare, ⟨fun b o e n hb hx => ?_, fun b o e n hb hx => ?_, I.base.free, fun b o e hx => ?_, I.base.tups, I.base.frzs, I.base.tbls⟩, ⟨_, hn', fun j y v' e1 e2 e3 => ?_⟩, fun y c e => ?_, I.free, I.freeC, fun p hp => ?_, tracked ⟨oL, hoL, I.free⟩ hs, by simpa using I.len⟩ ⟨_, hs, .inl rfl⟩
  ·exact (hs.2 b (zK (zY (yK e) I.ok.above))).trans (I.base.keep b o e n hb hx)
  ·obtain ⟨sl, e1⟩ := I.base.slot b o e n hb hx
   exact ⟨sl, (hs.2 b (zK (zY (yK e) I.ok.above))).trans e1⟩
  ·obtain ⟨o', e1⟩ := I.base.there b o e hx
   exact ⟨o', (hs.2 b (zK (zY (yK e) I.ok.above))).trans e1⟩
  ·by_cases hj : j = i
   ·subst hj
    rw [hi] at e1; cases e1
    rw [List.getElem?_set_self hiσ] at e2
    cases e2
    exact ⟨u, r, .inl ⟨hk, by simp⟩⟩
   ·rw [List.getElem?_set_ne (Ne.symm hj)] at e2
    obtain ⟨u', r', q⟩ := hl j y v' e1 e2 e3
    refine ⟨u', r', ?_⟩
    rcases q with ⟨k, e⟩ | ⟨k, c, e, z⟩
    ·refine .inl ⟨k, ?_⟩
     have : y ≠ x := fun e => hj (Qdy hN e1 (e ▸ hi))
     simp [this, e]
    ·exact .inr ⟨k, c, e, z.sameBut hs (cne y c e)⟩
  ·obtain ⟨w', z⟩ := I.cell y c e
   exact ⟨w', z.sameBut hs (cne y c e)⟩
  ·obtain ⟨e, n, ne, nf, d⟩ := I.pin p hp
   exact ⟨(hs.2 p.1 ne).trans e, n, ne, nf, d⟩
 ·have hfn : X.fn x = true := by
   rcases hf with z | z
   ·exact z
   ·rw [z] at hk; cases hk
  obtain ⟨c, hc⟩ := I.ok.has x (.inl hk)
  obtain ⟨w', z⟩ := I.cell x c hc
  refine wpAny_storeName_cell I.ok.kind hk hc z (fun h' hc' hs => ?_)
  obtain ⟨oc, hoc, hocd⟩ := id z
  refine h { s with heap := h' } ⟨I.ok, I.os, I.bare, ⟨fun b o e n hb hx => ?_, fun b o e n hb hx => ?_, I.base.free, fun b o e hx => ?_, I.base.tups, I.base.frzs, I.base.tbls⟩, ⟨m, hn.sameBut hs (Ne.symm (cne x c hc)), fun j y v' e1 e2 e3 => ?_⟩, fun y c' e => ?_, I.free, I.freeC, fun p hp => ?_, tracked ⟨oc, hoc, I.freeC x c hc⟩ hs, by simpa using I.len⟩ ⟨c, hs, .inr hc⟩
  ·exact (hs.2 b (zK (zY (yK e) (I.ok.cab x c hfn hc)))).trans (I.base.keep b o e n hb hx)
  ·obtain ⟨sl, e1⟩ := I.base.slot b o e n hb hx
   exact ⟨sl, (hs.2 b (zK (zY (yK e) (I.ok.cab x c hfn hc)))).trans e1⟩
  ·obtain ⟨o', e1⟩ := I.base.there b o e hx
   exact ⟨o', (hs.2 b (zK (zY (yK e) (I.ok.cab x c hfn hc)))).trans e1⟩
  ·by_cases hj : j = i
   ·subst hj
    rw [hi] at e1; cases e1
    rw [List.getElem?_set_self hiσ] at e2
    cases e2
    exact ⟨u, r, .inr ⟨.inl hk, c, hc, hc'⟩⟩
   ·rw [List.getElem?_set_ne (Ne.symm hj)] at e2
    obtain ⟨u', r', q⟩ := hl j y v' e1 e2 e3
    refine ⟨u', r', ?_⟩
    rcases q with q | ⟨k, c', e, z'⟩
    ·exact .inl q
    ·refine .inr ⟨k, c', e, z'.sameBut hs ?_⟩
     rintro rfl
     exact hj (Qdy hN e1 (I.ok.inj _ _ _ e hc ▸ hi))
  ·by_cases hcc : c' = c
   ·subst hcc; exact ⟨_, hc'⟩
   ·obtain ⟨w2, z2⟩ := I.cell y c' e
    exact ⟨w2, z2.sameBut hs hcc⟩
  ·obtain ⟨e, n, ne, nf, d⟩ := I.pin p hp
   refine ⟨(hs.2 p.1 ?_).trans e, n, ne, nf, d⟩
   intro q
   rw [q, hoc] at e
   have q' : oc = p.2 := Option.some.inj e
   exact d w' (by rw [← q']; exact hocd)
theorem Qac {M : Model} {A : Around} {E : Value → Shared → Prop} {i : Nat} {x : Str} {v : V} {u : Value} {Q : Unit → Shared → Prop} (I : Inv X pins σ H s) (hN : X.N.Nodup) (hi : X.N[i]? = some x) (hx : Loc X.env.scope x) (r : RelV v u)
  (h : ∀ s', Inv X pins (σ.set i (some v)) H s' → Q () s') (hf : autoParam (X.fn x = true ∨ X.env.scope.names.lookup x = some .local) L2.aFst._auto_1) : wpAny M A (storeName X.env x u) Q E s :=
 Qbk I hN hi hx r (fun s' I' _ => h s' I') hf
theorem Inv.call' {s' : Shared} {ch : List Addr} (I : Inv X pins σ H s) (ho : s'.os = s.os) (u : Un (frs X.stack) ch H H' s.heap s'.heap) (hok : HOk X.prog X.w H' s'.heap) (hg : AllBare s'.gens)
  (hch : ∀ b ∈ ch, (b ∈ X.ex ∨ X.s₀.heap.objs.size ≤ b) ∧ b ≠ X.env.locals ∧ (∀ x c, X.env.cells.lookup x = some c → c ≠ b) ∧ ∀ p ∈ X.pn ++ pins, p.1 ≠ b) : Inv X pins σ H' s' := by
 obtain ⟨h', g', d', t', o'⟩ := s'
 have e : o' = s.os := ho
 subst e
 exact I.call (g' := g') (t' := t') (d' := d') u hok hg hch
end
abbrev XK := Value → Option Addr → Hp → Prop
abbrev St := List (Option V)
abbrev VK := V → Hp → Prop
abbrev TE := St → Hp → VK → Prop
abbrev TT := St → Hp → (Bool → Hp → Prop) → Prop
abbrev TA := St → Hp → (List V → Hp → Prop) → Prop
set_option genInjectivity false in
set_option genInjectivity false in
structure Ends where
 nx : St → Hp → Prop
 rt : VK
 bk : St → Hp → Prop := fun _ _ => False
 ct : St → Hp → Prop := fun _ _ => False
abbrev TS := Ends → St → Hp → Prop
def EP (X : Cx) (pins : List (Addr × Obj)) (σ : St) (Q : VK) (u : Value) (s' : Shared) : Prop := ∃ v H', Inv X pins σ H' s' ∧ RelV v u ∧ Q v H'
def TP (X : Cx) (pins : List (Addr × Obj)) (σ : St) (Q : Bool → Hp → Prop) (b : Bool) (s' : Shared) : Prop := ∃ H', Inv X pins σ H' s' ∧ Q b H'
def AP (X : Cx) (pins : List (Addr × Obj)) (σ : St) (Q : List V → Hp → Prop) (us : List Value) (s' : Shared) : Prop := ∃ vs H', Inv X pins σ H' s' ∧ Vals vs us ∧ Q vs H'
def SP (X : Cx) (pins : List (Addr × Obj)) (D : Ends) (f : Flow) (s' : Shared) : Prop :=
 match f with
 | .next => ∃ σ' H', Inv X pins σ' H' s' ∧ D.nx σ' H'
 | .brk => ∃ σ' H', Inv X pins σ' H' s' ∧ D.bk σ' H'
 | .cont => ∃ σ' H', Inv X pins σ' H' s' ∧ D.ct σ' H'
 | .ret u => ∃ v σ' H', Inv X pins σ' H' s' ∧ RelV v u ∧ D.rt v H'
def PE (X : Cx) (e : Expr) (t : TE) : Prop :=
 ∀ (pins : List (Addr × Obj)) (s : Shared) (σ : St) (H : Hp) (Q : VK), Inv X pins σ H s → t σ H Q → wpAny (model X.prog X.w) X.A (eval e X.env) (EP X pins σ Q) X.xe s
def PT (X : Cx) (e : Expr) (t : TT) : Prop :=
 ∀ (pins : List (Addr × Obj)) (s : Shared) (σ : St) (H : Hp) (Q : Bool → Hp → Prop), Inv X pins σ H s → t σ H Q → wpAny (model X.prog X.w) X.A (isTrue e X.env (eval e X.env)) (TP X pins σ Q) X.xe s
def PW (X : Cx) (e : Expr) (t : TT) : Prop :=
 ∀ (whole : Sem Value) (pins : List (Addr × Obj)) (s : Shared) (σ : St) (H : Hp) (Q : Bool → Hp → Prop), Inv X pins σ H s → t σ H Q → wpAny (model X.prog X.w) X.A (isTrue e X.env whole) (TP X pins σ Q) X.xe s
theorem PW.pt {X : Cx} {e : Expr} {t : TT} (h : PW X e t) : PT X e t := h _
def PA (X : Cx) (es : List Expr) (t : TA) : Prop :=
 ∀ (pos : Pos) (pins : List (Addr × Obj)) (s : Shared) (σ : St) (H : Hp) (Q : List V → Hp → Prop), Inv X pins σ H s → t σ H Q → wpAny (model X.prog X.w) X.A (spliced (backTo pos (starEach es X.env))) (AP X pins σ Q) X.xe s
def PS (X : Cx) (st : Stmt) (t : TS) : Prop :=
 ∀ (pins : List (Addr × Obj)) (s : Shared) (σ : St) (H : Hp) (D : Ends), Inv X pins σ H s → t D σ H → wpAny (model X.prog X.w) X.A (exec st X.env) (SP X pins D) X.xe s
def PSs (X : Cx) (st : List Stmt) (t : TS) : Prop :=
 ∀ (pins : List (Addr × Obj)) (s : Shared) (σ : St) (H : Hp) (D : Ends), Inv X pins σ H s → t D σ H → wpAny (model X.prog X.w) X.A (execs st X.env) (SP X pins D) X.xe s
theorem thn {α : Type} {t : Sem α} {Q Q' : α → Shared → Prop} {M : Model} {A : Around} {E : Value → Shared → Prop} {s : Shared} (h : wpAny M A t Q E s) (hQ : ∀ a s, Q a s → Q' a s) : wpAny M A t Q' E s := wpAny_mono h hQ fun _ _ x => x
section
variable {X : Cx}
def tVar (i : Nat) : TE := fun σ H Q => ∃ v, σ[i]? = some (some v) ∧ Q v H
def tC (v : V) : TE := fun _ H Q => Q v H
theorem pe_var {i : Nat} {x : Str} {pos : Pos} (hN : X.N[i]? = some x) (hv : Vis X.env.scope x) (hd : autoParam ((x == ("__debug__" : Str)) = false) L2.aDec._auto_1) (hcd : autoParam ((x == ("__classdict__" : Str)) = false) L2.aDec._auto_1) : PE X (.Name x pos) (tVar i) := by
 intro pins s σ H Q I h
 obtain ⟨v, e, h⟩ := h
 obtain ⟨m, hn, hl⟩ := I.loc
 obtain ⟨u, r, l⟩ := hl i x v hN e hv
 have fin : EP X pins σ Q u s := ⟨v, H, I, r, h⟩
 rcases l with ⟨hk, hm⟩ | ⟨hk, c, hc, hcell⟩
 ·exact wpAny_Name (wpAny_loadName_local I.ok.kind hk hn hm fin) hd
 ·rcases hk with hk | hk
  ·exact wpAny_Name (wpAny_loadName_cell I.ok.kind hk hc hcell fin) hd
  ·exact wpAny_Name (wpAny_loadName_free I.ok.kind hk hc hcell fin hcd) hd
theorem Qe {i j pos} : PE X (.Constant (.int i) j pos) (tC (.int i)) := fun _ _ _ H _ I h => wpAny_Constant_int ⟨.int i, H, I.tok _, ⟨_, rfl⟩, h⟩
theorem Qbl {b j pos} : PE X (.Constant (.bool b) j pos) (tC (.bl b)) := fun _ _ _ H _ I h => Constant_bool ⟨.bl b, H, I, rfl, h⟩
theorem Kr {j pos} : PE X (.Constant .none j pos) (tC .non) := fun _ _ _ H _ I h => Constant_none ⟨.non, H, I, rfl, h⟩
theorem Qx {x j pos} : PE X (.Constant (.str x) j pos) (tC (.str x)) := fun _ _ _ H _ I h => Calls.Constant_str ⟨.str x, H, I.tok _, ⟨_, rfl⟩, h⟩
def Gl (X : Cx) (x : Str) : Prop := X.env.kindOf x = some .globalImplicit
theorem Qdb {E : Value → Shared → Prop} {pins : List (Addr × Obj)} {s : Shared} {σ : St} {H : Hp} {x : Str} {u : Value} {pos : Pos} {Q : Value → Shared → Prop} (I : Inv X pins σ H s) (hg : Gl X x) (hm : X.mg x = some u) (h : Q u s)
  (hd : autoParam ((x == ("__debug__" : Str)) = false) L2.aDec._auto_1) : wpAny (model X.prog X.w) X.A (eval (.Name x pos) X.env) Q E s :=
 Calls.Name_function_global I.ok.kind hg (Calls.loadGlobal_global (by rw [I.ok.glob]; exact I.mod.glob.keeps I.bk) hm h) hd
theorem Vg {E : Value → Shared → Prop} {pins : List (Addr × Obj)} {s : Shared} {σ : St} {H : Hp} {x : Str} {u : Value} {pos : Pos} {Q : Value → Shared → Prop} (I : Inv X pins σ H s) (hg : Gl X x) (hm : X.mg x = none) (hv : bootBuiltins x = some u) (h : Q u s)
  (hn : autoParam (x ≠ "__name__") L2.aDec._auto_1) (hd : autoParam ((x == ("__debug__" : Str)) = false) L2.aDec._auto_1) : wpAny (model X.prog X.w) X.A (eval (.Name x pos) X.env) Q E s := by
 obtain ⟨mb, h1, h2⟩ := I.mod.blt
 exact Calls.Name_function_global I.ok.kind hg (Calls.loadGlobal_builtin (by rw [I.ok.glob]; exact I.mod.glob.keeps I.bk) hm (by rw [I.ok.blt]; exact h1.keeps I.bk) ((h2 x hn).trans hv) h) hd
theorem Qmd {x : Str} {v : V} {u : Value} {pos : Pos} (hg : Gl X x) (hm : X.mg x = some u) (r : RelV v u) (hd : autoParam ((x == ("__debug__" : Str)) = false) L2.aDec._auto_1) : PE X (.Name x pos) (tC v) :=
 fun _ _ _ H _ I h => Qdb I hg hm ⟨v, H, I, r, h⟩ hd
theorem Qme {x : Str} {v : V} {u : Value} {pos : Pos} (hg : Gl X x) (hm : X.mg x = none) (hv : bootBuiltins x = some u) (r : RelV v u) (hn : autoParam (x ≠ "__name__") L2.aDec._auto_1) (hd : autoParam ((x == ("__debug__" : Str)) = false) L2.aDec._auto_1) : PE X (.Name x pos) (tC v) :=
 fun _ _ _ H _ I h => Vg I hg hm hv ⟨v, H, I, r, h⟩ hn hd
variable {a b : Expr} {ta tb : TE} {pos : Pos}
def PC (X : Cx) (op : CmpOp) (a b : Expr) (t : TE) : Prop :=
 ∀ (pins : List (Addr × Obj)) (s : Shared) (σ : St) (H : Hp) (Q : VK), Inv X pins σ H s → t σ H Q →
  wpAny (model X.prog X.w) X.A (eval a X.env) (fun v s₁ => wpAny (model X.prog X.w) X.A (eval b X.env) (fun u s₂ => wpAny (model X.prog X.w) X.A (compareOp op v u) (EP X pins σ Q) X.xe s₂) X.xe s₁) X.xe s
def tB (t : TE) : TT := fun σ H Q => t σ H fun x H1 => ∃ c, x = .bl c ∧ Q c H1
theorem pe_cmp {op : CmpOp} {t : TE} (h : PC X op a b t) (h1 : behindInMarks op b = false := by first | exact nobehind _ (by decide) (by decide) | rfl) : PE X (.Compare a [op] [b] pos) t := fun pins s σ H Q I hw => wpAny_Compare1 (h pins s σ H Q I hw) h1
theorem Qkz {op : CmpOp} {t : TE} (h : PC X op a b t) (h1 : behindInMarks op b = false := by first | exact nobehind _ (by decide) (by decide) | rfl) : PT X (.Compare a [op] [b] pos) (tB t) := by
 intro pins s σ H Q I hw
 refine wpAny_isTrue_Compare1 (thn (h pins s σ H _ I hw) fun v s1 h1 => thn h1 fun u s2 h2 => thn h2 fun c s3 hqP => ?_) h1
 obtain ⟨x, H1, I1, r1, q1⟩ := hqP
 obtain ⟨d, rfl, q⟩ := q1
 cases r1
 exact wpAny_truthy_bool ⟨H1, I1, q⟩
theorem Jv {e : Expr} {t : TE} (h : PE X e t) (he : autoParam (∀ whole, isTrue e X.env whole = (do let v ← whole; standAt e.pos; holding [v] (truthy v))) L2.aIrf._auto_1) : PT X e (tB t) := by
 intro pins s σ H Q I hw
 refine isTrue_plain (thn (h pins s σ H _ I hw) fun v s1 hqP => ?_) (he _)
 obtain ⟨x, H1, I1, r1, q1⟩ := hqP
 obtain ⟨d, rfl, q⟩ := q1
 cases r1
 exact wpAny_truthy_bool ⟨H1, I1, q⟩
variable {tA tB' : TT} {rest : List Expr}
def tAnd (t u : TT) : TT := fun σ H Q => t σ H fun c H1 => if c = true then u σ H1 Q else Q false H1
def tOr (t u : TT) : TT := fun σ H Q => t σ H fun c H1 => if c = true then Q true H1 else u σ H1 Q
def tNot (t : TT) : TT := fun σ H Q => t σ H fun c H1 => Q (!c) H1
theorem Zc (ha : PT X a tA) : PW X (.BoolOp .And [a] pos) tA := by
 intro wh pins s σ H Q I h
 refine isTrue_and (thn (ha pins s σ H Q I h) fun c s1 e => ?_)
 cases c with
 | true => exact isTrue_and_nil e
 | false => exact e
theorem Qgc (ha : PT X a tA) : PW X (.BoolOp .Or [a] pos) tA := by
 intro wh pins s σ H Q I h
 refine isTrue_or (thn (ha pins s σ H Q I h) fun c s1 e => ?_)
 cases c with
 | false => exact isTrue_or_nil e
 | true => exact e
theorem Zr (ha : PT X a tA) (hb : PW X (.BoolOp .And (b :: rest) pos) tB') : PW X (.BoolOp .And (a :: b :: rest) pos) (tAnd tA tB') := by
 intro wh pins s σ H Q I h
 refine isTrue_and (thn (ha pins s σ H _ I h) fun c s1 hqP => ?_)
 obtain ⟨H1, I1, q1⟩ := hqP
 cases c with
 | true => exact hb wh pins s1 σ H1 Q I1 q1
 | false => exact ⟨H1, I1, q1⟩
theorem Qgd (ha : PT X a tA) (hb : PW X (.BoolOp .Or (b :: rest) pos) tB') : PW X (.BoolOp .Or (a :: b :: rest) pos) (tOr tA tB') := by
 intro wh pins s σ H Q I h
 refine isTrue_or (thn (ha pins s σ H _ I h) fun c s1 hqP => ?_)
 obtain ⟨H1, I1, q1⟩ := hqP
 cases c with
 | true => exact ⟨H1, I1, q1⟩
 | false => exact hb wh pins s1 σ H1 Q I1 q1
theorem Ks (ha : PT X a tA) : PT X (.UnaryOp .Not a pos) (tNot tA) := by
 intro pins s σ H Q I h
 exact isTrue_not (ha pins s σ H (fun c H1 => Q (!c) H1) I h)
def tAndV (ta tb : TE) : TE := fun σ H Q => ta σ H fun x H1 => ∃ c, x = .bl c ∧ if c = true then tb σ H1 Q else Q (.bl false) H1
def tNotV (ta : TE) : TE := fun σ H Q => ta σ H fun x H1 => ∃ c, x = .bl c ∧ Q (.bl (!c)) H1
theorem Wq {op} {t : TE} (h : PE X a t) : PE X (.BoolOp op [a] pos) t := fun pins s σ H Q I hw => BoolOp_one (h pins s σ H Q I hw)
theorem Vh (ha : PE X a ta) (hb : PE X (.BoolOp .And (b :: rest) pos) tb) : PE X (.BoolOp .And (a :: b :: rest) pos) (tAndV ta tb) := by
 intro pins s σ H Q I h
 refine BoolOp_and (thn (ha pins s σ H _ I h) fun v s1 hqP => ?_)
 obtain ⟨x, H1, I1, r1, q1⟩ := hqP
 obtain ⟨c, rfl, q1⟩ := q1
 cases r1
 refine wpAny_truthy_bool ?_
 cases c with
 | true => exact hb pins s1 σ H1 Q I1 q1
 | false => exact ⟨.bl false, H1, I1, rfl, q1⟩
theorem Qla (ha : PE X a ta) : PE X (.UnaryOp .Not a pos) (tNotV ta) := by
 intro pins s σ H Q I h
 refine UnaryOp_ (thn (ha pins s σ H _ I h) fun v s1 hqP => ?_)
 obtain ⟨x, H1, I1, r1, q1⟩ := hqP
 obtain ⟨c, rfl, q1⟩ := q1
 cases r1
 exact not_of (wpAny_truthy_bool ⟨.bl (!c), H1, I1, rfl, q1⟩)
def tIf (t : TT) (ta tb : TE) : TE := fun σ H Q => t σ H fun c H1 => if c = true then ta σ H1 Q else tb σ H1 Q
theorem Qir {c : Expr} (hc : PT X c tA) (ha : PE X a ta) (hb : PE X b tb) : PE X (.IfExp c a b pos) (tIf tA ta tb) := by
 intro pins s σ H Q I h
 refine wpAny_IfExp (thn (hc pins s σ H _ I h) fun d s1 hqP => ?_)
 obtain ⟨H1, I1, q1⟩ := hqP
 cases d with
 | true => exact ha pins s1 σ H1 Q I1 q1
 | false => exact hb pins s1 σ H1 Q I1 q1
end
def SqL (K : Fg) (H : Hp) (a : Addr) (xs : List V) : Prop :=
 Rd H a (.lst xs) ∨
  ∃ (o : Obj) (its : Array Value) (n : Nat), K.lookup a = some o ∧ o.cls = .type "list" ∧ o.dict = none ∧ o.data = .seq its n ∧ its.size ≤ sizeLine ∧ Vals xs its.toList
def SqT (K : Fg) (H : Hp) (a : Addr) (xs : List V) : Prop :=
 Rd H a (.tup xs) ∨
  ∃ (o : Obj) (its : Array Value) (n : Nat), K.lookup a = some o ∧ o.cls = .type "tuple" ∧ o.data = .seq its n ∧ its.size ≤ sizeLine ∧ Vals xs its.toList
def absV : Value → Option V
 | .none => some .non
 | .bool b => some (.bl b)
 | .int i _ => some (.int i)
 | .str x _ => some (.str x)
 | .bytes b _ => some (.byt b)
 | .float b _ => some (.flt b)
 | .ref a => some (.ref a)
 | .type n => some (.ty n)
 | _ => none
theorem RelV.abs {x : V} {u : Value} (r : RelV x u) : absV u = some x := by
 cases x with
 | non => cases r; rfl
 | bl _ => cases r; rfl
 | int _ => obtain ⟨t, rfl⟩ := r; rfl
 | str _ => obtain ⟨t, rfl⟩ := r; rfl
 | byt _ => obtain ⟨t, rfl⟩ := r; rfl
 | flt _ => obtain ⟨t, rfl⟩ := r; rfl
 | ref _ => cases r; rfl
 | ty _ => cases r; rfl
theorem RelV.inj {x y : V} {u : Value} (r : RelV x u) (q : RelV y u) : x = y := Option.some.inj (r.abs.symm.trans q.abs)
theorem Vals.inj {xs ys : List V} {us : List Value} (h : Vals xs us) (g : Vals ys us) : xs = ys := by
 induction h generalizing ys with
 | nil => cases g; rfl
 | cons r t ih =>
  cases g with
  | cons r' t' => rw [r.inj r', ih t']
section
variable {X : Cx} {pins : List (Addr × Obj)} {σ : St} {H : Hp} {s : Shared} {a : Addr} {xs ys : List V}
theorem SqL.of {K : Fg} (h : H a = some (.lst xs)) : SqL K H a xs := .inl (.inl h)
theorem Inv.list (I : Inv X pins σ H s) (h : SqL X.K H a xs) : ∃ its : List Value, Vals xs its ∧ PlainL s.heap a its.toArray ∧ xs.length ≤ sizeLine := by
 rcases h with h | ⟨o, its, n, hk, hc, hd, hs, hz, r⟩
 ·obtain ⟨z, its, n, r, e⟩ := h.ok I.hok
  exact ⟨its, r, ⟨_, n, e, rfl, rfl, rfl⟩, z⟩
 ·refine ⟨its.toList, r, ⟨o, n, I.kIn a o hk, hc, hd, by simpa using hs⟩, ?_⟩
  have e := r.length
  simp only [jJf] at e
  omega
theorem Inv.tuple (I : Inv X pins σ H s) (h : SqT X.K H a xs) : ∃ its : List Value, Vals xs its ∧ IsTup s.heap a its.toArray ∧ xs.length ≤ sizeLine := by
 rcases h with h | ⟨o, its, n, hk, hc, hs, hz, r⟩
 ·obtain ⟨z, its, r, p⟩ := h.ok I.hok
  exact ⟨its, r, p, z⟩
 ·refine ⟨its.toList, r, ⟨o, I.kIn a o hk, hc, n, by simpa using hs⟩, ?_⟩
  have e := r.length
  simp only [jJf] at e
  omega
theorem Inv.list_inj (I : Inv X pins σ H s) (h : SqL X.K H a xs) (h' : SqL X.K H a ys) : xs = ys := by
 obtain ⟨its, r, ⟨o, n, e, _, _, d⟩, _⟩ := I.list h
 obtain ⟨its', r', ⟨o', n', e', _, _, d'⟩, _⟩ := I.list h'
 rw [e] at e'; cases e'
 rw [d] at d'
 injection d' with d1 _
 have : its = its' := by simpa using congrArg Array.toList d1
 subst this
 exact r.inj r'
theorem Inv.tuple_inj (I : Inv X pins σ H s) (h : SqT X.K H a xs) (h' : SqT X.K H a ys) : xs = ys := by
 obtain ⟨its, r, ⟨o, e, _, n, d⟩, _⟩ := I.tuple h
 obtain ⟨its', r', ⟨o', e', _, n', d'⟩, _⟩ := I.tuple h'
 rw [e] at e'; cases e'
 rw [d] at d'
 injection d' with d1 _
 have : its = its' := by simpa using congrArg Array.toList d1
 subst this
 exact r.inj r'
end
abbrev Cx.wish (X : Cx) (E : Value → Shared → Prop) : Cx := { X with xe := E }
abbrev Cx.nox (X : Cx) : Cx := X.wish fun _ _ => False
theorem Cx.Ok.wish {X : Cx} (ok : X.Ok) (E : Value → Shared → Prop) : (X.wish E).Ok :=
 ⟨ok.mod, ok.kind, ok.glob, ok.blt, ok.above, ok.inj, ok.has, ok.cab, ok.hd, ok.frames, ok.stk, ok.exf, ok.bs, ok.bsz, ok.noex, ok.exfs, ok.funs, ok.frf⟩
theorem Cx.Ok.unwish {X : Cx} {E : Value → Shared → Prop} (ok : (X.wish E).Ok) : X.Ok :=
 ⟨ok.mod, ok.kind, ok.glob, ok.blt, ok.above, ok.inj, ok.has, ok.cab, ok.hd, ok.frames, ok.stk, ok.exf, ok.bs, ok.bsz, ok.noex, ok.exfs, ok.funs, ok.frf⟩
section
variable {X : Cx} {pins : List (Addr × Obj)} {σ : St} {H : Hp} {s : Shared} {E : Value → Shared → Prop}
theorem Inv.wish (I : Inv X pins σ H s) (E : Value → Shared → Prop) : Inv (X.wish E) pins σ H s := ⟨I.ok.wish E, I.os, I.bare, I.base, I.loc, I.cell, I.free, I.freeC, I.pin, I.hok, I.len⟩
theorem Inv.unwish (I : Inv (X.wish E) pins σ H s) : Inv X pins σ H s := ⟨I.ok.unwish, I.os, I.bare, I.base, I.loc, I.cell, I.free, I.freeC, I.pin, I.hok, I.len⟩
theorem SP.unwish {D : Ends} {f : Flow} {s' : Shared} (h : SP (X.wish E) pins D f s') : SP X pins D f s' := by
 cases f with
 | next => obtain ⟨σ', H', I, q⟩ := h; exact ⟨σ', H', I.unwish, q⟩
 | brk => obtain ⟨σ', H', I, q⟩ := h; exact ⟨σ', H', I.unwish, q⟩
 | cont => obtain ⟨σ', H', I, q⟩ := h; exact ⟨σ', H', I.unwish, q⟩
 | ret u => obtain ⟨v, σ', H', I, r, q⟩ := h; exact ⟨v, σ', H', I.unwish, r, q⟩
theorem PSs.nox {st : List Stmt} {t : TS} (h : PSs X.nox st t) : PSs X st t := fun pins s σ H D I hw =>
 wpAny_mono (h pins s σ H D (I.wish _) hw) (fun _ _ q => q.unwish) fun _ _ z => False.elim z
end
section
variable {X : Cx} {st : Stmt} {rest : List Stmt} {t u : TS} {e : Expr} {te : TE} {pos : Pos}
def tNext : TS := fun D σ H => D.nx σ H
def tSeq (t u : TS) : TS := fun D σ H => t { D with nx := u D } σ H
theorem Xa : PSs X [] tNext := fun _ _ σ H _ I h => wpAny_execs_nil ⟨σ, H, I, h⟩
theorem Qh (h1 : PS X st t) (h2 : PSs X rest u) : PSs X (st :: rest) (tSeq t u) := by
 intro pins s σ H D I h
 refine wpAny_execs_cons (thn (h1 pins s σ H { D with nx := u D } I h) fun f s1 q => ?_)
 cases f with
 | next =>
  obtain ⟨σ', H', I', q⟩ := q
  exact h2 pins s1 σ' H' D I' q
 | ret v => exact q
 | brk => exact q
 | cont => exact q
theorem Ql (h1 : PS X st t) : PSs X [st] t := by
 intro pins s σ H D I h
 refine wpAny_execs_cons (thn (h1 pins s σ H D I h) fun f s1 q => ?_)
 cases f with
 | next => exact wpAny_execs_nil q
 | ret v => exact q
 | brk => exact q
 | cont => exact q
theorem Inv.quiet {pins : List (Addr × Obj)} {σ : St} {H : Hp} {s : Shared} (I : Inv X pins σ H s) : interactive X.env = false := by simp [interactive, I.ok.kind]
def tDrop (te : TE) : TS := fun D σ H => te σ H fun _ H1 => D.nx σ H1
theorem Yn (he : PE X e te) (hs : autoParam (swapsWith e none pos.line X.env = pure false) L2.aRfl._auto_1) : PS X (.Expr e pos) (tDrop te) := by
 intro pins s σ H D I h
 exact wpAny_Expr_any (thn (he pins s σ H _ I h) fun v s1 ⟨x, H1, I1, r1, q1⟩ => ⟨σ, H1, I1, q1⟩) I.quiet hs
def tRet (te : TE) : TS := fun D σ H => te σ H D.rt
theorem Xe (he : PE X e te) : PS X (.Return (some e) pos) (tRet te) := by
 intro pins s σ H D I h
 exact wpAny_Return_some (thn (he pins s σ H _ I h) fun v s1 ⟨x, H1, I1, r1, q1⟩ => ⟨x, σ, H1, I1, r1, q1⟩)
def tIfS (c : TT) (t u : TS) : TS := fun D σ H => c σ H fun b H1 => if b = true then t D σ H1 else u D σ H1
theorem Xx {c : Expr} {a b : List Stmt} {tc : TT} (hc : PT X c tc) (ha : PSs X a t) (hb : PSs X b u) : PS X (.If c a b pos) (tIfS tc t u) := by
 intro pins s σ H D I h
 refine wpAny_If (thn (hc pins s σ H _ I h) fun d s1 hqP => ?_)
 obtain ⟨H1, I1, q1⟩ := hqP
 cases d with
 | true => exact ha pins s1 σ H1 D I1 q1
 | false => exact hb pins s1 σ H1 D I1 q1
end
abbrev TG := V → St → Hp → (St → Hp → Prop) → Prop
abbrev TGs := List V → St → Hp → (St → Hp → Prop) → Prop
def PG (X : Cx) (target : Expr) (t : TG) : Prop :=
 ∀ (pins : List (Addr × Obj)) (s : Shared) (σ : St) (H : Hp) (v : V) (u : Value) (Q : St → Hp → Prop), Inv X pins σ H s → RelV v u → t v σ H Q →
  wpAny (model X.prog X.w) X.A (assign target X.env u) (fun _ s' => ∃ σ' H', Inv X pins σ' H' s' ∧ Q σ' H') X.xe s
def PGs (X : Cx) (ts : List Expr) (t : TGs) : Prop :=
 ∀ (pins : List (Addr × Obj)) (s : Shared) (σ : St) (H : Hp) (vs : List V) (us : List Value) (Q : St → Hp → Prop), Inv X pins σ H s → Vals vs us → t vs σ H Q →
  wpAny (model X.prog X.w) X.A (assignInOrder ((assignEach ts X.env).map (·.2)) us) (fun _ s' => ∃ σ' H', Inv X pins σ' H' s' ∧ Q σ' H') X.xe s
abbrev TIp := V → V → Hp → VK → Prop
def PIp (X : Cx) (op : Operator) (t : TIp) : Prop :=
 ∀ (pins : List (Addr × Obj)) (s : Shared) (σ : St) (H : Hp) (x y : V) (v u : Value) (Q : VK), Inv X pins σ H s → RelV x v → RelV y u → t x y H Q →
  wpAny (model X.prog X.w) X.A (inplaceOp op v u) (EP X pins σ Q) X.xe s
section
variable {X : Cx} {pos : Pos}
def Qbm (i : Nat) : TG := fun v σ H Q => Q (σ.set i (some v)) H
theorem Qt {i : Nat} {x : Str} (hN : X.N.Nodup) (hi : X.N[i]? = some x) (hx : Loc X.env.scope x) (hf : autoParam (X.fn x = true ∨ X.env.scope.names.lookup x = some .local) L2.aFst._auto_1) : PG X (.Name x pos) (Qbm i) := by
 intro pins s σ H v u Q I r h
 exact wpAny_assign_Name (Qac I hN hi hx r (fun s' I' => ⟨_, H, I', h⟩) hf)
def gNil : TGs := fun vs σ H Q => vs = [] ∧ Q σ H
def Qfa (t : TG) (u : TGs) : TGs := fun vs σ H Q => ∃ v r, vs = v :: r ∧ t v σ H fun σ' H' => u r σ' H' Q
theorem Qad : PGs X [] gNil := by
 intro pins s σ H vs us Q I r h
 obtain ⟨e, h⟩ := h
 subst e
 cases r
 exact assignInOrder_nil ⟨σ, H, I, h⟩
theorem Yy {e : Expr} {es : List Expr} {t : TG} {u : TGs} (h1 : PG X e t) (h2 : PGs X es u)
  (hs : autoParam ((assignEach (e :: es) X.env).map (·.2) = assign e X.env :: (assignEach es X.env).map (·.2)) L2.aRfl._auto_1) : PGs X (e :: es) (Qfa t u) := by
 intro pins s σ H vs us Q I r h
 obtain ⟨v, vr, e1, h⟩ := h
 subst e1
 cases r with
 | cons r rr =>
  rw [hs]
  refine assignInOrder_cons (thn (h1 pins s σ H _ _ _ I r h) fun _ s1 hqP => ?_)
  obtain ⟨σ1, H1, I1, q1⟩ := hqP
  exact h2 pins s1 σ1 H1 _ _ Q I1 rr q1
def gTup (K : Fg) (n : Nat) (t : TGs) : TG := fun v σ H Q => ∃ a xs, v = .ref a ∧ SqT K H a xs ∧ xs.length = n ∧ t xs σ H Q
theorem Qdz {es : List Expr} {k : Nat} {t : TGs} {n : Nat} (hc : X.calm = true) (h : PGs X es t)
  (hn : autoParam ((assignEach es X.env).length = n) L2.aRfl._auto_1) (hst : autoParam ((assignEach es X.env).findIdx? (·.1) = none) L2.aRfl._auto_1) : PG X (.Tuple es k pos) (gTup X.K n t) := by
 intro pins s σ H v u Q I r hw
 obtain ⟨a, xs, e1, hq, hl, hw⟩ := hw
 subst e1
 cases r
 obtain ⟨its, rv, ht, hz⟩ := I.tuple hq
 refine assign_Tuple_tuple (I.ok.hd hc) ht (by simp [hn, ← hl, rv.length]) hst fun h' hx => ?_
 have I1 : Inv X pins σ H { s with heap := h' } := I.kept (t' := s.toks) fun b o e => hx b o (zK (yK e)) e
 exact h pins _ σ H xs _ Q I1 (by simpa using rv) hw
def tAsg (te : TE) (g : TG) : TS := fun D σ H => te σ H fun x H1 => g x σ H1 D.nx
theorem Qlb {tg e : Expr} {te : TE} {g : TG} (he : PE X e te) (hg : PG X tg g) (hs : autoParam (swapsWithSole [tg] e pos.line X.env = pure false) L2.aRfl._auto_1) (hw : autoParam (swappedStores [tg] e X.env = pure none) L2.aRfl._auto_1)
  (h1 : autoParam ((assignEach [tg] X.env).map (·.2) = [assign tg X.env]) L2.aRfl._auto_1) : PS X (.Assign [tg] e pos) (tAsg te g) := by
 intro pins s σ H D I h
 refine wpAny_Assign_stores (thn (he pins s σ H _ I h) fun v s1 hqP => ?_) hs hw
 obtain ⟨x, H1, I1, r1, q1⟩ := hqP
 rw [h1]
 exact thn (hg pins s1 σ H1 x v _ I1 r1 q1) fun _ s2 q => q
theorem Qr {i : Nat} {x : Str} {e : Expr} {te : TE} {pos' : Pos} (hN : X.N.Nodup) (hi : X.N[i]? = some x) (hx : Loc X.env.scope x) (he : PE X e te) (hs : autoParam (swapsWith e (some (.Name x pos')) pos.line X.env = pure false) L2.aRfl._auto_1) (hf : autoParam (X.fn x = true ∨ X.env.scope.names.lookup x = some .local) L2.aFst._auto_1) :
  PS X (.Assign [.Name x pos'] e pos) (tAsg te (Qbm i)) := by
 intro pins s σ H D I h
 refine wpAny_Assign_Name (thn (he pins s σ H _ I h) fun v s1 hqP => ?_) hs
 obtain ⟨y, H1, I1, r1, q1⟩ := hqP
 exact Qac I1 hN hi hx r1 (fun s2 I2 => ⟨_, H1, I2, q1⟩) hf
def tAug (i : Nat) (te : TE) (ti : TIp) : TS := fun D σ H => ∃ x, σ[i]? = some (some x) ∧ te σ H fun y H1 => ti x y H1 fun z H2 => D.nx (σ.set i (some z)) H2
theorem Qlc {i : Nat} {x : Str} {e : Expr} {te : TE} {op : Operator} {ti : TIp} {pos' : Pos} (hN : X.N.Nodup) (hi : X.N[i]? = some x) (hx : Loc X.env.scope x) (he : PE X e te) (ho : PIp X op ti) (hf : autoParam (X.fn x = true ∨ X.env.scope.names.lookup x = some .local) L2.aFst._auto_1) :
  PS X (.AugAssign (.Name x pos') op e pos) (tAug i te ti) := by
 intro pins s σ H D I h
 obtain ⟨v, e1, h⟩ := h
 obtain ⟨m, hn, hl⟩ := I.loc
 have vis : Vis X.env.scope x := by rcases hx with k | k; exact .inl k; exact .inr (.inl k)
 obtain ⟨u, r, l⟩ := hl i x v hi e1 vis
 refine wpAny_AugAssign_Name ?_
 have go : wpAny (model X.prog X.w) X.A (eval e X.env) (fun w s₂ => wpAny (model X.prog X.w) X.A (inplaceOp op u w) (fun r s₃ => wpAny (model X.prog X.w) X.A (storeName X.env x r) (fun _ => SP X pins D .next) X.xe s₃) X.xe s₂) X.xe s := by
  refine thn (he pins s σ H _ I h) fun w s1 hqP => ?_
  obtain ⟨y, H1, I1, r1, q1⟩ := hqP
  refine thn (ho pins s1 σ H1 v y u w _ I1 r r1 q1) fun z s2 hqP => ?_
  obtain ⟨zv, H2, I2, r2, q2⟩ := hqP
  exact Qac I2 hN hi hx r2 (fun s3 I3 => ⟨_, H2, I3, q2⟩) hf
 rcases l with ⟨hk, hm⟩ | ⟨hk, c, hc, hcell⟩
 ·exact wpAny_loadName_local I.ok.kind hk hn hm go
 ·rcases hk with hk | hk
  ·exact wpAny_loadName_cell I.ok.kind hk hc hcell go
  ·rcases hx with k | k
   ·have : X.env.scope.names.lookup x = some .free := hk
    rw [k] at this; cases this
   ·have : X.env.scope.names.lookup x = some .free := hk
    rw [k] at this; cases this
def ipI (f : Int → Int → Int) : TIp := fun x y H Q => ∃ i j, x = .int i ∧ y = .int j ∧ Q (.int (f i j)) H
theorem ip_add : PIp X .Add (ipI fun i j => i + j) := by
 intro pins s σ H x y v u Q I r1 r2 h
 obtain ⟨i, j, e1, e2, q⟩ := h
 subst e1; subst e2
 obtain ⟨t, rfl⟩ := r1
 obtain ⟨t', rfl⟩ := r2
 exact iadd_int ⟨.int _, H, I.tok _, ⟨_, rfl⟩, q⟩
theorem ip_sub : PIp X .Sub (ipI fun i j => i - j) := by
 intro pins s σ H x y v u Q I r1 r2 h
 obtain ⟨i, j, e1, e2, q⟩ := h
 subst e1; subst e2
 obtain ⟨t, rfl⟩ := r1
 obtain ⟨t', rfl⟩ := r2
 exact isub_int ⟨.int _, H, I.tok _, ⟨_, rfl⟩, q⟩
end
section
variable {X : Cx} {pos : Pos}
end
set_option genInjectivity false in
set_option genInjectivity false in
structure It where
 go : Nat → Hp → Prop
 yld : Nat → Hp → V → Hp → Prop
 stop : Nat → Hp → Prop
def FpOk (X : Cx) (pins : List (Addr × Obj)) (H : Hp) (b : Addr) : Prop :=
 H b = none ∧ b ≠ X.env.locals ∧ b ∉ X.fs ∧ (b ∈ X.ex ∨ X.s₀.heap.objs.size ≤ b) ∧ (∀ x c, X.env.cells.lookup x = some c → c ≠ b) ∧ ∀ p ∈ X.pn ++ pins, p.1 ≠ b
theorem Inv.fpOk {X : Cx} {pins : List (Addr × Obj)} {σ : St} {H H' : Hp} {s : Shared} {b : Addr} (I : Inv X pins σ H s) (hb : s.heap.objs.size ≤ b) (hn : H' b = none) : FpOk X pins H' b := by
 refine ⟨hn, Nat.ne_of_gt (zY I.lt hb), I.nofs hb, .inr (jQa I.sz hb), fun x c e z => ?_, fun p hp z => ?_⟩
 ·obtain ⟨v, q⟩ := I.cell x c e
  exact absurd (zY q.lt (by rw [z]; exact hb)) (jYf _)
 ·exact absurd (zY (yK (I.pin p hp).1) (by rw [z]; exact hb)) (jYf _)
structure Turn (P : Program) (w : World) (K : Fg) (tg : Expr) (J : It) (fp : List Addr) (it : Addr) (tn : Nat → Heap → Prop) : Prop where
 mem : it ∈ fp
 obj : ∀ i h, tn i h → ∀ b ∈ fp, ∃ o, h.get? b = some o ∧ ∀ v, o.data ≠ .cell v
 keep : ∀ i h h', tn i h → (∀ b ∈ fp, ∀ o, h.get? b = some o → h'.get? b = some o) → tn i h'
 item : ∀ (X : Cx), X.prog = P → X.w = w → X.K = K → X.calm = true → ∀ (i : Nat) (pins : List (Addr × Obj)) (s : Shared) (σ : St) (H : Hp) (E : Value → Shared → Prop), Inv X pins σ H s → (∀ b ∈ fp, FpOk X pins H b) → tn i s.heap → J.go i H →
  wpAny (model P w) X.A (pyNext (.ref it)) (fun r s1 => ∃ u, r = some u ∧
   wpAny (model P w) X.A (letOwnedTupleGo tg (.ref it) u) (fun _ s2 => ∃ x H', Inv X pins σ H' s2 ∧ RelV x u ∧ J.yld i H x H' ∧ tn (i + 1) s2.heap ∧ ∀ b ∈ fp, H' b = none) E s1) E s
 done : ∀ (X : Cx), X.prog = P → X.w = w → X.K = K → X.calm = true → ∀ (i : Nat) (pins : List (Addr × Obj)) (s : Shared) (σ : St) (H : Hp) (E : Value → Shared → Prop), Inv X pins σ H s → (∀ b ∈ fp, FpOk X pins H b) → tn i s.heap → J.stop i H →
  wpAny (model P w) X.A (pyNext (.ref it)) (fun r s1 => r = none ∧ Inv X pins σ H s1) E s
 self : ∀ (A : Around) (i : Nat) (s : Shared) (Q : Value → Shared → Prop) (E : Value → Shared → Prop), tn i s.heap → Q (.ref it) s → wpAny (model P w) A (pyIter (.ref it)) Q E s
abbrev TI := St → Hp → (It → Hp → Prop) → Prop
def PIE (X : Cx) (pins : List (Addr × Obj)) (σ : St) (tg : Expr) (R : It → Hp → Prop) (itv : Value) (s2 : Shared) : Prop :=
 ∃ (it : Addr) (fp : List Addr) (tn : Nat → Heap → Prop) (J : It) (H' : Hp), itv = .ref it ∧ Inv X pins σ H' s2 ∧ Turn X.prog X.w X.K tg J fp it tn ∧ tn 0 s2.heap ∧ (∀ b ∈ fp, FpOk X pins H' b) ∧ R J H'
def PI (X : Cx) (tg iter : Expr) (wi : TI) : Prop :=
 ∀ (pins : List (Addr × Obj)) (s : Shared) (σ : St) (H : Hp) (R : It → Hp → Prop), Inv X pins σ H s → wi σ H R →
  wpAny (model X.prog X.w) X.A (eval iter X.env) (fun v s1 => wpAny (model X.prog X.w) X.A (pyIter v) (PIE X pins σ tg R) X.xe s1) X.xe s
theorem Qis {M : Model} {A : Around} {E : Value → Shared → Prop} {s : Shared} {tg : Expr} {it : Addr} {u : Value} {o : Obj} {n : String} {vs : Array Value} {Q : Unit → Shared → Prop} (ho : s.heap.get? it = some o) (hc : o.cls = .type n) (hd : o.data = .fields vs)
    (hn : ["enumerate", "zip", "dict_itemiterator", "dict_reverseitemiterator", "odict_iterator", "itertools.zip_longest", "itertools.pairwise"].contains n = false) (hQ : Q () s) : wpAny M A (letOwnedTupleGo tg (.ref it) u) Q E s := by
  unfold letOwnedTupleGo
  cases tg <;> first
    | exact jW hQ
    | (cases u <;> first
        | exact jW hQ
        | (refine jQ (wpAny_load ho ?_)
           rw [hc, hd]
           show wpAny M A (if (["enumerate", "zip", "dict_itemiterator", "dict_reverseitemiterator", "odict_iterator", "itertools.zip_longest", "itertools.pairwise"].contains n && vs[0]? == some (rawInt _)) = true then _ else _) Q E s
           rw [if_neg (by intro h; rw [hn, Bool.false_and] at h; cases h)]
           exact jW hQ))
def Itl (K : Fg) (a : Addr) : It :=
 ⟨fun i H => ∃ xs x, SqL K H a xs ∧ xs[i]? = some x, fun i H x H' => H' = H ∧ ∀ xs, SqL K H a xs → xs[i]? = some x, fun i H => ∃ xs, SqL K H a xs ∧ xs.length ≤ i⟩
def Itr (lo : Int) (n : Nat) : It := ⟨fun i _ => i < n, fun i H x H' => H' = H ∧ x = .int (lo + i), fun i _ => n ≤ i⟩
theorem Qge {P : Program} {w : World} {K : Fg} {tg : Expr} (a it : Addr) : Turn P w K tg (Itl K a) [it] it (fun i h => h.IsListIter it a i) where
 mem := by simp
 obj := fun i h st b hb => by
  have e : b = it := by simpa using hb
  subst e
  obtain ⟨o, e, c, d⟩ := st
  exact ⟨o, e, fun v z => by rw [d] at z; cases z⟩
 keep := fun i h h' st k => st.at fun o e => k it (by simp) o e
 item := by
  intro X hP hw hK hc i pins s σ H E I hf st hg
  subst hP hw hK
  obtain ⟨xs, x, hq, hx⟩ := hg
  obtain ⟨its, rv, p, hz⟩ := I.list hq
  obtain ⟨u, hu, ru⟩ := rv.get hx
  obtain ⟨f0, f1, f2, f3, f4, f5⟩ := hf it (by simp)
  refine wpAny_pyNext_list_item st p.isList (x := u) (by simpa using hu) fun h' st' sb => ?_
  have I1 : Inv X pins σ H { s with heap := h' } := I.turned (t' := s.toks) (fun b o hb e => (sb.2 b hb).trans e) f0 f1 f3 f4 f5
  obtain ⟨o, e, c, d⟩ := id st'
  exact ⟨u, rfl, Qis (s := { s with heap := h' }) e c d (by decide) ⟨x, H, I1, ru, ⟨rfl, fun ys hy => by rw [I.list_inj hy hq]; exact hx⟩, st', fun b hb => (hf b hb).1⟩⟩
 done := by
  intro X hP hw hK hc i pins s σ H E I hf st hg
  subst hP hw hK
  obtain ⟨xs, hq, hx⟩ := hg
  obtain ⟨its, rv, p, hz⟩ := I.list hq
  obtain ⟨f0, f1, f2, f3, f4, f5⟩ := hf it (by simp)
  have hl := rv.length
  exact wpAny_pyNext_list_end (I.ok.hd hc) st p.isList (by simp; omega) fun h' eb => ⟨rfl, I.turned (t' := s.toks) (fun b o hb e => eb b o hb e) f0 f1 f3 f4 f5⟩
 self := fun _ _ _ _ _ st h => wpAny_pyIter_listiter st h
theorem Qfb {P : Program} {w : World} {K : Fg} {tg : Expr} (it : Addr) (lo : Int) (n : Nat) : Turn P w K tg (Itr lo n) [it] it (fun i h => IsRangeIter h it (lo + (i : Nat) * 1) ((n : Int) - (i : Nat)) 1) where
 mem := by simp
 obj := fun i h st b hb => by
  have e : b = it := by simpa using hb
  subst e
  exact ⟨_, st, fun v z => by
   have z' : Data.fields _ = Data.cell v := z
   cases z'⟩
 keep := fun i h h' st k => k it (by simp) _ st
 item := by
  intro X hP hw hK hc i pins s σ H E I hf st hg
  subst hP hw hK
  obtain ⟨f0, f1, f2, f3, f4, f5⟩ := hf it (by simp)
  have W := Walks.range (prog := X.prog) (w := X.w) (I.ok.hd hc) it lo 1 n
  refine W.item i s _ _ hg st fun v h' tk hv st' kk => ?_
  obtain ⟨t, rfl⟩ := hv
  have I1 : Inv X pins σ H { s with heap := h', toks := tk } := I.turned (fun b o hb e => kk b o (by simpa using hb) e) f0 f1 f3 f4 f5
  refine ⟨_, rfl, Qis (s := { s with heap := h', toks := tk }) (n := "range_iterator") st' rfl rfl (by decide) ⟨.int (lo + i), H, I1, ⟨t, ?_⟩, ⟨rfl, rfl⟩, st', fun b hb => (hf b hb).1⟩⟩
  rw [Int.mul_one]
 done := by
  intro X hP hw hK hc i pins s σ H E I hf st hg
  subst hP hw hK
  obtain ⟨f0, f1, f2, f3, f4, f5⟩ := hf it (by simp)
  exact wpAny_pyNext_range_end (I.ok.hd hc) st (by have : n ≤ i := hg; omega) fun h' eb => ⟨rfl, I.turned (t' := s.toks) (fun b o hb e => eb b o hb e) f0 f1 f3 f4 f5⟩
 self := fun _ _ _ _ _ st h => wpAny_pyIter_rangeiter st h
section
variable {X : Cx} {tg : Expr}
def iList (K : Fg) (tl : TE) : TI := fun σ H R => tl σ H fun x H1 => ∃ a, x = .ref a ∧ (∃ xs, SqL K H1 a xs) ∧ R (Itl K a) H1
theorem Xk {l : Expr} {tl : TE} (hl : PE X l tl) : PI X tg l (iList X.K tl) := by
 intro pins s σ H R I h
 refine thn (hl pins s σ H _ I h) fun v s1 hqP => ?_
 obtain ⟨x, H1, I1, r1, q1⟩ := hqP
 obtain ⟨a, e, ⟨xs, hq⟩, q⟩ := q1
 subst e
 cases r1
 obtain ⟨its, rv, p, hz⟩ := I1.list hq
 refine wpAny_pyIter_list p.isList ?_
 refine ⟨s1.heap.objs.size, [s1.heap.objs.size], _, _, H1, rfl, I1.kept (t' := s1.toks) fun b o e => jJ _ e, Qge a _, ⟨_, yX _ rfl, rfl, rfl⟩, fun b hb => ?_, q⟩
 have e : b = s1.heap.objs.size := by simpa using hb
 subst e
 exact I1.fpOk (jX _) (I1.hok.fresh (jX _))
theorem Qit {pins : List (Addr × Obj)} {σ : St} {H : Hp} {s : Shared} {R : It → Hp → Prop} {E : Value → Shared → Prop} {lo hi : Int} {t u v : Tok} {tk : Nat} (I : Inv X pins σ H s) (h1 : -(2 ^ 62) ≤ lo) (h2 : lo < 2 ^ 62) (h3 : -(2 ^ 62) ≤ hi) (h4 : hi < 2 ^ 62)
  (q : R (Itr lo (hi - lo).toNat) H) : wpAny (model X.prog X.w) X.A (pyIter (.ref s.heap.objs.size)) (PIE X pins σ tg R) E { s with heap := s.heap.push { cls := .type "range", data := .fields #[.int lo t, .int hi u, .int 1 v] }, toks := tk } := by
 refine wpAny_pyIter_range (IsRange.new ..) (small_one h1 h2 h3 h4) ?_
 have I1 : Inv X pins σ H { s with heap := s.heap.push { cls := .type "range", data := .fields #[.int lo t, .int hi u, .int 1 v] }, toks := tk } := I.kept fun b o e => jJ _ e
 refine ⟨(s.heap.push { cls := .type "range", data := .fields #[.int lo t, .int hi u, .int 1 v] }).objs.size, [(s.heap.push { cls := .type "range", data := .fields #[.int lo t, .int hi u, .int 1 v] }).objs.size], _, _, H, rfl,
  I1.kept (t' := tk) fun b o e => jJ _ e, Qfb _ lo (hi - lo).toNat, ?_, fun b hb => ?_, q⟩
 ·have e1 : lo + ((0 : Nat) : Int) * 1 = lo := by simp
  have e2 : (((hi - lo).toNat : Nat) : Int) - ((0 : Nat) : Int) = Builtin.Range.rangeSize lo hi 1 := by rw [rangeSize_one]; split <;> omega
  show IsRangeIter _ _ (lo + ((0 : Nat) : Int) * 1) ((((hi - lo).toNat : Nat) : Int) - ((0 : Nat) : Int)) 1
  rw [e1, e2]
  exact yX _ rfl
 ·have e : b = (s.heap.push { cls := .type "range", data := .fields #[.int lo t, .int hi u, .int 1 v] }).objs.size := by simpa using hb
  subst e
  exact I1.fpOk (jX _) (I1.hok.fresh (jX _))
def iRng1 (ta : TA) : TI := fun σ H R => ta σ H fun vs H1 => ∃ j : Int, vs = [.int j] ∧ -(2 ^ 62) ≤ j ∧ j < 2 ^ 62 ∧ R (Itr 0 j.toNat) H1
theorem Xy {a : Expr} {ta : TA} {p pos : Pos} (hg : Gl X "range") (hm : X.mg "range" = none) (ha : PA X [a] ta) (hs : autoParam (starEach [a] X.env = [(false, eval a X.env)]) L2.aRfl._auto_1) : PI X tg (.Call (.Name "range" p) [a] [] pos) (iRng1 ta) := by
 intro pins s σ H R I h
 refine Call_ (Vg I hg hm boot_range (PyProof.Rows.callWith_type1 (thn (ha pos pins s σ H _ I h) fun us s1 hqP => ?_) hs rfl))
 obtain ⟨vs, H1, I1, r1, q1⟩ := hqP
 obtain ⟨j, e, q1, q2, q⟩ := q1
 subst e
 cases r1 with
 | cons r rr =>
  cases rr
  obtain ⟨t, rfl⟩ := r
  exact call_range_1 (Qit I1 (by omega) (by omega) q1 q2 (by simpa using q))
def tFor (wi : TI) (g : TG) (tb : TS) : TS := fun D σ H => wi σ H fun J H1 => ∃ W : Nat → Nat → St → Hp → Prop, (∃ m, W 0 m σ H1) ∧ ∀ i m σ H, W i m σ H →
 (J.stop i H ∧ D.nx σ H) ∨ (J.go i H ∧ ∃ N : St → Hp → Prop, (∀ σ' H', N σ' H' → ∃ m', m' < m ∧ W (i + 1) m' σ' H') ∧ ∀ x H', J.yld i H x H' → g x σ H' fun σ2 H2 => tb { D with nx := N, ct := N, bk := D.nx } σ2 H2)
def Qbn (fp : List Addr) (h : Heap) : List (Addr × Obj) := fp.filterMap fun b => (h.get? b).map fun o => (b, o)
theorem Jf {fp : List Addr} {h : Heap} {b : Addr} {o : Obj} (hb : b ∈ fp) (e : h.get? b = some o) : (b, o) ∈ Qbn fp h := jQc.mpr ⟨b, hb, by rw [e]; rfl⟩
theorem Qgf {fp : List Addr} {h : Heap} {p : Addr × Obj} (hp : p ∈ Qbn fp h) : p.1 ∈ fp ∧ h.get? p.1 = some p.2 := by
 obtain ⟨b, hb, e⟩ := jQc.mp hp
 cases q : h.get? b with
 | none => rw [q] at e; cases e
 | some o =>
  rw [q] at e
  have e' : (b, o) = p := Option.some.inj e
  subst e'
  exact ⟨hb, q⟩
theorem Inv.pinned {pins : List (Addr × Obj)} {σ : St} {H : Hp} {s : Shared} {fp : List Addr} (I : Inv X pins σ H s) (hf : ∀ b ∈ fp, FpOk X pins H b) (ho : ∀ b ∈ fp, ∃ o, s.heap.get? b = some o ∧ ∀ v, o.data ≠ .cell v) : Inv X (pins ++ Qbn fp s.heap) σ H s :=
 I.pins_of fun p hp => (kW.mp hp).elim (fun z => I.pin p (zX _ z)) fun z => by
  obtain ⟨hb, e⟩ := Qgf z
  obtain ⟨f0, f1, f2, _⟩ := hf p.1 hb
  obtain ⟨o, e', d⟩ := ho p.1 hb
  rw [e] at e'; cases e'
  exact ⟨e, f0, f1, f2, d⟩
theorem Inv.unpinned {pins pl : List (Addr × Obj)} {σ : St} {H : Hp} {s : Shared} (I : Inv X (pins ++ pl) σ H s) : Inv X pins σ H s := I.pins_of fun p hp => I.pin p (zX _ (jXb _ hp))
theorem Yq {iter : Expr} {body : List Stmt} {wi : TI} {g : TG} {tb : TS} {pos : Pos} (hp : PassesOwn (model X.prog X.w) X.A X.env X.xe) (hc : X.calm = true) (hi : PI X tg iter wi) (hg : PG X tg g) (hb : PSs X body tb)
  (hs : autoParam (∀ x, foldedSetIterable iter X.env x = pure x) L2.aIrf._auto_1) : PS X (.For tg iter body [] pos) (tFor wi g tb) := by
 intro pins s σ H D I h
 refine wpAny_For (thn (hi pins s σ H _ I h) fun v s1 h1 => thn h1 fun itv s2 h2 => ?_) hs
 obtain ⟨it, fp, tn, J, H2, e, I2, T, st2, f2, W, ⟨m0, w0⟩, turn⟩ := h2
 subst e
 -- what stays true of the iterator's objects through the loop
 have stat : ∀ {H' : Hp}, (∀ b ∈ fp, H' b = none) → ∀ b ∈ fp, FpOk X pins H' b := fun hn b hb => ⟨hn b hb, (f2 b hb).2⟩
 refine codeAny_forLoop_any (fun n s' => ∃ i σ' H', Inv X pins σ' H' s' ∧ tn i s'.heap ∧ (∀ b ∈ fp, H' b = none) ∧ W i n σ' H') ?_ m0 ⟨0, σ, H2, I2, st2, fun b hb => (f2 b hb).1, w0⟩
 rintro n s3 ⟨i, σ3, H3, I3, st3, fr3, w3⟩
 rcases turn i n σ3 H3 w3 with ⟨stop, qn⟩ | ⟨go, N, hN, step⟩
 ·refine wpAny_passesOwn hp (thn (T.done X rfl rfl rfl hc i pins s3 σ3 H3 X.xe I3 (stat fr3) st3 stop) fun r s4 hqP => ?_)
  obtain ⟨hr, I4⟩ := hqP
  subst hr
  exact wpAny_execs_nil ⟨σ3, H3, I4, qn⟩
 ·refine wpAny_passesOwn hp (thn (T.item X rfl rfl rfl hc i pins s3 σ3 H3 X.xe I3 (stat fr3) st3 go) fun r s4 hqP => ?_)
  obtain ⟨u, hr, h4⟩ := hqP
  subst hr
  refine wpAny_passesOwn hp (thn h4 fun _ s5 hqP => ?_)
  obtain ⟨x, H5, I5, r5, y5, st5, fr5⟩ := hqP
  have I5' := I5.pinned (stat fr5) (T.obj _ _ st5)
  refine wpAny_passesOwn hp (thn (hg _ s5 σ3 H5 x u _ I5' r5 (step x H5 y5)) fun _ s6 hqP => ?_)
  obtain ⟨σ6, H6, I6, q6⟩ := hqP
  refine wpAny_passesOwn hp (thn (hb _ s6 σ6 H6 _ I6 q6) fun f s7 q7 => ?_)
  have again : ∀ {σ7 : St} {H7 : Hp}, Inv X (pins ++ Qbn fp s5.heap) σ7 H7 s7 → N σ7 H7 → ∃ m, m < n ∧ ∃ i σ' H', Inv X pins σ' H' s7 ∧ tn i s7.heap ∧ (∀ b ∈ fp, H' b = none) ∧ W i m σ' H' := fun {σ7 H7} I7 n7 => by
   obtain ⟨m', hm, w7⟩ := hN σ7 H7 n7
   refine ⟨m', hm, i + 1, σ7, H7, I7.unpinned, T.keep _ _ _ st5 fun b hb o e => (I7.pin (b, o) (zX _ (zX _ (Jf hb e)))).1, fun b hb => ?_, w7⟩
   obtain ⟨o, e, d⟩ := T.obj _ _ st5 b hb
   exact (I7.pin (b, o) (zX _ (zX _ (Jf hb e)))).2.1
  cases f with
  | next => obtain ⟨σ7, H7, I7, n7⟩ := q7; exact again I7 n7
  | cont => obtain ⟨σ7, H7, I7, n7⟩ := q7; exact again I7 n7
  | brk => obtain ⟨σ7, H7, I7, q7⟩ := q7; exact ⟨σ7, H7, I7.unpinned, q7⟩
  | ret v => obtain ⟨x7, σ7, H7, I7, r7, q7⟩ := q7; exact ⟨x7, σ7, H7, I7.unpinned, r7, q7⟩
end
theorem Kz {K : Fg} {a : Addr} {xs : List V} {g : TG} {tb : TS} {D : Ends} {σ : St} {H : Hp} (Pv : Nat → St → Hp → Prop) (h0 : Pv 0 σ H) (hl : ∀ i σ H, i ≤ xs.length → Pv i σ H → SqL K H a xs)
  (hs : ∀ i x σ H, xs[i]? = some x → Pv i σ H → g x σ H fun σ2 H2 => tb { D with nx := Pv (i + 1), ct := Pv (i + 1), bk := D.nx } σ2 H2) (hd : ∀ σ H, Pv xs.length σ H → D.nx σ H) :
  ∃ W : Nat → Nat → St → Hp → Prop, (∃ m, W 0 m σ H) ∧ ∀ i m σ H, W i m σ H →
   ((Itl K a).stop i H ∧ D.nx σ H) ∨ ((Itl K a).go i H ∧ ∃ N : St → Hp → Prop, (∀ σ' H', N σ' H' → ∃ m', m' < m ∧ W (i + 1) m' σ' H') ∧ ∀ x H', (Itl K a).yld i H x H' → g x σ H' fun σ2 H2 => tb { D with nx := N, ct := N, bk := D.nx } σ2 H2) := by
 refine ⟨fun i m σ H => m = xs.length - i ∧ i ≤ xs.length ∧ Pv i σ H, ⟨xs.length, by simp, wK _, h0⟩, ?_⟩
 rintro i m σ H ⟨rfl, hi, p⟩
 have q := hl i σ H hi p
 by_cases hlt : i < xs.length
 ·refine .inr ⟨⟨xs, xs[i], q, by simp [hlt]⟩, Pv (i + 1), fun σ' H' p' => ⟨xs.length - (i + 1), by omega, rfl, hlt, p'⟩, fun x H' y => ?_⟩
  obtain ⟨e, y⟩ := y
  subst e
  exact hs i x σ _ (y xs q) p
 ·have e : i = xs.length := by omega
  subst e
  exact .inl ⟨⟨xs, q, jX _⟩, hd σ H p⟩
theorem Xv {lo : Int} {n : Nat} {g : TG} {tb : TS} {D : Ends} {σ : St} {H : Hp} (Pv : Nat → St → Hp → Prop) (h0 : Pv 0 σ H)
  (hs : ∀ i σ H, i < n → Pv i σ H → g (.int (lo + i)) σ H fun σ2 H2 => tb { D with nx := Pv (i + 1), ct := Pv (i + 1), bk := D.nx } σ2 H2) (hd : ∀ σ H, Pv n σ H → D.nx σ H) :
  ∃ W : Nat → Nat → St → Hp → Prop, (∃ m, W 0 m σ H) ∧ ∀ i m σ H, W i m σ H →
   ((Itr lo n).stop i H ∧ D.nx σ H) ∨ ((Itr lo n).go i H ∧ ∃ N : St → Hp → Prop, (∀ σ' H', N σ' H' → ∃ m', m' < m ∧ W (i + 1) m' σ' H') ∧ ∀ x H', (Itr lo n).yld i H x H' → g x σ H' fun σ2 H2 => tb { D with nx := N, ct := N, bk := D.nx } σ2 H2) := by
 refine ⟨fun i m σ H => m = n - i ∧ i ≤ n ∧ Pv i σ H, ⟨n, by simp, wK _, h0⟩, ?_⟩
 rintro i m σ H ⟨rfl, hi, p⟩
 by_cases hlt : i < n
 ·refine .inr ⟨hlt, Pv (i + 1), fun σ' H' p' => ⟨n - (i + 1), by omega, rfl, hlt, p'⟩, fun x H' y => ?_⟩
  obtain ⟨e, y⟩ := y
  subst e y
  exact hs i σ _ hlt p
 ·have e : i = n := by omega
  subst e
  exact .inl ⟨jX _, hd σ H p⟩
abbrev R2 := V → V → Hp → VK → Prop
def OpR (X : Cx) (f : Value → Value → Sem Value) (r : R2) : Prop :=
 ∀ (pins : List (Addr × Obj)) (s : Shared) (σ : St) (H : Hp) (x y : V) (v u : Value) (Q : VK), Inv X pins σ H s → RelV x v → RelV y u → r x y H Q →
  wpAny (model X.prog X.w) X.A (f v u) (EP X pins σ Q) X.xe s
def UnR (X : Cx) (f : Value → Sem Value) (r : V → Hp → VK → Prop) : Prop :=
 ∀ (pins : List (Addr × Obj)) (s : Shared) (σ : St) (H : Hp) (x : V) (v : Value) (Q : VK), Inv X pins σ H s → RelV x v → r x H Q →
  wpAny (model X.prog X.w) X.A (f v) (EP X pins σ Q) X.xe s
def Zq (X : Cx) (f : Value) (r : List V → Hp → VK → Prop) : Prop :=
 ∀ (pins : List (Addr × Obj)) (s : Shared) (σ : St) (H : Hp) (xs : List V) (us : List Value) (Q : VK), Inv X pins σ H s → Vals xs us → r xs H Q →
  wpAny (model X.prog X.w) X.A (call f us) (EP X pins σ Q) X.xe s
def tOp (r : R2) (ta tb : TE) : TE := fun σ H Q => ta σ H fun x H1 => tb σ H1 fun y H2 => r x y H2 Q
def tUn (r : V → Hp → VK → Prop) (ta : TE) : TE := fun σ H Q => ta σ H fun x H1 => r x H1 Q
def rI (C : Int → Int → Prop) (g : Int → Int → V) : R2 := fun x y H Q => ∃ i j, x = .int i ∧ y = .int j ∧ C i j ∧ Q (g i j) H
def rI0 (g : Int → Int → V) : R2 := fun x y H Q => ∃ i j, x = .int i ∧ y = .int j ∧ Q (g i j) H
def rU (g : Int → V) : V → Hp → VK → Prop := fun x H Q => ∃ i, x = .int i ∧ Q (g i) H
section
variable {X : Cx} {a b c : Expr} {ta tb tc : TE} {pos : Pos}
theorem binT (ha : PE X a ta) (hb : PE X b tb) {pins : List (Addr × Obj)} {s : Shared} {σ : St} {H : Hp} {R : V → V → Hp → Prop} (I : Inv X pins σ H s)
  (h : ta σ H fun x H1 => tb σ H1 fun y H2 => R x y H2) {Q : Value → Shared → Prop} {f : Value → Value → Sem Value}
  (hf : ∀ v u s2 x y H2, Inv X pins σ H2 s2 → RelV x v → RelV y u → R x y H2 → wpAny (model X.prog X.w) X.A (f v u) Q X.xe s2) :
  wpAny (model X.prog X.w) X.A (eval a X.env) (fun v s₁ => wpAny (model X.prog X.w) X.A (eval b X.env) (fun u s₂ => wpAny (model X.prog X.w) X.A (f v u) Q X.xe s₂) X.xe s₁) X.xe s := by
 refine thn (ha pins s σ H _ I h) fun v s1 hqP => ?_
 obtain ⟨x, H1, I1, r1, q1⟩ := hqP
 refine thn (hb pins s1 σ H1 _ I1 q1) fun u s2 hqP => ?_
 obtain ⟨y, H2, I2, r2, q2⟩ := hqP
 exact hf v u s2 x y H2 I2 r1 r2 q2
theorem Qm {op : Operator} {r : R2} (ho : OpR X (binaryOp op) r) (ha : PE X a ta) (hb : PE X b tb) : PE X (.BinOp a op b pos) (tOp r ta tb) := by
 intro pins s σ H Q I h
 exact wpAny_BinOp (binT ha hb I h fun v u s2 x y H2 I2 rx ry q => ho pins s2 σ H2 x y v u Q I2 rx ry q)
theorem pe_un {op : UnaryOp} {r : V → Hp → VK → Prop} (ho : UnR X (unaryOp op) r) (ha : PE X a ta) : PE X (.UnaryOp op a pos) (tUn r ta) := by
 intro pins s σ H Q I h
 exact UnaryOp_ (thn (ha pins s σ H _ I h) fun v s1 ⟨x, H1, I1, r1, q1⟩ => ho pins s1 σ H1 x v Q I1 r1 q1)
theorem opI {f : Value → Value → Sem Value} {C : Int → Int → Prop} {g : Int → Int → Int}
  (rule : ∀ (i j : Int) (t u : Tok) (s : Shared) (Q : Value → Shared → Prop) (E : Value → Shared → Prop), C i j → Q (.int (g i j) s.toks) { s with toks := s.toks + 1 } → wpAny (model X.prog X.w) X.A (f (.int i t) (.int j u)) Q E s) :
  OpR X f (rI C fun i j => .int (g i j)) := by
 intro pins s σ H x y v u Q I rx ry h
 obtain ⟨i, j, rfl, rfl, hc, q⟩ := h
 obtain ⟨t, rfl⟩ := rx
 obtain ⟨t', rfl⟩ := ry
 exact rule i j t t' s _ _ hc ⟨.int (g i j), H, I.tok _, ⟨_, rfl⟩, q⟩
theorem opI0 {f : Value → Value → Sem Value} {g : Int → Int → Int}
  (rule : ∀ (i j : Int) (t u : Tok) (s : Shared) (Q : Value → Shared → Prop) (E : Value → Shared → Prop), Q (.int (g i j) s.toks) { s with toks := s.toks + 1 } → wpAny (model X.prog X.w) X.A (f (.int i t) (.int j u)) Q E s) :
  OpR X f (rI0 fun i j => .int (g i j)) := by
 intro pins s σ H x y v u Q I rx ry h
 obtain ⟨i, j, rfl, rfl, q⟩ := h
 obtain ⟨t, rfl⟩ := rx
 obtain ⟨t', rfl⟩ := ry
 exact rule i j t t' s _ _ ⟨.int (g i j), H, I.tok _, ⟨_, rfl⟩, q⟩
theorem opB0 {f : Value → Value → Sem Value} {g : Int → Int → Bool}
  (rule : ∀ (i j : Int) (t u : Tok) (s : Shared) (Q : Value → Shared → Prop) (E : Value → Shared → Prop), Q (.bool (g i j)) s → wpAny (model X.prog X.w) X.A (f (.int i t) (.int j u)) Q E s) :
  OpR X f (rI0 fun i j => .bl (g i j)) := by
 intro pins s σ H x y v u Q I rx ry h
 obtain ⟨i, j, rfl, rfl, q⟩ := h
 obtain ⟨t, rfl⟩ := rx
 obtain ⟨t', rfl⟩ := ry
 exact rule i j t t' s _ _ ⟨.bl (g i j), H, I, rfl, q⟩
def CDiv (i j : Int) : Prop := 0 < j ∧ j < 1073741824
def CPow (i j : Int) : Prop := 0 ≤ j ∧ j ≤ 1000000 ∧ i.natAbs < 2 ^ 64
def CMul (i j : Int) : Prop := (-(2 ^ 64) < i ∧ i < 2 ^ 64) ∨ (-(2 ^ 64) < j ∧ j < 2 ^ 64)
theorem CMul.ok {i j : Int} (h : CMul i j) : IntMulOk i j := by
 rcases h with ⟨h1, h2⟩ | ⟨h1, h2⟩
 ·exact .of_left (intBits_le_64 h1 h2)
 ·exact .of_right (intBits_le_64 h1 h2)
theorem Qz : OpR X (binaryOp .Add) (rI0 fun i j => .int (i + j)) := opI0 fun _ _ _ _ _ _ _ q => add_int q
theorem Vi : OpR X (binaryOp .Sub) (rI0 fun i j => .int (i - j)) := opI0 fun _ _ _ _ _ _ _ q => sub_int q
theorem Zg : OpR X (binaryOp .Mult) (rI CMul fun i j => .int (i * j)) := opI fun _ _ _ _ _ _ _ hc q => mul_int q hc.ok
theorem Xj : OpR X (binaryOp .FloorDiv) (rI CDiv fun i j => .int (i / j)) := opI fun i j _ _ _ _ _ hc q => by
 have h1 : (0 : Int) < j := hc.1
 have h2 : j < 1073741824 := hc.2
 exact floordiv_int (by omega) (by rw [Int.fdiv_eq_ediv_of_nonneg i (by omega)]; exact q) (.inl (PyProof.noPylong_small (by omega)))
theorem Qy : OpR X (binaryOp .Mod) (rI (fun _ j => 0 < j) fun i j => .int (i % j)) := opI fun i j _ _ _ _ _ hc q => by
 have h1 : (0 : Int) < j := hc
 exact mod_int' (by omega) (by rw [Int.fmod_eq_emod_of_nonneg i (by omega)]; exact q)
theorem Qea : OpR X (binaryOp .Pow) (rI CPow fun i j => .int (i ^ j.toNat)) := opI fun _ _ _ _ _ _ _ hc q => pow_int_small hc.1 hc.2.1 hc.2.2 q
theorem unI {f : Value → Sem Value} {g : Int → Int}
  (rule : ∀ (i : Int) (t : Tok) (s : Shared) (Q : Value → Shared → Prop) (E : Value → Shared → Prop), Q (.int (g i) s.toks) { s with toks := s.toks + 1 } → wpAny (model X.prog X.w) X.A (f (.int i t)) Q E s) :
  UnR X f (rU fun i => .int (g i)) := by
 intro pins s σ H x v Q I rx h
 obtain ⟨i, rfl, q⟩ := h
 obtain ⟨t, rfl⟩ := rx
 exact rule i t s _ _ ⟨.int (g i), H, I.tok _, ⟨_, rfl⟩, q⟩
theorem Qld : UnR X (unaryOp .USub) (rU fun i => .int (-i)) := unI fun _ _ _ _ _ q => neg_int q
end
def scal : V → V → Bool
 | .non, .non => true | .non, .int _ => true | .int _, .non => true | .non, .bl _ => true | .bl _, .non => true | .non, .str _ => true | .str _, .non => true
 | .int _, .int _ => true | .bl _, .bl _ => true | .str _, .str _ => true | .byt _, .byt _ => true
 | .int _, .str _ => true | .str _, .int _ => true | .bl _, .str _ => true | .str _, .bl _ => true
 | _, _ => false
def rEq : R2 := fun x y H Q => scal x y = true ∧ Q (.bl (decide (x = y))) H
def rNe : R2 := fun x y H Q => scal x y = true ∧ Q (.bl (!decide (x = y))) H
theorem Qgg {i j : Int} : decide (V.int i = V.int j) = (i == j) := by
 rw [jZf]
 simp
theorem Qle {i j : Bool} : decide (V.bl i = V.bl j) = (i == j) := by
 rw [jZf]
 simp
theorem Qgh {i j : Str} : decide (V.str i = V.str j) = (i == j) := by
 rw [jZf]
 simp
theorem Qgi {i j : Array UInt8} : decide (V.byt i = V.byt j) = (i.toList == j.toList) := by
 rw [jZf]
 cases i
 cases j
 simp
section
variable {X : Cx} {a b c : Expr} {ta tb tc : TE} {pos : Pos}
theorem Xo {pins : List (Addr × Obj)} {σ : St} {H : Hp} {s : Shared} {Q : VK} {k k' : Bool} (I : Inv X pins σ H s) (q : Q (.bl k) H) (e : k = k') : EP X pins σ Q (.bool k') s := by
 subst e
 exact ⟨.bl k, H, I, rfl, q⟩
theorem Ym : OpR X (compareOp .Eq) rEq := by
 intro pins s σ H x y v u Q I rx ry h
 obtain ⟨hs, q⟩ := h
 cases x with
 | non =>
  cases rx
  cases y with
  | non => cases ry; exact PySem.EqNone.eq_none_none (Xo I q (by simp))
  | bl j => cases ry; exact PySem.EqNone.eq_none_bool (Xo I q (by simp))
  | int j => obtain ⟨t', rfl⟩ := ry; exact PySem.EqNone.eq_none_int (Xo I q (by simp))
  | str j => obtain ⟨t', rfl⟩ := ry; exact PySem.EqNone.eq_none_str (Xo I q (by simp))
  | _ => exact absurd (show false = true from hs) yZ
 | bl i =>
  cases rx
  cases y with
  | non => cases ry; exact PySem.EqNone.eq_bool_none (Xo I q (by simp))
  | bl j => cases ry; exact eq_bool (Xo I q Qle)
  | str j => obtain ⟨t', rfl⟩ := ry; exact PySem.EqMixed.eq_bool_str (Xo I q (by simp))
  | _ => exact absurd (show false = true from hs) yZ
 | int i =>
  obtain ⟨t, rfl⟩ := rx
  cases y with
  | non => cases ry; exact PySem.EqNone.eq_int_none (Xo I q (by simp))
  | int j => obtain ⟨t', rfl⟩ := ry; exact eq_int (Xo I q Qgg)
  | str j => obtain ⟨t', rfl⟩ := ry; exact PySem.EqMixed.eq_int_str (Xo I q (by simp))
  | _ => exact absurd (show false = true from hs) yZ
 | str i =>
  obtain ⟨t, rfl⟩ := rx
  cases y with
  | non => cases ry; exact PySem.EqNone.eq_str_none (Xo I q (by simp))
  | bl j => cases ry; exact PySem.EqMixed.eq_str_bool (Xo I q (by simp))
  | int j => obtain ⟨t', rfl⟩ := ry; exact PySem.EqMixed.eq_str_int (Xo I q (by simp))
  | str j => obtain ⟨t', rfl⟩ := ry; exact eq_str (Xo I q Qgh)
  | _ => exact absurd (show false = true from hs) yZ
 | byt i =>
  obtain ⟨t, rfl⟩ := rx
  cases y with
  | byt j => obtain ⟨t', rfl⟩ := ry; exact PySem.W.eq_bytes (Xo I q Qgi)
  | _ => exact absurd (show false = true from hs) yZ
 | _ => cases y <;> exact absurd (show false = true from hs) yZ
theorem Qmf : OpR X (compareOp .NotEq) rNe := by
 intro pins s σ H x y v u Q I rx ry h
 obtain ⟨hs, q⟩ := h
 cases x with
 | non =>
  cases rx
  cases y with
  | non => cases ry; exact PySem.EqNone.ne_none_none (Xo I q (by simp))
  | bl j => cases ry; exact PySem.EqNone.ne_none_bool (Xo I q (by simp))
  | int j => obtain ⟨t', rfl⟩ := ry; exact PySem.EqNone.ne_none_int (Xo I q (by simp))
  | str j => obtain ⟨t', rfl⟩ := ry; exact PySem.EqNone.ne_none_str (Xo I q (by simp))
  | _ => exact absurd (show false = true from hs) yZ
 | bl i =>
  cases rx
  cases y with
  | non => cases ry; exact PySem.EqNone.ne_bool_none (Xo I q (by simp))
  | bl j => cases ry; exact ne_bool (Xo I q (congrArg not Qle))
  | str j => obtain ⟨t', rfl⟩ := ry; exact PySem.EqMixed.ne_bool_str (Xo I q (by simp))
  | _ => exact absurd (show false = true from hs) yZ
 | int i =>
  obtain ⟨t, rfl⟩ := rx
  cases y with
  | non => cases ry; exact PySem.EqNone.ne_int_none (Xo I q (by simp))
  | int j => obtain ⟨t', rfl⟩ := ry; exact ne_int (Xo I q (congrArg not Qgg))
  | str j => obtain ⟨t', rfl⟩ := ry; exact PySem.EqMixed.ne_int_str (Xo I q (by simp))
  | _ => exact absurd (show false = true from hs) yZ
 | str i =>
  obtain ⟨t, rfl⟩ := rx
  cases y with
  | non => cases ry; exact PySem.EqNone.ne_str_none (Xo I q (by simp))
  | bl j => cases ry; exact PySem.EqMixed.ne_str_bool (Xo I q (by simp))
  | int j => obtain ⟨t', rfl⟩ := ry; exact PySem.EqMixed.ne_str_int (Xo I q (by simp))
  | str j => obtain ⟨t', rfl⟩ := ry; exact ne_str (Xo I q (congrArg not Qgh))
  | _ => exact absurd (show false = true from hs) yZ
 | byt i =>
  obtain ⟨t, rfl⟩ := rx
  cases y with
  | byt j => obtain ⟨t', rfl⟩ := ry; exact PySem.W.ne_bytes (Xo I q (congrArg not Qgi))
  | _ => exact absurd (show false = true from hs) yZ
 | _ => cases y <;> exact absurd (show false = true from hs) yZ
theorem Qgj : OpR X (compareOp .Lt) (rI0 fun i j => .bl (decide (i < j))) := opB0 fun _ _ _ _ _ _ _ q => lt_int q
theorem Qae : OpR X (compareOp .LtE) (rI0 fun i j => .bl (decide (i ≤ j))) := opB0 fun _ _ _ _ _ _ _ q => le_int q
theorem Qaf : OpR X (compareOp .Gt) (rI0 fun i j => .bl (decide (j < i))) := opB0 fun _ _ _ _ _ _ _ q => gt_int q
theorem op_isN : OpR X (compareOp .Is) (fun x y H Q => y = .non ∧ Q (.bl (decide (x = .non))) H) := by
 intro pins s σ H x y v u Q I rx ry h
 obtain ⟨rfl, q⟩ := h
 cases ry
 refine is_none_gen (Xo I q ?_)
 cases x <;> first
  | (cases rx; rfl)
  | (obtain ⟨t, rfl⟩ := rx; rfl)
theorem Qgk : OpR X (compareOp .IsNot) (fun x y H Q => y = .non ∧ Q (.bl (!decide (x = .non))) H) := by
 intro pins s σ H x y v u Q I rx ry h
 obtain ⟨rfl, q⟩ := h
 cases ry
 refine isnot_none_gen (Xo I q ?_)
 cases x <;> first
  | (cases rx; rfl)
  | (obtain ⟨t, rfl⟩ := rx; rfl)
theorem Qw (b : Expr) {op : CmpOp} (h : autoParam (op ≠ .In) L2.aDec._auto_1) (h2 : autoParam (op ≠ .NotIn) L2.aDec._auto_1) : behindInMarks op b = false := by
 have e1 : (op == CmpOp.In) = false := by cases op <;> first | rfl | exact absurd rfl h
 have e2 : (op == CmpOp.NotIn) = false := by cases op <;> first | rfl | exact absurd rfl h2
 cases b <;> simp [behindInMarks, e1, e2]
theorem Qag {op : CmpOp} {r : R2} (ho : OpR X (compareOp op) r) (ha : PE X a ta) (hb : PE X b tb) (hm : behindInMarks op b = false) : PE X (.Compare a [op] [b] pos) (tOp r ta tb) := by
 intro pins s σ H Q I h
 exact wpAny_Compare1 (binT ha hb I h fun v u s2 x y H2 I2 rx ry q => ho pins s2 σ H2 x y v u Q I2 rx ry q) hm
def tTest (t : TE) : TT := fun σ H Q => t σ H fun x H' => ∃ k, x = .bl k ∧ Q k H'
theorem Qp {op : CmpOp} {r : R2} (ho : OpR X (compareOp op) r) (ha : PE X a ta) (hb : PE X b tb) (hm : behindInMarks op b = false) : PT X (.Compare a [op] [b] pos) (tTest (tOp r ta tb)) := by
 intro pins s σ H Q I h
 refine wpAny_isTrue_Compare1 (thn (ha pins s σ H _ I h) fun v s1 ⟨x, H1, I1, r1, q1⟩ => thn (hb pins s1 σ H1 _ I1 q1) fun u s2 ⟨y, H2, I2, r2, q2⟩ =>
  thn (ho pins s2 σ H2 x y v u _ I2 r1 r2 q2) fun c s3 ⟨z, H3, I3, r3, k, e, q3⟩ => ?_) hm
 subst e
 cases r3
 exact wpAny_truthy_bool ⟨H3, I3, q3⟩
def Qlf (r r' : R2) (ta tb tc : TE) : TE := fun σ H Q => ta σ H fun x H1 => tb σ H1 fun y H2 => r x y H2 fun z H3 => ∃ k, z = .bl k ∧
 (if k = true then tc σ H3 fun w' H4 => r' y w' H4 Q else Q (.bl false) H3)
theorem Qeb {op op' : CmpOp} {r r' : R2} (ho : OpR X (compareOp op) r) (ho' : OpR X (compareOp op') r') (ha : PE X a ta) (hb : PE X b tb) (hc : PE X c tc)
  (hm : lastMarks [op, op'] [b, c] = false := by with_unfolding_all rfl) : PE X (.Compare a [op, op'] [b, c] pos) (Qlf r r' ta tb tc) := by
 intro pins s σ H Q I h
 refine Compare_chain (thn (ha pins s σ H _ I h) fun v s1 ⟨x, H1, I1, r1, q1⟩ => chain_link (thn (hb pins s1 σ H1 _ I1 q1) fun u s2 ⟨y, H2, I2, r2, q2⟩ =>
  thn (ho pins s2 σ H2 x y v u _ I2 r1 r2 q2) fun d s3 ⟨z, H3, I3, r3, k, e, q3⟩ => ?_)) hm
 subst e
 cases r3
 refine wpAny_truthy_bool ?_
 cases k with
 | false => exact ite_ff ⟨.bl false, H3, I3, rfl, q3⟩
 | true => exact ite_tt (chain_last (thn (hc pins s3 σ H3 _ I3 q3) fun w' s4 ⟨z', H4, I4, r4, q4⟩ => ho' pins s4 σ H4 y z' u w' Q I4 r2 r4 q4))
theorem Qec {op op' : CmpOp} {r r' : R2} (ho : OpR X (compareOp op) r) (ho' : OpR X (compareOp op') r') (ha : PE X a ta) (hb : PE X b tb) (hc : PE X c tc)
  (hm : lastMarks [op, op'] [b, c] = false := by with_unfolding_all rfl) : PT X (.Compare a [op, op'] [b, c] pos) (tTest (Qlf r r' ta tb tc)) := by
 intro pins s σ H Q I h
 refine isTrue_chain (thn (ha pins s σ H _ I h) fun v s1 ⟨x, H1, I1, r1, q1⟩ => test_link (thn (hb pins s1 σ H1 _ I1 q1) fun u s2 ⟨y, H2, I2, r2, q2⟩ =>
  thn (ho pins s2 σ H2 x y v u _ I2 r1 r2 q2) fun d s3 ⟨z, H3, I3, r3, k, e, q3⟩ => ?_)) hm
 subst e
 cases r3
 refine wpAny_truthy_bool ?_
 cases k with
 | false =>
  obtain ⟨k', e', q'⟩ := q3
  cases e'
  exact ite_ff ⟨H3, I3, q'⟩
 | true =>
  refine ite_tt (test_last (thn (hc pins s3 σ H3 _ I3 q3) fun w' s4 ⟨z', H4, I4, r4, q4⟩ => thn (ho' pins s4 σ H4 y z' u w' _ I4 r2 r4 q4) fun d' s5 hqP => ?_))
  obtain ⟨z2, H5, I5, r5, k2, e2, q5⟩ := hqP
  subst e2
  cases r5
  exact wpAny_truthy_bool ⟨H5, I5, q5⟩
theorem Qed : (sizeLine : Nat) < 2 ^ 63 := by rw [sizeLine_eq]; decide
theorem Wr : OpR X (binaryOp .Add) (fun x y H Q => ∃ i j, x = .str i ∧ y = .str j ∧ i.length + j.length ≤ sizeLine ∧ Q (.str (i ++ j)) H) := by
 intro pins s σ H x y v u Q I rx ry h
 obtain ⟨i, j, rfl, rfl, hz, q⟩ := h
 obtain ⟨t, rfl⟩ := rx
 obtain ⟨t', rfl⟩ := ry
 exact add_str (fun t' tk => ⟨.str (i ++ j), H, I.tok _, ⟨_, rfl⟩, q⟩) hz
theorem vals1 {x : V} {us : List Value} (r : Vals [x] us) : ∃ u, us = [u] ∧ RelV x u := by
 cases r with
 | cons r1 r2 => cases r2; exact ⟨_, rfl, r1⟩
theorem vals2 {x y : V} {us : List Value} (r : Vals [x, y] us) : ∃ u w', us = [u, w'] ∧ RelV x u ∧ RelV y w' := by
 cases r with
 | cons r1 r2 =>
  cases r2 with
  | cons r3 r4 => cases r4; exact ⟨_, _, rfl, r1, r3⟩
theorem Qbo (hc : X.calm = true) : Zq X (.builtin "max") (fun xs H Q => ∃ i j, xs = [.int i, .int j] ∧ Q (.int (if j > i then j else i)) H) := by
 intro pins s σ H xs us Q I r h
 obtain ⟨i, j, rfl, q⟩ := h
 obtain ⟨u, w', rfl, ⟨t, rfl⟩, ⟨t', rfl⟩⟩ := vals2 r
 refine max_two_ints (I.ok.hd hc) fun h' tk k => ⟨_, H, I.kept k, ?_, q⟩
 by_cases hj : j > i
 ·rw [if_pos hj, if_pos hj]; exact ⟨_, rfl⟩
 ·rw [if_neg hj, if_neg hj]; exact ⟨_, rfl⟩
theorem Jw (hc : X.calm = true) : Zq X (.builtin "min") (fun xs H Q => ∃ i j, xs = [.int i, .int j] ∧ Q (.int (if j < i then j else i)) H) := by
 intro pins s σ H xs us Q I r h
 obtain ⟨i, j, rfl, q⟩ := h
 obtain ⟨u, w', rfl, ⟨t, rfl⟩, ⟨t', rfl⟩⟩ := vals2 r
 refine min_two_ints (I.ok.hd hc) fun h' tk k => ⟨_, H, I.kept k, ?_, q⟩
 by_cases hj : j < i
 ·rw [if_pos hj, if_pos hj]; exact ⟨_, rfl⟩
 ·rw [if_neg hj, if_neg hj]; exact ⟨_, rfl⟩
theorem Qbp : Zq X (.type "str") (fun xs H Q => ∃ i, xs = [.int i] ∧ i.natAbs.log2 < 1920 ∧ Q (.str (toString i)) H) := by
 intro pins s σ H xs us Q I r h
 obtain ⟨i, rfl, hz, q⟩ := h
 obtain ⟨u, rfl, t, rfl⟩ := vals1 r
 exact PySem.P.str_of_int hz ⟨.str _, H, I.tok _, ⟨_, rfl⟩, q⟩
end
structure ObjM (h : Heap) (x dx C : Addr) (mA : Str → Option Value) : Prop where
 obj : h.get? x = some (PySem.W.instObj C dx)
 ns : h.Ns1 dx mA
 ne : dx ≠ x
theorem Qgl {h : Heap} {dx : Addr} {mA : Str → Option Value} (n : h.Ns1 dx mA) : ∃ od, h.get? dx = some od ∧ ∀ name, PySem.W.lookIn name od = some (mA name) := by
 obtain ⟨o, es, ep, ho, hd, hk, _, hm⟩ := n
 refine ⟨o, ho, fun name => ?_⟩
 have e := hm name
 unfold nsFind findBy at e
 rw [← Array.find?_toList] at e
 unfold PySem.W.lookIn
 rw [hd]
 dsimp only
 split
 ·rename_i y q
  rw [q] at e
  exact congrArg some e
 ·rename_i q
  rw [q] at e
  have a : es.toList.any (·.refKey) = false := by
   rw [List.any_eq_false]
   intro y hy
   obtain ⟨z, t, hkey⟩ := hk y (Array.mem_toList_iff.mp hy)
   simp [DictEntry.refKey, hkey]
  have a' : ¬ es.toList.any (·.refKey) = true := by rw [a]; exact yZ
  rw [if_neg a']
  exact congrArg some e
theorem ObjM.look {h : Heap} {x dx C : Addr} {mA : Str → Option Value} (I : ObjM h x dx C mA) : ∃ od, PySem.W.InstAt h x (PySem.W.instObj C dx) C (some od) ∧ ∀ name, PySem.W.lookIn name od = some (mA name) :=
 let ⟨od, ho, hl⟩ := Qgl I.ns
 ⟨od, ⟨I.obj, rfl, rfl, ho⟩, hl⟩
section
variable {prog : Program} {w : World} {A : Around} {E : Value → Shared → Prop} {s : Shared} {K : Fg} {x dx C f : Addr} {mA : Str → Option Value} {name : Str} {v : Value}
theorem get_map {expr : Bool} {Q : Value → Shared → Prop} (X : K.In s.heap) (I : ObjM s.heap x dx C mA) (hg : PySem.W.plainGet K C name = true) (hh : PySem.W.hasDictIn K C = true)
  (ha : PySem.W.findIn K (.ref C) name = some none) (hv : mA name = some v) (hv' : PySem.W.handedIn v = true) (h : Q v { s with toks := s.toks + 1 }) :
  wpAny (model prog w) A (getAttr (.ref x) name expr) Q E s := by
 obtain ⟨od, J, hl⟩ := I.look
 exact PySem.W.get_value X J (PySem.W.plainGet_of hg).1 (PySem.W.findObj_own hh ha rfl (by rw [hl, hv])) hv' h
theorem Qiu {pl : Sem Bool} {Q : Value × List Value → Shared → Prop} (X : K.In s.heap) (I : ObjM s.heap x dx C mA) (hg : PySem.W.plainGet K C name = true)
  (hf : PySem.W.findIn K (.ref C) name = some (some (.ref f))) (ht : PySem.W.isFn K (.ref f) = true) (hv : mA name = none) (h : Q (.ref f, [.ref x]) s) :
  wpAny (model prog w) A (getMethod (.ref x) name pl) Q E s := by
 obtain ⟨od, J, hl⟩ := I.look
 exact PySem.W.method_fn X J (PySem.W.plainGet_of hg).1 (PySem.W.plainGet_of hg).2 hf (beq_iff_eq.mp ht) (by show (PySem.W.lookIn name od).map (·.isSome) = some false; rw [hl, hv]; rfl) h
theorem Qmg {ns : List Str} {Q : Unit → Shared → Prop} (X : K.In s.heap) (I : ObjM s.heap x dx C mA)
  (hs : PySem.W.findIn K (.ref C) "__setattr__" = some (some (.builtin "object.__setattr__"))) (hp : PySem.W.plainOver K C = true) (ht : PySem.W.takerIn K C name = some none) (hh : PySem.W.hasDictIn K C = true)
  (hw : PySem.Within mA ns) (hsz : ns.length ≤ sizeLine)
  (h : ∀ h', ObjM h' x dx C (fun y => if y = name then some v else mA y) → Heap.SameBut dx s.heap h' → Q () { s with heap := h', toks := s.toks + 2 }) :
  wpAny (model prog w) A (setAttr (.ref x) name v) Q E s := by
 obtain ⟨od, J, hl⟩ := I.look
 refine PySem.W.set_plain X J hs (PySem.W.osa_open (s := { s with toks := s.toks + 1 }) (r := none) X J hp ht fun b => ?_)
 obtain ⟨cd, hc, hd'⟩ := PySem.W.any_some hh
 have hx : s.heap.get? x = some ⟨.ref C, some dx, .plain, #[]⟩ := I.obj
 refine jQ (jW (jQ (jQ (wpAny_loadPart hx (jQ (PySem.W.Looks.here (s := { s with toks := s.toks + 1 }) (PySem.W.looks_clsIn X hc) ?_))))))
 rw [hd']
 refine jW (a := some dx) (jQ (jW (jQ ?_)))
 refine wpAny_nsSet1 (s := { s with toks := s.toks + 1 }) I.ns fun h' hn2 hs2 => ?_
 obtain ⟨oD, esD, epD, hoD, hdD, hcD⟩ := hn2.count (PySem.Within.cons name v hw)
 refine jQ (wpAny_lookBehind hoD (by rw [hdD]; exact pastItsLine_dict (jQa hcD (by rw [yW]; omega))) ?_)
 exact jW (h _ ⟨(hs2.2 _ (Ne.symm I.ne)).trans I.obj, hn2, I.ne⟩ hs2)
theorem Qiv {R : Result → Shared → Prop} {vs : List Value} {kw : List (Str × Value)} (X : K.In s.heap) (hm : PySem.W.makesIn K C = true)
  (hi : PySem.W.findIn K (.ref C) "__init__" = some (some (.ref f))) (hf : PySem.W.typeIn K (.ref f) = some (.type "function"))
  (h : codeAny (model prog w) (A.under (.builtin "type.__call__" ⟨.ref C :: vs, kw⟩)) (.call (.ref f) ⟨.ref (s.heap.objs.size + 1) :: vs, kw⟩) (PySem.W.InitBack (s.heap.objs.size + 1) R)
   { s with heap := (s.heap.push PySem.W.emptyDict).push (PySem.W.instObj C s.heap.objs.size) }) :
  codeAny (model prog w) A (.call (.ref C) ⟨vs, kw⟩) R s := by
 obtain ⟨hh, g, d, t, os⟩ := s
 exact PySem.W.make_core (PySem.W.makes_of X hm) (PySem.W.looks_findIn X hi) (fun self => PySem.W.bind_fn X self hf) (.inl rfl) h
end
def putF (f : Str) (v : V) : List (Str × V) → List (Str × V)
 | [] => [(f, v)]
 | (g, x) :: r => if g = f then (g, v) :: r else (g, x) :: putF f v r
theorem Qg (f g : Str) (v : V) : ∀ fs : List (Str × V), (putF f v fs).lookup g = if g = f then some v else fs.lookup g
 | [] => by
  show List.lookup g [(f, v)] = _
  by_cases h : g = f
  ·have hb : (g == f) = true := beq_iff_eq.mpr h
   simp only [List.lookup, hb, if_pos h]
  ·have hb : (g == f) = false := beq_eq_false_iff_ne.mpr h
   simp only [List.lookup, hb, if_neg h]
 | (k, x) :: r => by
  have ih := Qg f g v r
  rw [show putF f v ((k, x) :: r) = (if k = f then (k, v) :: r else (k, x) :: putF f v r) from rfl]
  by_cases hk : k = f
  ·rw [if_pos hk]
   by_cases h : g = k
   ·have hb : (g == k) = true := beq_iff_eq.mpr h
    simp only [List.lookup, hb, if_pos (h.trans hk)]
   ·have hb : (g == k) = false := beq_eq_false_iff_ne.mpr h
    simp only [List.lookup, hb, if_neg (fun e : g = f => h (e.trans hk.symm))]
  ·rw [if_neg hk]
   by_cases h : g = k
   ·have hb : (g == k) = true := beq_iff_eq.mpr h
    simp only [List.lookup, hb, if_neg (fun e : g = f => hk (h.symm.trans e))]
   ·have hb : (g == k) = false := beq_eq_false_iff_ne.mpr h
    simp only [List.lookup, hb]
    exact ih
theorem Vj (f : Str) (v : V) : ∀ fs : List (Str × V), f ∈ (putF f v fs).map (·.1) ∧ ∀ g, g ∈ fs.map (·.1) → g ∈ (putF f v fs).map (·.1)
 | [] => ⟨by simp [putF], fun g h => by simp at h⟩
 | (k, x) :: r => by
  obtain ⟨i1, i2⟩ := Vj f v r
  rw [show putF f v ((k, x) :: r) = (if k = f then (k, v) :: r else (k, x) :: putF f v r) from rfl]
  by_cases hk : k = f
  ·rw [if_pos hk]
   subst hk
   exact ⟨by simp, fun g h => by simpa using h⟩
  ·rw [if_neg hk]
   refine ⟨?_, fun g h => ?_⟩
   ·rw [zJ]
    exact zQ _ i1
   ·rw [zJ] at h ⊢
    rcases yJ.mp h with e | e
    ·exact yJ.mpr (.inl e)
    ·exact zQ _ (i2 g e)
theorem Xm (f : Str) (v : V) : ∀ fs : List (Str × V), (putF f v fs).length ≤ fs.length + 1
 | [] => by simp [putF]
 | (k, x) :: r => by
  have ih := Xm f v r
  rw [show putF f v ((k, x) :: r) = (if k = f then (k, v) :: r else (k, x) :: putF f v r) from rfl]
  by_cases hk : k = f
  ·rw [if_pos hk, yW, yW]; omega
  ·rw [if_neg hk, yW, yW]; omega
theorem RelO.some_of {v : V} {o : Option Value} (r : RelO (some v) o) : ∃ u, o = some u ∧ RelV v u := by
 cases o with
 | none => exact (show False from r).elim
 | some u => exact ⟨u, rfl, r⟩
theorem RelO.none_of {o : Option Value} (r : RelO none o) : o = none := by
 cases o with
 | none => rfl
 | some u => exact (show False from r).elim
theorem Qgm {v : V} {u : Value} (r : RelV v u) : PySem.W.handedIn u = true := by
 cases v with
 | non => cases (show u = Value.none from r); rfl
 | bl b => cases (show u = Value.bool b from r); rfl
 | int i => obtain ⟨t, e⟩ := (show ∃ t, u = Value.int i t from r); cases e; rfl
 | str x => obtain ⟨t, e⟩ := (show ∃ t, u = Value.str x t from r); cases e; rfl
 | byt b => obtain ⟨t, e⟩ := (show ∃ t, u = Value.bytes b t from r); cases e; rfl
 | flt b => obtain ⟨t, e⟩ := (show ∃ t, u = Value.float b t from r); cases e; rfl
 | ref a => cases (show u = Value.ref a from r); rfl
 | ty n => cases (show u = Value.type n from r); rfl
section
variable {P : Program} {w : World} {H H' : Hp} {h h' : Heap} {a C dx : Addr} {fs fs' : List (Str × V)}
theorem Qdc (hok : HOk P w H h) (e : H a = some (.ins C dx fs)) : ∃ mA, ObjM h a dx C mA ∧ (∀ f, RelO (fs.lookup f) (mA f)) ∧ PySem.Within mA (fs.map (·.1)) ∧ fs.length ≤ 1000 ∧ H dx = some (.own a) := by
 obtain ⟨d, z, ne, ob, mA, n, r, q⟩ := (show ObjOk P w H h a (.ins C dx fs) from hok a _ e)
 exact ⟨mA, ⟨ob, n, ne⟩, r, q, z, d⟩
end
structure Cls (K : Fg) (C : Addr) : Prop where
 pg : PySem.W.plainGet K C Str.empty = true
 hd : PySem.W.hasDictIn K C = true
 po : PySem.W.plainOver K C = true
 sa : PySem.W.findIn K (.ref C) "__setattr__" = some (some (.builtin "object.__setattr__"))
theorem Cls.get {K : Fg} {C : Addr} (c : Cls K C) (f : Str) : PySem.W.plainGet K C f = true := c.pg
def NoAttr (K : Fg) (C : Addr) (f : Str) : Prop := PySem.W.findIn K (.ref C) f = some none
theorem NoAttr.taker {K : Fg} {C : Addr} {f : Str} (n : NoAttr K C f) : PySem.W.takerIn K C f = some none := by
 unfold PySem.W.takerIn
 rw [show PySem.W.findIn K (.ref C) f = some none from n]
 rfl
structure Meth (K : Fg) (C : Addr) (m : Str) (f : Addr) : Prop where
 at_ : PySem.W.findIn K (.ref C) m = some (some (.ref f))
 fn : PySem.W.isFn K (.ref f) = true
 kp : PySem.W.keepIn K (.ref f) = true
section
variable {X : Cx} {pins : List (Addr × Obj)} {σ : St} {H : Hp} {s : Shared} {a C dx : Addr} {fs : List (Str × V)} {f : Str} {v : V} {A : Around} {E : Value → Shared → Prop}
theorem Qfc {b : Bool} {Q : Value → Shared → Prop} (I : Inv X pins σ H s) (e : H a = some (.ins C dx fs)) (c : Cls X.K C) (n : NoAttr X.K C f) (l : fs.lookup f = some v)
  (h : ∀ u s', Inv X pins σ H s' → RelV v u → Q u s') : wpAny (model X.prog X.w) A (getAttr (.ref a) f b) Q E s := by
 obtain ⟨mA, O, r, _, _, _⟩ := Qdc I.hok e
 obtain ⟨u, hu, ru⟩ := RelO.some_of (v := v) (o := mA f) (by rw [← l]; exact r f)
 exact get_map I.kIn O (c.get f) c.hd n hu (Qgm ru) (h u _ (I.tok _) ru)
theorem Qfd {m : Str} {g : Addr} {pl : Sem Bool} {Q : Value × List Value → Shared → Prop} (I : Inv X pins σ H s) (e : H a = some (.ins C dx fs)) (c : Cls X.K C) (k : Meth X.K C m g) (l : fs.lookup m = none)
  (h : Q (.ref g, [.ref a]) s) : wpAny (model X.prog X.w) A (getMethod (.ref a) m pl) Q E s := by
 obtain ⟨mA, O, r, _, _, _⟩ := Qdc I.hok e
 have hn : mA m = none := RelO.none_of (by rw [← l]; exact r m)
 exact Qiu I.kIn O (c.get m) k.at_ k.fn hn h
theorem Qfe {y : V} {u : Value} {Q : Unit → Shared → Prop} (I : Inv X pins σ H s) (e : H a = some (.ins C dx fs)) (c : Cls X.K C) (n : NoAttr X.K C f) (hl : fs.length < 1000) (ry : RelV y u)
  (h : ∀ s', Inv X pins σ (upd H a (.ins C dx (putF f y fs))) s' → Q () s') : wpAny (model X.prog X.w) A (setAttr (.ref a) f u) Q E s := by
 obtain ⟨mA, O, r, wi, _, ho⟩ := Qdc I.hok e
 have hz : (fs.map (·.1)).length ≤ sizeLine := by rw [jZ, sizeLine_eq]; omega
 refine Qmg I.kIn O c.sa c.po n.taker c.hd wi hz fun h' O' sb => h _ ?_
 have hd : ∃ o, h'.get? dx = some o := let ⟨o, _, _, e', _⟩ := O'.ns; ⟨o, e'⟩
 refine I.write (x := a) (e := dx) (by rw [e]; exact True.intro) (.inr ho) (fun b q hb z => (sb.2 b hb).trans z) hd ?_
 refine ⟨by rw [Qj O.ne]; exact ho, ?_, O.ne, O'.obj, _, O'.ns, fun g => ?_, fun g hg => ?_⟩
 ·have := Xm f y fs; omega
 ·show RelO ((putF f y fs).lookup g) (if g = f then some u else mA g)
  rw [Qg]
  by_cases q : g = f
  ·rw [if_pos q, if_pos q]; exact ry
  ·rw [if_neg q, if_neg q]; exact r g
 ·by_cases q : g = f
  ·rw [q]; exact (Vj f y fs).1
  ·refine (Vj f y fs).2 g (wi g fun z => hg ?_)
   show (if g = f then some u else mA g) = none
   rw [if_neg q]; exact z
theorem Inv.made (I : Inv X pins σ H s) : Inv X pins σ (upd (upd H s.heap.objs.size (.own (s.heap.objs.size + 1))) (s.heap.objs.size + 1) (.ins C s.heap.objs.size []))
  { s with heap := (s.heap.push PySem.W.emptyDict).push (PySem.W.instObj C s.heap.objs.size) } := by
 have e1 : (s.heap.push PySem.W.emptyDict).get? s.heap.objs.size = some PySem.W.emptyDict := yX s.heap rfl
 have e2 : ((s.heap.push PySem.W.emptyDict).push (PySem.W.instObj C s.heap.objs.size)).get? (s.heap.objs.size + 1) = some (PySem.W.instObj C s.heap.objs.size) := by
  have := yX (s.heap.push PySem.W.emptyDict) (o := PySem.W.instObj C s.heap.objs.size) rfl
  rwa [jKf] at this
 have e3 : (s.heap.push PySem.W.emptyDict).Ns s.heap.objs.size (fun _ => none) := ⟨PySem.W.emptyDict, #[], _, e1, rfl, (fun e he => absurd he (by simp)), fun _ => rfl⟩
 have I1 := I.laid (a := s.heap.objs.size) (o := .own (s.heap.objs.size + 1)) (h' := s.heap.push PySem.W.emptyDict) (t' := s.toks) (fun b u q => jJ _ q) (jX _) ⟨_, e1⟩
 refine I1.laid (a := s.heap.objs.size + 1) (o := .ins C s.heap.objs.size []) (t' := s.toks) (fun b u q => jJ _ q) (Nat.le_of_eq (jKf _ _)) ?_
 have ne : s.heap.objs.size ≠ s.heap.objs.size + 1 := zK (Nat.lt_succ_self _)
 refine ⟨by rw [Qj ne, Qb], wK _, ne, e2, fun _ => none, (Heap.Ns1.of_empty e3).at fun o q => jJ _ q, fun _ => True.intro, fun y hy => absurd rfl hy⟩
theorem Qmh {prog : Program} {w : World} {env : Env} {e : Expr} {f : Str} {pos : Pos} {s : Shared} {Q : Value → Shared → Prop} (hb : attributeBase e f env (eval e env) = eval e env)
  (h : wpAny (model prog w) A (eval e env) (fun o s₁ => wpAny (model prog w) A (getAttr o f true) Q E s₁) E s) : wpAny (model prog w) A (eval (.Attribute e f pos) env) Q E s :=
 Attribute_any_ h (by rw [arm_eval_Attribute, hb])
end
def tFld (K : Fg) (ta : TE) (f : Str) : TE := fun σ H Q => ta σ H fun x H1 => ∃ a C dx fs v, x = .ref a ∧ H1 a = some (.ins C dx fs) ∧ Cls K C ∧ NoAttr K C f ∧ fs.lookup f = some v ∧ Q v H1
def sFld (K : Fg) (ta tv : TE) (f : Str) : TS := fun D σ H => tv σ H fun y H1 => ta σ H1 fun x H2 => ∃ a C dx fs, x = .ref a ∧ H2 a = some (.ins C dx fs) ∧ Cls K C ∧ NoAttr K C f ∧ fs.length < 1000 ∧
 D.nx σ (upd H2 a (.ins C dx (putF f y fs)))
section
variable {X : Cx} {o e value : Expr} {f : Str} {pos pos' tpos : Pos} {ta tv : TE}
theorem Zh (he : PE X e ta) (hb : attributeBase e f X.env (eval e X.env) = eval e X.env) : PE X (.Attribute e f pos) (tFld X.K ta f) := by
 intro pins s σ H Q I h
 refine Qmh hb (thn (he pins s σ H _ I h) fun u s1 hqP => ?_)
 obtain ⟨x, H1, I1, rx, a, C, dx, fs, v, ex, ea, c, n, l, q⟩ := hqP
 subst ex
 obtain rfl : u = Value.ref a := rx
 exact Qfc I1 ea c n l fun u' s2 I2 ru => ⟨v, H1, I2, ru, q⟩
theorem Vk (ha : PE X o ta) (hv : PE X value tv) (hs : swapsWith value (some (.Attribute o f pos')) pos.line X.env = pure false) : PS X (.Assign [.Attribute o f pos'] value pos) (sFld X.K ta tv f) := by
 intro pins s σ H D I h
 refine plainObj_wpAny_Assign_Attribute (thn (hv pins s σ H _ I h) fun u s1 ⟨y, H1, I1, ry, q⟩ => thn (ha pins s1 σ H1 _ I1 q) fun ov s2 hqP => ?_) hs
 obtain ⟨x, H2, I2, rx, a, C, dx, fs, ex, ea, c, n, l, q2⟩ := hqP
 subst ex
 obtain rfl : ov = Value.ref a := rx
 exact Qfe I2 ea c n l ry fun s3 I3 => ⟨σ, _, I3, q2⟩
end
section
variable {X : Cx} {pins : List (Addr × Obj)} {σ : St} {H : Hp} {s : Shared} {A : Around} {E : Value → Shared → Prop} {Q : Value → Shared → Prop} {c : Value} {b : Bool}
end
structure Room (k : Nat) (A : Around) : Prop where
 hd : A.handled = none
 dp : A.depth + 3 * k + 5 < recursionLimit
 un : A.units + 16 * k + 200 < cLine
theorem Room.mono {j k : Nat} {A : Around} (r : Room k A) (h : j ≤ k) : Room j A := ⟨r.hd, by have := r.dp; omega, by have := r.un; omega⟩
theorem Room.deeper {k : Nat} {A : Around} (r : Room (k + 1) A) (env : Env) : Room k (A.deeper env) :=
 ⟨r.hd, by have := r.dp; show A.depth + 1 + 3 * k + 5 < _; omega, by have := r.un; show A.units + 3 + 16 * k + 200 < _; omega⟩
theorem Qff {A : Around} {C : Addr} {us : List Value} {kw : List (Str × Value)} : (A.under (.builtin "type.__call__" ⟨.ref C :: us, kw⟩)).depth = A.depth + 1 := by
 first | rfl | simp [Around.under, Code.weight, Code.isCreation, Code.isGuard, Code.isCaller, Code.frames, Code.isFrame, guardIds]
theorem Qfg {A : Around} {C : Addr} {us : List Value} {kw : List (Str × Value)} : (A.under (.builtin "type.__call__" ⟨.ref C :: us, kw⟩)).units = A.units + 1 := by
 first | rfl | simp [Around.under, Code.cUnits, Code.frames, Code.isFrame]
theorem Room.make {k : Nat} {A : Around} (r : Room (k + 1) A) (C : Addr) (us : List Value) (kw : List (Str × Value)) : Room k (A.under (.builtin "type.__call__" ⟨.ref C :: us, kw⟩)) :=
 ⟨r.hd, by have := r.dp; rw [Qff]; omega, by have := r.un; rw [Qfg]; omega⟩
theorem Room.depth {k : Nat} {A : Around} (r : Room k A) : A.depth < recursionLimit := by have := r.dp; omega
theorem Room.units {k : Nat} {A : Around} (r : Room k A) : A.units + 64 < cLine := by have := r.un; omega
def tNil : TA := fun _ H Q => Q [] H
def tCons (ta : TE) (tr : TA) : TA := fun σ H Q => ta σ H fun x H1 => tr σ H1 fun xs H2 => Q (x :: xs) H2
section
variable {X : Cx} {e : Expr} {es : List Expr} {te : TE} {t : TA} {pos : Pos}
theorem Qf : PA X [] tNil := fun _ _ _ _ H Q I h => Calls.spliced_nil ⟨[], H, I, .nil, h⟩
theorem Qa (ha : PE X e te) (hr : PA X es t) (hs : autoParam (starEach (e :: es) X.env = (false, eval e X.env) :: starEach es X.env) L2.aRfl._auto_1) : PA X (e :: es) (tCons te t) := by
 intro pos pins s σ H Q I h
 rw [hs]
 show wpAny _ _ (spliced ((false, eval e X.env) :: backTo pos (starEach es X.env))) _ _ s
 refine Calls.spliced_cons (thn (ha pins s σ H _ I h) fun u s1 hqP => ?_)
 obtain ⟨x, H1, I1, r1, q1⟩ := hqP
 exact thn (hr pos pins s1 σ H1 _ I1 q1) fun us s2 ⟨xs, H2, I2, r2, q2⟩ => ⟨x :: xs, H2, I2, .cons r1 r2, q2⟩
def tTup (t : TA) : TE := fun σ H Q => t σ H fun xs H1 => xs.length ≤ sizeLine ∧ ∀ p, H1 p = none → Q (.ref p) (upd H1 p (.tup xs))
def tLst (t : TA) : TE := fun σ H Q => t σ H fun xs H1 => xs.length ≤ sizeLine ∧ ∀ p, H1 p = none → Q (.ref p) (upd H1 p (.lst xs))
theorem Xh {x1} (h : PA X es t) : PE X (.Tuple es x1 pos) (tTup t) := by
 intro pins s σ H Q I hq
 refine wpAny_Tuple_spliced (thn (h pos pins s σ H _ I hq) fun us s1 ⟨xs, H1, I1, r, z, q⟩ => ⟨by rw [← r.length]; exact z, ?_⟩)
 have hf : H1 s1.heap.objs.size = none := I1.hok.fresh (jX _)
 refine ⟨.ref s1.heap.objs.size, upd H1 s1.heap.objs.size (.tup xs), I1.laid (t' := s1.toks) (fun b u e => jJ _ e) (jX _) ?_, rfl, q _ hf⟩
 exact ⟨z, us, r, ⟨_, yX _ rfl, rfl, _, rfl⟩⟩
theorem Xf (h : PA X es t) : PE X (.List es pos) (tLst t) := by
 intro pins s σ H Q I hq
 refine wpAny_List_spliced (thn (h pos pins s σ H _ I hq) fun us s1 ⟨xs, H1, I1, r, z, q⟩ => ⟨by rw [← r.length]; exact z, ?_⟩)
 have hf : H1 s1.heap.objs.size = none := I1.hok.fresh (jX _)
 refine ⟨.ref s1.heap.objs.size, upd H1 s1.heap.objs.size (.lst xs), I1.laid (t' := s1.toks) (fun b u e => jJ _ e) (jX _) ?_, rfl, q _ hf⟩
 exact ⟨z, us, 0, r, yX _ rfl⟩
end
abbrev Sp := List V → Hp → VK → XK → Prop
abbrev CXT := List Env → Hp → Shared → XK → Value → Shared → Prop
structure Env0 (P : Program) (w : World) (K : Fg) (mg : Str → Option Value) (base : Heap) (A : Around) (outer : List Env) (s : Shared) (H : Hp) : Prop where
 frames : A.frames = some outer
 mod : Mod K mg base
 bs : ∀ b o, base.get? b = some o → s.heap.get? b = some o ∧ H b = none
 bsz : base.objs.size ≤ s.heap.objs.size
 funs : s.heap.FunFrames base outer
 frf : ∀ b ∈ frs outer, H b = none
 hok : HOk P w H s.heap
 bare : AllBare s.gens
def CE (outer : List Env) (P : Program) (w : World) (H : Hp) (s : Shared) (Q : VK) (u : Value) (s' : Shared) : Prop :=
 ∃ v H', s'.os = s.os ∧ AllBare s'.gens ∧ Un (frs outer) [] H H' s.heap s'.heap ∧ HOk P w H' s'.heap ∧ RelV v u ∧ Q v H'
def CR (CX : CXT) (outer : List Env) (P : Program) (w : World) (H : Hp) (s : Shared) (Q : VK) (E : XK) (r : Result) (s' : Shared) : Prop :=
 match r with
 | .ok (.ret u) => CE outer P w H s Q u s'
 | .ok _ => False
 | .error e => CX outer H s E e s'
structure FnOk (P : Program) (w : World) (K : Fg) (mg : Str → Option Value) (base : Heap) (CX : CXT) (k : Nat) (f : Addr) (fd : FuncData) (ps : List Str) (sp : Sp) : Prop where
 len : ∀ vs H Q E, sp vs H Q E → vs.length = ps.length
 run : ∀ (A : Around) (outer : List Env) (s : Shared) (H : Hp) (args : Args) (us : List Value) (vs : List V) (Q : VK) (E : XK), Room k A → Env0 P w K mg base A outer s H → BindsTo s fd args (ps.zip us) → Vals vs us → sp vs H Q E →
  codeAny (model P w) A (.call (.ref f) args) (CR CX outer P w H s Q E) s
theorem Env0.make {P : Program} {w : World} {K : Fg} {mg : Str → Option Value} {base : Heap} {A : Around} {outer : List Env} {s : Shared} {H : Hp} (e : Env0 P w K mg base A outer s H) (C : Addr) (us : List Value) (kw : List (Str × Value)) :
  Env0 P w K mg base (A.under (.builtin "type.__call__" ⟨.ref C :: us, kw⟩)) outer s H := ⟨by first | exact e.frames | (simpa [Around.under, Code.envs, Code.isFrame, pushEnvs] using e.frames), e.mod, e.bs, e.bsz, e.funs, e.frf, e.hok, e.bare⟩
section
variable {X : Cx} {pins : List (Addr × Obj)} {σ : St} {H : Hp} {s s' : Shared}
theorem Inv.env0 (I : Inv X pins σ H s) : Env0 X.prog X.w X.K X.mg X.base X.A X.stack s H :=
 ⟨I.ok.frames, I.ok.mod, I.bs, jQa I.ok.bsz I.sz, I.stack, I.stkFree, I.hok, I.bare⟩
theorem Inv.after {Q : VK} {u : Value} (I : Inv X pins σ H s) (h : CE X.stack X.prog X.w H s Q u s') : EP X pins σ Q u s' := by
 obtain ⟨v, H', os, bare, un, hok, r, q⟩ := h
 obtain ⟨hh, g, d, t, os'⟩ := s'
 obtain rfl : os' = s.os := os
 exact ⟨v, H', I.call (h' := hh) (g' := g) (d' := d) (t' := t) (ch := []) un hok bare (fun b z => absurd z (by simp)), r, q⟩
end
def tCall (sp : Sp) (dvs : List V) (E : XK) (t : TA) : TE := fun σ H Q => t σ H fun vs H1 => sp (vs ++ dvs) H1 Q E
def tMeth (C : Addr) (m : Str) (sp : Sp) (dvs : List V) (E : XK) (ta : TE) (t : TA) : TE := fun σ H Q => ta σ H fun x H1 => ∃ a dx fs, x = .ref a ∧ H1 a = some (.ins C dx fs) ∧ fs.lookup m = none ∧
 t σ H1 fun vs H2 => sp (x :: (vs ++ dvs)) H2 Q E
def tMake (C : Addr) (sp : Sp) (dvs : List V) (E : XK) (t : TA) : TE := fun σ H Q => t σ H fun vs H1 => ∀ x dx, H1 x = none → H1 dx = none → dx ≠ x →
 sp (.ref x :: (vs ++ dvs)) (upd (upd H1 dx (.own x)) x (.ins C dx [])) (fun v H2 => v = .non ∧ Q (.ref x) H2) E
def Binds (K : Fg) (fd : FuncData) (ps : List Str) (ds : List Value) : Prop :=
 ∀ (s : Shared) (us : List Value), K.In s.heap → (us ++ ds).length = ps.length → BindsTo s fd ⟨us, []⟩ (ps.zip (us ++ ds))
theorem Binds.all {K : Fg} {fd : FuncData} {ps : List Str} (h : ∀ us : List Value, us.length = ps.length → bindArgs fd ⟨us, []⟩ = pure (ps.zip us)) : Binds K fd ps [] := fun s us _ hl => by
 rw [jQe] at hl ⊢
 exact .of_eq (h us hl)
def Ws (CX : CXT) (X : Cx) (E : XK) : Prop := ∀ (pins : List (Addr × Obj)) (σ : St) (H : Hp) (s : Shared) (e : Value) (s' : Shared), Inv X pins σ H s → CX X.stack H s E e s' → X.xe e s'
section
variable {X : Cx} {CX : CXT} {k : Nat} {f C : Addr} {fd : FuncData} {ps : List Str} {sp : Sp} {dvs : List V} {ds : List Value} {E : XK} {x m : Str} {p pos apos : Pos} {e o : Expr} {es : List Expr} {ta : TE} {t : TA}
theorem Qlg {pins : List (Addr × Obj)} {σ : St} {H : Hp} {s : Shared} {Q : VK} {us : List Value} {vs : List V} (F : FnOk X.prog X.w X.K X.mg X.base CX k f fd ps sp) (hr : Room k X.A) (hb : Binds X.K fd ps ds) (hd : Vals dvs ds) (hx : Ws CX X E)
  (I : Inv X pins σ H s) (r : Vals vs us) (h : sp (vs ++ dvs) H Q E) : wpAny (model X.prog X.w) X.A (call (.ref f) us) (EP X pins σ Q) X.xe s := by
 have r2 : Vals (vs ++ dvs) (us ++ ds) := r.append hd
 have hl : (us ++ ds).length = ps.length := by rw [← r2.length]; exact F.len _ _ _ _ h
 refine wpAny_call (codeAny_mono (F.run X.A X.stack s H ⟨us, []⟩ (us ++ ds) (vs ++ dvs) Q E hr I.env0 (hb s us I.kIn hl) r2 h) fun r s' hq => ?_)
 cases r with
 | error e => exact hx pins σ H s e s' I hq
 | ok fl =>
  cases fl with
  | ret u => exact I.after hq
  | next => exact False.elim hq
  | brk => exact False.elim hq
  | cont => exact False.elim hq
theorem Qmi (F : FnOk X.prog X.w X.K X.mg X.base CX k f fd ps sp) (hr : Room k X.A) (hg : Gl X x) (hm : X.mg x = some (.ref f)) (hk : PySem.W.keepIn X.K (.ref f) = true) (hb : Binds X.K fd ps ds) (hd : Vals dvs ds) (hx : Ws CX X E)
  (ha : PA X (e :: es) t) (hdb : autoParam ((x == ("__debug__" : Str)) = false) L2.aDec._auto_1) (he : autoParam (starEach (e :: es) X.env = (false, eval e X.env) :: starEach es X.env) L2.aRfl._auto_1) (hpl : autoParam ((backTo pos (starEach es X.env)).any (·.1) = false) L2.aRfl._auto_1) :
  PE X (.Call (.Name x p) (e :: es) [] pos) (tCall sp dvs E t) := by
 intro pins s σ H Q I h
 refine wpAny_Call_Name_kw (Qdb I hg hm ?_ hdb)
 refine PySem.W.callWith_K (h₀ := X.base) I.ok.mod.kin hk (thn (ha pos pins s σ H _ I h) fun us s1 ⟨vs, H1, I1, r, q⟩ => ⟨I1.kIn, ?_⟩) he hpl
 exact Qlg F hr hb hd hx I1 r q
theorem Zi {pl : Sem Bool} (he : PE X o ta) (c : Cls X.K C) (hm : Meth X.K C m f) (F : FnOk X.prog X.w X.K X.mg X.base CX k f fd ps sp) (hr : Room k X.A) (hb : Binds X.K fd ps ds) (hd : Vals dvs ds) (hx : Ws CX X E) (ha : PA X (e :: es) t)
  (hst : autoParam (starEach (e :: es) X.env = (false, eval e X.env) :: starEach es X.env) L2.aRfl._auto_1) (hpl : autoParam ((backTo pos (starEach es X.env)).any (·.1) = false) L2.aRfl._auto_1)
  (ht : eval (.Call (.Attribute o m apos) (e :: es) [] pos) X.env = (do
   let ov ← eval o X.env
   standAt apos.atName
   let (f, first) ← holding [ov] (getMethod ov m pl)
   callWith pos f first (backTo pos (starEach (e :: es) X.env)) (backToKw pos (keywordEach [] X.env))) := by rfl) :
  PE X (.Call (.Attribute o m apos) (e :: es) [] pos) (tMeth C m sp dvs E ta t) := by
 intro pins s σ H Q I h
 refine PySem.W.methodCall_KW (pl := pl) (thn (he pins s σ H _ I h) fun u s1 hqP => ?_) ht
 obtain ⟨x, H1, I1, rx, a, dx, fs, ex, ea, l, q⟩ := hqP
 subst ex
 obtain rfl : u = Value.ref a := rx
 refine Qfd I1 ea c hm l ?_
 refine PySem.W.callWith_K (first := [.ref a]) (h₀ := X.base) I.ok.mod.kin hm.kp (thn (ha pos pins s1 σ H1 _ I1 q) fun us s2 ⟨vs, H2, I2, r, q2⟩ => ⟨I2.kIn, ?_⟩) hst hpl
 exact Qlg (us := .ref a :: us) (vs := .ref a :: vs) F hr hb hd hx I2 (.cons rfl r) q2
structure Mk (K : Fg) (C f : Addr) : Prop where
 makes : PySem.W.makesIn K C = true
 init : PySem.W.findIn K (.ref C) "__init__" = some (some (.ref f))
 fn : PySem.W.isFn K (.ref f) = true
 kp : PySem.W.keepIn K (.ref C) = true
theorem Qiw {pins : List (Addr × Obj)} {σ : St} {H : Hp} {s : Shared} {Q : VK} {us : List Value} {vs : List V} (M : Mk X.K C f) (F : FnOk X.prog X.w X.K X.mg X.base CX k f fd ps sp) (hr : Room (k + 1) X.A) (hb : Binds X.K fd ps ds) (hd : Vals dvs ds)
  (hx : Ws CX X E) (I : Inv X pins σ H s) (r : Vals vs us)
  (h : ∀ x dx, H x = none → H dx = none → dx ≠ x → sp (.ref x :: (vs ++ dvs)) (upd (upd H dx (.own x)) x (.ins C dx [])) (fun v H2 => v = .non ∧ Q (.ref x) H2) E) :
  wpAny (model X.prog X.w) X.A (call (.ref C) us) (EP X pins σ Q) X.xe s := by
 have hq := h (s.heap.objs.size + 1) s.heap.objs.size (I.hok.fresh (kQd _)) (I.hok.fresh (jX _)) (zK (Nat.lt_succ_self _))
 have I2 := Inv.made (C := C) I
 have r2 : Vals (V.ref (s.heap.objs.size + 1) :: (vs ++ dvs)) (Value.ref (s.heap.objs.size + 1) :: (us ++ ds)) := .cons rfl (r.append hd)
 have hl : (Value.ref (s.heap.objs.size + 1) :: us ++ ds).length = ps.length := by
  have e := r2.length
  rw [F.len _ _ _ _ hq] at e
  exact e.symm
 refine wpAny_call (Qiv (f := f) I.kIn M.makes M.init (beq_iff_eq.mp M.fn) (codeAny_mono (F.run _ X.stack _ _ ⟨Value.ref (s.heap.objs.size + 1) :: us, []⟩ (Value.ref (s.heap.objs.size + 1) :: (us ++ ds)) _ _ E (hr.make C us [])
  (I2.env0.make C us []) (hb _ (Value.ref (s.heap.objs.size + 1) :: us) I2.kIn hl) r2 hq) fun r s' hq' => ?_))
 cases r with
 | error e => exact hx pins σ _ _ e s' I2 hq'
 | ok fl =>
  cases fl with
  | ret u =>
   obtain ⟨v, H', I3, rv, ev, q3⟩ := I2.after hq'
   subst ev
   exact ⟨rv, ⟨V.ref (s.heap.objs.size + 1), H', I3, rfl, q3⟩⟩
  | next => exact False.elim hq'
  | brk => exact False.elim hq'
  | cont => exact False.elim hq'
theorem Qmj (M : Mk X.K C f) (F : FnOk X.prog X.w X.K X.mg X.base CX k f fd ps sp) (hr : Room (k + 1) X.A) (hg : Gl X x) (hm : X.mg x = some (.ref C)) (hb : Binds X.K fd ps ds) (hd : Vals dvs ds) (hx : Ws CX X E)
  (ha : PA X (e :: es) t) (hdb : autoParam ((x == ("__debug__" : Str)) = false) L2.aDec._auto_1) (he : autoParam (starEach (e :: es) X.env = (false, eval e X.env) :: starEach es X.env) L2.aRfl._auto_1) (hpl : autoParam ((backTo pos (starEach es X.env)).any (·.1) = false) L2.aRfl._auto_1) :
  PE X (.Call (.Name x p) (e :: es) [] pos) (tMake C sp dvs E t) := by
 intro pins s σ H Q I h
 refine wpAny_Call_Name_kw (Qdb I hg hm ?_ hdb)
 refine PySem.W.callWith_K (h₀ := X.base) I.ok.mod.kin M.kp (thn (ha pos pins s σ H _ I h) fun us s1 ⟨vs, H1, I1, r, q⟩ => ⟨I1.kIn, ?_⟩) he hpl
 exact Qiw M F hr hb hd hx I1 r q
end
section
variable {X : Cx} {CX : CXT} {k : Nat} {f C : Addr} {fd : FuncData} {ps ks : List Str} {sp : Sp} {E : XK} {x m : Str} {p pos apos kpos : Pos} {e o : Expr} {es : List Expr} {kws : List Keyword} {te ta : TE} {t tk : TA} {nm : Option Str}
variable {g : List Value → List Value → List Value} {gV : List V → List V → List V}
end
structure FnScope (N P : List Str) (sc : Scope) : Prop where
 kind : sc.kind = .function
 co : sc.isCoroutine = false
 gen : sc.isGenerator = false
 nd : N.Nodup
 pre : N.take P.length = P
 par : ∀ x ∈ P, sc.names.lookup x = some .local ∨ sc.names.lookup x = some .cell
 nofree : ∀ y ∈ sc.names, y.2 ≠ .free
theorem Qbq {kindOf : Str → Option NameKind} {x : Str} : ∀ {binds : List (Str × Value)} {m : Str → Option Value}, (∀ v, (x, v) ∉ binds) → bindL kindOf binds m x = m x
 | [], _, _ => rfl
 | (n, v) :: r, m, h => by
  unfold bindL
  rw [Qbq fun w hw => h w (zQ _ hw)]
  split
  ·have : x ≠ n := by rintro rfl; exact h v jK
   simp [this]
  ·rfl
theorem Qbr {kindOf : Str → Option NameKind} {x : Str} : ∀ {binds : List (Str × Value)} {m : Str → Option Value}, (∀ v, (x, v) ∉ binds) → bindC kindOf binds m x = m x
 | [], _, _ => rfl
 | (n, v) :: r, m, h => by
  unfold bindC
  rw [Qbr fun w hw => h w (zQ _ hw)]
  split
  ·rfl
  ·have : x ≠ n := by rintro rfl; exact h v jK
   simp [this]
theorem Qbs {kindOf : Str → Option NameKind} {x : Str} {v : Value} : ∀ {P : List Str} {vs : List Value} {i : Nat} {m : Str → Option Value}, P.Nodup → P[i]? = some x → vs[i]? = some v → kindOf x = some .local →
  bindL kindOf (P.zip vs) m x = some v
 | [], _, _, _, _, h, _, _ => by simp at h
 | _ :: _, [], _, _, _, _, h, _ => by simp at h
 | p :: P, w :: vs, 0, m, nd, h1, h2, hk => by
  simp at h1 h2; subst h1; subst h2
  show bindL kindOf ((p, w) :: P.zip vs) m p = _
  unfold bindL
  rw [Qbq fun v hv => (jXd.mp nd).1 (List.of_mem_zip hv).1, if_pos hk]
  simp
 | p :: P, w :: vs, i + 1, m, nd, h1, h2, hk => by
  show bindL kindOf ((p, w) :: P.zip vs) m x = _
  unfold bindL
  exact Qbs (i := i) (jXd.mp nd).2 (by simpa using h1) (by simpa using h2) hk
theorem Qbt {kindOf : Str → Option NameKind} {x : Str} {v : Value} : ∀ {P : List Str} {vs : List Value} {i : Nat} {m : Str → Option Value}, P.Nodup → P[i]? = some x → vs[i]? = some v → kindOf x ≠ some .local →
  bindC kindOf (P.zip vs) m x = some v
 | [], _, _, _, _, h, _, _ => by simp at h
 | _ :: _, [], _, _, _, _, h, _ => by simp at h
 | p :: P, w :: vs, 0, m, nd, h1, h2, hk => by
  simp at h1 h2; subst h1; subst h2
  show bindC kindOf ((p, w) :: P.zip vs) m p = _
  unfold bindC
  rw [Qbr fun v hv => (jXd.mp nd).1 (List.of_mem_zip hv).1, if_neg hk]
  simp
 | p :: P, w :: vs, i + 1, m, nd, h1, h2, hk => by
  show bindC kindOf ((p, w) :: P.zip vs) m x = _
  unfold bindC
  exact Qbt (i := i) (jXd.mp nd).2 (by simpa using h1) (by simpa using h2) hk
def start (N : List Str) (vs : List V) : St := vs.map some ++ List.replicate (N.length - vs.length) none
def cxOf (CX : CXT) (P : Program) (w : World) (K : Fg) (mg : Str → Option Value) (base : Heap) (N : List Str) (qual : Str) (scope : Scope) (f : Addr) (cd : Value) (A : Around) (outer : List Env) (s : Shared) (H : Hp) (E : XK) : Cx where
 prog := P
 w := w
 K := K
 mg := mg
 base := base
 A := A.deeper (envOfC qual scope s.heap.objs.size f cd)
 N := N
 s₀ := s
 H₀ := H
 env := envOfC qual scope s.heap.objs.size f cd
 outer := outer
 stack := envOfC qual scope s.heap.objs.size f cd :: outer
 ex := []
 calm := true
 fn := fun _ => true
 pn := []
 xe := fun e s' => wpAny (model P w) (A.deeper (envOfC qual scope s.heap.objs.size f cd)) (leaving (envOfC qual scope s.heap.objs.size f cd) e) (fun _ s'' => CX outer H s E e s'') (fun e' s'' => CX outer H s E e' s'') s'
theorem Qee {sc : Scope} {n : Nat} {x : Str} (h : sc.names.lookup x = some .cell) : ∃ c, (cellsFrom n sc.names []).lookup x = some c := by
 have q := PySem.W.cellsFrom_some sc.names n [] (.inl h)
 exact jZa.mp q
theorem Qgn {CX : CXT} {P : Program} {w : World} {K : Fg} {mg : Str → Option Value} {base : Heap} {N ps : List Str} {qual : Str} {scope : Scope} {f : Addr} {cd : Value} {A : Around} {outer : List Env} {s s1 : Shared} {H : Hp} {E : XK} {us : List Value} {vs : List V}
  (S : FnScope N ps scope) (hd : A.handled = none) (e0 : Env0 P w K mg base A outer s H) (hl : vs.length = ps.length) (r : Vals vs us)
  (x : InCallC s s.heap.objs.size (bindL (envOfC qual scope s.heap.objs.size f cd).kindOf (ps.zip us) fun _ => none) (cellsFrom (s.heap.objs.size + 1) scope.names []) (bindC (envOfC qual scope s.heap.objs.size f cd).kindOf (ps.zip us) fun _ => none) s1) :
  Inv (cxOf CX P w K mg base N qual scope f cd A outer s H E) [] (start N vs) H s1 := by
 have hpl : ps.length ≤ N.length := by have := congrArg List.length S.pre; rw [xZ] at this; omega
 obtain ⟨h1, tk, rfl, hk⟩ := x.done
 have noA : ∀ b : Addr, b ∉ (cxOf CX P w K mg base N qual scope f cd A outer s H E).ex := fun b z => absurd (show b ∈ ([] : List Addr) from z) (by simp)
 refine ⟨⟨e0.mod, S.kind, rfl, rfl, jX _, fun y z c h1 h2 => ?_, fun y hy => ?_, fun y c _ h => ?_, fun _ => hd, Around.frames_deeper e0.frames, .inr ⟨rfl, rfl⟩, fun b z => absurd z (noA b), e0.bs, e0.bsz, fun b _ _ => noA b, fun b z => absurd z (noA b), e0.funs, e0.frf⟩,
  rfl, e0.bare, Un.kept hk, ⟨_, x.toInCall.ns, fun i y v h1 h2 h3 => ?_⟩, fun y c h => ⟨_, x.cell y c h⟩, e0.hok.fresh (jX _), fun y c h => ?_, fun p hp => absurd (show p ∈ ([] : List (Addr × Obj)) from hp) (by simp), e0.hok.kept hk, ?_⟩
 ·exact name_of_addr x.apart (PySem.mem_of_lookup h1) (PySem.mem_of_lookup h2)
 ·have hy : scope.names.lookup y = some .cell ∨ scope.names.lookup y = some .free := hy
  rcases hy with hy | hy
  ·exact Qee hy
  ·exact absurd rfl (S.nofree _ (PySem.mem_of_lookup hy))
 ·exact Nat.le_of_lt (x.above y c (PySem.mem_of_lookup h))
 ·have hi : i < vs.length := by
   unfold start at h2
   by_cases hi : i < vs.length
   ·exact hi
   ·rw [List.getElem?_append_right (by simpa using hi)] at h2
    rw [List.getElem?_replicate] at h2
    split at h2 <;> cases h2
  have ha : vs[i]? = some v := by
   unfold start at h2
   rw [jYc (by simpa using hi), yY] at h2
   cases e : vs[i]? with
   | none => rw [e] at h2; cases h2
   | some a => rw [e] at h2; cases h2; rfl
  obtain ⟨u, hu, rv⟩ := r.get ha
  have hp : ps[i]? = some y := by
   rw [← S.pre, List.getElem?_take_of_lt (by omega)]; exact h1
  have ndP : ps.Nodup := by rw [← S.pre]; exact S.nd.sublist (List.take_sublist _ _)
  refine ⟨u, rv, ?_⟩
  rcases S.par y (yV hp) with k | k
  ·exact .inl ⟨k, Qbs ndP hp hu k⟩
  ·obtain ⟨c, e⟩ := Qee (n := s.heap.objs.size + 1) k
   refine .inr ⟨.inl k, c, e, ?_⟩
   have q := x.cell y c e
   rw [Qbt ndP hp hu (by show scope.names.lookup y ≠ _; rw [k]; decide)] at q
   exact q
 ·exact e0.hok.fresh (Nat.le_of_lt (x.above y c (PySem.mem_of_lookup h)))
 ·unfold start
  show _ = N.length
  rw [jY, jZ, List.length_replicate]
  omega
theorem fn_of {CX : CXT} {P : Program} {w : World} {K : Fg} {mg : Str → Option Value} {base : Heap} {k : Nat} {f : Addr} {name qual : Str} {params : Arguments} {body : List Stmt} {scope : Scope} {dV kV doc pm cdv ct oc : Value} {an od : Option Addr}
  {osl : Array (Option Value)} {N ps : List Str} {sp : Sp} (lk : K.lookup f = some ⟨oc, od, .func (PySem.W.fnOf name qual params body scope dV kV doc pm an cdv ct), osl⟩) (hcd : PySem.W.codeIn K cdv qual = true) (S : FnScope N ps scope)
  (len : ∀ vs H Q E, sp vs H Q E → vs.length = ps.length)
  (hbody : ∀ (A : Around) (outer : List Env) (s : Shared) (H : Hp) (vs : List V) (Q : VK) (E : XK), Room k (A.deeper (envOfC qual scope s.heap.objs.size f cdv)) → sp vs H Q E →
   ∃ t, PSs (cxOf CX P w K mg base N qual scope f cdv A outer s H E) body t ∧ t { nx := fun _ H' => Q .non H', rt := Q } (start N vs) H) :
  FnOk P w K mg base CX (k + 1) f (PySem.W.fnOf name qual params body scope dV kV doc pm an cdv ct) ps sp := by
 refine ⟨len, fun A outer s H args us vs Q E hr e0 hb r hsp => ?_⟩
 have hl := len _ _ _ _ hsp
 have KX : K.In s.heap := e0.mod.kin.keeps fun b o e => (e0.bs b o e).1
 have lim : s.heap.NoLimit := e0.mod.nolimit.keeps fun b o e => (e0.bs b o e).1
 have hkind : ∀ y ∈ ps.zip us, scope.names.lookup y.1 = some .local ∨ (scope.names.lookup y.1 = some .cell ∧ ((cellsFrom (s.heap.objs.size + 1) scope.names []).lookup y.1).isSome = true) := fun ⟨n, v⟩ hy => by
  rcases S.par n (List.of_mem_zip hy).1 with q | q
  ·exact .inl q
  ·exact .inr ⟨q, PySem.W.cellsFrom_some _ _ _ (.inl q)⟩
 refine codeAny_call_function hr.depth (KX _ _ lk) rfl S.co S.gen rfl (PySem.W.codeRec_of KX hcd) (hb _ _ _ _ ?_)
 refine wpAny_newFunctionEnv_cells S.kind hkind fun env he s1 x => ?_
 subst he
 refine ⟨lim.keeps x.toInCall.keep, codeAny_func ?_⟩
 obtain ⟨t, ht, hq⟩ := hbody A outer s H vs Q E (hr.deeper _) hsp
 have I : Inv (cxOf CX P w K mg base N qual scope f cdv A outer s H E) [] (start N vs) H s1 := Qgn S hr.hd e0 hl r x
 refine wpAny_mono (ht [] s1 (start N vs) H _ I hq) (fun fl s' hs => ?_) fun e s' hs => hs
 have fin : ∀ {σ' : St} {H' : Hp} {v : V} {u : Value}, Inv (cxOf CX P w K mg base N qual scope f cdv A outer s H E) [] σ' H' s' → RelV v u → Q v H' → CE outer P w H s Q u s' :=
  fun {σ' H' v u} J rv q => ⟨v, H', J.os, J.bare, J.base, J.hok, rv, q⟩
 cases fl with
 | ret u =>
  obtain ⟨v, σ', H', J, rv, q⟩ := hs
  exact fin J rv q
 | next =>
  obtain ⟨σ', H', J, q⟩ := hs
  exact fin (v := V.non) (u := Value.none) J rfl q
 | brk =>
  obtain ⟨_, _, _, q⟩ := hs
  exact False.elim q
 | cont =>
  obtain ⟨_, _, _, q⟩ := hs
  exact False.elim q
section
variable {X : Cx} {x : Str} {p pos : Pos} {e : Expr} {es : List Expr} {t : TA} {id T : String} {r : List V → Hp → VK → Prop}
def tCB (r : List V → Hp → VK → Prop) (t : TA) : TE := fun σ H Q => t σ H fun vs H1 => r vs H1 Q
theorem Qs (hc : Zq X (.builtin id) r) (hg : Gl X x) (hm : X.mg x = none) (hv : bootBuiltins x = some (.builtin id)) (ha : PA X (e :: es) t) (hn : autoParam (x ≠ "__name__") L2.aDec._auto_1) (hdb : autoParam ((x == ("__debug__" : Str)) = false) L2.aDec._auto_1)
  (he : autoParam (starEach (e :: es) X.env = (false, eval e X.env) :: starEach es X.env) L2.aRfl._auto_1) (hpl : autoParam ((backTo pos (starEach es X.env)).any (·.1) = false) L2.aRfl._auto_1) : PE X (.Call (.Name x p) (e :: es) [] pos) (tCB r t) := by
 intro pins s σ H Q I h
 refine wpAny_Call_Name_kw (Vg I hg hm hv ?_ hn hdb)
 exact PyProof.Rows.callWith_builtin1 (thn (ha pos pins s σ H _ I h) fun us s1 ⟨vs, H1, I1, r1, q1⟩ => hc pins s1 σ H1 vs us Q I1 r1 q1) he hpl
theorem Xz (hc : Zq X (.type T) r) (hg : Gl X x) (hm : X.mg x = none) (hv : bootBuiltins x = some (.type T)) (ha : PA X (e :: es) t) (hn : autoParam (x ≠ "__name__") L2.aDec._auto_1) (hdb : autoParam ((x == ("__debug__" : Str)) = false) L2.aDec._auto_1)
  (he : autoParam (starEach (e :: es) X.env = (false, eval e X.env) :: starEach es X.env) L2.aRfl._auto_1) (hpl : autoParam ((backTo pos (starEach es X.env)).any (·.1) = false) L2.aRfl._auto_1) : PE X (.Call (.Name x p) (e :: es) [] pos) (tCB r t) := by
 intro pins s σ H Q I h
 refine wpAny_Call_Name_kw (Vg I hg hm hv ?_ hn hdb)
 exact PyProof.Rows.callWith_type1 (thn (ha pos pins s σ H _ I h) fun us s1 ⟨vs, H1, I1, r1, q1⟩ => hc pins s1 σ H1 vs us Q I1 r1 q1) he hpl
end
end L2
namespace HT
open PySem PyProof.Rows
section
open PySem.SeqAt
open PySem.AutoSeq1 (wpAny_loadPart')
open PySem.MeetsSeq PySem.MeetsSeq2 PySem.MeetsSeq3
end
section
variable {prog : Program} {w : World} {A : Around} {E : Value → Shared → Prop} {s : Shared}
theorem cat_tup {t b : Addr} {vs ws : List Value} {Q : Value → Shared → Prop} (ht : IsTup s.heap t vs.toArray) (hb : IsTup s.heap b ws.toArray) (hv : vs ≠ [])
  (h1 : ws = [] → Q (.ref t) s) (h2 : ws ≠ [] → Q (.ref s.heap.objs.size) { s with heap := s.heap.push { cls := .type "tuple", data := .seq (vs ++ ws).toArray } })
  (hsz : vs.length + ws.length ≤ sizeLine) : wpAny (model prog w) A (binaryOp .Add (.ref t) (.ref b)) Q E s := by
 obtain ⟨⟨cls, dd, data, sl⟩, ho, hc, n, hd⟩ := id ht
 obtain ⟨⟨cls2, dd2, data2, sl2⟩, ho2, hc2, n2, hd2⟩ := id hb
 simp only at hc hd hc2 hd2
 subst hc hd hc2 hd2
 have e : vs.toArray ++ ws.toArray = (vs ++ ws).toArray := by simp
 by_cases hw : ws = []
 ·exact concat_meets ⟨_, ho, rfl⟩ ⟨_, ho2, rfl⟩ noFill_tuple_add seq_tuple_add PySem.F.slot_tuple_add PySem.F.entry_tuple_add (PySem.F.args_tuple_add_2 _ _)
   (tuple_addW1 t b vs.toArray ws.toArray n n2 dd dd2 sl sl2 (by simpa using hv) (by simp [hw])) ⟨ho, ho2, h1 hw⟩
 ·refine concat_meets ⟨_, ho, rfl⟩ ⟨_, ho2, rfl⟩ noFill_tuple_add seq_tuple_add PySem.F.slot_tuple_add PySem.F.entry_tuple_add (PySem.F.args_tuple_add_2 _ _)
   (tuple_addW2 t b vs.toArray ws.toArray n n2 dd dd2 sl sl2 (by simpa using hv) (by simpa using hw) (by rw [jV, jV]; exact hsz)) ⟨ho, ho2, ?_⟩
  rw [e]
  exact h2 hw
def sIx (n d : Nat) : Option Int → Nat
 | none => d
 | some v => if v < 0 then (v + (n : Int)).toNat else min v.toNat n
theorem sIx_none (n d : Nat) : sIx n d none = d := rfl
theorem sIx_nat (n d k : Nat) : sIx n d (some (k : Int)) = min k n := by
 show (if (k : Int) < 0 then ((k : Int) + (n : Int)).toNat else min (k : Int).toNat n) = min k n
 rw [if_neg (by omega), jYe]
theorem sIx_le (n d : Nat) (hd : d ≤ n) (o : Option Int) : sIx n d o ≤ n := by
 cases o with
 | none => exact hd
 | some v =>
  show (if v < 0 then (v + (n : Int)).toNat else min v.toNat n) ≤ n
  by_cases hv : v < 0
  ·rw [if_pos hv]; omega
  ·rw [if_neg hv]; exact Nat.min_le_right _ _
theorem min_cast (v : Int) (n : Nat) (h : ¬ v < 0) : min v (n : Int) = ((min v.toNat n : Nat) : Int) := by
 obtain ⟨k, rfl⟩ := Int.eq_ofNat_of_zero_le (Int.not_lt.mp h)
 rw [jYe]
 rcases Nat.le_total k n with h | h
 ·rw [jJa h, Int.min_eq_left (Int.ofNat_le.mpr h)]
 ·rw [Nat.min_eq_right h, Int.min_eq_right (Int.ofNat_le.mpr h)]
theorem clip_eq (v : Int) (n d : Nat) : (if v < 0 then max (v + (n : Int)) 0 else min v (n : Int)) = ((sIx n d (some v) : Nat) : Int) := by
 show (if v < 0 then max (v + (n : Int)) 0 else min v (n : Int)) = (((if v < 0 then (v + (n : Int)).toNat else min v.toNat n) : Nat) : Int)
 by_cases hv : v < 0
 ·rw [if_pos hv, if_pos hv]; exact (Int.ofNat_toNat _).symm
 ·rw [if_neg hv, if_neg hv]; exact min_cast v n hv
theorem Qfh (lo hi : Option Int) (n : Nat) : Builtin.Slice.sliceAdjust lo hi 1 (n : Int) = (((sIx n 0 lo : Nat) : Int), ((sIx n n hi : Nat) : Int)) := by
 have h1 : ¬ ((1 : Int) < 0) := by omega
 unfold Builtin.Slice.sliceAdjust
 simp only [h1, if_false]
 refine Prod.ext ?_ ?_
 ·cases lo with
  | none => rfl
  | some v => exact clip_eq v n 0
 ·cases hi with
  | none => rfl
  | some v => exact clip_eq v n n
theorem Qfi (i j : Nat) : Builtin.Slice.slicePlaces (i : Int) (j : Int) 1 = j - i := by
 unfold Builtin.Slice.slicePlaces
 have h1 : (1 : Int) > 0 := by omega
 simp only [h1, if_true, Int.ediv_one]
 split <;> omega
theorem Wt {v : Value} {o : Option Int} {Q : Option Int → Shared → Prop} (p : IsPart v o) (h : Q o s) : wpAny (model prog w) A (Builtin.Slice.slicePartIndex v) Q E s := by
 cases p with
 | none => exact slicePart_none h
 | int i t => exact slicePart_int h
theorem Kv {sl : Addr} {vl vu : Value} {lo hi : Option Int} {n : Nat} {Q : Int × Int × Nat → Shared → Prop} (hs : s.heap.IsSliceOf sl vl vu .none) (pl : IsPart vl lo) (pu : IsPart vu hi)
  (h : Q (((sIx n 0 lo : Nat) : Int), 1, sIx n n hi - sIx n 0 lo) s) : wpAny (model prog w) A (Builtin.Slice.sliceApplied (.ref sl) (pure (n : Int))) Q E s := by
 obtain ⟨os, hos, hcs, hds⟩ := id hs
 unfold Builtin.Slice.sliceApplied Builtin.Slice.sliceFields
 refine jQ (jQ (wpAny_field hos hds (x := vl) rfl (jQ (wpAny_field hos hds (x := vu) rfl (jQ (wpAny_field hos hds (x := .none) rfl (jW ?_)))))))
 refine jQ (slicePart_none ?_)
 show wpAny _ _ (if ((1 : Int) == 0) = true then _ else _) _ _ s
 rw [if_neg (by decide)]
 refine jQ (Wt pl (jQ (Wt pu (jQ (jW ?_)))))
 show wpAny _ _ (match Builtin.Slice.sliceAdjust lo hi 1 (n : Int) with | (lo, hi) => pure (lo, (1 : Int), Builtin.Slice.slicePlaces lo hi 1)) _ _ s
 rw [Qfh lo hi n]
 show wpAny _ _ (pure (((sIx n 0 lo : Nat) : Int), (1 : Int), Builtin.Slice.slicePlaces ((sIx n 0 lo : Nat) : Int) ((sIx n n hi : Nat) : Int) 1)) _ _ s
 rw [Qfi]
 exact jW h
theorem Qix (xs : Array Value) (i k : Nat) : ((List.range k).filterMap fun (m : Nat) => xs[((i : Int) + (m : Int) * 1).toNat]?).toArray = ((xs.toList.drop i).take k).toArray := by
 have e : (fun (m : Nat) => xs[((i : Int) + (m : Int) * 1).toNat]?) = fun m => xs[i + m]? := by
  funext m
  have : ((i : Int) + (m : Int) * 1).toNat = i + m := by omega
  rw [this]
 rw [e]
 have := pick_run xs i k
 rw [List.filterMap_map] at this
 have e2 : ((fun x => xs[x]?) ∘ fun x => i + x) = fun m => xs[i + m]? := rfl
 rw [e2] at this
 rw [this]
theorem getItem_tuple_cut {t sl : Addr} {items : Array Value} {vl vu : Value} {lo hi : Option Int} {Q : Value → Shared → Prop} (ht : IsTup s.heap t items) (hs : s.heap.IsSliceOf sl vl vu .none) (pl : IsPart vl lo) (pu : IsPart vu hi)
  (hw : ¬ (sIx items.size 0 lo = 0 ∧ sIx items.size items.size hi = items.size))
  (h : Q (.ref s.heap.objs.size) { s with heap := s.heap.push { cls := .type "tuple", data := .seq ((items.toList.drop (sIx items.size 0 lo)).take (sIx items.size items.size hi - sIx items.size 0 lo)).toArray } })
  (hsz : items.size ≤ sizeLine) : wpAny (model prog w) A (getItem (.ref t) (.ref sl)) Q E s := by
 have htake : sizeOk (.seq ((items.toList.drop (sIx items.size 0 lo)).take (sIx items.size items.size hi - sIx items.size 0 lo)).toArray) := by
  show ((items.toList.drop (sIx items.size 0 lo)).take (sIx items.size items.size hi - sIx items.size 0 lo)).toArray.size ≤ sizeLine
  rw [jV, xZ, jZb, jJf]
  omega
 have hj : sIx items.size items.size hi ≤ items.size := sIx_le _ _ (jX _) hi
 obtain ⟨os, hos, hcs, hds⟩ := id hs
 have hTs : s.TypeIs (.ref sl) "slice" := ⟨os, hos, hcs⟩
 unfold getItem
 try with_reducible refine wpAny_holding ?_
 first | refine jQ (jW ?_) | skip
 refine jQ (wpAny_sequenceKey ht.typeIs (by decide) ?_)
 refine jQ (wpAny_callSpecial?_slot (name := Str.ofString "__getitem__") ht.typeIs PyProof.Rows.slot_tuple_getitem
  (wpAny_call_entry PyProof.Rows.slot_tuple_getitem ht.typeIs entry_tuple_getitem ?_ (args_tuple_getitem _ _)))
 show wpAny _ _ (Builtin.Tuple.tupleItemsOf (.ref t) >>= _) _ _ s
 refine jQ (tupleItemsOf_ ht ?_)
 refine jQ (wpAny_typeOf hTs ?_)
 rw [if_pos (by decide)]
 refine jQ (Kv hs pl pu ?_)
 have hno : ¬ ((((sIx items.size 0 lo : Nat) : Int) == 0 && (1 : Int) == 1 && (sIx items.size items.size hi - sIx items.size 0 lo) == items.size) = true) := by
  intro q
  rw [wX, wX] at q
  have q1 : ((sIx items.size 0 lo : Nat) : Int) = 0 := eq_of_beq q.1.1
  have q2 : sIx items.size items.size hi - sIx items.size 0 lo = items.size := eq_of_beq q.2
  exact hw ⟨by omega, by omega⟩
 show wpAny _ _ (if (((sIx items.size 0 lo : Nat) : Int) == 0 && (1 : Int) == 1 && (sIx items.size items.size hi - sIx items.size 0 lo) == items.size) = true then _ else _) _ _ s
 rw [if_neg hno, Qix]
 first
  | exact jQ (m := Builtin.Tuple.tupleExact _) (wpAny_newObj_type (jW ⟨_, rfl, jW h⟩) htake)
  | exact jQ (m := Builtin.Tuple.tupleExact _) (wpAny_newObj_type (jQ (jW (jW ⟨_, rfl, jW h⟩))) htake)
  | exact jQ (jQ (m := Builtin.Tuple.tupleExact _) (wpAny_newObj_type (jW (jW ⟨_, rfl, jW h⟩)) htake))
  | exact jQ (jQ (m := Builtin.Tuple.tupleExact _) (wpAny_newObj_type (jW ⟨_, rfl, jW h⟩) htake))
end
end HT
namespace L2
open PySem PySem.Spec PyProof.Rows
abbrev TO := St → Hp → (Option Int → Hp → Prop) → Prop
def PO (X : Cx) (e : Option Expr) (t : TO) : Prop :=
 ∀ (pins : List (Addr × Obj)) (s : Shared) (σ : St) (H : Hp) (Q : Option Int → Hp → Prop), Inv X pins σ H s → t σ H Q →
  wpAny (model X.prog X.w) X.A (evalPart e X.env) (fun u s' => ∃ o H', Inv X pins σ H' s' ∧ IsPart u o ∧ Q o H') X.xe s
def Qmk : TO := fun _ H Q => Q none H
def tPart (t : TE) : TO := fun σ H Q => t σ H fun x H1 => ∃ i, x = .int i ∧ Q (some i) H1
theorem intsAre_of {ns : List Int} : ∀ {us : List Value}, Vals (ns.map V.int) us → IntsAre us ns := by
 induction ns with
 | nil => intro us r; rw [jKe] at r; cases r; exact .nil
 | cons n ns ih =>
  intro us r
  rw [zJ] at r
  cases r with
  | cons r1 r2 =>
   obtain ⟨t, e⟩ := r1
   subst e
   exact .cons n t (ih r2)
section
variable {X : Cx} {e : Expr} {te : TE} {lo hi : Option Expr} {tl th : TO} {pos p2 : Pos}
theorem Zd : PO X none Qmk := by
 intro pins s σ H Q I h
 rw [evalPart_none]
 exact jW ⟨none, H, I, .none, h⟩
theorem Yf (h : PE X e te) : PO X (some e) (tPart te) := by
 intro pins s σ H Q I hw
 rw [evalPart_some]
 refine thn (h pins s σ H _ I hw) fun u s1 hqP => ?_
 obtain ⟨x, H1, I1, r1, q1⟩ := hqP
 obtain ⟨i, rfl, q⟩ := q1
 obtain ⟨t, rfl⟩ := r1
 exact ⟨some i, H1, I1, .int i t, q⟩
def SlR (X : Cx) (r : V → Option Int → Option Int → Hp → VK → Prop) : Prop :=
 ∀ (pins : List (Addr × Obj)) (s : Shared) (σ : St) (H : Hp) (x : V) (v vl vu : Value) (lo hi : Option Int) (sl : Addr) (Q : VK), Inv X pins σ H s → RelV x v → s.heap.IsSliceOf sl vl vu .none → IsPart vl lo → IsPart vu hi → r x lo hi H Q →
  ∃ T id, typeLookup (.type T) "__getitem__" = pure (some (.builtin id)) ∧ s.TypeIs v T ∧ wpAny (model X.prog X.w) X.A (getItem v (.ref sl)) (EP X pins σ Q) X.xe s
def tSl (r : V → Option Int → Option Int → Hp → VK → Prop) (te : TE) (tl th : TO) : TE := fun σ H Q => te σ H fun x H1 => tl σ H1 fun l H2 => th σ H2 fun u H3 => r x l u H3 Q
theorem Yc {r : V → Option Int → Option Int → Hp → VK → Prop} (hr : SlR X r) (he : PE X e te) (hl : PO X lo tl) (hu : PO X hi th) : PE X (.Subscript e (.Slice lo hi none p2) pos) (tSl r te tl th) := by
 intro pins s σ H Q I h
 refine Subscript_ (thn (he pins s σ H _ I h) fun v s1 hqP => ?_)
 obtain ⟨x, H1, I1, r1, q1⟩ := hqP
 refine wpAny_Slice (thn (hl pins s1 σ H1 _ I1 q1) fun vl s2 ⟨l, H2, I2, pl, q2⟩ => thn (hu pins s2 σ H2 _ I2 q2) fun vu s3 hqP => ?_)
 obtain ⟨u, H3, I3, pu, q3⟩ := hqP
 rw [evalPart_none]
 refine jW ?_
 have I4 : Inv X pins σ H3 { s3 with heap := s3.heap.push { cls := .type "slice", data := .fields #[vl, vu, .none] } } := I3.kept (t' := s3.toks) fun b ob q => jJ _ q
 obtain ⟨T, id, hT, ht, hg⟩ := hr pins { s3 with heap := s3.heap.push { cls := .type "slice", data := .fields #[vl, vu, .none] } } σ H3 x v vl vu l u s3.heap.objs.size Q I4 r1 (Heap.IsSliceOf.new ..) pl pu q3
 show wpAny (model X.prog X.w) X.A (subscriptTail e (.Slice lo hi none p2) v (.ref s3.heap.objs.size)) (EP X pins σ Q) X.xe { s3 with heap := s3.heap.push { cls := .type "slice", data := .fields #[vl, vu, .none] } }
 exact tail_any (ops := [.ref s3.heap.objs.size, v]) ht hT hg (by with_unfolding_all rfl)
def cutV (xs : List V) (lo hi : Option Int) : List V := (xs.drop (HT.sIx xs.length 0 lo)).take (HT.sIx xs.length xs.length hi - HT.sIx xs.length 0 lo)
theorem Vl (xs : List V) (lo hi : Option Int) : (cutV xs lo hi).length ≤ xs.length := by
 unfold cutV
 rw [xZ, jZb]
 omega
def rSlT (K : Fg) : V → Option Int → Option Int → Hp → VK → Prop := fun x lo hi H Q => ∃ a xs, x = .ref a ∧ SqT K H a xs ∧
 ¬ (HT.sIx xs.length 0 lo = 0 ∧ HT.sIx xs.length xs.length hi = xs.length) ∧ ∀ p, H p = none → Q (.ref p) (upd H p (.tup (cutV xs lo hi)))
theorem Qlh : SlR X (rSlT X.K) := by
 intro pins s σ H x v vl vu lo hi sl Q I rx hs pl pu h
 obtain ⟨a, xs, rfl, hx, hw, q⟩ := h
 cases rx
 obtain ⟨its, r, ht, hz⟩ := I.tuple hx
 have hlen : its.toArray.size = xs.length := by rw [jV]; exact r.length.symm
 refine ⟨"tuple", _, PyProof.Rows.slot_tuple_getitem.lookup, ht.typeIs, ?_⟩
 refine HT.getItem_tuple_cut ht hs pl pu (by rw [hlen]; exact hw) ?_ (by rw [hlen]; exact hz)
 rw [hlen]
 refine ⟨.ref s.heap.objs.size, _, I.laid (t' := s.toks) (o := .tup (cutV xs lo hi)) (fun b ob q => jJ _ q) (jX _) ?_, rfl, q _ (I.hok.fresh (jX _))⟩
 exact ⟨jQa (Vl xs lo hi) hz, _, (r.drop (HT.sIx xs.length 0 lo)).take (HT.sIx xs.length xs.length hi - HT.sIx xs.length 0 lo), IsTup.new _ _⟩
def rCatT (K : Fg) : R2 := fun x y H Q => ∃ a b xs ys, x = .ref a ∧ y = .ref b ∧ SqT K H a xs ∧ SqT K H b ys ∧ xs ≠ [] ∧ xs.length + ys.length ≤ sizeLine ∧
 (ys = [] → Q (.ref a) H) ∧ (ys ≠ [] → ∀ p, H p = none → Q (.ref p) (upd H p (.tup (xs ++ ys))))
theorem Vals.nil_iff {xs : List V} {us : List Value} (r : Vals xs us) : us = [] ↔ xs = [] := by
 cases r with
 | nil => simp
 | cons _ _ => simp
theorem Qah : OpR X (binaryOp .Add) (rCatT X.K) := by
 intro pins s σ H x y v u Q I rx ry h
 obtain ⟨a, b, xs, ys, rfl, rfl, ha, hb, hx, hz, q1, q2⟩ := h
 cases rx
 cases ry
 obtain ⟨its, r1, p1, _⟩ := I.tuple ha
 obtain ⟨its2, r2, p2, _⟩ := I.tuple hb
 refine HT.cat_tup p1 p2 (fun z => hx (r1.nil_iff.mp z)) (fun z => ⟨.ref a, H, I, rfl, q1 (r2.nil_iff.mp z)⟩) (fun z => ?_) (by rw [← r1.length, ← r2.length]; exact hz)
 refine ⟨.ref s.heap.objs.size, _, I.laid (t' := s.toks) (o := .tup (xs ++ ys)) (fun b ob q => jJ _ q) (jX _) ?_, rfl, q2 (fun w => z (r2.nil_iff.mpr w)) _ (I.hok.fresh (jX _))⟩
 exact ⟨by rw [jY]; exact hz, _, r1.append r2, IsTup.new _ _⟩
end
def ixN (n : Nat) (i : Int) : Option Nat := if 0 ≤ i then (if i < n then some i.toNat else none) else if -(n : Int) ≤ i then some (i + n).toNat else none
def atI {α : Type} (xs : List α) (i : Int) : Option α := (ixN xs.length i).bind fun j => xs[j]?
theorem Qml {n : Nat} {i : Int} {j : Nat} (h : ixN n i = some j) : seqIndex? i n = some j ∧ j < n ∧ -(n : Int) ≤ i ∧ i < n := by
 unfold ixN at h
 by_cases h0 : 0 ≤ i
 ·rw [if_pos h0] at h
  by_cases h1 : i < n
  ·rw [if_pos h1] at h
   have e : i.toNat = j := Option.some.inj h
   exact ⟨by rw [seqIndex_of h0 h1, e], by omega, by omega, h1⟩
  ·rw [if_neg h1] at h; cases h
 ·rw [if_neg h0] at h
  by_cases h1 : -(n : Int) ≤ i
  ·rw [if_pos h1] at h
   have e : (i + n).toNat = j := Option.some.inj h
   exact ⟨by rw [seqIndex_neg (by omega) h1, e], by omega, h1, by omega⟩
  ·rw [if_neg h1] at h; cases h
theorem Qdd {α : Type} {xs : List α} {i : Int} {v : α} (h : atI xs i = some v) : ∃ j, seqIndex? i xs.length = some j ∧ xs[j]? = some v ∧ j < xs.length ∧ -(xs.length : Int) ≤ i ∧ i < xs.length := by
 unfold atI at h
 cases e : ixN xs.length i with
 | none => rw [e] at h; cases h
 | some j =>
  rw [e] at h
  obtain ⟨h1, h2, h3, h4⟩ := Qml e
  exact ⟨j, h1, h, h2, h3, h4⟩
theorem Zj {α : Type} {xs : List α} {j : Nat} {v : α} (h : xs[j]? = some v) : atI xs (j : Int) = some v := by
 have hj : j < xs.length := (kJ.mp h).1
 have e : ixN xs.length (j : Int) = some j := by
  unfold ixN
  rw [if_pos (by omega), if_pos (by omega)]; simp
 unfold atI; rw [e]; exact h
def Qmm (b : Expr) : Prop := ∀ o i, subscripted b false o i = operate [o, i] (getItem o i)
def IxR (X : Cx) (r : R2) : Prop :=
 ∀ (value slice : Expr) (pins : List (Addr × Obj)) (s : Shared) (σ : St) (H : Hp) (x y : V) (v u : Value) (Q : VK), Inv X pins σ H s → RelV x v → RelV y u → r x y H Q →
  subscripted slice false v u = operate [v, u] (getItem v u) → wpAny (model X.prog X.w) X.A (subscriptTail value slice v u) (EP X pins σ Q) X.xe s
def MtR (X : Cx) (id : String) (r : V → List V → Hp → VK → Prop) : Prop :=
 ∀ (pins : List (Addr × Obj)) (s : Shared) (σ : St) (H : Hp) (x : V) (xs : List V) (v : Value) (us : List Value) (Q : VK), Inv X pins σ H s → RelV x v → Vals xs us → r x xs H Q →
  wpAny (model X.prog X.w) X.A (call (.builtin id) (v :: us)) (EP X pins σ Q) X.xe s
section
variable {X : Cx} {a b : Expr} {ta tb : TE} {pos : Pos}
theorem Qu {r : R2} (hr : IxR X r) (ha : PE X a ta) (hb : PE X b tb) (hs : Qmm b) : PE X (.Subscript a b pos) (tOp r ta tb) := by
 intro pins s σ H Q I h
 exact Subscript_ (binT ha hb I h fun v u s2 x y H2 I2 rx ry q => hr a b pins s2 σ H2 x y v u Q I2 rx ry q (hs _ _))
def rIxL (K : Fg) : R2 := fun x y H Q => ∃ p xs i v, x = .ref p ∧ y = .int i ∧ SqL K H p xs ∧ atI xs i = some v ∧ Q v H
def rIxT (K : Fg) : R2 := fun x y H Q => ∃ p xs i v, x = .ref p ∧ y = .int i ∧ SqT K H p xs ∧ atI xs i = some v ∧ Q v H
def rIxS : R2 := fun x y H Q => ∃ z i c, x = .str z ∧ y = .int i ∧ z.length ≤ sizeLine ∧ atI z.cps.toList i = some c ∧ Q (.str ⟨#[c]⟩) H
theorem Qq : IxR X (rIxL X.K) := by
 intro value slice pins s σ H x y v u Q I rx ry h hs
 obtain ⟨p, xs, i, z, rfl, rfl, hq, he, q⟩ := h
 cases rx
 obtain ⟨t, rfl⟩ := ry
 obtain ⟨its, r, pl, hz⟩ := I.list hq
 obtain ⟨j, h1, h2, h3, h4, h5⟩ := Qdd he
 obtain ⟨w, ew, rw'⟩ := r.get h2
 have hl := r.length
 have hn := Qed
 have fin : EP X pins σ Q w s := ⟨z, H, I, rw', q⟩
 by_cases h0 : 0 ≤ i
 ·have hj : i.toNat = j := by
   rw [seqIndex_of h0 h5] at h1
   exact Option.some.inj h1
  exact item_listR pl.isList h0 (by omega) (by rw [hj]; simpa using ew) fin hs
 ·have hj : (i + (its.toArray.size : Int)).toNat = j := by
   rw [seqIndex_neg (by omega) h4] at h1
   rw [jV, ← hl]
   exact Option.some.inj h1
  exact subscriptTail_builtinR (x := w) pl.isList.typeIs slot_list_getitem.lookup
   (wpAny_getItem_list_neg (Q := fun r s' => r = w ∧ EP X pins σ Q r s') pl.isList (by omega) (by rw [jV] <;> omega) (by omega) (by rw [hj]; simpa using ew) ⟨rfl, fin⟩) hs
theorem Yr : IxR X (rIxT X.K) := by
 intro value slice pins s σ H x y v u Q I rx ry h hs
 obtain ⟨p, xs, i, z, rfl, rfl, hq, he, q⟩ := h
 cases rx
 obtain ⟨t, rfl⟩ := ry
 obtain ⟨its, r, pl, hz⟩ := I.tuple hq
 obtain ⟨j, h1, h2, h3, h4, h5⟩ := Qdd he
 obtain ⟨w, ew, rw'⟩ := r.get h2
 have hl := r.length
 have hn := Qed
 have fin : EP X pins σ Q w s := ⟨z, H, I, rw', q⟩
 exact subscriptTail_builtinR (x := w) pl.typeIs slot_tuple_getitem.lookup
  (getItem_tuple (j := j) (Q := fun r s' => r = w ∧ EP X pins σ Q r s') pl (by omega) (by omega) (by rw [jV, ← hl]; exact h1) (by simpa using ew) ⟨rfl, fin⟩) hs
theorem Qli : IxR X rIxS := by
 intro value slice pins s σ H x y v u Q I rx ry h hs
 obtain ⟨z, i, c, rfl, rfl, hz, he, q⟩ := h
 obtain ⟨t, rfl⟩ := rx
 obtain ⟨t', rfl⟩ := ry
 obtain ⟨j, h1, h2, h3, h4, h5⟩ := Qdd he
 have hl : z.cps.toList.length = z.length := by simp [Str.length]
 rw [hl] at h1 h4 h5
 have hn := Qed
 exact tail_any (typeIs_str s z t) slot_str_getitem.lookup (getItem_str (c := c) (by
  have e1 : decide (i < -(2 ^ 63 : Int)) = false := zW (by omega)
  have e2 : decide (i ≥ 2 ^ 63) = false := zW (by omega)
  rw [e1, e2, Bool.or_false]) (by rw [h1]; simpa using h2) ⟨.str ⟨#[c]⟩, H, I.tok _, ⟨_, rfl⟩, q⟩) hs
theorem Vm (i : Int) (n d : Nat) : max 0 (min (if i < 0 then i + (n : Int) else i) (n : Int)) = ((HT.sIx n d (some i) : Nat) : Int) := by
 rw [← HT.clip_eq]
 by_cases h : i < 0
 ·rw [if_pos h, if_pos h, Int.min_eq_left (by have := Int.add_le_add_right (Int.le_of_lt h) (n : Int); rwa [Int.zero_add] at this), Int.max_comm]
 ·rw [if_neg h, if_neg h, HT.min_cast i n h, Int.max_eq_right (Int.natCast_nonneg _)]
theorem Qbu (lo hi : Option Int) (n : Nat) : (sliceBounds lo hi none n).1 = ((HT.sIx n 0 lo : Nat) : Int) ∧ (sliceBounds lo hi none n).2.1 = ((HT.sIx n n hi : Nat) : Int) ∧ (sliceBounds lo hi none n).2.2 = 1 := by
 refine ⟨?_, ?_, rfl⟩
 ·cases lo with
  | none => rfl
  | some i => exact Vm i n 0
 ·cases hi with
  | none => rfl
  | some i => exact Vm i n n
theorem Qai (its : List Value) (lo hi : Option Int) : slicePick its.toArray lo hi none = ((its.drop (HT.sIx its.length 0 lo)).take (HT.sIx its.length its.length hi - HT.sIx its.length 0 lo)).toArray := by
 obtain ⟨h1, h2, h3⟩ := Qbu lo hi its.toArray.size
 unfold slicePick
 rw [h1, h2, h3]
 simp only [sliceRange_one, pick_run, jV] <;> rfl
def rSlL (K : Fg) : V → Option Int → Option Int → Hp → VK → Prop := fun x lo hi H Q => ∃ a xs, x = .ref a ∧ SqL K H a xs ∧ ∀ p, H p = none → Q (.ref p) (upd H p (.lst (cutV xs lo hi)))
theorem Jl : SlR X (rSlL X.K) := by
 intro pins s σ H x v vl vu lo hi sl Q I rx hs pl pu h
 obtain ⟨a, xs, rfl, hx, q⟩ := h
 cases rx
 obtain ⟨its, r, ht, hz⟩ := I.list hx
 have hlen := r.length
 refine ⟨"list", _, slot_list_getitem.lookup, ht.isList.typeIs, ?_⟩
 refine wpAny_getItem_list_slice ht.isList hs pl pu .none (by simp) ?_ (by rw [jV] <;> omega)
 rw [Qai, ← hlen]
 refine ⟨.ref s.heap.objs.size, _, I.laid (t' := s.toks) (o := .lst (cutV xs lo hi)) (fun b ob q => jJ _ q) (jX _) ?_, rfl, q _ (I.hok.fresh (jX _))⟩
 exact ⟨jQa (Vl xs lo hi) hz, _, 0, (r.drop (HT.sIx xs.length 0 lo)).take (HT.sIx xs.length xs.length hi - HT.sIx xs.length 0 lo), yX _ rfl⟩
def Yt : V → Bool
 | .non => true
 | .bl _ => true
 | .int _ => true
 | .str _ => true
 | _ => false
def eqV : V → V → Bool
 | .non, .non => true
 | .bl a, .bl b => a == b
 | .bl a, .int b => (if a then 1 else 0) == b
 | .int a, .bl b => a == (if b then 1 else 0)
 | .int a, .int b => a == b
 | .str a, .str b => a == b
 | _, _ => false
theorem Qef {A : Around} {s : Shared} {y x : V} {u v : Value} (ry : RelV y u) (rx : RelV x v) (fy : Yt y = true) (fx : Yt x = true) : SeqAt.EqAt A s u v (eqV y x) := by
 cases y with
 | non =>
  cases ry
  cases x with
  | non => cases rx; exact SeqAt.EqAt.same _
  | bl b => cases rx; exact SeqAt.EqAt.none_bool b
  | int b => obtain ⟨t, rfl⟩ := rx; exact SeqAt.EqAt.none_int b t
  | str b => obtain ⟨t, rfl⟩ := rx; exact SeqAt.EqAt.none_str b t
  | _ => exact absurd (show false = true from fx) yZ
 | bl a =>
  cases ry
  cases x with
  | non => cases rx; exact SeqAt.EqAt.bool_none a
  | bl b => cases rx; exact SeqAt.EqAt.bool_bool a b
  | int b => obtain ⟨t, rfl⟩ := rx; exact SeqAt.EqAt.bool_int a b t
  | str b => obtain ⟨t, rfl⟩ := rx; exact SeqAt.EqAt.bool_str a b t
  | _ => exact absurd (show false = true from fx) yZ
 | int a =>
  obtain ⟨t', rfl⟩ := ry
  cases x with
  | non => cases rx; exact SeqAt.EqAt.int_none a t'
  | bl b => cases rx; exact SeqAt.EqAt.int_bool a t' b
  | int b => obtain ⟨t, rfl⟩ := rx; exact SeqAt.EqAt.int_int a t' b t
  | str b => obtain ⟨t, rfl⟩ := rx; exact SeqAt.EqAt.int_str a t' b t
  | _ => exact absurd (show false = true from fx) yZ
 | str a =>
  obtain ⟨t', rfl⟩ := ry
  cases x with
  | non => cases rx; exact SeqAt.EqAt.str_none a t'
  | bl b => cases rx; exact SeqAt.EqAt.str_bool a t' b
  | int b => obtain ⟨t, rfl⟩ := rx; exact SeqAt.EqAt.str_int a t' b t
  | str b => obtain ⟨t, rfl⟩ := rx; exact SeqAt.EqAt.str_str a t' b t
  | _ => exact absurd (show false = true from fx) yZ
 | _ => exact absurd (show false = true from fy) yZ
def eqU (x : V) (u : Value) : Bool := match u with
 | .none => eqV .non x
 | .bool b => eqV (.bl b) x
 | .int i _ => eqV (.int i) x
 | .str z _ => eqV (.str z) x
 | _ => false
theorem Qlj {x y : V} {u : Value} (r : RelV y u) (f : Yt y = true) : eqU x u = eqV y x := by
 cases y with
 | non => cases r; rfl
 | bl b => cases r; rfl
 | int i => obtain ⟨t, rfl⟩ := r; rfl
 | str z => obtain ⟨t, rfl⟩ := r; rfl
 | _ => exact absurd (show false = true from f) yZ
theorem Vn {x : V} : ∀ {xs : List V} {us : List Value}, Vals xs us → xs.all Yt = true → us.any (eqU x) = xs.any fun y => eqV y x
 | _, _, .nil, _ => rfl
 | y :: xs, u :: us, .cons r t, f => by
  rw [List.all_cons, wX] at f
  rw [kXb, kXb, Qlj r f.1, Vn t f.2]
theorem Jx {A : Around} {s : Shared} {x : V} {v : Value} (rx : RelV x v) (fx : Yt x = true) : ∀ {xs : List V} {us : List Value}, Vals xs us → xs.all Yt = true → ∀ u ∈ us, SeqAt.EqAt A s u v (eqU x u)
 | _, _, .nil, _ => fun u hu => by cases hu
 | y :: xs, u :: us, .cons r t, f => fun u' hu => by
  rw [List.all_cons, wX] at f
  rcases yJ.mp hu with rfl | hu
  ·rw [Qlj r f.1]; exact Qef r rx f.1 fx
  ·exact Jx rx fx t f.2 u' hu
def inV (x : V) (xs : List V) : Bool := xs.any fun y => eqV y x
def rIn (K : Fg) (neg : Bool) : R2 := fun x y H Q => ∃ p xs, y = .ref p ∧ (SqL K H p xs ∨ SqT K H p xs) ∧ Yt x = true ∧ xs.all Yt = true ∧ Q (.bl (if neg then !inV x xs else inV x xs)) H
theorem Qbv : OpR X (compareOp .In) (rIn X.K false) := by
 intro pins s σ H x y v u Q I rx ry h
 obtain ⟨p, xs, rfl, hq, fx, fs, q⟩ := h
 cases ry
 rcases hq with hq | hq
 ·obtain ⟨its, r, pl, hz⟩ := I.list hq
  refine SeqAt.in_listAt (eqU x) pl.isList (fun w hw => Jx rx fx r fs w (by simpa using hw)) ⟨.bl _, H, I, rfl, ?_⟩
  rw [show its.toArray.any (eqU x) = its.any (eqU x) by simp, Vn r fs]
  exact q
 ·obtain ⟨its, r, pl, hz⟩ := I.tuple hq
  refine SeqAt.in_tupleAt (eqU x) pl (fun w hw => Jx rx fx r fs w (by simpa using hw)) ⟨.bl _, H, I, rfl, ?_⟩
  rw [show its.toArray.any (eqU x) = its.any (eqU x) by simp, Vn r fs]
  exact q
theorem Qbw : OpR X (compareOp .NotIn) (rIn X.K true) := by
 intro pins s σ H x y v u Q I rx ry h
 obtain ⟨p, xs, rfl, hq, fx, fs, q⟩ := h
 cases ry
 rcases hq with hq | hq
 ·obtain ⟨its, r, pl, hz⟩ := I.list hq
  refine SeqAt.notIn_listAt (eqU x) pl.isList (fun w hw => Jx rx fx r fs w (by simpa using hw)) ⟨.bl _, H, I, rfl, ?_⟩
  rw [show its.toArray.any (eqU x) = its.any (eqU x) by simp, Vn r fs]
  exact q
 ·obtain ⟨its, r, pl, hz⟩ := I.tuple hq
  refine SeqAt.notIn_tupleAt (eqU x) pl (fun w hw => Jx rx fx r fs w (by simpa using hw)) ⟨.bl _, H, I, rfl, ?_⟩
  rw [show its.toArray.any (eqU x) = its.any (eqU x) by simp, Vn r fs]
  exact q
theorem Qv : Zq X (.builtin "len") (fun xs H Q => ∃ p ys, xs = [.ref p] ∧ (SqL X.K H p ys ∨ SqT X.K H p ys) ∧ Q (.int ys.length) H) := by
 intro pins s σ H xs us Q I r h
 obtain ⟨p, ys, rfl, hq, q⟩ := h
 obtain ⟨u, rfl, rx⟩ := vals1 r
 cases rx
 have hn := Qed
 rcases hq with hq | hq
 ·obtain ⟨its, r', pl, hz⟩ := I.list hq
  have hlen := r'.length
  exact Calls.call_len_list pl.isList (by simp only [jV] <;> omega) ⟨.int ys.length, H, I.tok _, ⟨s.toks + 1, by rw [jV, hlen]⟩, q⟩
 ·obtain ⟨its, r', pl, hz⟩ := I.tuple hq
  have hlen := r'.length
  exact len_tuple pl (by simp only [jV] <;> omega) ⟨.int ys.length, H, I.tok _, ⟨s.toks + 1, by rw [jV, hlen]⟩, q⟩
theorem Qbx : Zq X (.type "list") (fun xs H Q => ∃ p ys, xs = [.ref p] ∧ (SqL X.K H p ys ∨ SqT X.K H p ys) ∧ ∀ l, H l = none → Q (.ref l) (upd H l (.lst ys))) := by
 intro pins s σ H xs us Q I r h
 obtain ⟨p, ys, rfl, hq, q⟩ := h
 obtain ⟨u, rfl, rx⟩ := vals1 r
 cases rx
 have fin : ∀ (its : List Value), Vals ys its → ys.length ≤ sizeLine → ∀ (h' : Heap) (c' : Nat), (∀ b o', s.heap.get? b = some o' → h'.get? b = some o') →
   h'.get? s.heap.objs.size = some { cls := .type "list", dict := none, data := .seq its.toArray c', slots := #[] } → EP X pins σ Q (.ref s.heap.objs.size) { s with heap := h' } := fun its r' hz h' c' kp e =>
  ⟨.ref s.heap.objs.size, _, I.laid (t' := s.toks) kp (jX _) (show ObjOk X.prog X.w _ h' _ (.lst ys) from ⟨hz, its, c', r', e⟩), rfl, q _ (I.hok.fresh (jX _))⟩
 rcases hq with hq | hq
 ·obtain ⟨its, r', pl, hz⟩ := I.list hq
  have hlen := r'.length
  obtain ⟨o, ho, hc, n, hd⟩ := pl.isList
  exact call_list_seq p (.inl rfl) ho hc hd (fun h' c' kp e => fin its r' hz h' c' kp e) (by simp only [jV] <;> omega)
 ·obtain ⟨its, r', pl, hz⟩ := I.tuple hq
  have hlen := r'.length
  obtain ⟨o, ho, hc, n, hd⟩ := pl
  exact call_list_seq p (.inr rfl) ho hc hd (fun h' c' kp e => fin its r' hz h' c' kp e) (by simp only [jV] <;> omega)
theorem Jy : Zq X (.type "tuple") (fun xs H Q => ∃ p ys, xs = [.ref p] ∧ ((SqL X.K H p ys ∧ ∀ l, H l = none → Q (.ref l) (upd H l (.tup ys))) ∨ (SqT X.K H p ys ∧ Q (.ref p) H))) := by
 intro pins s σ H xs us Q I r h
 obtain ⟨p, ys, rfl, h⟩ := h
 obtain ⟨u, rfl, rx⟩ := vals1 r
 cases rx
 rcases h with ⟨hq, q⟩ | ⟨hq, q⟩
 ·obtain ⟨its, r', pl, hz⟩ := I.list hq
  have hlen := r'.length
  refine call_tuple_list pl.isList (fun h' kp => ?_) (by simp only [jV] <;> omega)
  have I1 : Inv X pins σ H { s with heap := h' } := I.kept (t' := s.toks) kp
  have I2 : Inv X pins σ (upd H h'.objs.size (.tup ys)) { s with heap := h'.push { cls := .type "tuple", data := .seq its.toArray } } :=
   I1.laid (t' := s.toks) (fun b o e => jJ _ e) (jX _) (show ObjOk X.prog X.w _ _ _ (.tup ys) from ⟨hz, its, r', IsTup.new _ _⟩)
  exact ⟨.ref h'.objs.size, _, I2, rfl, q _ (I1.hok.fresh (jX _))⟩
 ·obtain ⟨its, r', pl, hz⟩ := I.tuple hq
  exact call_tuple_same pl ⟨.ref p, H, I, rfl, q⟩
def tyV (K : Fg) (T : String) (x : V) (H : Hp) : Prop := match x with
 | .str _ => T = "str"
 | .int _ => T = "int"
 | .ref p => (T = "list" ∧ ∃ xs, SqL K H p xs) ∨ (T = "tuple" ∧ ∃ o, K.lookup p = some o ∧ o.cls = .type "tuple" ∧ o.dict = none) ∨
   (T = "dict" ∧ ((∃ kvs, H p = some (.dK kvs)) ∨ ∃ kvs, H p = some (.dT kvs))) ∨ (T = "set" ∧ ∃ S n, H p = some (.set S n))
 | _ => False
theorem Qlk {pins : List (Addr × Obj)} {σ : St} {H : Hp} {s : Shared} {T : String} {x : V} {v : Value} (I : Inv X pins σ H s) (r : RelV x v) (ty : tyV X.K T x H) :
  s.TypeIs v T ∧ ∀ a, v = .ref a → ∃ ob, s.heap.get? a = some ob ∧ ob.dict = none := by
 cases x with
 | str z =>
  obtain ⟨t, rfl⟩ := r
  cases (show T = "str" from ty)
  exact ⟨typeIs_str s z t, fun _ e => nomatch e⟩
 | int i =>
  obtain ⟨t, rfl⟩ := r
  cases (show T = "int" from ty)
  exact ⟨typeIs_int s i t, fun _ e => nomatch e⟩
 | ref p =>
  cases r
  rcases ty with ⟨rfl, xs, hq⟩ | ⟨rfl, o, hk, hc, hd⟩ | ⟨rfl, hk⟩ | ⟨rfl, S, n, hk⟩
  ·obtain ⟨its, _, pl, _⟩ := I.list hq
   refine ⟨pl.isList.typeIs, fun a e => ?_⟩
   cases e
   obtain ⟨o, n, e, c, hd, _⟩ := pl
   exact ⟨o, e, hd⟩
  ·refine ⟨⟨o, I.kIn p o hk, hc⟩, fun a e => ?_⟩
   cases e
   exact ⟨o, I.kIn _ o hk, hd⟩
  ·have z : ∃ o, s.heap.get? p = some o ∧ o.ExactDict := by
    rcases hk with ⟨kvs, hk⟩ | ⟨kvs, hk⟩
    ·obtain ⟨_, _, _, _, o, _, _, e, ex, _⟩ := I.hok p _ hk
     exact ⟨o, e, ex⟩
    ·obtain ⟨_, _, _, _, o, _, _, e, ex, _⟩ := I.hok p _ hk
     exact ⟨o, e, ex⟩
   obtain ⟨o, e, ex⟩ := z
   refine ⟨⟨o, e, ex.1⟩, fun a e2 => ?_⟩
   cases e2
   exact ⟨o, e, ex.2.1⟩
  ·obtain ⟨o, _, _, _, e, ex, _⟩ := I.hok p _ hk
   refine ⟨⟨o, e, ex.1⟩, fun a e2 => ?_⟩
   cases e2
   exact ⟨o, e, ex.2.1⟩
 | _ => exact False.elim ty
def tBM0 (K : Fg) (T : String) (r : V → List V → Hp → VK → Prop) (to : TE) : TE := fun σ H Q => to σ H fun x H1 => tyV K T x H1 ∧ r x [] H1 Q
def tBM (K : Fg) (T : String) (r : V → List V → Hp → VK → Prop) (to : TE) (t : TA) : TE := fun σ H Q => to σ H fun x H1 => tyV K T x H1 ∧ t σ H1 fun xs H2 => r x xs H2 Q
variable {o e : Expr} {es : List Expr} {to : TE} {t : TA} {name : Str} {apos cpos : Pos} {T id : String} {r : V → List V → Hp → VK → Prop}
theorem pe_bm0 (pa : PlainAttrs T) (slot : Slot T name id) (hty : typeOf (.builtin id) = pure (.type "method_descriptor")) (hm : MtR X id r) (ho : PE X o to)
  (hbase : autoParam (attributeBase o name X.env (eval o X.env) = eval o X.env) L2.aRfl._auto_1) (hline : autoParam ((apos.endLine == cpos.line) = true) L2.aRfl._auto_1) : PE X (.Call (.Attribute o name apos) [] [] cpos) (tBM0 X.K T r to) := by
 intro pins s σ H Q I h
 refine wpAny_Call_method0_late hbase hline (thn (ho pins s σ H _ I h) fun v s1 hqP => ?_)
 obtain ⟨x, H1, I1, r1, ty, q1⟩ := hqP
 obtain ⟨h1, h2⟩ := Qlk I1 r1 ty
 exact ⟨T, id, pa, slot, hty, h1, h2, Calls.callWith_builtin rfl (PySem.evalArgs_none (hm pins s1 σ H1 x [] v [] Q I1 r1 .nil q1))⟩
theorem Kw (pa : PlainAttrs T) (slot : Slot T name id) (hty : typeOf (.builtin id) = pure (.type "method_descriptor")) (hm : MtR X id r) (ho : PE X o to) (ha : PA X (e :: es) t)
  (hbase : autoParam (attributeBase o name X.env (eval o X.env) = eval o X.env) L2.aRfl._auto_1)
  (hfew : ((backTo cpos (starEach (e :: es) X.env)).all (fun x => !x.1) && (backToKw cpos (keywordEach [] X.env)).all (fun x => x.1.isSome)
   && decide ((e :: es).length + ([] : List Keyword).length + (if ([] : List Keyword).isEmpty then 0 else 1) < 30)) = true := by rfl)
  (hline : autoParam ((apos.endLine == cpos.line) = true) L2.aRfl._auto_1) (hs : autoParam (starEach (e :: es) X.env = (false, eval e X.env) :: starEach es X.env) L2.aRfl._auto_1) (hplain : autoParam ((backTo cpos (starEach es X.env)).any (·.1) = false) L2.aRfl._auto_1) :
  PE X (.Call (.Attribute o name apos) (e :: es) [] cpos) (tBM X.K T r to t) := by
 intro pins s σ H Q I h
 refine wpAny_Call_method_late hbase hfew hline rfl (thn (ho pins s σ H _ I h) fun v s1 hqP => ?_)
 obtain ⟨x, H1, I1, r1, ty, q1⟩ := hqP
 obtain ⟨h1, h2⟩ := Qlk I1 r1 ty
 refine ⟨T, id, pa, slot, hty, h1, h2, ?_⟩
 have hA := ha cpos pins s1 σ H1 _ I1 q1
 rw [hs] at hA ⊢
 refine Calls.callWith_builtin (by show (false || (backTo cpos (starEach es X.env)).any (·.1)) = false; rw [hplain] <;> rfl) (Calls.evalArgs_plain ?_)
 exact thn hA fun us s2 ⟨vs, H2, I2, r2, q2⟩ => hm pins s2 σ H2 x vs v us Q I2 r1 r2 q2
/- xs.append(e), list.index on a module's tuple .. are MtR facts of 06m -/
end
def MtM (X : Cx) (id : String) (r : V → List V → Hp → VK → Prop) : Prop :=
 ∀ (pins : List (Addr × Obj)) (s : Shared) (σ : St) (H : Hp) (x : V) (xs : List V) (v : Value) (us : List Value) (Q : VK), Inv X pins σ H s → RelV x v → Vals xs us → r x xs H Q →
  wpAny (model X.prog X.w) X.A (call (.builtin id) (v :: us)) (EP X pins σ Q) X.xe s
theorem Vals.one {x : V} {us : List Value} (h : Vals [x] us) : ∃ u, us = [u] ∧ RelV x u := by
 cases h with
 | cons r t => cases t; exact ⟨_, rfl, r⟩
theorem Vals.two {x y : V} {us : List Value} (h : Vals [x, y] us) : ∃ u v, us = [u, v] ∧ RelV x u ∧ RelV y v := by
 cases h with
 | cons r t =>
  cases t with
  | cons q t => cases t; exact ⟨_, _, rfl, r, q⟩
theorem Vals.zero : ∀ {us : List Value}, Vals [] us → us = []
 | _, .nil => rfl
theorem Vals.reverse {xs : List V} {us : List Value} (h : Vals xs us) : Vals xs.reverse us.reverse := by
 induction h with
 | nil => exact .nil
 | cons r t ih => rw [List.reverse_cons, List.reverse_cons]; exact Vals.append ih (.cons r .nil)
section
variable {X : Cx} {pins : List (Addr × Obj)} {σ : St} {H : Hp} {s : Shared} {l b : Addr} {xs ys zs : List V}
theorem Inv.lset {its its' : List Value} {n : Nat} {f : Array Value → Array Value} {t' : Nat} (I : Inv X pins σ H s) (hH : H l = some (.lst xs))
  (e : s.heap.get? l = some { cls := .type "list", data := .seq its.toArray n }) (hf : f its.toArray = its'.toArray) (hv : Vals ys its') (hz : ys.length ≤ sizeLine) :
  Inv X pins σ (upd H l (.lst ys)) { s with heap := s.heap.update l (Obj.mapSeq f), toks := t' } := by
 have q := PySem.IsL.update e f
 rw [hf] at q
 refine I.write (x := l) (e := l) (by rw [hH]; exact trivial) (.inl rfl) (fun b' u hb hu => (Heap.get?_update_other s.heap (Obj.mapSeq f) (Ne.symm hb)).trans hu) ⟨_, q⟩ ?_
 exact ⟨hz, its', _, hv, q⟩
theorem Inv.lnew {its : List Value} {t' : Nat} (I : Inv X pins σ H s) (hv : Vals ys its) (hz : ys.length ≤ sizeLine) :
  Inv X pins σ (upd H s.heap.objs.size (.lst ys)) { s with heap := s.heap.push { cls := .type "list", data := .seq its.toArray }, toks := t' } :=
 I.laid (fun _ _ q => jJ _ q) (jX _) ⟨hz, its, 0, hv, yX _ rfl⟩
theorem Inv.fresh (I : Inv X pins σ H s) : H s.heap.objs.size = none := I.hok.fresh (jX _)
theorem Inv.lstM (I : Inv X pins σ H s) (hH : H l = some (.lst xs)) : xs.length ≤ sizeLine ∧ ∃ (its : List Value) (n : Nat), Vals xs its ∧ xs.length = its.length ∧ s.heap.get? l = some { cls := .type "list", data := .seq its.toArray n } := by
 obtain ⟨z, its, n, r, e⟩ := I.hok l _ hH
 exact ⟨z, its, n, r, r.length, e⟩
end
section
variable {X : Cx}
def Qmn : V → List V → Hp → VK → Prop := fun x vs H Q => ∃ l xs y, x = .ref l ∧ vs = [y] ∧ H l = some (.lst xs) ∧ xs.length < sizeLine ∧ Q .non (upd H l (.lst (xs ++ [y])))
theorem Xw : MtM X "list.append" Qmn := by
 intro pins s σ H x vs v us Q I rx rv h
 obtain ⟨l, xs, y, rfl, rfl, hH, hz, q⟩ := h
 cases rx
 obtain ⟨u, rfl, ru⟩ := rv.one
 obtain ⟨z, its, n, r, hl, e⟩ := I.lstM hH
 refine call_meets F.slot_list_append ⟨_, e, rfl⟩ F.entry_list_append (F.args_list_append_2 _ _) (PySem.list_append l its.toArray n u (by rw [jV]; omega)) ⟨e, ?_⟩
 refine ⟨.non, _, I.lset (its' := its ++ [u]) hH e (by simp) (r.append (.cons ru .nil)) ?_, rfl, q⟩
 rw [jY, List.length_singleton]
 omega
def Qiy : V → List V → Hp → VK → Prop := fun x vs H Q => ∃ l xs, x = .ref l ∧ vs = [] ∧ H l = some (.lst xs) ∧ Q .non (upd H l (.lst xs.reverse))
theorem Qfj : MtM X "list.reverse" Qiy := by
 intro pins s σ H x vs v us Q I rx rv h
 obtain ⟨l, xs, rfl, rfl, hH, q⟩ := h
 cases rx
 have hus := rv.zero
 subst hus
 obtain ⟨z, its, n, r, hl, e⟩ := I.lstM hH
 refine call_meets F.slot_list_reverse ⟨_, e, rfl⟩ F.entry_list_reverse (F.args_list_reverse_1 _) (AutoSeq1.list_reverse_list_0 l its.toArray n (by rw [jV]; omega)) ⟨e, ?_⟩
 refine ⟨.non, _, I.lset (its' := its.reverse) hH e (by simp) r.reverse ?_, rfl, q⟩
 rw [List.length_reverse]
 omega
def rCat : R2 := fun x y H Q => ∃ l b xs zs, x = .ref l ∧ y = .ref b ∧ H l = some (.lst xs) ∧ H b = some (.lst zs) ∧ xs.length + zs.length ≤ sizeLine ∧ ∀ p, H p = none → Q (.ref p) (upd H p (.lst (xs ++ zs)))
theorem Ji : OpR X (binaryOp .Add) rCat := by
 intro pins s σ H x y v u Q I rx ry h
 obtain ⟨l, b, xs, zs, rfl, rfl, hH, hB, hz, q⟩ := h
 cases rx
 cases ry
 obtain ⟨z, its, n, r, hl, e⟩ := I.lstM hH
 obtain ⟨z2, its2, n2, r2, hl2, e2⟩ := I.lstM hB
 refine PySem.P.add_list e e2 ?_ (by rw [jV, jV]; omega)
 have ea : its.toArray ++ its2.toArray = (its ++ its2).toArray := by simp
 rw [ea]
 exact ⟨.ref _, _, I.lnew (t' := s.toks) (r.append r2) (by rw [jY]; omega), rfl, q _ I.fresh⟩
end
section
variable {prog : Program} {w : World} {A : Around} {E : Value → Shared → Prop} {s : Shared}
end
section
variable {X : Cx}
end
end L2
namespace Att
open PySem PySem.W PySem.Calls PyProof.Rows
theorem Vo {P : Params} {h : Heap} : ∀ (ns : List Int) (vs : List Value), WellAll P h vs (ns.map WData.int) → IntsAre vs ns := by
 intro ns
 induction ns with
 | nil =>
  intro vs w
  rw [jKe] at w
  cases w
  exact .nil
 | cons n ns ih =>
  intro vs w
  rw [zJ] at w
  cases w with
  | cons a b =>
   cases a
   exact .cons _ _ (ih _ b)
theorem Qgo {l : OpenLaw} {n : Nat} (hn : l.most = some n) {P : Params} {h : Heap} {args : List WData} {vals : List Value}
  (hpre : l.row.toRowW.claim.pre args = true) (hwl : WellAll P h vals args) :
  ∃ a vs ns, vals = [Value.ref a] ∧ args = [WData.list (ns.map WData.int)] ∧ h.get? a = some { cls := .type "list", data := .seq vs.toArray } ∧ IntsAre vs ns ∧ ns.length ≤ n := by
 have hsh : WShape.hasAll [] args [.list .int] = true := (pre_splitW hpre).1
 have hc : l.pre.holds [] { args := args } = true := (pre_splitW hpre).2
 obtain ⟨d, r, rfl, h1, h2⟩ := hasAllW_cons hsh
 obtain rfl := hasAllW_nil h2
 obtain ⟨xs, rfl, h3⟩ := hasW_list h1
 obtain ⟨ns, rfl⟩ := items_int h3
 have hlen : ns.length ≤ n := by
  unfold OpenLaw.pre at hc
  have h4 : (WTm.not (.lt (.lit (.int (n : Int))) (.len (.arg 0)))).holds [] { args := [.list (ns.map .int)] } = true := by
   have h4 := (holds_andW hc).1
   rw [hn] at h4
   exact h4
  have h5 := condW_of h4 (w_not (w_lt w_lit (w_len_list (w_arg rfl))))
  rw [jZ] at h5
  refine Nat.le_of_not_lt fun q => ?_
  have q' : (n : Int) < ((ns.length : Nat) : Int) := by omega
  first
   | (rw [kZ q'] at h5; exact absurd h5 (by decide))
   | (simp at h5; omega)
 cases hwl with
 | cons w1 w2 =>
  cases w2
  cases w1 with
  | list ho hall => exact ⟨_, _, ns, rfl, rfl, ho, Vo ns _ hall, hlen⟩
theorem Qgp (l : OpenLaw) (args : List WData) : l.row.toRowW.claim.post args (.bool true) args = true :=
 postW_of (r := l.row.toRowW) (X := (true == true))
  (show WShape.has [] (.bool true) .bool = true by first | rfl | decide | simp [WShape.has, WShape.arms, WShape.armsAll])
  (show (WTm.eq .res (.lit (.bool true))).value [] { args := args, res := some (.bool true), after := args } = some (.bool (true == true)) from w_eq_bool (w_res rfl) w_lit) rfl
theorem attach_call {l : OpenLaw} {n : Nat} {q : Program} {loose : List Str} {XP : (Str → Option Value) → Heap → Prop} {YP : World → Heap → Prop} {d : DefRec}
  (hn : l.most = some n) (hdf : d.params.defaults = [])
  (call : ∀ (w : World) (s₀ s₁ : Shared) (mg mb : Str → Option Value) (fa : Addr) (o : Obj) (pm cd doc : Value) (a : Addr) (vs : List Value) (ns : List Int),
   Ground q loose [] XP w s₀ mg mb s₁.heap → YP w s₁.heap →
   s₁.heap.get? fa = some o → o.data = .func (docDef d.name d.params d.body d.scope pm cd doc) → s₁.heap.CodeRec cd d.name → mg d.name = some (.ref fa) →
   s₁.heap.get? a = some { cls := .type "list", data := .seq vs.toArray } → IntsAre vs ns → ns.length ≤ n → s₁.gens = #[] →
   codeAny (model l.prog w) callerA (.call (.ref fa) ⟨[.ref a], []⟩) (fun r s' => r = .ok (.ret (.bool true)) ∧ OldK s₁.heap s'.heap ∧ s'.os = s₁.os ∧ AllBare s'.gens) s₁) :
  WalkO q loose XP YP l.row.toRowW d [] (fun f vs => PySem.call f vs) := by
 intro w s₀ s₁ mg mb G Y fa o pm cd doc dV kV ho hd hcd hD hmg hg args vals as hpre hlay hrd hwl hlo
 obtain rfl : dV = .none := Dflts.none hD hdf
 obtain rfl : kV = .none := Dflts.noKw hD
 obtain ⟨a, vs, ns, rfl, rfl, hobj, hints, hlen⟩ := Qgo hn hpre hwl
 refine enter_call (codeAny_mono (call w s₀ s₁ mg mb fa o pm cd doc a vs ns G Y ho (fd_plain hd) hcd hmg hobj hints hlen hg) fun r s' hq => ?_)
 obtain ⟨rfl, h2, h3, h4⟩ := hq
 exact ⟨.inl ⟨.bool true, .bool true, [], rfl, fun _ => rfl, .bool true, Qgp l _, fun _ => ⟨List.Pairwise.nil, fun _ hm => (nomatch hm)⟩⟩, h2, h3, h4⟩
section
variable {prog : Program} {w : World} {A : Around} {E : Value → Shared → Prop} {s : Shared} {K : Frag}
end
end Att
namespace L2
open PySem PySem.Spec PyProof.Rows
theorem Qby : ∀ {vs : List Value} {ns : List Int}, IntsAre vs ns → Vals (ns.map V.int) vs
 | _, _, .nil => .nil
 | _, _, .cons n t h => .cons ⟨t, rfl⟩ (Qby h)
def Only (H : Hp) : Prop := ∀ b, H b = none ∨ ∃ o xs, H b = some (.frz o (.lst xs))
theorem Qiz {P : Program} {w : World} {K : Fg} {mg mb : Str → Option Value} {CX : CXT} {k : Nat} {fa a : Addr} {fd : FuncData} {x : Str} {sp : Sp} {s₁ : Shared} {vs : List Value} {ns : List Int}
  (KX : K.In s₁.heap) (hns : s₁.heap.Ns mainGlobals mg) (hb : s₁.heap.Ns builtinsNs mb) (hbb : ∀ x : Str, x ≠ "__name__" → mb x = bootBuiltins x) (hlim : s₁.heap.NoLimit) (hg : s₁.gens = #[])
  (ha : s₁.heap.get? a = some { cls := .type "list", data := .seq vs.toArray }) (hi : IntsAre vs ns) (hl : ns.length ≤ sizeLine) (hr : Room k callerA)
  (F : ∀ base : Heap, K.In base → base.Ns mainGlobals mg → FnOk P w K mg base CX k fa fd [x] sp) (hbind : ∀ (s : Shared) (u : Value), BindsTo s fd ⟨[u], []⟩ [(x, u)])
  (hsp : ∀ H : Hp, Only H → SqL K H a (ns.map V.int) → sp [.ref a] H (fun v _ => v = .bl true) fun _ _ _ => False)
  (hCX : ∀ H e s', CX [] H s₁ (fun _ _ _ => False) e s' → False) :
  codeAny (model P w) callerA (.call (.ref fa) ⟨[.ref a], []⟩) (fun r s' => r = .ok (.ret (.bool true)) ∧ OldK s₁.heap s'.heap ∧ s'.os = s₁.os ∧ AllBare s'.gens) s₁ := by
 have rv := Qby hi
 have lenV := hi.length
 -- from an abstract heap in which nothing but the script may be tracked
 have core : ∀ H : Hp, Only H → SqL K H a (ns.map V.int) → HOk P w H s₁.heap → (∀ b, H b ≠ none → b = a) → (H a ≠ none → K.lookup a = none) →
   codeAny (model P w) callerA (.call (.ref fa) ⟨[.ref a], []⟩) (fun r s' => r = .ok (.ret (.bool true)) ∧ OldK s₁.heap s'.heap ∧ s'.os = s₁.os ∧ AllBare s'.gens) s₁ := by
  intro H hO hS hok hA hK
  have base_of : ∀ {b : Addr} {o : Obj}, s₁.heap.get? b = some o → H b = none → (hidT s₁.heap H).get? b = some o := fun e n => Qiq e n
  have noA : ∀ {b : Addr} {o : Obj} {es : Array DictEntry} {ep : Nat}, s₁.heap.get? b = some o → o.data = .dict es ep → H b = none := fun {b o es ep} e d => by
   cases q : H b with
   | none => rfl
   | some u =>
    have e' : b = a := hA b (by rw [q]; simp)
    subst e'
    rw [ha] at e; cases e
    have d' : Data.seq vs.toArray _ = Data.dict es ep := d
    cases d'
  have nsK : ∀ {b : Addr} {m : Str → Option Value}, s₁.heap.Ns b m → (hidT s₁.heap H).Ns b m := fun {b m} ⟨o, es, ep, e, d, r⟩ => ⟨o, es, ep, base_of e (noA e d), d, r⟩
  have hKb : K.In (hidT s₁.heap H) := fun b o e => base_of (KX b o e) (by
   cases q : H b with
   | none => rfl
   | some u =>
    have e' : b = a := hA b (by rw [q]; simp)
    subst e'
    rw [hK (by rw [q]; simp)] at e; cases e)
  have hM : Mod K mg (hidT s₁.heap H) := ⟨hKb, nsK hns, ⟨mb, nsK hb, hbb⟩, let ⟨mc, h1, h2⟩ := hlim; ⟨mc, nsK h1, h2⟩⟩
  have e0 : Env0 P w K mg (hidT s₁.heap H) callerA [] s₁ H := ⟨rfl, hM, fun b o e => Qmc e, Nat.le_of_eq (Qgb _ _), trivial, fun b hb => absurd (show b ∈ ([] : List Addr) from hb) (by simp), hok, .of_eq hg⟩
  refine codeAny_mono ((F _ hKb (nsK hns)).run callerA [] s₁ H ⟨[.ref a], []⟩ [.ref a] [.ref a] _ _ hr e0 (hbind s₁ (.ref a)) (.cons rfl .nil) (hsp H hO hS)) fun r s' h => ?_
  cases r with
  | error e => exact (hCX H e s' h).elim
  | ok fl =>
   cases fl with
   | next => exact False.elim h
   | brk => exact False.elim h
   | cont => exact False.elim h
   | ret u =>
    obtain ⟨v, H', os, bare, un, hok', r', q⟩ := h
    have q' : v = .bl true := q
    subst q'
    obtain rfl : u = Value.bool true := r'
    refine ⟨rfl, OldK.of_keep fun b o e => ?_, os, bare⟩
    cases q : H b with
    | none => exact un.keep b o e q (by intro z; exact absurd (show b ∈ ([] : List Addr) from z) (by simp)) (by simp)
    | some u =>
     rcases hO b with z | ⟨ob, xs, z⟩
     ·rw [q] at z; cases z
     ·have z2 := un.frzs b ob _ z
      obtain ⟨e1, _⟩ := hok b _ z
      obtain ⟨e2, _⟩ := hok' b _ z2
      rw [e] at e1; cases e1
      exact e2
 cases hk : K.lookup a with
 | some o =>
  -- the script is one of the module's own objects
  have e := KX a o hk
  rw [ha] at e
  cases e
  refine core (fun _ => none) (fun _ => .inl rfl) (.inr ⟨_, vs.toArray, _, hk, rfl, rfl, rfl, by rw [jV, lenV]; exact hl, by simpa using rv⟩) (fun b u z => by have z' : (none : Option HO) = some u := z; cases z') (fun b z => absurd rfl z) fun z => absurd rfl z
 | none =>
  refine core (fun b => if b = a then some (.frz { cls := .type "list", data := .seq vs.toArray } (.lst (ns.map V.int))) else none) (fun b => ?_) (.inl (.inr ⟨{ cls := .type "list", data := .seq vs.toArray }, if_pos rfl⟩)) (fun b u z => ?_) (fun b z => ?_) fun _ => hk
  ·by_cases hb : b = a
   ·exact .inr ⟨_, _, if_pos hb⟩
   ·exact .inl (if_neg hb)
  ·by_cases hb : b = a
   ·have z' := (if_pos hb).symm.trans z
    cases z'
    subst hb
    exact ⟨ha, by rw [jZ]; exact hl, vs, _, rv, ha⟩
   ·have z' := (if_neg hb).symm.trans z
    cases z'
  ·by_cases hb : b = a
   ·exact hb
   ·exact absurd (if_neg hb) z
abbrev KOf {K : Fg} {h : Heap} (_ : K.In h) : Fg := K
theorem Qgq {l : PySem.W.OpenLaw} {n k : Nat} {q : Program} {loose : List Str} {XP : (Str → Option Value) → Heap → Prop} {YP : World → Heap → Prop} {d : DefRec} {K : Params → Fg} {CX : World → CXT} {sp : World → Sp} {x : Str}
  (hn : l.most = some n) (hn2 : n ≤ sizeLine) (hdf : d.params.defaults = []) (hr : Room k callerA)
  (hY : ∀ (w : World) (h : Heap), YP w h → (K w.params).In h)
  (F : ∀ (w : World) (mg : Str → Option Value) (fa : Addr) (h : Heap), (K w.params).In h → h.Ns mainGlobals mg → mg d.name = some (.ref fa) →
   ∃ fd : FuncData, (∀ (s : Shared) (u : Value), BindsTo s fd ⟨[u], []⟩ [(x, u)]) ∧
    ∀ base : Heap, (K w.params).In base → base.Ns mainGlobals mg → FnOk l.prog w (K w.params) mg base (CX w) k fa fd [x] (sp w))
  (hsp : ∀ (w : World) (H : Hp) (a : Addr) (ns : List Int), ns.length ≤ n → Only H → SqL (K w.params) H a (ns.map V.int) → sp w [.ref a] H (fun v _ => v = .bl true) fun _ _ _ => False)
  (hCX : ∀ (w : World) (H : Hp) (s : Shared) (e : Value) (s' : Shared), CX w [] H s (fun _ _ _ => False) e s' → False) :
  PySem.W.WalkO q loose XP YP l.row.toRowW d [] (fun f vs => PySem.call f vs) := by
 refine Att.attach_call hn hdf fun w s₀ s₁ mg mb fa o pm cd doc a vs ns G Y ho hd hcd hmg hobj hints hlen hg => ?_
 have KX := hY w _ Y
 obtain ⟨fd, hb, hF⟩ := F w mg fa _ KX G.T.g hmg
 exact Qiz KX G.T.g G.T.b G.T.builtins G.T.nolimit hg hobj hints (jQa hlen hn2) hr hF hb (fun H hO hS => hsp w H a ns hlen hO hS) fun H e s' => hCX w H s₁ e s'
end L2
/- THE LAST THEOREM (shape; LID, My.* are yours):
   My.Adr: a structure of the addresses that your layer names (classes, functions); My.Txt K t: a structure (Prop) of the equations over K;
   My.txt_mk : {K} {implicit addresses ..} (e1 : nsIn K mainGlobals "law" = some (some (.ref f))) (e2 : K.lookup f = some ⟨oc, od, .func (fnOf "law" "law" params body scope dV kV doc pm an cdv ct), sl⟩) (e3 : codeIn K cdv "law" = true) .. : ∃ t, My.Txt K t
set_option maxRecDepth 100000 in
set_option maxHeartbeats 0 in
theorem PySem.Challenge.cw_LID_holds : PySem.Challenge.rw_LID.Holds := by
 w_on; o_law; k_head; (case hw => w_witness2)
 k_fill
 refine L2.Qgq (l := PySem.Challenge.rw_LID) (n := 63) (k := 40) (x := "script") (CX := fun w => ..) (sp := fun _ => My.sp_law) rfl (by decide) rfl ⟨rfl, by decide, by decide⟩ (fun w h Y => PySem.W.kIn_of Y) ?F ?S ?C
 case F =>
  intro w mg fa h KX G hmg
  have T : ∃ t, My.Txt (L2.KOf KX) t := by
   dsimp only [L2.KOf]                          -- K must stand as «<heap const> w.params» for k_is
   refine' My.txt_mk ?e1 ?e2 ?e3 ..
   (case e1 => PySem.W.k_is)                    -- in the order: a name -> its address -> its object -> its parts
   (case e2 => PySem.W.k_is)
   ..
  obtain ⟨t, T⟩ := T
  have e0 := hmg.symm.trans (PySem.W.mg_of KX G T.law)
  cases e0                                       -- fa is the law's own address
  exact ⟨_, fun s u => .of_eq rfl, fun base kb nb => My.law_fn T kb nb⟩     -- if «.of_eq rfl» comes too early: refine' ⟨_, ?b, fun base kb nb => My.law_fn T kb nb⟩; exact fun s u => .of_eq rfl
 case S => exact fun w H a ns hl hO hS => ..
 case C => exact ..
(the tactic k_is has no namespace: write k_is) -/
namespace L2
open PySem PySem.Spec PyProof.Rows
def inClass (s : Stmt) (j : Nat) : Stmt := match s with
 | .ClassDef _ _ _ body _ _ _ _ _ _ _ => body.getD j (.Pass ⟨0, 0, 0, 0⟩)
 | _ => .Pass ⟨0, 0, 0, 0⟩
def Xd (s : Stmt) : Arguments := match s with
 | .FunctionDef _ a _ _ _ _ _ _ _ _ => a
 | _ => { posonlyargs := [], args := [], vararg := none, kwonlyargs := [], kw_defaults := [], kwarg := none, defaults := [] }
def Xc (s : Stmt) : List Stmt := match s with
 | .FunctionDef _ _ b _ _ _ _ _ _ _ => b
 | _ => []
def Qi (s : Stmt) : Scope := match s with
 | .FunctionDef _ _ _ _ _ _ sc _ _ _ => sc
 | _ => { kind := .function, names := [], isGenerator := false, isCoroutine := false }
abbrev CX0 : CXT := fun _ _ _ _ _ _ => False
abbrev E0 : XK := fun _ _ _ => False
theorem Kk {X : Cx} : Ws CX0 X E0 := fun _ _ _ _ _ _ _ h => h.elim
structure Fun (K : Fg) (x qual : Str) (st : Stmt) (f : Addr) (fd : FuncData) : Prop where
 ex : ∃ (oc : Value) (od : Option Addr) (kV doc pm : Value) (an : Option Addr) (cdv ct : Value) (osl : Array (Option Value)),
  fd = PySem.W.fnOf x qual (Xd st) (Xc st) (Qi st) .none kV doc pm an cdv ct ∧ K.lookup f = some ⟨oc, od, .func fd, osl⟩ ∧ PySem.W.codeIn K cdv qual = true
 kp : PySem.W.keepIn K (.ref f) = true
section
variable {P : Program} {w : World} {K : Fg} {mg : Str → Option Value} {base : Heap}
theorem Fun.ok {x qual : Str} {st : Stmt} {f : Addr} {fd : FuncData} {N ps : List Str} {k : Nat} {sp : Sp} (F : Fun K x qual st f fd) (S : FnScope N ps (Qi st)) (len : ∀ vs H Q E, sp vs H Q E → vs.length = ps.length)
  (hbody : ∀ (cdv : Value) (A : Around) (outer : List Env) (s : Shared) (H : Hp) (vs : List V) (Q : VK) (E : XK), Room k (A.deeper (envOfC qual (Qi st) s.heap.objs.size f cdv)) → sp vs H Q E →
   ∃ t, PSs (cxOf CX0 P w K mg base N qual (Qi st) f cdv A outer s H E).nox (Xc st) t ∧ t { nx := fun _ H' => Q .non H', rt := Q } (start N vs) H) : FnOk P w K mg base CX0 (k + 1) f fd ps sp := by
 obtain ⟨oc, od, kV, doc, pm, an, cdv, ct, osl, rfl, lk, hcd⟩ := F.ex
 refine fn_of lk hcd S len fun A outer s H vs Q E hr hsp => ?_
 obtain ⟨t, h, q⟩ := hbody cdv A outer s H vs Q E hr hsp
 exact ⟨t, h.nox, q⟩
theorem Fun.binds {x qual : Str} {st : Stmt} {f : Addr} {fd : FuncData} {ps : List Str} (F : Fun K x qual st f fd)
  (h : ∀ (kV doc pm : Value) (an : Option Addr) (cdv ct : Value) (us : List Value), us.length = ps.length → bindArgs (PySem.W.fnOf x qual (Xd st) (Xc st) (Qi st) .none kV doc pm an cdv ct) ⟨us, []⟩ = pure (ps.zip us)) : Binds K fd ps [] := by
 obtain ⟨oc, od, kV, doc, pm, an, cdv, ct, osl, rfl, lk, hcd⟩ := F.ex
 exact .all (h kV doc pm an cdv ct)
theorem Jz {x qual : Str} {st : Stmt} {f : Addr} {oc : Value} {od an : Option Addr} {osl : Array (Option Value)} {kV doc pm cdv ct : Value} (l : K.lookup f = some ⟨oc, od, .func (PySem.W.fnOf x qual (Xd st) (Xc st) (Qi st) .none kV doc pm an cdv ct), osl⟩)
  (c : PySem.W.codeIn K cdv qual = true) (k : PySem.W.keepIn K (.ref f) = true) : Fun K x qual st f (PySem.W.fnOf x qual (Xd st) (Xc st) (Qi st) .none kV doc pm an cdv ct) := ⟨⟨oc, od, kV, doc, pm, an, cdv, ct, osl, rfl, l, c⟩, k⟩
end
theorem Qgr {A : Around} {k : Nat} (hr : Room k A) : A.units + 1 < cLine := xQ (xV (by decide : 1 ≤ 64) _) hr.units
section
variable {X : Cx}
theorem pv (i : Nat) {x : Str} {pos : Pos} (hN : autoParam (X.N[i]? = some x) L2.aRfl._auto_1) (hv : Vis X.env.scope x := by first | exact Or.inl rfl | exact Or.inr (Or.inl rfl) | exact Or.inr (Or.inr rfl)) (hd : autoParam ((x == ("__debug__" : Str)) = false) L2.aDec._auto_1)
  (hcd : autoParam ((x == ("__classdict__" : Str)) = false) L2.aDec._auto_1) : PE X (.Name x pos) (tVar i) := pe_var hN hv hd hcd
end
theorem iteF {A B : Prop} (h : B) : if false = true then A else B := by
 rw [if_neg yZ]
 exact h
theorem iteT {A B : Prop} (h : A) : if true = true then A else B := by
 rw [if_pos rfl]
 exact h
theorem ite2 {c A B : Prop} [Decidable c] (h1 : c → A) (h2 : ¬ c → B) : if c then A else B := by
 by_cases h : c
 ·rw [if_pos h]
  exact h1 h
 ·rw [if_neg h]
  exact h2 h
def Same (H H' : Hp) : Prop := ∀ b o, H b = some o → H' b = some o
theorem Same.refl (H : Hp) : Same H H := fun _ _ h => h
theorem Same.trans {H H1 H2 : Hp} (a : Same H H1) (b : Same H1 H2) : Same H H2 := fun c o h => b c o (a c o h)
theorem Same.seq {K : Fg} {H H' : Hp} {a : Addr} {xs : List V} (e : Same H H') (h : SqL K H a xs) : SqL K H' a xs := by
 rcases h with (h | ⟨o, h⟩) | h
 ·exact .inl (.inl (e _ _ h))
 ·exact .inl (.inr ⟨o, e _ _ h⟩)
 ·exact .inr h
theorem Qbz {prog : Program} {w : World} {A : Around} {R : Result → Shared → Prop} {s : Shared} {elt target iter : Expr} {ifs : List Expr} {scope : Scope} {pos : Pos} {it acc : Value} {env : Env} (I : Nat → Shared → Prop)
  (turn : ∀ n s, I n s → wpAny (model prog w) A (pyNext it) (fun r s1 => match r with
   | none => R (.ok .next) s1
   | some v => wpAny (model prog w) A (letOwnedTupleGo target it v) (fun _ s1' => wpAny (model prog w) A (assign target env v) (fun _ s2 =>
     wpAny (model prog w) A (forIn ifs true fun c r => if r = true then do let ok ← isTrue c env (eval c env); pure (ForInStep.yield ok) else pure (ForInStep.yield r)) (fun ok s3 =>
      if ok = true then wpAny (model prog w) A (eval elt env) (fun x s4 =>
       wpAny (model prog w) A (call (.builtin "list.append") [acc, x]) (fun _ s5 => ∃ m, m < n ∧ I m s5) (fun _ _ => False) s4) (fun _ _ => False) s3
      else ∃ m, m < n ∧ I m s3) (fun _ _ => False) s2) (fun _ _ => False) s1') (fun _ _ => False) s1) (fun _ _ => False) s)
  (n : Nat) (h : I n s) :
  codeAny (model prog w) A (.compLoop (.ListComp elt [⟨target, iter, ifs, 0⟩] scope pos) 0 it acc env) R s := by
 refine codeAny_loop rfl I (fun n s hI => ?_) n h
 show wpAny _ A ((compTurn (.ListComp elt [⟨target, iter, ifs, 0⟩] scope pos) 0 it acc env).onRaise (fun x => do noteFrame x env; theTreesLotGoes x)) _ _ s
 refine wpAny_noted ?_
 rw [compTurn_list]
 refine jQ (wpAny_standAt (jQ (wpAny_mono (turn n s hI) (fun r s1 h1 => ?_) fun _ _ h' => h'.elim)))
 cases r with
 | none => exact jW h1
 | some v =>
  refine jQ (wpAny_mono h1 (fun _ s1' h1' => ?_) fun _ _ h' => h'.elim)
  refine jQ (wpAny_mono h1' (fun _ s2 h2 => jQ (wpAny_mono h2 (fun ok s3 h3 => ?_) fun _ _ h' => h'.elim)) fun _ _ h' => h'.elim)
  cases ok with
  | false => exact jW ⟨rfl, h3⟩
  | true =>
   exact jQ (jQ (wpAny_mono h3 (fun x s4 h4 => jQ (wpAny_mono h4 (fun _ s5 h5 => jW (jW ⟨rfl, h5⟩)) fun _ _ h' => h'.elim)) fun _ _ h' => h'.elim))
def freeOk (sc : Scope) : List (Str × NameKind) → Bool
 | [] => true
 | (n, k) :: r => (k != .free || sc.names.lookup n == some .cell || sc.names.lookup n == some .free) && freeOk sc r
def Yu (env : Env) : List (Str × NameKind) → List (Str × Addr) → List (Str × Addr)
 | [], cs => cs
 | (n, k) :: r, cs => Yu env r (if k = .free then (n, (env.cells.lookup n).getD 0) :: cs else cs)
theorem Jm {env : Env} : ∀ (l : List (Str × NameKind)) (cs : List (Str × Addr)), (∀ n, (n, NameKind.free) ∈ l → ∃ c, env.cells.lookup n = some c) → (∀ x c, cs.lookup x = some c → env.cells.lookup x = some c) →
  ∀ x c, (Yu env l cs).lookup x = some c → env.cells.lookup x = some c
 | [], cs, _, h => h
 | (n, k) :: r, cs, hl, h => by
  refine Jm r _ (fun m hm => hl m (zQ _ hm)) fun x c e => ?_
  by_cases hk : k = .free
  ·rw [if_pos hk] at e
   subst hk
   obtain ⟨c', hc⟩ := hl n jK
   rw [jXf] at e
   cases hx : x == n with
   | true =>
    rw [hx] at e
    have : x = n := by simpa using hx
    subst this
    rw [hc] at e
    simp at e
    rw [hc, e]
   | false => rw [hx] at e; exact h x c e
  ·rw [if_neg hk] at e
   exact h x c e
theorem Jn {env : Env} : ∀ (l : List (Str × NameKind)) (cs : List (Str × Addr)) (x : Str), ((cs.lookup x).isSome = true ∨ (x, NameKind.free) ∈ l) → ((Yu env l cs).lookup x).isSome = true
 | [], cs, x, h => by
  rcases h with h | h
  ·exact h
  ·exact nomatch h
 | (n, k) :: r, cs, x, h => by
  refine Jn r _ x ?_
  rcases h with h | h
  ·left
   split
   ·rw [jXf]
    split
    ·rfl
    ·exact h
   ·exact h
  ·rcases yJ.mp h with e | e
   ·cases e
    left
    rw [if_pos rfl, jXf]
    simp
   ·exact .inr e
theorem Zx {scope : Scope} {env : Env} (h : ∀ n, (n, NameKind.free) ∈ scope.names → ∃ c, env.cells.lookup n = some c) : closureFor scope env = pure (Yu env scope.names []) := by
 unfold closureFor
 suffices ∀ (l : List (Str × NameKind)) (cs : List (Str × Addr)), (∀ n, (n, NameKind.free) ∈ l → ∃ c, env.cells.lookup n = some c) → (forIn l cs fun x r =>
   if (x.2 == NameKind.free) = true then do let a ← cellOf env x.1; pure (ForInStep.yield ((x.1, a) :: r)) else pure (ForInStep.yield r) : Sem _) = pure (Yu env l cs) by
  have := this scope.names [] h
  simp only at this ⊢
  rw [this]
  rfl
 intro l
 induction l with
 | nil => intro cs _; rfl
 | cons p r ih =>
  intro cs hl
  obtain ⟨n, k⟩ := p
  rw [List.forIn_cons]
  by_cases hk : k = .free
  ·subst hk
   obtain ⟨c, hc⟩ := hl n jK
   have e : cellOf env n = pure c := by unfold cellOf; rw [hc]
   have hb : (NameKind.free == NameKind.free) = true := rfl
   simp only [hb, if_true, e, Yu, hc, Option.getD_some]
   exact ih _ fun m hm => hl m (zQ _ hm)
  ·have hb : (k == NameKind.free) = false := by simpa using hk
   simp only [hb, jZd, if_false, Yu, if_neg hk]
   exact ih _ fun m hm => hl m (zQ _ hm)
theorem Zf {sc : Scope} : ∀ {l : List (Str × NameKind)}, freeOk sc l = true → ∀ n, (n, NameKind.free) ∈ l → sc.names.lookup n = some .cell ∨ sc.names.lookup n = some .free
 | [], _, n, h => nomatch h
 | (m, k) :: r, h, n, hm => by
  simp only [freeOk, wX] at h
  rcases yJ.mp hm with e | e
  ·cases e
   have h1 := h.1
   have hb : (NameKind.free != NameKind.free) = false := rfl
   rw [hb] at h1
   simp only [Bool.false_or, kXf, beq_iff_eq] at h1
   exact h1
  ·exact Zf h.2 n e
theorem Yg {env : Env} : ∀ {names : List (Str × NameKind)} {x : Str} {k : NameKind}, (names.map fun (n, k) => if (k == NameKind.free && env.scope.kind == .function && env.kindOf n == some .cell) then (n, NameKind.cell) else (n, k)).lookup x = some k →
  ∃ k0, names.lookup x = some k0 ∧ (k = k0 ∨ (k = .cell ∧ k0 = .free))
 | [], _, _, h => by simp at h
 | (n, k0) :: r, x, k, h => by
  rw [zJ] at h
  by_cases hc : (k0 == NameKind.free && env.scope.kind == .function && env.kindOf n == some .cell) = true
  ·simp only [hc, if_true, jXf] at h
   rw [jXf]
   cases hx : x == n with
   | true =>
    rw [hx] at h
    refine ⟨k0, rfl, .inr ⟨(Option.some.inj h).symm, ?_⟩⟩
    simp only [wX, beq_iff_eq] at hc
    exact hc.1.1
   | false => rw [hx] at h; exact Yg h
  ·simp only [hc, jZd, if_false, jXf] at h
   rw [jXf]
   cases hx : x == n with
   | true => rw [hx] at h; exact ⟨k0, rfl, .inl (Option.some.inj h).symm⟩
   | false => rw [hx] at h; exact Yg h
theorem lookup_mem {α : Type} : ∀ {l : List (Str × α)} {x : Str} {k : α}, l.lookup x = some k → (x, k) ∈ l
 | [], _, _, h => by simp at h
 | (n, k0) :: r, x, k, h => by
  rw [jXf] at h
  cases hx : x == n with
  | true =>
   rw [hx] at h
   have e1 : x = n := by simpa using hx
   have e2 : k0 = k := Option.some.inj h
   subst e1 e2
   exact jK
  | false => rw [hx] at h; exact zQ _ (lookup_mem h)
def Vp (cp : List (Option Nat)) (σ : St) : St := cp.map fun (o : Option Nat) => match o with
 | none => none
 | some j => match σ[(j : Nat)]? with
  | some v => v
  | none => none
def Ka (X : Cx) (scope : Scope) : List Str → List (Option Nat) → Bool
 | [], [] => true
 | x :: N, o :: cp => (match o with | none => true | some j => X.N[j]? == some x && scope.names.lookup x == some .free) && Ka X scope N cp
 | _, _ => false
theorem Qca {X : Cx} {scope : Scope} : ∀ {N : List Str} {cp : List (Option Nat)}, Ka X scope N cp = true → cp.length = N.length
 | [], [], _ => rfl
 | _ :: N, _ :: cp, h => by
  simp only [Ka, wX] at h
  simp [Qca h.2]
 | [], _ :: _, h => by simp [Ka] at h
 | _ :: _, [], h => by simp [Ka] at h
theorem Qcb {X : Cx} {scope : Scope} : ∀ {N : List Str} {cp : List (Option Nat)} {i : Nat} {x : Str} {v : V} {σ : St}, Ka X scope N cp = true → N[i]? = some x → (Vp cp σ)[i]? = some (some v) →
  ∃ j : Nat, X.N[j]? = some x ∧ σ[j]? = some (some v) ∧ scope.names.lookup x = some .free
 | [], [], i, x, v, σ, _, h, _ => by simp at h
 | y :: N, o :: cp, 0, x, v, σ, h, e, e2 => by
  simp only [Ka, wX] at h
  have e' : y = x := by simpa using e
  subst e'
  cases o with
  | none => simp [Vp] at e2
  | some j =>
   have h1 := h.1
   simp only [wX, beq_iff_eq] at h1
   refine ⟨j, h1.1, ?_, h1.2⟩
   simp only [Vp, zJ, List.getElem?_cons_zero, Option.some.injEq] at e2
   cases q : σ[j]? with
   | none => rw [q] at e2; cases e2
   | some z => rw [q] at e2; exact congrArg some e2
 | y :: N, o :: cp, i + 1, x, v, σ, h, e, e2 => by
  simp only [Ka, wX] at h
  exact Qcb (i := i) h.2 (by simpa using e) (by simpa [Vp] using e2)
 | [], _ :: _, _, _, _, _, h, _, _ => by simp [Ka] at h
 | _ :: _, [], _, _, _, _, h, _, _ => by simp [Ka] at h
def Xu (X : Cx) (N : List Str) (scope : Scope) (fp : List Addr) (H : Hp) (s : Shared) : Cx :=
 { X with N := N, s₀ := s, H₀ := H, env := compEnvC scope (Yu X.env scope.names []) s.heap.objs.size X.env, outer := X.stack, stack := X.stack, ex := fp, fn := fun _ => false, pn := [], xe := fun _ _ => False }
section
variable {X : Cx}
theorem Wu {l : List (Str × NameKind)} (h : (l.all fun p => p.2 != .cell) = true) : ∀ y ∈ l, y.2 ≠ .cell := fun y hy => by
 have := jZc.mp h y hy
 simpa using this
theorem Qfk {pins : List (Addr × Obj)} {σ : St} {H : Hp} {s : Shared} {N : List Str} {scope : Scope} {fp : List Addr} (I : Inv X pins σ H s) (hf : ∀ b ∈ fp, FpOk X pins H b) (hlt : ∀ b ∈ fp, b < s.heap.objs.size) (hk : scope.kind = .function)
  (hcell : (scope.names.all fun p => p.2 != .cell) = true) (hfree : freeOk X.env.scope scope.names = true) : (Xu X N scope fp H s).Ok := by
 have has : ∀ n, (n, NameKind.free) ∈ scope.names → ∃ c, X.env.cells.lookup n = some c := fun n hn => I.ok.has n (Zf hfree n hn)
 have sub : ∀ x c, (Yu X.env scope.names []).lookup x = some c → X.env.cells.lookup x = some c := Jm _ _ has fun x c e => by simp at e
 have fs : ∀ b ∈ fp, b ∉ frs X.stack := fun b hb z => by
  obtain ⟨_, f1, f2, _⟩ := hf b hb
  rcases yJ.mp (I.stkSub b z) with e | e
  ·exact f1 e
  ·exact f2 e
 refine ⟨I.ok.mod, hk, I.ok.glob, I.ok.blt, jX _, fun x y c h1 h2 => I.ok.inj x y c (sub x c h1) (sub y c h2), fun x hx => ?_, (fun x c h => nomatch h), I.ok.hd, I.ok.frames, .inl rfl, fun b hb => ⟨zK (hlt b hb), fun x c e => (hf b hb).2.2.2.2.1 x c (sub x c e)⟩,
  I.bs, jQa I.ok.bsz I.sz, fun b o e hb => ?_, fs, I.stack, I.stkFree⟩
 ·have hx' : (scope.names.map fun (n, k) => if (k == NameKind.free && X.env.scope.kind == .function && X.env.kindOf n == some .cell) then (n, NameKind.cell) else (n, k)).lookup x = some .cell ∨
    (scope.names.map fun (n, k) => if (k == NameKind.free && X.env.scope.kind == .function && X.env.kindOf n == some .cell) then (n, NameKind.cell) else (n, k)).lookup x = some .free := hx
  have fr : (x, NameKind.free) ∈ scope.names := by
   rcases hx' with e | e
   ·obtain ⟨k0, e0, z | z⟩ := Yg e
    ·subst z
     exact absurd rfl (Wu hcell _ (lookup_mem e0))
    ·obtain ⟨_, z⟩ := z
     subst z
     exact lookup_mem e0
   ·obtain ⟨k0, e0, z | z⟩ := Yg e
    ·subst z
     exact lookup_mem e0
    ·exact nomatch z.1
  exact jZa.mp (Jn _ _ x (.inr fr))
 ·obtain ⟨_, _, _, f3, _⟩ := hf b hb
  rcases f3 with z | z
  ·exact I.ok.noex b o e z
  ·exact absurd (zY (yK (I.ok.bs b o e).1) z) (jYf _)
theorem Qgs {pins : List (Addr × Obj)} {σ : St} {H : Hp} {s : Shared} {N : List Str} {scope : Scope} {fp : List Addr} {cp : List (Option Nat)} {h' : Heap} {m : Str → Option Value} {t' : Nat} (I : Inv X pins σ H s) (hf : ∀ b ∈ fp, FpOk X pins H b) (hlt : ∀ b ∈ fp, b < s.heap.objs.size) (hk : scope.kind = .function)
  (hcell : (scope.names.all fun p => p.2 != .cell) = true) (hfree : freeOk X.env.scope scope.names = true) (hcap : Ka X scope N cp = true)
  (hns : h'.Ns s.heap.objs.size m) (hx : ∀ b o, s.heap.get? b = some o → h'.get? b = some o) : Inv (Xu X N scope fp H s) [] (Vp cp σ) H { s with heap := h', toks := t' } := by
 have has : ∀ n, (n, NameKind.free) ∈ scope.names → ∃ c, X.env.cells.lookup n = some c := fun n hn => I.ok.has n (Zf hfree n hn)
 have sub : ∀ x c, (Yu X.env scope.names []).lookup x = some c → X.env.cells.lookup x = some c := Jm _ _ has fun x c e => by simp at e
 refine ⟨Qfk I hf hlt hk hcell hfree, rfl, I.bare, ⟨fun b o e n _ _ => hx b o e, fun b o e n _ _ => ⟨o.slots, hx b o e⟩, fun b o e n _ => n, fun b o e _ => ⟨o, hx b o e⟩, fun b xs e => e, fun b o xs e => e, fun b ps e => ⟨#[], by rw [Array.append_empty]; exact e⟩⟩, ⟨m, hns, fun i x v e1 e2 e3 => ?_⟩, fun x c e => ?_, I.hok.fresh (jX _), fun x c e => I.freeC x c (sub x c e), (fun p hp => nomatch hp), I.hok.kept hx, ?_⟩
 ·obtain ⟨j, h1, h2, h3⟩ := Qcb hcap e1 e2
  obtain ⟨m', _, hl⟩ := I.loc
  have hkx := Zf hfree x (lookup_mem h3)
  obtain ⟨u, r, l⟩ := hl j x v h1 h2 (.inr hkx)
  rcases l with ⟨l, _⟩ | ⟨_, c, hc, hcell'⟩
  ·rcases hkx with z | z
   ·exact nomatch (Option.some.inj (l.symm.trans z))
   ·exact nomatch (Option.some.inj (l.symm.trans z))
  ·obtain ⟨c', hc'⟩ := jZa.mp (Jn (env := X.env) scope.names [] x (.inr (lookup_mem h3)))
   have ec := sub x c' hc'
   rw [hc] at ec
   cases ec
   refine ⟨u, r, .inr ⟨?_, c, hc', ?_⟩⟩
   ·rcases e3 with z | z | z
    ·obtain ⟨k0, e0, y | y⟩ := Yg (show (scope.names.map fun (n, k) => if (k == NameKind.free && X.env.scope.kind == .function && X.env.kindOf n == some .cell) then (n, NameKind.cell) else (n, k)).lookup x = some .local from z)
     ·rw [h3] at e0; cases e0; cases y
     ·exact nomatch y.1
    ·exact .inl z
    ·exact .inr z
   ·obtain ⟨o, ho, hd⟩ := hcell'
    exact ⟨o, hx c o ho, hd⟩
 ·obtain ⟨v, o, ho, hd⟩ := I.cell x c (sub x c e)
  exact ⟨v, o, hx c o ho, hd⟩
 ·show (Vp cp σ).length = N.length
  unfold Vp
  rw [jZ]
  exact Qca hcap
theorem Qde {pins : List (Addr × Obj)} {σ σ' : St} {H H' : Hp} {s s' : Shared} {N : List Str} {scope : Scope} {fp : List Addr} {pins' : List (Addr × Obj)} (I : Inv X pins σ H s) (hf : ∀ b ∈ fp, FpOk X pins H b)
  (J : Inv (Xu X N scope fp H s) pins' σ' H' s') : Inv X pins σ H' s' :=
 I.call' (ch := fp) J.os J.base J.hok J.bare fun b hb => ⟨(hf b hb).2.2.2.1, (hf b hb).2.1, (hf b hb).2.2.2.2.1, (hf b hb).2.2.2.2.2⟩
def PF (X : Cx) (ifs : List Expr) (t : TT) : Prop :=
 ∀ (pins : List (Addr × Obj)) (s : Shared) (σ : St) (H : Hp) (Q : Bool → Hp → Prop), Inv X pins σ H s → t σ H Q →
  wpAny (model X.prog X.w) X.A (forIn ifs true fun c r => if r = true then do let ok ← isTrue c X.env (eval c X.env); pure (ForInStep.yield ok) else pure (ForInStep.yield r)) (TP X pins σ Q) X.xe s
def tYes : TT := fun _ H Q => Q true H
theorem Kb : PF X [] tYes := fun _ _ _ H _ I h => wpAny_tests_nil ⟨H, I, h⟩
theorem Zk {c : Expr} {t : TT} (hc : PT X c t) : PF X [c] t := fun pins s σ H Q I h => wpAny_tests_one (hc pins s σ H Q I h)
def LcW (J : It) (D : Addr) (τ0 : St) (H : Hp) (g : TG) (tt : TT) (te : TE) (Q : Addr → Hp → Prop) : Prop := ∃ W : Nat → Nat → St → List V → Hp → Prop, (∃ m, W 0 m τ0 [] (upd H D (.lst []))) ∧ ∀ i m τ ys H, W i m τ ys H →
 H D = some (.lst ys) ∧ ((J.stop i H ∧ Q D H) ∨ (J.go i H ∧ ys.length < sizeLine ∧ ∃ (N1 : St → V → Hp → Prop) (N2 : St → Hp → Prop), (∀ τ v H, N1 τ v H → ∃ m', m' < m ∧ W (i + 1) m' τ (ys ++ [v]) (upd H D (.lst (ys ++ [v])))) ∧ (∀ τ H, N2 τ H → ∃ m', m' < m ∧ W (i + 1) m' τ ys H) ∧
  ∀ x H', J.yld i H x H' → g x τ H' fun σ2 H2 => tt σ2 H2 fun ok H3 => if ok = true then te σ2 H3 fun v H4 => H4 D = some (.lst ys) ∧ N1 σ2 v H4 else N2 σ2 H3))
def tLC (cp : List (Option Nat)) (wi : TI) (g : TG) (tt : TT) (te : TE) (σ : St) (H : Hp) (Q : Addr → Hp → Prop) : Prop := wi σ H fun J H1 => ∀ D, H1 D = none → LcW J D (Vp cp σ) H1 g tt te Q
theorem Qeg {elt iter target : Expr} {ifs : List Expr} {scope : Scope} {pos : Pos} {N : List Str} {cp : List (Option Nat)} {g : TG} {tt : TT} {te : TE} {pins : List (Addr × Obj)} {σ : St} {H : Hp} {s : Shared} {E : Value → Shared → Prop} {Q : Addr → Hp → Prop}
  {it : Addr} {fp : List Addr} {tn : Nat → Heap → Prop} {J : It} {RR : Value → Addr → Result → Shared → Prop} (hc : X.calm = true) (hk : scope.kind = .function) (hcell : (scope.names.all fun p => p.2 != .cell) = true) (hfree : freeOk X.env.scope scope.names = true) (hcap : Ka X scope N cp = true)
  (hg : ∀ fp H s, PG (Xu X N scope fp H s) target g) (ht : ∀ fp H s, PF (Xu X N scope fp H s) ifs tt) (he : ∀ fp H s, PE (Xu X N scope fp H s) elt te)
  (I : Inv X pins σ H s) (T : Turn X.prog X.w X.K target J fp it tn) (st : tn 0 s.heap) (hf : ∀ b ∈ fp, FpOk X pins H b)
  (h : ∀ D, H D = none → LcW J D (Vp cp σ) H g tt te Q)
  (hRR : ∀ D C s' H' m, Inv X pins σ H' s' → FpOk X pins H' C → s'.heap.Ns C m → Q D H' → RR (.ref D) C (.ok .next) s') :
  wpAny (model X.prog X.w) X.A (newList []) (fun acc s3 => wpAny (model X.prog X.w) X.A (newFunctionEnv scope X.env.globals (Yu X.env scope.names []) [] X.env.qual none .none (some X.env)) (fun cenv s4 =>
   codeAny (model X.prog X.w) X.A (.compStart (.ListComp elt [⟨target, iter, ifs, 0⟩] scope pos) 0 (.ref it) acc { cenv with scope := relabel scope X.env }) (RR acc cenv.locals) s4) E s3) E s := by
 have hlt : ∀ b ∈ fp, b < s.heap.objs.size := fun b hb => by
  obtain ⟨o, e, _⟩ := T.obj _ _ st b hb
  exact yK e
 refine wpAny_newObj_type (wpAny_newFunctionEnv (Wu hcell) (by intro y hy; simp at hy) (fun h1 hns1 hsb1 => ?_) hk)
 dsimp only at hns1 hsb1 ⊢
 have hD : H s.heap.objs.size = none := I.hok.fresh (jX _)
 have I3 : Inv X pins σ (upd H s.heap.objs.size (.lst [])) { s with heap := s.heap.push { cls := .type "list", dict := none, data := .seq ([] : List Value).toArray } } :=
  I.laid (t' := s.toks) (fun b u e => jJ _ e) (jX _) ⟨wK _, [], 0, .nil, yX _ rfl⟩
 have hf3 : ∀ b ∈ fp, FpOk X pins (upd H s.heap.objs.size (.lst [])) b := fun b hb => ⟨by rw [Qj (zK (hlt b hb))]; exact (hf b hb).1, (hf b hb).2⟩
 have hlt3 : ∀ b ∈ fp, b < (s.heap.push { cls := .type "list", dict := none, data := .seq ([] : List Value).toArray }).objs.size := fun b hb => by rw [jKf]; exact kQe (hlt b hb)
 generalize hH2 : s.heap.push { cls := .type "list", dict := none, data := .seq ([] : List Value).toArray } = H2 at hns1 hsb1 I3 hlt3 ⊢
 generalize hs3 : ({ s with heap := H2 } : Shared) = s3 at I3
 have hs3h : s3.heap = H2 := by rw [← hs3]
 have ext1 : ∀ b o, s3.heap.get? b = some o → h1.get? b = some o := fun b o e => by
  rw [hs3h] at e
  exact hsb1.extBut b o (zK (yK e)) (jJ _ e)
 have J0 : Inv (Xu X N scope fp (upd H s.heap.objs.size (.lst [])) s3) [] (Vp cp σ) (upd H s.heap.objs.size (.lst [])) { s3 with heap := h1, toks := s.toks + ([] : List (Str × Value)).length } :=
  Qgs I3 hf3 (by rw [hs3h]; exact hlt3) hk hcell hfree hcap (by rw [hs3h]; exact hns1) ext1
 have st1 : tn 0 h1 := T.keep _ _ _ st fun b hb o e => ext1 b o (by rw [hs3h, ← hH2]; exact jJ _ e)
 obtain ⟨W, ⟨m0, w0⟩, turn⟩ := h s.heap.objs.size hD
 have stat : ∀ {H' : Hp}, (∀ b ∈ fp, H' b = none) → ∀ b ∈ fp, FpOk (Xu X N scope fp (upd H s.heap.objs.size (.lst [])) s3) [] H' b := fun {H'} hn b hb =>
  ⟨hn b hb, (J0.ok.exf b hb).1, J0.ok.exfs b hb, .inl hb, (J0.ok.exf b hb).2, fun p hp => nomatch hp⟩
 have loop : codeAny (model X.prog X.w) X.A (.compLoop (.ListComp elt [⟨target, iter, ifs, 0⟩] scope pos) 0 (.ref it) (.ref s.heap.objs.size) (compEnvC scope (Yu X.env scope.names []) H2.objs.size X.env))
   (RR (.ref s.heap.objs.size) H2.objs.size) { s3 with heap := h1, toks := s.toks + ([] : List (Str × Value)).length } := by
  have eEnv : compEnvC scope (Yu X.env scope.names []) H2.objs.size X.env = (Xu X N scope fp (upd H s.heap.objs.size (.lst [])) s3).env := by
   rw [← hs3h]; rfl
  rw [eEnv]
  refine Qbz (fun n s' => ∃ i τ ys H', Inv (Xu X N scope fp (upd H s.heap.objs.size (.lst [])) s3) [] τ H' s' ∧ tn i s'.heap ∧ (∀ b ∈ fp, H' b = none) ∧ W i n τ ys H') ?_ m0 ⟨0, Vp cp σ, [], _, J0, st1, fun b hb => (hf3 b hb).1, w0⟩
  rintro n s4 ⟨i, τ, ys, H4, I4, st4, fr4, w4⟩
  obtain ⟨hD4, hh⟩ := turn i n τ ys H4 w4
  rcases hh with ⟨stop, qn⟩ | ⟨go, hlen, N1, N2, hN1, hN2, step⟩
  ·refine thn (T.done (Xu X N scope fp (upd H s.heap.objs.size (.lst [])) s3) rfl rfl rfl hc i [] s4 τ H4 _ I4 (stat fr4) st4 stop) fun r s5 hqP => ?_
   obtain ⟨hr, I5⟩ := hqP
   subst hr
   obtain ⟨m, hm, _⟩ := I5.loc
   have e5 : H2.objs.size = (Xu X N scope fp (upd H s.heap.objs.size (.lst [])) s3).env.locals := by rw [← eEnv]; rfl
   refine hRR _ _ s5 H4 m (Qde I3 hf3 I5) ?_ (by rw [e5]; exact hm) qn
   exact I3.fpOk (by rw [hs3h]; exact jX _) (by rw [e5]; exact I5.free)
  ·refine thn (T.item (Xu X N scope fp (upd H s.heap.objs.size (.lst [])) s3) rfl rfl rfl hc i [] s4 τ H4 _ I4 (stat fr4) st4 go) fun r s5 hqP => ?_
   obtain ⟨u, hr, h5⟩ := hqP
   subst hr
   refine thn h5 fun _ s6 hqP => ?_
   obtain ⟨x, H6, I6, r6, y6, st6, fr6⟩ := hqP
   have I6' := I6.pinned (stat fr6) (T.obj _ _ st6)
   refine thn (hg fp _ _ _ s6 τ H6 x u _ I6' r6 (step x H6 y6)) fun _ s7 hqP => ?_
   obtain ⟨σ7, H7, I7, q7⟩ := hqP
   refine thn (ht fp _ _ _ s7 σ7 H7 _ I7 q7) fun ok s8 hqP => ?_
   obtain ⟨H8, I8, q8⟩ := hqP
   have back : ∀ {σ' : St} {H' : Hp} {s' : Shared}, Inv (Xu X N scope fp (upd H s.heap.objs.size (.lst [])) s3) ([] ++ Qbn fp s6.heap) σ' H' s' → Inv (Xu X N scope fp (upd H s.heap.objs.size (.lst [])) s3) [] σ' H' s' ∧ tn (i + 1) s'.heap ∧ ∀ b ∈ fp, H' b = none := fun {σ' H' s'} I' => by
    refine ⟨I'.unpinned, T.keep _ _ _ st6 fun b hb o e => (I'.pin (b, o) (zX _ (zX _ (Jf hb e)))).1, fun b hb => ?_⟩
    obtain ⟨o, e, d⟩ := T.obj _ _ st6 b hb
    exact (I'.pin (b, o) (zX _ (zX _ (Jf hb e)))).2.1
   cases ok with
   | false =>
    rw [if_neg yZ] at q8 ⊢
    obtain ⟨m', hm, w8⟩ := hN2 _ _ q8
    obtain ⟨b1, b2, b3⟩ := back I8
    exact ⟨m', hm, i + 1, σ7, ys, H8, b1, b2, b3, w8⟩
   | true =>
    rw [if_pos rfl] at q8 ⊢
    refine thn (he fp _ _ _ s8 σ7 H8 _ I8 q8) fun y s9 hqP => ?_
    obtain ⟨v, H9, I9, r9, hD9, n9⟩ := hqP
    obtain ⟨m', hm, w9⟩ := hN1 _ _ _ n9
    refine thn (Xw _ s9 σ7 H9 (.ref s.heap.objs.size) [v] (.ref s.heap.objs.size) [y] (fun _ H' => H' = upd H9 s.heap.objs.size (.lst (ys ++ [v]))) I9 rfl (.cons r9 .nil) ⟨_, ys, v, rfl, rfl, hD9, hlen, rfl⟩) fun _ s10 hqP => ?_
    obtain ⟨_, H10, I10, _, e10⟩ := hqP
    subst e10
    obtain ⟨b1, b2, b3⟩ := back I10
    exact ⟨m', hm, i + 1, σ7, _, _, b1, b2, b3, w9⟩
 have e3 : ({ s with heap := h1, toks := s.toks + ([] : List (Str × Value)).length } : Shared) = { s3 with heap := h1, toks := s.toks + ([] : List (Str × Value)).length } := by rw [← hs3]
 rw [e3]
 exact codeAny_compStart_list loop (T.self _ 0 _ _ _ st1 loop)
theorem Zs {elt iter target : Expr} {ifs : List Expr} {scope : Scope} {pos : Pos} (N : List Str) (cp : List (Option Nat)) {wi : TI} {g : TG} {tt : TT} {te : TE} (hc : X.calm = true) (hi : PI X target iter wi)
  (hg : ∀ fp H s, PG (Xu X N scope fp H s) target g) (ht : ∀ fp H s, PF (Xu X N scope fp H s) ifs tt) (he : ∀ fp H s, PE (Xu X N scope fp H s) elt te)
  (hk : autoParam (scope.kind = .function) L2.aRfl._auto_1) (hcell : autoParam ((scope.names.all fun p => p.2 != .cell) = true) L2.aRfl._auto_1) (hfree : autoParam (freeOk X.env.scope scope.names = true) L2.aRfl._auto_1) (hcap : autoParam (Ka X scope N cp = true) L2.aRfl._auto_1)
  (hnames : autoParam ((scope.names.all fun p => p.2 != .local || scope.names.lookup p.1 == some .local) = true) L2.aRfl._auto_1) (hs : autoParam (∀ x, foldedSetIterable iter X.env x = pure x) L2.aIrf._auto_1) :
  PE X (.ListComp elt [⟨target, iter, ifs, 0⟩] scope pos) (fun σ H Q => tLC cp wi g tt te σ H fun D H' => Q (.ref D) H') := by
 intro pins s σ H Q I h
 rw [eval_ListComp]
 have has : ∀ n, (n, NameKind.free) ∈ scope.names → ∃ c, X.env.cells.lookup n = some c := fun n hn => I.ok.has n (Zf hfree n hn)
 refine wpAny_comprehension_free (use := none) rfl hs (Zx has) hk (fun x hx hl => ?_) (thn (hi pins s σ H _ I h) fun xv s1 h1 => thn h1 fun itv s2 h2 => ?_)
 ·have := jZc.mp hnames x hx
  simp only [kXf, bne_iff_ne, beq_iff_eq] at this
  exact this.resolve_left fun z => z hl
 ·obtain ⟨it, fp, tn, J, H2, e, I2, T, st2, f2, hW⟩ := h2
  subst e
  refine Qeg (N := N) (cp := cp) hc hk hcell hfree hcap hg ht he I2 T st2 f2 hW fun D C s' H' m I' fC hm q => ⟨m, hm, fun h' hsb => ?_⟩
  exact ⟨.ref D, H', I'.turned (t' := s'.toks) (fun b o hb e => hsb.extBut b o hb e) fC.1 fC.2.1 fC.2.2.2.1 fC.2.2.2.2.1 fC.2.2.2.2.2, rfl, q⟩
theorem Qaj {i : Nat} {x : Str} {px : Pos} {elt iter target : Expr} {ifs : List Expr} {scope : Scope} {pos spos : Pos} (N : List Str) (cp : List (Option Nat)) {wi : TI} {g : TG} {tt : TT} {te : TE} (hc : X.calm = true) (hN : X.N.Nodup) (hi' : X.N[i]? = some x) (hx : Loc X.env.scope x) (hi : PI X target iter wi)
  (hg : ∀ fp H s, PG (Xu X N scope fp H s) target g) (ht : ∀ fp H s, PF (Xu X N scope fp H s) ifs tt) (he : ∀ fp H s, PE (Xu X N scope fp H s) elt te)
  (hsw : autoParam (swapsWith (.ListComp elt [⟨target, iter, ifs, 0⟩] scope pos) (some (.Name x px)) spos.line X.env = pure true) L2.aRfl._auto_1)
  (hk : autoParam (scope.kind = .function) L2.aRfl._auto_1) (hcell : autoParam ((scope.names.all fun p => p.2 != .cell) = true) L2.aRfl._auto_1) (hfree : autoParam (freeOk X.env.scope scope.names = true) L2.aRfl._auto_1) (hcap : autoParam (Ka X scope N cp = true) L2.aRfl._auto_1)
  (hnames : autoParam ((scope.names.all fun p => p.2 != .local || scope.names.lookup p.1 == some .local) = true) L2.aRfl._auto_1) (hs : autoParam (∀ x, foldedSetIterable iter X.env x = pure x) L2.aIrf._auto_1)
  (hf : autoParam (X.fn x = true ∨ X.env.scope.names.lookup x = some .local) L2.aFst._auto_1) :
  PS X (.Assign [.Name x px] (.ListComp elt [⟨target, iter, ifs, 0⟩] scope pos) spos) (fun D σ H => tLC cp wi g tt te σ H fun a H' => D.nx (σ.set i (some (.ref a))) H') := by
 intro pins s σ H D I h
 have has : ∀ n, (n, NameKind.free) ∈ scope.names → ∃ c, X.env.cells.lookup n = some c := fun n hn => I.ok.has n (Zf hfree n hn)
 rw [exec_Assign_Name_used _ _ _ _ hsw]
 refine jQ (wpAny_standAt (jQ ?_))
 show wpAny _ _ (do let _ ← comprehension (.ListComp elt [⟨target, iter, ifs, 0⟩] scope pos) scope X.env _ (newList []) false (eval iter X.env) (some (assign (.Name x px) X.env))) _ _ s
 refine jQ (wpAny_mono (wpAny_comprehension_free (use := some (assign (.Name x px) X.env)) (Q := fun _ s' => SP X pins D .next s') rfl hs (Zx has) hk (fun x hx hl => ?_)
  (thn (hi pins s σ H _ I h) fun xv s1 h1 => thn h1 fun itv s2 h2 => ?_)) (fun _ s' hq => jW (jW hq)) fun _ _ e => e)
 ·have := jZc.mp hnames x hx
  simp only [kXf, bne_iff_ne, beq_iff_eq] at this
  exact this.resolve_left fun z => z hl
 ·obtain ⟨it, fp, tn, J, H2, e, I2, T, st2, f2, hW⟩ := h2
  subst e
  refine Qeg (N := N) (cp := cp) hc hk hcell hfree hcap hg ht he I2 T st2 f2 hW fun D' C s' H' m I' fC hm q => ?_
  show wpAny _ _ (assign (.Name x px) X.env (.ref D')) _ _ _
  refine wpAny_assign_Name (Qbk I' hN hi' hx (v := .ref D') rfl (fun s'' I'' hsb => ?_) hf)
  obtain ⟨a, hsb, ha⟩ := hsb
  have hCa : C ≠ a := by
   rcases ha with e | e
   ·rw [e]; exact fC.2.1
   ·exact fun z => fC.2.2.2.2.1 x a e z.symm
  refine ⟨m, hm.sameBut hsb hCa, fun h' hsb' => ?_⟩
  exact ⟨_, H', I''.turned (t' := s''.toks) (fun b o hb e => hsb'.extBut b o hb e) fC.1 fC.2.1 fC.2.2.2.1 fC.2.2.2.2.1 fC.2.2.2.2.2, q⟩
end
structure Drw (P : Program) (w : World) (it l : Addr) (st : Nat → Heap → Prop) (src : List Value → Heap → Prop) : Prop where
 obj : ∀ i h, st i h → ∃ o, h.get? it = some o ∧ ∀ v, o.data ≠ .cell v
 keep : ∀ i h h', st i h → (∀ o, h.get? it = some o → h'.get? it = some o) → st i h'
 srck : ∀ xs h h', src xs h → (∀ o, h.get? l = some o → h'.get? l = some o) → src xs h'
 item : ∀ (A : Around) (E : Value → Shared → Prop) (s : Shared) (i : Nat) (xs : List Value) (x : Value) (Q : Value → Shared → Prop), st i s.heap → src xs s.heap → xs[i]? = some x →
  (∀ h', st (i + 1) h' → Heap.SameBut it s.heap h' → Q x { s with heap := h' }) → wpAny (model P w) A (Builtin.SmallTypes.nextOf (.ref it)) Q E s
 done : ∀ (A : Around) (E : Value → Shared → Prop) (s : Shared) (i : Nat) (xs : List Value) (Q : Value → Shared → Prop), A.handled = none → st i s.heap → src xs s.heap → xs[i]? = none →
  (∀ h' e, Heap.ExtBut it s.heap h' → (∃ o, h'.get? e = some o ∧ o.cls = .type "StopIteration") → E (.ref e) { s with heap := h' }) → wpAny (model P w) A (Builtin.SmallTypes.nextOf (.ref it)) Q E s
theorem Qja {P : Program} {w : World} (it l : Addr) : Drw P w it l (fun i h => h.IsListIter it l i) (fun xs h => h.IsList l xs.toArray) where
 obj := fun i h st => by
  obtain ⟨o, e, c, d⟩ := st
  exact ⟨o, e, fun v z => by rw [d] at z; cases z⟩
 keep := fun i h h' st k => st.at k
 srck := fun xs h h' sr k => sr.at k
 item := fun A E s i xs x Q st sr hx hQ => wpAny_nextOf_list_item st sr (by simpa using hx) hQ
 done := fun A E s i xs Q hh st sr hx hE => wpAny_nextOf_list_end hh st sr (by simpa using hx) hE
section
variable {P : Program} {w : World} {A : Around} {E : Value → Shared → Prop} {s : Shared}
theorem Vq {it t : Addr} {i : Nat} {xs : Array Value} {x : Value} {Q : Value → Shared → Prop} (hI : s.heap.IsTupleIter it t i) (hT : s.heap.IsTuple t xs) (hx : xs[i]? = some x)
  (hQ : ∀ h', h'.IsTupleIter it t (i + 1) → Heap.SameBut it s.heap h' → Q x { s with heap := h' }) : wpAny (model P w) A (Builtin.SmallTypes.nextOf (.ref it)) Q E s := by
 obtain ⟨oI, gI, cI, dI⟩ := id hI
 obtain ⟨oT, gT, _, nT, dT⟩ := hT
 unfold Builtin.SmallTypes.nextOf
 refine jQ (wpAny_callSpecial?_slot (name := Str.ofString "__next__") hI.typeIs F.slot_tuple_iterator_next (wpAny_call_entry F.slot_tuple_iterator_next hI.typeIs F.entry_tuple_iterator_next ?_ (F.args_tuple_iterator_next_1 _)))
 show wpAny _ _ (field (.ref it) 0 >>= _) _ _ s
 refine jQ (wpAny_field gI dI (x := .ref t) rfl ?_)
 show wpAny _ _ (if (Value.ref t == Value.none) = true then _ else _) _ _ s
 rw [if_neg (show ¬ ((Value.ref t == Value.none) = true) from yZ)]
 show wpAny _ _ (field (.ref it) 1 >>= _) _ _ s
 refine jQ (wpAny_field gI dI (x := .int i 0) rfl ?_)
 show wpAny _ _ (seqItems? (.ref t) >>= _) _ _ s
 refine jQ (wpAny_seqItems gT dT ?_)
 simp only [jYe, hx]
 refine jQ (wpAny_setField gI dI (by simp) (jW ⟨x, rfl, jW (hQ _ ?_ (Heap.SameBut.update ..))⟩))
 refine ⟨_, Heap.get?_update_self _ gI (Obj.isFreed_of_fields (Obj.data_mapFields dI _)), (Obj.cls_mapFields ..).trans cI, ?_⟩
 rw [Obj.data_mapFields dI]; simp [rawInt]
theorem Wn {it t : Addr} {i : Nat} {xs : Array Value} {Q : Value → Shared → Prop} (hh : A.handled = none) (hI : s.heap.IsTupleIter it t i) (hT : s.heap.IsTuple t xs) (hx : xs[i]? = none)
  (hE : ∀ h' e, Heap.ExtBut it s.heap h' → (∃ o, h'.get? e = some o ∧ o.cls = .type "StopIteration") → E (.ref e) { s with heap := h' }) : wpAny (model P w) A (Builtin.SmallTypes.nextOf (.ref it)) Q E s := by
 obtain ⟨oI, gI, cI, dI⟩ := id hI
 obtain ⟨oT, gT, _, nT, dT⟩ := hT
 unfold Builtin.SmallTypes.nextOf
 refine jQ (wpAny_callSpecial?_slot (name := Str.ofString "__next__") hI.typeIs F.slot_tuple_iterator_next (wpAny_call_entry F.slot_tuple_iterator_next hI.typeIs F.entry_tuple_iterator_next ?_ (F.args_tuple_iterator_next_1 _)))
 show wpAny _ _ (field (.ref it) 0 >>= _) _ _ s
 refine jQ (wpAny_field gI dI (x := .ref t) rfl ?_)
 show wpAny _ _ (if (Value.ref t == Value.none) = true then _ else _) _ _ s
 rw [if_neg (show ¬ ((Value.ref t == Value.none) = true) from yZ)]
 show wpAny _ _ (field (.ref it) 1 >>= _) _ _ s
 refine jQ (wpAny_field gI dI (x := .int i 0) rfl ?_)
 show wpAny _ _ (seqItems? (.ref t) >>= _) _ _ s
 refine jQ (wpAny_seqItems gT dT ?_)
 simp only [jYe, hx]
 refine jQ (wpAny_rule (jQ (wpAny_setField gI dI (by simp) ?_)))
 show wpAny _ _ (newExc (.type "StopIteration") [] >>= _) _ _ _
 refine jQ ?_
 simp only [newExc, newTuple]
 refine jQ (wpAny_newObj_type ?_ (by size_fits))
 refine jQ (m := firstArgMember _ _) (wpAny_of_eq (a := Value.none) (by first | rfl | (simp only [firstArgMember]; rfl)) ?_)
 refine wpAny_newObj_type ?_ (by size_fits)
 simp only [raiseNew]
 refine jQ (wpAny_handled ?_)
 first | rw [show A.in1.handled = none from hh] | rw [hh]
 exact jQ (jW (wpAny_throw (hE _ _ (((Heap.SameBut.update ..).extBut.push _).push _) ⟨_, yX _ rfl, rfl⟩)))
end
theorem Qmo {P : Program} {w : World} (it l : Addr) : Drw P w it l (fun i h => h.IsTupleIter it l i) (fun xs h => h.IsTuple l xs.toArray) where
 obj := fun i h st => by
  obtain ⟨o, e, c, d⟩ := st
  exact ⟨o, e, fun v z => by rw [d] at z; cases z⟩
 keep := fun i h h' st k => st.at k
 srck := fun xs h h' sr k => sr.at k
 item := fun A E s i xs x Q st sr hx hQ => Vq st sr (by simpa using hx) hQ
 done := fun A E s i xs Q hh st sr hx hE => Wn hh st sr (by simpa using hx) hE
section
variable {P : Program} {w : World} {A : Around} {E : Value → Shared → Prop} {s : Shared} {z u o i1 i2 l1 l2 : Addr} {st1 st2 : Nat → Heap → Prop} {src1 src2 : List Value → Heap → Prop} {k1 k2 : Nat} {xs ys : List Value} {a b : Value}
end
def Vr (n : String) (l : Addr) : Obj := { cls := .type n, data := .fields #[.ref l, .int 0 0] }
structure Itr0 (n : String) (l : Addr) (pr : Heap → Prop) : Prop where
 go : ∀ (P : Program) (w : World) (A : Around) (E : Value → Shared → Prop) (s : Shared) (Q : Value → Shared → Prop), pr s.heap → Q (.ref s.heap.objs.size) { s with heap := s.heap.push (Vr n l) } → wpAny (model P w) A (pyIter (.ref l)) Q E s
 push : ∀ h o, pr h → pr (h.push o)
theorem Qgt (l : Addr) (xs : Array Value) : Itr0 "list_iterator" l (fun h => h.IsList l xs) := ⟨fun _ _ _ _ _ _ hl h => wpAny_pyIter_list hl h, fun _ _ hl => hl.push _⟩
theorem Qjb (l : Addr) (xs : Array Value) : Itr0 "tuple_iterator" l (fun h => h.IsTuple l xs) := ⟨fun _ _ _ _ _ _ hl h => wpAny_pyIter_tuple hl h, fun _ _ hl => hl.push _⟩
def Sq (K : Fg) (m : Bool) (H : Hp) (a : Addr) (xs : List V) : Prop := if m = true then SqL K H a xs else SqT K H a xs
def itN (m : Bool) : String := if m = true then "list_iterator" else "tuple_iterator"
def itSt (m : Bool) (it l : Addr) (i : Nat) (h : Heap) : Prop := if m = true then h.IsListIter it l i else h.IsTupleIter it l i
def Qjc (m : Bool) (l : Addr) (xs : List Value) (h : Heap) : Prop := if m = true then h.IsList l xs.toArray else h.IsTuple l xs.toArray
theorem Vs {P : Program} {w : World} (m : Bool) (it l : Addr) : Drw P w it l (itSt m it l) (Qjc m l) := by
 cases m
 ·exact Qmo it l
 ·exact Qja it l
theorem Qmp (m : Bool) (l : Addr) (xs : List Value) : Itr0 (itN m) l (Qjc m l xs) := by
 cases m
 ·exact Qjb l xs.toArray
 ·exact Qgt l xs.toArray
theorem Qjd (m : Bool) {h : Heap} {it l : Addr} (e : h.get? it = some (Vr (itN m) l)) : itSt m it l 0 h := by
 cases m
 ·exact ⟨_, e, rfl, rfl⟩
 ·exact ⟨_, e, rfl, rfl⟩
section
variable {X : Cx} {pins : List (Addr × Obj)} {σ : St} {H : Hp} {s : Shared}
theorem Inv.sq {m : Bool} {a : Addr} {xs : List V} (I : Inv X pins σ H s) (h : Sq X.K m H a xs) : ∃ its : List Value, Vals xs its ∧ Qjc m a its s.heap ∧ xs.length ≤ sizeLine := by
 cases m
 ·obtain ⟨its, rv, p, hz⟩ := I.tuple h
  exact ⟨its, rv, p, by first | exact hz | omega⟩
 ·obtain ⟨its, rv, p, hz⟩ := I.list h
  exact ⟨its, rv, p.isList, by first | exact hz | omega⟩
theorem Inv.sq_inj {m : Bool} {a : Addr} {xs ys : List V} (I : Inv X pins σ H s) (h : Sq X.K m H a xs) (h' : Sq X.K m H a ys) : xs = ys := by
 cases m
 ·exact I.tuple_inj h h'
 ·exact I.list_inj h h'
theorem Inv.tupNew {xs : List V} {its : List Value} {h' : Heap} {ch : List Addr} {T : Addr} (I : Inv X pins σ H s) (hT : s.heap.objs.size ≤ T) (r : Vals xs its) (hz : xs.length ≤ sizeLine) (e : h'.get? T = some { cls := .type "tuple", data := .seq its.toArray })
  (hf : ∀ b ∈ ch, FpOk X pins H b) (k : ∀ b o, b ∉ ch → s.heap.get? b = some o → h'.get? b = some o) (th : ∀ b ∈ ch, ∃ o, h'.get? b = some o) : Inv X pins σ (upd H T (.tup xs)) { s with heap := h' } := by
 have hn : H T = none := I.hok.fresh hT
 have tr : ∀ b o, H b = some o → b ∉ ch := fun b o e z => by rw [(hf b z).1] at e; cases e
 refine I.step (g' := s.gens) (t' := s.toks) (d' := s.drawn) (ch := ch) (fun b hb => ⟨(hf b hb).2.2.2.1, (hf b hb).2.1, (hf b hb).2.2.2.2.1, (hf b hb).2.2.2.2.2⟩) (fun b o _ _ hc q _ => k b o hc q) (fun b o _ _ hc q _ => ⟨o.slots, k b o hc q⟩) (fun b o _ q n => ?_) (fun b o hc q => ⟨o, k b o hc q⟩)
  (fun b xs q => ?_) (fun b o u q => ?_) (fun b ps q => ⟨#[], ?_⟩) (fun m hm => ?_) (fun b ob q => ?_) I.bare
 ·rw [Qj (zK (zY (yK q) hT))]; exact n
 ·rw [Qj (Qk q hn)]; exact q
 ·rw [Qj (Qk q hn)]; exact q
 ·rw [Qj (Qk q hn), Array.append_empty]; exact q
 ·obtain ⟨o, es, ep, q, d, r⟩ := hm
  exact ⟨o, es, ep, k _ o (fun z => (hf _ z).2.1 rfl) q, d, r⟩
 ·by_cases hb : b = T
  ·subst hb
   rw [Qb] at q; cases q
   exact ⟨hz, its, r, _, e, rfl, _, rfl⟩
  ·rw [Qj hb] at q
   refine (I.hok b ob q).stay (fun c v hc r => k c v ?_ r) (fun c r => by rw [Qj (Qk r hn)]; exact r) fun c xs r => by rw [Qj (Qk r hn)]; exact r
   rcases hc with rfl | hc
   ·exact tr _ _ q
   ·exact tr _ _ hc
end
section
variable {X : Cx}
theorem Qje {m : Bool} {a : Addr} {xs : List Value} {h : Heap} (e : Qjc m a xs h) : a < h.objs.size := by
 cases m
 ·obtain ⟨o, e, _⟩ := e; exact yK e
 ·obtain ⟨o, e, _⟩ := e; exact yK e
end
section
variable {X : Cx}
def isiV (K : Fg) (H : Hp) : V → String → Bool → Prop
 | .int _, T, b => (T = "int" ∧ b = true) ∨ (T = "bool" ∧ b = false) ∨ (T = "tuple" ∧ b = false)
 | .bl _, T, b => (T = "int" ∧ b = true) ∨ (T = "bool" ∧ b = true) ∨ (T = "tuple" ∧ b = false)
 | .ref a, T, b => (∃ xs, SqT K H a xs) ∧ ((T = "tuple" ∧ b = true) ∨ (T = "int" ∧ b = false) ∨ (T = "bool" ∧ b = false))
 | _, _, _ => False
theorem Qjf : Zq X (.builtin "isinstance") (fun xs H Q => ∃ x T b, xs = [x, .ty T] ∧ isiV X.K H x T b ∧ Q (.bl b) H) := by
 intro pins s σ H xs us Q I rv h
 obtain ⟨x, T, b, rfl, hi, q⟩ := h
 obtain ⟨u, v, rfl, ru, rT⟩ := rv.two
 cases rT
 have fin : ∀ (tk : Nat), EP X pins σ Q (.bool b) { s with toks := tk } := fun tk => ⟨.bl b, H, I.tok tk, rfl, q⟩
 cases x with
 | int n =>
  obtain ⟨t, rfl⟩ := ru
  rcases hi with ⟨rfl, rfl⟩ | ⟨rfl, rfl⟩ | ⟨rfl, rfl⟩
  ·exact IsiPair.int_int (fin s.toks)
  ·exact IsiPair.int_bool (fin _)
  ·exact IsiPair.int_tuple (fin _)
 | bl n =>
  cases ru
  rcases hi with ⟨rfl, rfl⟩ | ⟨rfl, rfl⟩ | ⟨rfl, rfl⟩
  ·exact IsiPair.bool_int (fin s.toks)
  ·exact IsiPair.bool_bool (fin s.toks)
  ·exact IsiPair.bool_tuple (fin _)
 | ref a =>
  cases ru
  obtain ⟨⟨xs, hq⟩, hi⟩ := hi
  obtain ⟨its, r, ⟨o, e, c, _⟩, _⟩ := I.tuple hq
  rcases hi with ⟨rfl, rfl⟩ | ⟨rfl, rfl⟩ | ⟨rfl, rfl⟩
  ·exact IsiPair.tuple_tuple e c (fin s.toks)
  ·exact IsiPair.tuple_int e c (fin _)
  ·exact IsiPair.tuple_bool e c (fin _)
 | non => exact hi.elim
 | str _ => exact hi.elim
 | byt _ => exact hi.elim
 | flt _ => exact hi.elim
 | ty _ => exact hi.elim
def CDivB (i j : Int) : Prop := 0 < j ∧ j.natAbs.log2 < 9000
theorem Qeh : OpR X (binaryOp .FloorDiv) (rI CDivB fun i j => .int (i / j)) := opI fun i j _ _ _ _ _ hc q => by
 refine floordiv_int (kXe hc.1) ?_ (.inl (PyProof.noPylong_of_log2 hc.2))
 rw [Int.fdiv_eq_ediv_of_nonneg _ (Int.le_of_lt hc.1)]
 exact q
theorem Qcc (hc : X.calm = true) : Zq X (.builtin "sum") (fun xs H Q => ∃ (a : Addr) (ns : List Int), xs = [.ref a] ∧ SqL X.K H a (ns.map V.int) ∧ Q (.int ns.sum) H) := by
 intro pins s σ H xs us Q I rv h
 obtain ⟨a, ns, rfl, hq, q⟩ := h
 obtain ⟨u, rfl, ru⟩ := rv.one
 cases ru
 obtain ⟨its, r, p, hz⟩ := I.list hq
 have hi : IntsAre its.toArray.toList ns := intsAre_of r
 have hall : AllInts its.toArray := hi.allInts
 obtain ⟨xs, hx⟩ := hall.items
 have hl' : s.heap.IsList a (intItems xs) := hx ▸ p.isList
 refine sum_intListG (I.ok.hd hc) hl' fun h' tk t' hk => ?_
 have e1 : ns = xs.toList.map (·.1) := by
  rw [← nums_intItems, ← hx]
  exact (show numsOf its.toArray.toList = ns from hi.numsOf).symm
 have e2 : preSum (numAt xs) xs.size = ns.sum := by
  rw [preSum_eq, jZe (by simp), e1]
 rw [e2]
 exact ⟨.int ns.sum, H, I.kept hk, ⟨_, rfl⟩, q⟩
theorem Qmq {bs : List Bool} {its : List Value} (r : Vals (bs.map V.bl) its) {i : Nat} {v : Value} (h : its[i]? = some v) : ∃ b, bs[i]? = some b ∧ v = .bool b := by
 have hl := r.length
 obtain ⟨hi, _⟩ := kJ.mp h
 rw [jZ] at hl
 have hb : bs[i]? = some bs[i] := gE (by omega)
 obtain ⟨u, h1, h2⟩ := r.get (i := i) (x := .bl bs[i]) (by rw [yY, hb]; rfl)
 rw [h] at h1; cases h1
 exact ⟨_, hb, h2⟩
theorem Qjg (bs : List Bool) : ((List.range bs.length).any fun i => (bs[i]?).getD false) = bs.any id := by
 rw [jZf]
 simp only [jYa, List.mem_range, id]
 constructor
 ·rintro ⟨i, hi, h⟩
  rw [gE hi] at h
  exact ⟨_, kXc hi, h⟩
 ·rintro ⟨b, hb, h⟩
  obtain ⟨i, hi, e⟩ := List.getElem_of_mem hb
  exact ⟨i, hi, by rw [gE hi]; simpa [e] using h⟩
theorem Qmr {h h' : Heap} {o : Obj} (hk : ∀ b x, b ∉ [h.objs.size] → (h.push o).get? b = some x → h'.get? b = some x) : ∀ b x, h.get? b = some x → h'.get? b = some x := fun b x e =>
 hk b x (fun hm => by rw [kQ.mp hm] at e; exact jYf _ (yK e)) (jJ _ e)
theorem Qgu (hc : X.calm = true) : Zq X (.builtin "any") (fun xs H Q => ∃ (a : Addr) (bs : List Bool), xs = [.ref a] ∧ SqL X.K H a (bs.map V.bl) ∧ Q (.bl (bs.any id)) H) := by
 intro pins s σ H xs us Q I rv h
 obtain ⟨a, bs, rfl, hq, q⟩ := h
 obtain ⟨u, rfl, ru⟩ := rv.one
 cases ru
 obtain ⟨its, r, p, hz⟩ := I.list hq
 have hlt : a < s.heap.objs.size := by obtain ⟨_, e, _⟩ := p.isList; exact yK e
 have hl := r.length
 rw [jZ] at hl
 refine call_any_walk (wpAny_pyIter_list p.isList ?_)
 refine ⟨s.heap.objs.size, [s.heap.objs.size, a], [s.heap.objs.size], its.toArray.size, _, _, fun i => (bs[i]?).getD false, rfl, Walks.list (A := X.A.in1) (I.ok.hd hc) _ a (zK hlt) its.toArray, ⟨⟨_, yX _ rfl, rfl, rfl⟩, p.isList.push _⟩, fun i v s' Q' E' hP hQ => ?_, fun h' tk hk => ?_⟩
 ·obtain ⟨b, e, rfl⟩ := Qmq r (by simpa using hP)
  simp only [e, Option.getD_some] at hQ
  exact wpAny_truthy_bool hQ
 ·rw [jV, ← hl, Qjg]
  exact ⟨.bl (bs.any id), H, I.kept (Qmr hk), rfl, q⟩
end
section
variable {X : Cx} {pins : List (Addr × Obj)} {σ : St} {H : Hp} {s : Shared}
theorem Qgv {α : Type} {xs ys : List α} (hl : xs.length = ys.length) (h : ∀ (i : Nat) x y, xs[i]? = some x → ys[i]? = some y → x = y) : xs = ys := by
 refine List.ext_getElem? fun i => ?_
 by_cases hi : i < xs.length
 ·rw [gE hi, gE (by omega : i < ys.length)]
  exact congrArg some (h i _ _ (gE hi) (gE (by omega)))
 ·rw [List.getElem?_eq_none (by omega), List.getElem?_eq_none (by omega)]
theorem Qak {n : Nat} {e : Nat → Bool} : (List.range n).all e = true ↔ ∀ i, i < n → e i = true := by simp [jZc]
open PySem.SeqAt Classical in
end
def Fn (K : Fg) (mg : Str → Option Value) (x : Str) (st : Stmt) : Prop := ∃ f fd, Fun K x x st f fd ∧ mg x = some (.ref f)
theorem Za {K : Fg} {h : Heap} {mg : Str → Option Value} {x : Str} {st : Stmt} {f : Addr} {oc : Value} {od an : Option Addr} {osl : Array (Option Value)} {kV doc pm cdv ct : Value} (X : K.In h) (G : h.Ns mainGlobals mg)
  (a : PySem.W.nsIn K mainGlobals x = some (some (.ref f))) (l : K.lookup f = some ⟨oc, od, .func (PySem.W.fnOf x x (Xd st) (Xc st) (Qi st) .none kV doc pm an cdv ct), osl⟩) (c : PySem.W.codeIn K cdv x = true) (k : PySem.W.keepIn K (.ref f) = true) : Fn K mg x st :=
 ⟨f, _, Jz l c k, PySem.W.mg_of X G a⟩
structure Cal (P : Program) (w : World) (K : Fg) (mg : Str → Option Value) (base : Heap) (k : Nat) (x : Str) (ps : List Str) (sp : Sp) : Prop where
 ex : ∃ f fd, FnOk P w K mg base CX0 k f fd ps sp ∧ mg x = some (.ref f) ∧ PySem.W.keepIn K (.ref f) = true ∧ Binds K fd ps []
theorem Ya {P : Program} {w : World} {K : Fg} {mg : Str → Option Value} {base : Heap} {k : Nat} {x : Str} {st : Stmt} {N ps : List Str} {sp : Sp} (F : Fn K mg x st) (S : FnScope N ps (Qi st))
  (hb : ∀ (kV doc pm : Value) (an : Option Addr) (cdv ct : Value) (us : List Value), us.length = ps.length → bindArgs (PySem.W.fnOf x x (Xd st) (Xc st) (Qi st) .none kV doc pm an cdv ct) ⟨us, []⟩ = pure (ps.zip us)) (len : ∀ vs H Q E, sp vs H Q E → vs.length = ps.length)
  (hbody : ∀ (f : Addr) (cdv : Value) (A : Around) (outer : List Env) (s : Shared) (H : Hp) (vs : List V) (Q : VK) (E : XK), Room k (A.deeper (envOfC x (Qi st) s.heap.objs.size f cdv)) → sp vs H Q E →
   ∃ t, PSs (cxOf CX0 P w K mg base N x (Qi st) f cdv A outer s H E).nox (Xc st) t ∧ t { nx := fun _ H' => Q .non H', rt := Q } (start N vs) H) : Cal P w K mg base (k + 1) x ps sp := by
 obtain ⟨f, fd, F, m⟩ := F
 exact ⟨f, fd, F.ok S len (hbody f), m, F.kp, F.binds hb⟩
section
variable {X : Cx}
theorem Xp {k : Nat} {x : Str} {ps : List Str} {sp : Sp} {e : Expr} {es : List Expr} {t : TA} {p pos : Pos} (C : Cal X.prog X.w X.K X.mg X.base k x ps sp) (hr : Room k X.A) (ha : PA X (e :: es) t) (hg : autoParam (Gl X x) L2.aRfl._auto_1)
  (hdb : autoParam ((x == ("__debug__" : Str)) = false) L2.aDec._auto_1) (he : autoParam (starEach (e :: es) X.env = (false, eval e X.env) :: starEach es X.env) L2.aRfl._auto_1) (hpl : autoParam ((backTo pos (starEach es X.env)).any (·.1) = false) L2.aRfl._auto_1) :
  PE X (.Call (.Name x p) (e :: es) [] pos) (tCall sp [] E0 t) := by
 obtain ⟨f, fd, F, m, kp, b⟩ := C.ex
 exact Qmi F hr hg m kp b .nil Kk ha hdb he hpl
theorem Qcd {x : Str} {T : String} {pos : Pos} (hm : X.mg x = none) (hv : bootBuiltins x = some (.type T)) (hg : autoParam (Gl X x) L2.aRfl._auto_1) (hn : autoParam (x ≠ "__name__") L2.aDec._auto_1) (hd : autoParam ((x == ("__debug__" : Str)) = false) L2.aDec._auto_1) : PE X (.Name x pos) (tC (.ty T)) :=
 Qme hg hm hv (v := .ty T) rfl hn hd
end
def gPair (K : Fg) (i j : Nat) : TG := gTup K 2 (Qfa (Qbm i) (Qfa (Qbm j) gNil))
theorem Qgw {X : Cx} {K : Fg} {i j : Nat} {x y : Str} {px py pos : Pos} {k : Nat} (hK : X.K = K) (hc : X.calm = true) (hN : X.N.Nodup) (hi : X.N[i]? = some x) (hj : X.N[j]? = some y) (hx : X.env.scope.names.lookup x = some .local) (hy : X.env.scope.names.lookup y = some .local) :
  PG X (.Tuple [.Name x px, .Name y py] k pos) (gPair K i j) := by
 subst hK
 exact Qdz hc (Yy (Qt hN hi (.inl hx) (.inr hx)) (Yy (Qt hN hj (.inl hy) (.inr hy)) Qad))
theorem Yj : bootBuiltins "len" = some (.builtin "len") := by decide +kernel
theorem Qll : bootBuiltins "sum" = some (.builtin "sum") := by decide +kernel
theorem bt_any : bootBuiltins "any" = some (.builtin "any") := by decide +kernel
theorem Xs : bootBuiltins "isinstance" = some (.builtin "isinstance") := by decide +kernel
theorem Qei : bootBuiltins "min" = some (.builtin "min") := by decide +kernel
theorem Qlm : bootBuiltins "max" = some (.builtin "max") := by decide +kernel
theorem Vt : bootBuiltins "sorted" = some (.builtin "sorted") := by decide +kernel
theorem Qln : bootBuiltins "int" = some (.type "int") := by decide +kernel
theorem Qgx : bootBuiltins "bool" = some (.type "bool") := by decide +kernel
theorem Zp : bootBuiltins "tuple" = some (.type "tuple") := by decide +kernel
theorem Qms : bootBuiltins "list" = some (.type "list") := by decide +kernel
theorem Vu : bootBuiltins "dict" = some (.type "dict") := by decide +kernel
theorem Qce : bootBuiltins "enumerate" = some (.type "enumerate") := by decide +kernel
theorem Qdf : bootBuiltins "reversed" = some (.type "reversed") := by decide +kernel
theorem Qc {H : Hp} {p : Addr} (h : H p = none) (o : HO) : Same H (upd H p o) := fun b u q => by rw [Qj (Qk q h)]; exact q
theorem Same.tup {K : Fg} {H H' : Hp} {a : Addr} {xs : List V} (e : Same H H') (h : SqT K H a xs) : SqT K H' a xs := by
 rcases h with (h | ⟨o, h⟩) | h
 ·exact .inl (.inl (e _ _ h))
 ·exact .inl (.inr ⟨o, e _ _ h⟩)
 ·exact .inr h
theorem Xb {K : Fg} {H : Hp} {a : Addr} {xs : List V} (h : H a = some (.tup xs)) : SqT K H a xs := .inl (.inl h)
theorem Qd {K : Fg} {H : Hp} {a : Addr} {xs : List V} (h : H a = some (.lst xs)) : SqL K H a xs := .inl (.inl h)
theorem Yd {J : It} {n : Nat} {τ0 : St} {g : TG} {tt : TT} {te : TE} {H : Hp} {Q : Addr → Hp → Prop} {D : Addr} (Pv : Nat → St → List V → Hp → Prop)
  (h0 : Pv 0 τ0 [] (upd H D (.lst []))) (hD : ∀ i τ ys H, i ≤ n → Pv i τ ys H → H D = some (.lst ys) ∧ ys.length < sizeLine) (go : ∀ i τ ys H, i < n → Pv i τ ys H → J.go i H) (stop : ∀ τ ys H, Pv n τ ys H → J.stop n H)
  (hs : ∀ i τ ys H x H', i < n → Pv i τ ys H → J.yld i H x H' → g x τ H' fun σ2 H2 => tt σ2 H2 fun ok H3 => if ok = true then te σ2 H3 fun v H4 => H4 D = some (.lst ys) ∧ Pv (i + 1) σ2 (ys ++ [v]) (upd H4 D (.lst (ys ++ [v]))) else Pv (i + 1) σ2 ys H3)
  (hd : ∀ τ ys H, Pv n τ ys H → Q D H) :
  LcW J D τ0 H g tt te Q := by
 refine ⟨fun i m τ ys H => m = n - i ∧ i ≤ n ∧ Pv i τ ys H, ⟨n, by simp, wK _, h0⟩, ?_⟩
 rintro i m τ ys H ⟨rfl, hi, p⟩
 obtain ⟨z1, z2⟩ := hD i τ ys H hi p
 refine ⟨z1, ?_⟩
 by_cases hlt : i < n
 ·refine .inr ⟨go i τ ys H hlt p, z2, fun τ v H => Pv (i + 1) τ (ys ++ [v]) (upd H D (.lst (ys ++ [v]))), fun τ H => Pv (i + 1) τ ys H, fun τ v H q => ⟨n - (i + 1), by omega, rfl, hlt, q⟩, fun τ H q => ⟨n - (i + 1), by omega, rfl, hlt, q⟩, fun x H' y => hs i τ ys H x H' hlt p y⟩
 ·have e : i = n := by omega
  subst e
  exact .inl ⟨stop τ ys H p, hd τ ys H p⟩
section
variable {X : Cx}
theorem Qjh {e : Expr} {ta : TA} {p pos : Pos} (hm : X.mg "range" = none) (ha : PA X [e] ta) (hg : autoParam (Gl X "range") L2.aRfl._auto_1) (hs : autoParam (starEach [e] X.env = [(false, eval e X.env)]) L2.aRfl._auto_1) :
  PE X (.Call (.Name "range" p) [e] [] pos) (fun σ H Q => ta σ H fun vs H1 => ∃ n : Int, vs = [.int n] ∧ ∀ r, H1 r = none → Q (.ref r) (upd H1 r (.rng 0 n))) := by
 intro pins s σ H Q I h
 refine Call_ (Vg I hg hm boot_range (PyProof.Rows.callWith_type1 (thn (ha pos pins s σ H _ I h) fun us s1 hqP => ?_) hs rfl))
 obtain ⟨vs, H1, I1, r1, q1⟩ := hqP
 obtain ⟨n, e, q⟩ := q1
 subst e
 obtain ⟨u, rfl, t, rfl⟩ := r1.one
 refine call_range_1 ⟨.ref s1.heap.objs.size, upd H1 s1.heap.objs.size (.rng 0 n), I1.laid (fun b u e => jJ _ e) (jX _) ⟨_, _, _, yX _ rfl⟩, rfl, q _ (I1.hok.fresh (jX _))⟩
theorem Xr {K : Fg} (hK : X.K = K) : IxR X (rIxL K) := by subst hK; exact Qq
theorem Qdg {K : Fg} (hK : X.K = K) : IxR X (rIxT K) := by subst hK; exact Yr
theorem Qal {K : Fg} (hK : X.K = K) : Zq X (.builtin "len") (fun xs H Q => ∃ p ys, xs = [.ref p] ∧ (SqL K H p ys ∨ SqT K H p ys) ∧ Q (.int ys.length) H) := by subst hK; exact Qv
theorem Qam {K : Fg} (hK : X.K = K) : Zq X (.type "list") (fun xs H Q => ∃ p ys, xs = [.ref p] ∧ (SqL K H p ys ∨ SqT K H p ys) ∧ ∀ l, H l = none → Q (.ref l) (upd H l (.lst ys))) := by subst hK; exact Qbx
theorem Yz {K : Fg} (hK : X.K = K) : Zq X (.type "tuple") (fun xs H Q => ∃ p ys, xs = [.ref p] ∧ ((SqL K H p ys ∧ ∀ l, H l = none → Q (.ref l) (upd H l (.tup ys))) ∨ (SqT K H p ys ∧ Q (.ref p) H))) := by subst hK; exact Jy
theorem Kc {K : Fg} (hK : X.K = K) : OpR X (compareOp .NotIn) (rIn K true) := by subst hK; exact Qbw
end
end L2
namespace Nb
open PySem L2
structure Mg (mg : Str → Option Value) : Prop where
 len : mg "len" = none
 min : mg "min" = none
 max : mg "max" = none
 sum : mg "sum" = none
 all : mg "all" = none
 any : mg "any" = none
 abs : mg "abs" = none
 isinstance : mg "isinstance" = none
 sorted : mg "sorted" = none
 range_ : mg "range" = none
 zip_ : mg "zip" = none
 tuple_ : mg "tuple" = none
 list_ : mg "list" = none
 int_ : mg "int" = none
 bool_ : mg "bool" = none
 dict_ : mg "dict" = none
 enumerate_ : mg "enumerate" = none
 reversed_ : mg "reversed" = none
 ValueError_ : mg "ValueError" = none
 set_ : mg "set" = none
 str_ : mg "str" = none
theorem atNs {ns : List Int} {k : Int} (h0 : 0 ≤ k) (h : k < (((ns.map V.int).length : Nat) : Int)) : ∃ v : Int, atI (ns.map V.int) k = some (.int v) := by
 have hk : k.toNat < ns.length := by rw [jZ] at h; omega
 have ek : k = ((k.toNat : Nat) : Int) := by omega
 have q : atI (ns.map V.int) ((k.toNat : Nat) : Int) = some (.int ns[k.toNat]) := Zj (by rw [yY, gE hk] <;> rfl)
 rw [← ek] at q
 exact ⟨_, q⟩
def Qgy (K : Fg) : Sp := fun vs H Q _ => ∃ (a : Addr) (ns : List Int) (k : Int), vs = [.ref a, .int k] ∧ SqL K H a (ns.map V.int) ∧ 0 ≤ k ∧ ∀ z : Int, Q (.int z) H
def Zy (K : Fg) : Sp := fun vs H Q _ => ∃ (a : Addr) (ns : List Int) (k : Int), vs = [.ref a, .int k] ∧ SqL K H a (ns.map V.int) ∧ 0 ≤ k ∧ k ≤ 1000000 ∧ ∀ z : Int, 0 ≤ z → z < 2147483629 → Q (.int z) H
theorem mulA (c k : Int) (h0 : 0 ≤ k) (h1 : k ≤ 1000000) (y : Int) : CMul (c % (10 : Int) ^ (18 : Int).toNat + 48271 * (k + 1)) y := by
 have e : (10 : Int) ^ (18 : Int).toNat = 1000000000000000000 := by decide +kernel
 rw [e]
 have a1 := xW c (show (1000000000000000000 : Int) ≠ 0 by decide)
 have a2 := xX c (show (0 : Int) < 1000000000000000000 by decide)
 exact .inl ⟨by omega, by omega⟩
theorem mulB (x k : Int) (h0 : 0 ≤ k) (h1 : k ≤ 1000000) (y : Int) : CMul (x % 2147483629 + 69621 * k) y := .inl ⟨by omega, by omega⟩
theorem mulC (c y : Int) (h1 : -(2 ^ 64) < c) (h2 : c < 2 ^ 64) : CMul c y := .inl ⟨h1, h2⟩
theorem Yo {K : Fg} {H : Hp} {D a : Addr} {ys zs xs : List V} (hD : H D = some (.lst ys)) (h : SqT K H a xs) : SqT K (upd H D (.lst zs)) a xs := by
 rcases h with (h | ⟨o, h⟩) | h
 ·exact .inl (.inl (by rw [Qj (Yl h hD (by intro z; cases z))]; exact h))
 ·exact .inl (.inr ⟨o, by rw [Qj (Yl h hD (by intro z; cases z))]; exact h⟩)
 ·exact .inr h
theorem at0 {x y : V} : atI [x, y] 0 = some x := by rfl
theorem at1 {x y : V} : atI [x, y] 1 = some y := by rfl
theorem Zt {α : Type} {l : List α} {i : Nat} {x : α} (h : l[i]? = some x) : l.take (i + 1) = l.take i ++ [x] := by rw [List.take_succ, h]; rfl
theorem Qdh {α : Type} {xs : List α} {k : Nat} {x : α} (h : xs[k]? = some x) : atI xs (k : Int) = some x := Zj h
def Qji (K : Fg) : Sp := fun vs H Q _ => ∃ (a : Addr) (ns : List Int), vs = [.ref a] ∧ SqL K H a (ns.map V.int) ∧ ns.length ≤ 63 ∧ ∀ H', Q (.bl true) H'
end Nb
namespace L2
open PySem PySem.Spec PyProof.Rows
section
variable (P : Program) (w : World)
end
section
variable {P : Program} {w : World} {H H' : Hp} {h h' : Heap} {a : Addr} {o : HO}
end
section
variable {P : Program} {w : World} {H : Hp} {h h' : Heap} {x e : Addr} {o' : HO}
end
section
variable {fs fs' ex ex' : List Addr} {H H1 H2 : Hp} {h h1 h2 h' : Heap} {a x e : Addr} {o : HO}
end
section
variable {X : Cx} {pins : List (Addr × Obj)} {σ : List (Option V)} {H H' : Hp} {s : Shared} {h' : Heap}
end
section
variable {X : Cx}
variable {a b : Expr} {ta tb : TE} {pos : Pos}
variable {tA tB' : TT} {rest : List Expr}
end
section
variable {X : Cx} {pins : List (Addr × Obj)} {σ : St} {H : Hp} {s : Shared} {a : Addr} {xs ys : List V}
end
section
variable {X : Cx} {pins : List (Addr × Obj)} {σ : St} {H : Hp} {s : Shared} {E : Value → Shared → Prop}
end
section
variable {X : Cx} {st : Stmt} {rest : List Stmt} {t u : TS} {e : Expr} {te : TE} {pos : Pos}
end
section
variable {X : Cx} {pos : Pos}
end
section
variable {X : Cx} {pos : Pos}
end
section
variable {X : Cx} {tg : Expr}
end
section
variable {X : Cx} {a b c : Expr} {ta tb tc : TE} {pos : Pos}
end
section
variable {X : Cx} {a b c : Expr} {ta tb tc : TE} {pos : Pos}
end
section
variable {prog : Program} {w : World} {A : Around} {E : Value → Shared → Prop} {s : Shared} {K : Fg} {x dx C f : Addr} {mA : Str → Option Value} {name : Str} {v : Value}
end
section
variable {P : Program} {w : World} {H H' : Hp} {h h' : Heap} {a C dx : Addr} {fs fs' : List (Str × V)}
end
section
variable {X : Cx} {pins : List (Addr × Obj)} {σ : St} {H : Hp} {s : Shared} {a C dx : Addr} {fs : List (Str × V)} {f : Str} {v : V} {A : Around} {E : Value → Shared → Prop}
end
section
variable {X : Cx} {o e value : Expr} {f : Str} {pos pos' tpos : Pos} {ta tv : TE}
end
section
variable {X : Cx} {pins : List (Addr × Obj)} {σ : St} {H : Hp} {s : Shared} {A : Around} {E : Value → Shared → Prop} {Q : Value → Shared → Prop} {c : Value} {b : Bool}
end
section
variable {X : Cx} {e : Expr} {es : List Expr} {te : TE} {t : TA} {pos : Pos}
end
section
variable {X : Cx} {pins : List (Addr × Obj)} {σ : St} {H : Hp} {s s' : Shared}
end
section
variable {X : Cx} {CX : CXT} {k : Nat} {f C : Addr} {fd : FuncData} {ps : List Str} {sp : Sp} {dvs : List V} {ds : List Value} {E : XK} {x m : Str} {p pos apos : Pos} {e o : Expr} {es : List Expr} {ta : TE} {t : TA}
end
section
variable {X : Cx} {CX : CXT} {k : Nat} {f C : Addr} {fd : FuncData} {ps ks : List Str} {sp : Sp} {E : XK} {x m : Str} {p pos apos kpos : Pos} {e o : Expr} {es : List Expr} {kws : List Keyword} {te ta : TE} {t tk : TA} {nm : Option Str}
variable {g : List Value → List Value → List Value} {gV : List V → List V → List V}
end
section
variable {X : Cx} {x : Str} {p pos : Pos} {e : Expr} {es : List Expr} {t : TA} {id T : String} {r : List V → Hp → VK → Prop}
end
section
variable {κ : Type} [DecidableEq κ]
def valV (kvs : List (κ × V)) (k : κ) : Option V := (kvs.find? fun kv => decide (kv.1 = k)).map (·.2)
def putK (kvs : List (κ × V)) (k : κ) (v : V) : List (κ × V) :=
 if (kvs.any fun kv => decide (kv.1 = k)) = true then kvs.map (fun kv => if kv.1 = k then (kv.1, v) else kv) else kvs ++ [(k, v)]
def Qan (kvs : List (κ × V)) (k : κ) : List (κ × V) := kvs.filter fun kv => decide (kv.1 ≠ k)
theorem Yh {p : κ × V} {r : List (κ × V)} {k : κ} (e : p.1 = k) : valV (p :: r) k = some p.2 := by simp [valV, jXe, e]
theorem Yi {p : κ × V} {r : List (κ × V)} {k : κ} (e : ¬ p.1 = k) : valV (p :: r) k = valV r k := by simp [valV, jXe, e]
theorem Jg (k : κ) : ∀ kvs : List (κ × V), (kvs.any fun kv => decide (kv.1 = k)) = (valV kvs k).isSome
 | [] => rfl
 | p :: r => by
  rw [kXb]
  by_cases e : p.1 = k
  ·simp only [Yh e, kZ e, Bool.true_or, Option.isSome_some]
  ·rw [Yi e, zW e, Bool.false_or]; exact Jg k r
theorem Qej (k j : κ) (y : V) : ∀ kvs : List (κ × V), valV (kvs.map fun kv => if kv.1 = k then (kv.1, y) else kv) j = (valV kvs j).map fun x => if j = k then y else x
 | [] => rfl
 | p :: r => by
  have ih := Qej k j y r
  rw [zJ]
  by_cases h : p.1 = k
  ·rw [if_pos h]
   by_cases e : p.1 = j
   ·rw [Yh (p := (p.1, y)) e, Yh e, kYa, if_pos (e.symm.trans h)]
   ·rw [Yi (p := (p.1, y)) e, Yi e, ih]
  ·rw [if_neg h]
   by_cases e : p.1 = j
   ·rw [Yh (p := p) e, Yh e, kYa, if_neg (fun z => h (e.trans z))]
   ·rw [Yi (p := p) e, Yi e, ih]
theorem Qcf (k j : κ) (y : V) : ∀ kvs : List (κ × V), valV kvs k = none → valV (kvs ++ [(k, y)]) j = if j = k then some y else valV kvs j
 | [], _ => by
  by_cases e : k = j
  ·rw [if_pos e.symm]; exact Yh (p := (k, y)) e
  ·rw [if_neg (fun z => e z.symm)]; exact Yi (p := (k, y)) e
 | p :: r, hn => by
  rw [List.cons_append]
  have hk : ¬ p.1 = k := fun z => by rw [Yh z] at hn; cases hn
  rw [Yi hk] at hn
  have ih := Qcf k j y r hn
  by_cases e : p.1 = j
  ·rw [Yh e, Yh e, if_neg (fun z => hk (e.trans z))]
  ·rw [Yi e, Yi e, ih]
theorem Va (kvs : List (κ × V)) (k j : κ) (y : V) : valV (putK kvs k y) j = if j = k then some y else valV kvs j := by
 unfold putK
 by_cases a : (kvs.any fun kv => decide (kv.1 = k)) = true
 ·rw [if_pos a, Qej]
  rw [Jg] at a
  by_cases e : j = k
  ·obtain ⟨x, hx⟩ := jZa.mp a
   rw [if_pos e, e, hx, kYa, if_pos rfl]
  ·rw [if_neg e]
   cases valV kvs j with
   | none => rfl
   | some x => rw [kYa, if_neg e]
 ·rw [if_neg a]
  refine Qcf k j y kvs ?_
  rw [Jg] at a
  cases q : valV kvs k with
  | none => rfl
  | some x => rw [q] at a; exact (a rfl).elim
theorem Yv (kvs : List (κ × V)) (k : κ) (v : V) : (putK kvs k v).length ≤ kvs.length + 1 := by
 unfold putK
 split
 ·rw [jZ]; omega
 ·rw [jY, yW, List.length_nil]; omega
theorem Qjj {kvs : List (κ × V)} {k : κ} (v : V) (h : valV kvs k = none) : putK kvs k v = kvs ++ [(k, v)] := by
 unfold putK
 rw [Jg, h]
 exact if_neg (by decide)
theorem RelO.isSome_eq {o : Option V} {u : Option Value} (r : RelO o u) : o.isSome = u.isSome := by
 cases o with
 | none => cases u with
  | none => rfl
  | some _ => exact (show False from r).elim
 | some _ => cases u with
  | none => exact (show False from r).elim
  | some _ => rfl
theorem RelO.getD {o : Option V} {u : Option Value} {d : V} {d' : Value} (r : RelO o u) (rd : RelV d d') : RelV (o.getD d) (u.getD d') := by
 cases o with
 | none => cases u with
  | none => exact rd
  | some _ => exact (show False from r).elim
 | some _ => cases u with
  | none => exact (show False from r).elim
  | some _ => exact r
theorem KV.val {kvs : List (κ × V)} {vs : List (κ × Value)} (r : KV kvs vs) (k : κ) : RelO (valV kvs k) (valueAt vs k) := by
 unfold KV at r
 induction r with
 | nil => exact True.intro
 | @cons p q ps qs h t ih =>
  obtain ⟨h1, h2⟩ := h
  by_cases e : p.1 = k
  ·have e' : q.1 = k := h1.symm.trans e
   have b : valueAt (q :: qs) k = some q.2 := by simp [valueAt, jXe, e']
   rw [Yh e, b]; exact h2
  ·have e' : ¬ q.1 = k := fun z => e (h1.trans z)
   have b : valueAt (q :: qs) k = valueAt qs k := by simp [valueAt, jXe, e']
   rw [Yi e, b]; exact ih
theorem KV.any {kvs : List (κ × V)} {vs : List (κ × Value)} (r : KV kvs vs) (k : κ) : (kvs.any fun kv => decide (kv.1 = k)) = vs.any fun kv => decide (kv.1 = k) := by
 unfold KV at r
 induction r with
 | nil => rfl
 | cons h t ih => rw [kXb, kXb, ih, h.1]
theorem KV.repl {kvs : List (κ × V)} {vs : List (κ × Value)} (r : KV kvs vs) (k : κ) {y : V} {u : Value} (ry : RelV y u) :
  KV (kvs.map fun kv => if kv.1 = k then (kv.1, y) else kv) (vs.map fun kv => if kv.1 = k then (kv.1, u) else kv) := by
 unfold KV at r ⊢
 induction r with
 | nil => exact .nil
 | @cons p q ps qs h t ih =>
  rw [zJ, zJ]
  refine .cons ?_ ih
  obtain ⟨h1, h2⟩ := h
  by_cases e : p.1 = k
  ·rw [if_pos e, if_pos (h1.symm.trans e)]; exact ⟨h1, ry⟩
  ·rw [if_neg e, if_neg (fun z => e (h1.trans z))]; exact ⟨h1, h2⟩
theorem KV.put {kvs : List (κ × V)} {vs : List (κ × Value)} (r : KV kvs vs) (k : κ) {y : V} {u : Value} (ry : RelV y u) : KV (putK kvs k y) (stored vs k u) := by
 unfold putK stored
 rw [r.any k]
 by_cases e : (vs.any fun kv => decide (kv.1 = k)) = true
 ·rw [if_pos e, if_pos e]; exact r.repl k ry
 ·rw [if_neg e, if_neg e]; exact Paired.snoc r ⟨rfl, ry⟩
theorem KV.drop {kvs : List (κ × V)} {vs : List (κ × Value)} (r : KV kvs vs) (k : κ) : KV (Qan kvs k) (without vs k) := by
 unfold KV at r ⊢
 unfold Qan without
 induction r with
 | nil => exact .nil
 | @cons p q ps qs h t ih =>
  obtain ⟨h1, h2⟩ := h
  rw [kXd, kXd]
  by_cases e : p.1 = k
  ·have a : ¬ decide (p.1 ≠ k) = true := by simp [e]
   have b : ¬ decide (q.1 ≠ k) = true := by simp [h1.symm.trans e]
   rw [if_neg a, if_neg b]; exact ih
  ·have e' : ¬ q.1 = k := fun z => e (h1.trans z)
   have a : decide (p.1 ≠ k) = true := by simp [e]
   have b : decide (q.1 ≠ k) = true := by simp [e']
   rw [if_pos a, if_pos b]; exact .cons ⟨h1, h2⟩ ih
theorem KV.length {kvs : List (κ × V)} {vs : List (κ × Value)} (r : KV kvs vs) : kvs.length = vs.length := Paired.length r
theorem Qjk (kvs : List (κ × V)) (k : κ) : (Qan kvs k).length ≤ kvs.length := xY _ _
end
theorem Qao {P : Program} {w : World} {k : Key} {u : Value} (r : RelV (kV k) u) : (Xi P w).is k u = true := by
 cases k with
 | inl i => obtain ⟨t, e⟩ := (show ∃ t, u = Value.int i t from r); subst e; exact Qcy P w i t
 | inr x => obtain ⟨t, e⟩ := (show ∃ t, u = Value.str x t from r); subst e; exact Qcz P w x t
theorem Qcg {P : Program} {w : World} : ∀ {ks : List Key} {us : List Value}, Vals (ks.map kV) us → ItemsAre (Xi P w) ks us
 | [], _, r => by rw [jKe] at r; cases r; exact .nil
 | k :: ks, _, r => by
  rw [zJ] at r
  cases r with
  | cons h t => exact .cons (Qao h) (Qcg t)
abbrev KT (H : Hp) : List (List Key × V) → List (List Key × Addr × Value) → Prop := Paired fun p q => p.1 = q.1 ∧ H q.2.1 = some (.tup (p.1.map kV)) ∧ RelV p.2 q.2.2
theorem KT.val {H : Hp} {kvs : List (List Key × V)} {xs : List (List Key × Addr × Value)} (r : KT H kvs xs) (k : List Key) : RelO (valV kvs k) ((atKey xs k).map (·.2)) := by
 induction r with
 | nil => exact True.intro
 | @cons p q ps qs h t ih =>
  obtain ⟨h1, _, h2⟩ := h
  by_cases e : p.1 = k
  ·have e' : q.1 = k := h1.symm.trans e
   have b : atKey (q :: qs) k = some q.2 := by simp [atKey, jXe, e']
   rw [Yh e, b]; exact h2
  ·have e' : ¬ q.1 = k := fun z => e (h1.trans z)
   have b : atKey (q :: qs) k = atKey qs k := by simp [atKey, jXe, e']
   rw [Yi e, b]; exact ih
theorem KT.repl {H : Hp} {kvs : List (List Key × V)} {xs : List (List Key × Addr × Value)} (r : KT H kvs xs) (k : List Key) {y : V} {u : Value} (ry : RelV y u) :
  KT H (kvs.map fun kv => if kv.1 = k then (kv.1, y) else kv) (xs.map (putAt k u)) := by
 induction r with
 | nil => exact .nil
 | @cons p q ps qs h t ih =>
  rw [zJ, zJ]
  refine .cons ?_ ih
  obtain ⟨h1, h2, h3⟩ := h
  unfold putAt
  by_cases e : p.1 = k
  ·rw [if_pos e, if_pos (h1.symm.trans e)]; exact ⟨h1, h2, ry⟩
  ·rw [if_neg e, if_neg (fun z => e (h1.trans z))]; exact ⟨h1, h2, h3⟩
theorem KT.put {H : Hp} {kvs : List (List Key × V)} {xs : List (List Key × Addr × Value)} (r : KT H kvs xs) (k : List Key) {b : Addr} {y : V} {u : Value} (hb : H b = some (.tup (k.map kV))) (ry : RelV y u) :
  KT H (putK kvs k y) (storedH xs k b u) := by
 have e : (kvs.any fun kv => decide (kv.1 = k)) = (atKey xs k).isSome := by
  rw [Jg, (r.val k).isSome_eq, Option.isSome_map]
 unfold putK storedH
 rw [e]
 by_cases q : (atKey xs k).isSome = true
 ·rw [if_pos q, if_pos q]; exact r.repl k ry
 ·rw [if_neg q, if_neg q]; exact Paired.snoc r ⟨rfl, hb, ry⟩
theorem KT.keeps {H H' : Hp} {kvs : List (List Key × V)} {xs : List (List Key × Addr × Value)} (r : KT H kvs xs) (ht : ∀ b ys, H b = some (.tup ys) → H' b = some (.tup ys)) : KT H' kvs xs :=
 Paired.mapP r fun _ _ z => ⟨z.1, ht _ _ z.2.1, z.2.2⟩
section
variable {P : Program} {w : World} {H : Hp} {h : Heap} {a : Addr}
theorem rd_of {u : HO} (ok : HOk P w H h) (e : Rd H a u) : ObjOk P w H h a u := e.ok ok
theorem Qch {kvs : List (Key × V)} (ok : HOk P w H h) (e : Rd H a (.dK kvs)) : kvs.length ≤ sizeLine ∧ (a == sysModules) = false ∧ ∃ vs, KV kvs vs ∧ h.DictOf (Xi P w) a vs :=
 show ObjOk P w H h a (.dK kvs) from rd_of ok e
theorem Vv {kvs : List (Key × V)} (ok : HOk P w H h) (e : H a = some (.dK kvs)) : kvs.length ≤ sizeLine ∧ (a == sysModules) = false ∧ ∃ vs, KV kvs vs ∧ h.DictOf (Xi P w) a vs := Qch ok (.inl e)
theorem Kt {ks : List Key} (ok : HOk P w H h) (e : H a = some (.tup (ks.map kV))) : (tupleKind (Xi P w)).is h ks a := by
 obtain ⟨_, its, r, o, h1, h2, n, h3⟩ := (show ObjOk P w H h a (.tup (ks.map kV)) from ok a _ e)
 exact ⟨o, its.toArray, n, h1, h2, h3, by simpa using Qcg r⟩
theorem Qci {kvs : List (List Key × V)} (ok : HOk P w H h) (e : Rd H a (.dT kvs)) : kvs.length ≤ sizeLine ∧ (a == sysModules) = false ∧
  ∃ xs, KT H kvs xs ∧ h.DictOfH (tupleKind (Xi P w)) a xs := by
 obtain ⟨z, y, xs, r, o, es, ep, h1, h2, h3, h4, h5⟩ := (show ObjOk P w H h a (.dT kvs) from rd_of ok e)
 refine ⟨z, y, xs, r, o, es, ep, h1, h2, h3, h4, fun x hx => ?_, h5⟩
 have all : ∀ {l : List (List Key × V)} {m : List (List Key × Addr × Value)}, KT H l m → ∀ x ∈ m, (tupleKind (Xi P w)).is h x.1 x.2.1 := by
  intro l m q
  induction q with
  | nil => intro x hx; exact nomatch hx
  | @cons p q ps qs hq t ih =>
   intro x hx
   rcases yJ.mp hx with e | hx
   ·subst e
    exact Kt ok (by rw [← hq.1]; exact hq.2.1)
   ·exact ih x hx
 exact all r x hx
theorem Qmt {kvs : List (List Key × V)} (ok : HOk P w H h) (e : H a = some (.dT kvs)) : kvs.length ≤ sizeLine ∧ (a == sysModules) = false ∧
  ∃ xs, KT H kvs xs ∧ h.DictOfH (tupleKind (Xi P w)) a xs := Qci ok (.inl e)
end
def DGet (H : Hp) (a : Addr) (y : V) (r : Option V) : Prop :=
 (∃ kvs k, Rd H a (.dK kvs) ∧ y = kV k ∧ r = valV kvs k) ∨ ∃ kvs k b, Rd H a (.dT kvs) ∧ y = .ref b ∧ H b = some (.tup (k.map kV)) ∧ r = valV kvs k
def DPut (H : Hp) (a : Addr) (y v : V) (H' : Hp) : Prop :=
 (∃ kvs k, H a = some (.dK kvs) ∧ y = kV k ∧ kvs.length < sizeLine ∧ H' = upd H a (.dK (putK kvs k v))) ∨
 ∃ kvs k b, H a = some (.dT kvs) ∧ y = .ref b ∧ H b = some (.tup (k.map kV)) ∧ kvs.length < sizeLine ∧ H' = upd H a (.dT (putK kvs k v))
theorem DGet.k {H : Hp} {a : Addr} {kvs : List (Key × V)} {k : Key} (e : H a = some (.dK kvs)) : DGet H a (kV k) (valV kvs k) := .inl ⟨kvs, k, .inl e, rfl, rfl⟩
theorem DGet.t {H : Hp} {a b : Addr} {kvs : List (List Key × V)} {k : List Key} (e : H a = some (.dT kvs)) (eb : H b = some (.tup (k.map kV))) : DGet H a (.ref b) (valV kvs k) := .inr ⟨kvs, k, b, .inl e, rfl, eb, rfl⟩
theorem DPut.k {H : Hp} {a : Addr} {kvs : List (Key × V)} {k : Key} {v : V} (e : H a = some (.dK kvs)) (hl : kvs.length < sizeLine) : DPut H a (kV k) v (upd H a (.dK (putK kvs k v))) := .inl ⟨kvs, k, e, rfl, hl, rfl⟩
section
variable {X : Cx} {pins : List (Addr × Obj)} {σ : St} {H : Hp} {s : Shared} {a : Addr} {y v : V} {u r : Value} {o : Option V} {A : Around} {E : Value → Shared → Prop}
theorem Inv.big (I : Inv X pins σ H s) : sysModules < s.heap.objs.size := by
 have h : mainGlobals < s.heap.objs.size := (I.mod.glob.keeps I.bk).lt
 exact Nat.lt_trans (by decide) h
theorem Qgz {Q : Value → Shared → Prop} (hu : A.units + 1 < cLine) (I : Inv X pins σ H s) (g : DGet H a y (some v)) (ry : RelV y u) (h : ∀ w' s', Inv X pins σ H s' → RelV v w' → Q w' s') :
  wpAny (model X.prog X.w) A (getItem (.ref a) u) Q E s := by
 rcases g with ⟨kvs, k, e, ey, l⟩ | ⟨kvs, k, b, e, ey, eb, l⟩
 ·subst ey
  obtain ⟨z, hd, vs, rel, dd⟩ := Qch I.hok e
  obtain ⟨w', hw, rw'⟩ := RelO.some_of (v := v) (o := valueAt vs k) (by rw [l]; exact rel.val k)
  exact wpAny_getItem_of (Qao ry) dd.mapOf hw (h w' _ (I.tok _) rw')
 ·subst ey
  cases (show u = Value.ref b from ry)
  obtain ⟨z, hd, xs, rel, dd⟩ := Qci I.hok e
  obtain ⟨w', hw, rw'⟩ := RelO.some_of (v := v) (o := (atKey xs k).map (·.2)) (by rw [l]; exact rel.val k)
  obtain ⟨p, hp, hp2⟩ := Option.map_eq_some_iff.mp hw
  refine wpAny_getItem_heap (tupleKind_room_in1 hu) (Kt I.hok eb) dd hp ?_
  rw [hp2]
  exact h w' _ (I.tok _) rw'
theorem d_in {Q : Value → Shared → Prop} (hu : A.units + 1 < cLine) (I : Inv X pins σ H s) (g : DGet H a y o) (ry : RelV y u) (h : ∀ s', Inv X pins σ H s' → Q (.bool o.isSome) s') :
  wpAny (model X.prog X.w) A (compareOp .In u (.ref a)) Q E s := by
 rcases g with ⟨kvs, k, e, ey, l⟩ | ⟨kvs, k, b, e, ey, eb, l⟩
 ·subst ey
  obtain ⟨z, hd, vs, rel, dd⟩ := Qch I.hok e
  refine wpAny_in_of (Qao ry) hd dd.mapOf ?_
  rw [← (rel.val k).isSome_eq, ← l]
  exact h _ (I.tok _)
 ·subst ey
  cases (show u = Value.ref b from ry)
  obtain ⟨z, hd, xs, rel, dd⟩ := Qci I.hok e
  refine wpAny_in_heap (tupleKind_room_in1 hu) (Kt I.hok eb) hd dd ?_
  have q := (rel.val k).isSome_eq
  rw [Option.isSome_map] at q
  rw [← q, ← l]
  exact h _ (I.tok _)
theorem Qmu {Q : Value → Shared → Prop} (hu : A.units + 1 < cLine) (I : Inv X pins σ H s) (g : DGet H a y o) (ry : RelV y u) (h : ∀ s', Inv X pins σ H s' → Q (.bool (!o.isSome)) s') :
  wpAny (model X.prog X.w) A (compareOp .NotIn u (.ref a)) Q E s := by
 rcases g with ⟨kvs, k, e, ey, l⟩ | ⟨kvs, k, b, e, ey, eb, l⟩
 ·subst ey
  obtain ⟨z, hd, vs, rel, dd⟩ := Qch I.hok e
  refine wpAny_notIn_of (Qao ry) hd dd.mapOf ?_
  rw [← (rel.val k).isSome_eq, ← l]
  exact h _ (I.tok _)
 ·subst ey
  cases (show u = Value.ref b from ry)
  obtain ⟨z, hd, xs, rel, dd⟩ := Qci I.hok e
  refine wpAny_notIn_heap (tupleKind_room_in1 hu) (Kt I.hok eb) hd dd ?_
  have q := (rel.val k).isSome_eq
  rw [Option.isSome_map] at q
  rw [← q, ← l]
  exact h _ (I.tok _)
theorem Jo {h' : Heap} {t' : Nat} {ob : HO} (I : Inv X pins σ H s) (mu : Mut (H a)) (hs : Heap.SameBut a s.heap h') (he : ∃ q, h'.get? a = some q) (new : ObjOk X.prog X.w (upd H a ob) h' a ob) :
  Inv X pins σ (upd H a ob) { s with heap := h', toks := t' } :=
 I.write (x := a) (e := a) mu (.inl rfl) (fun b q hb z => (hs.2 b hb).trans z) he new
theorem Qek {P : Program} {w : World} {H' : Hp} {h' : Heap} {kvs : List (Key × V)} {vs : List (Key × Value)} (z : kvs.length ≤ sizeLine) (hd : (a == sysModules) = false) (rel : KV kvs vs) (dd : h'.DictOf (Xi P w) a vs) :
  ObjOk P w H' h' a (.dK kvs) := ⟨z, hd, vs, rel, dd⟩
theorem Qha {H' : Hp} {Q : Unit → Shared → Prop} (hu : A.units + 1 < cLine) (I : Inv X pins σ H s) (g : DPut H a y v H') (ry : RelV y u) (rv : RelV v r) (h : ∀ s', Inv X pins σ H' s' → Q () s') :
  wpAny (model X.prog X.w) A (setItem (.ref a) u r) Q E s := by
 rcases g with ⟨kvs, k, e, ey, l, eH⟩ | ⟨kvs, k, b, e, ey, eb, l, eH⟩
 ·subst ey eH
  obtain ⟨z, hd, vs, rel, dd⟩ := Vv I.hok e
  have hz : vs.length ≤ sizeLine := by rw [← rel.length]; exact z
  have hl : (putK kvs k v).length ≤ sizeLine := by have := Yv kvs k v; omega
  refine wpAny_setItem_pairs (hsz := hz) (Qao ry) dd fun h' dd' hs => h _ ?_
  have he : ∃ q, h'.get? a = some q := let ⟨q, _, _, hq, _⟩ := dd'; ⟨q, hq⟩
  exact Jo I (by rw [e]; exact True.intro) hs he (Qek hl hd (rel.put k rv) dd')
 ·subst ey eH
  cases (show u = Value.ref b from ry)
  obtain ⟨z, hd, xs, rel, dd⟩ := Qmt I.hok e
  have hz : xs.length ≤ sizeLine := by rw [← Paired.length rel]; exact z
  have hl : (putK kvs k v).length ≤ sizeLine := by have := Yv kvs k v; omega
  refine wpAny_setItem_heap (hsz := hz) (tupleKind_room_in1 hu) (Kt I.hok eb) dd fun h' dd' hs => h _ ?_
  obtain ⟨q, es, ep, hq, h2, h3, h4, _, h5⟩ := dd'
  refine Jo I (by rw [e]; exact True.intro) hs ⟨q, hq⟩ ⟨hl, hd, _, (rel.put k eb rv).keeps fun c ys ec => ?_, q, es, ep, hq, h2, h3, h4, h5⟩
  rw [Qj (Yl ec e (fun z => nomatch z))]
  exact ec
end
section
variable {X : Cx} {pins : List (Addr × Obj)} {σ : St} {H : Hp} {s : Shared} {a : Addr} {kvs : List (Key × V)} {k : Key} {u : Value} {A : Around} {E : Value → Shared → Prop}
theorem d_pop {v : V} {more : List Value} {Q : Value → Shared → Prop} (I : Inv X pins σ H s) (e : H a = some (.dK kvs)) (ry : RelV (kV k) u) (l : valV kvs k = some v) (hm : more = [] ∨ ∃ x, more = [x])
  (h : ∀ w' s', Inv X pins σ (upd H a (.dK (Qan kvs k))) s' → RelV v w' → Q w' s') : wpAny (model X.prog X.w) A (call (.builtin "dict.pop") (.ref a :: u :: more)) Q E s := by
 obtain ⟨z, hd, vs, rel, dd⟩ := Vv I.hok e
 obtain ⟨w', hw, rw'⟩ := RelO.some_of (v := v) (o := valueAt vs k) (by rw [← l]; exact rel.val k)
 have hp : (keyPart u).isSome = true := by
  cases k with
  | inl i => obtain ⟨t, q⟩ := (show ∃ t, u = Value.int i t from ry); subst q; rfl
  | inr x => obtain ⟨t, q⟩ := (show ∃ t, u = Value.str x t from ry); subst q; rfl
 have ha : argsOk "dict.pop" ⟨.ref a :: u :: more, []⟩ := by
  rcases hm with q | ⟨x, q⟩
  ·subst q; exact PySem.F.args_dict_pop_2 _ _
  ·subst q; exact PySem.F.args_dict_pop_3 _ _ _
 refine call_meetsIn PySem.F.slot_dict_pop dd.typeIs PySem.F.entry_dict_pop ha (meets_dict_pop_there (Xi X.prog X.w) a (Qao ry) more hm hp)
  ⟨vs, w', dd, by rw [← rel.length]; exact z, hw, fun h' dd' hs => h w' _ ?_ rw'⟩
 have he : ∃ q, h'.get? a = some q := let ⟨q, _, _, hq, _⟩ := dd'; ⟨q, hq⟩
 exact Jo I (by rw [e]; exact True.intro) hs he (Qek (jQa (Qjk kvs k) z) hd (rel.drop k) dd')
end
def NoSl (i : Expr) : Prop := ∀ ov iv, subscripted i false ov iv = operate [ov, iv] (getItem ov iv)
theorem Qmv {prog : Program} {w : World} {A : Around} {E : Value → Shared → Prop} {s : Shared} {env : Env} {value slice : Expr} {pos : Pos} {T id : String} {Q : Value → Shared → Prop}
  (hl : typeLookup (.type T) "__getitem__" = pure (some (.builtin id))) (hs : NoSl slice)
  (h : wpAny (model prog w) A (eval value env) (fun o s₁ => wpAny (model prog w) A (eval slice env) (fun i s₂ => s₂.TypeIs o T ∧ wpAny (model prog w) A (getItem o i) Q E s₂) E s₁) E s) :
  wpAny (model prog w) A (eval (.Subscript value slice pos) env) Q E s := by
 refine Subscript_ (wpAny_mono h (fun o s₁ h₁ => wpAny_mono h₁ (fun i s₂ h₂ => ?_) fun _ _ x => x) fun _ _ x => x)
 obtain ⟨hT, h₂⟩ := h₂
 unfold subscriptTail
 refine jQ ?_
 rw [getitemInPython_of_ne hT.not_modules]
 refine jQ (wpAny_specialOf hT hl ?_)
 have fin : wpAny (model prog w) A (subscripted slice false o i) (fun r s₃ => wpAny (model prog w) A (letTemporaryGo value o r >>= fun _ => pure r) Q E s₃) E s₂ := by
  rw [hs o i]
  exact wpAny_operating (wpAny_mono h₂ (fun r s₃ h₃ => jQ (wpAny_letTemporaryGo (jW h₃))) fun _ _ x => x)
 first
  | exact jW (jQ fin)
  | exact jQ (jW (jQ fin))
  | exact jQ fin
theorem Qdi {X : Cx} {pins : List (Addr × Obj)} {σ : St} {H : Hp} {s : Shared} {a : Addr} {y : V} {o : Option V} (I : Inv X pins σ H s) (g : DGet H a y o) : s.TypeIs (.ref a) "dict" := by
 rcases g with ⟨kvs, k, e, _, _⟩ | ⟨kvs, k, b, e, _, _, _⟩
 ·obtain ⟨_, _, vs, _, dd⟩ := Qch I.hok e
  exact dd.typeIs
 ·obtain ⟨_, _, xs, _, dd⟩ := Qci I.hok e
  exact dd.typeIs
def tDGet (td ty : TE) : TE := fun σ H Q => td σ H fun x H1 => ty σ H1 fun y H2 => ∃ a v, x = .ref a ∧ DGet H2 a y (some v) ∧ Q v H2
def tDIn (ty td : TE) : TE := fun σ H Q => ty σ H fun y H1 => td σ H1 fun x H2 => ∃ a o, x = .ref a ∧ DGet H2 a y o ∧ Q (.bl o.isSome) H2
def Qmw (ty td : TE) : TE := fun σ H Q => ty σ H fun y H1 => td σ H1 fun x H2 => ∃ a o, x = .ref a ∧ DGet H2 a y o ∧ Q (.bl (!o.isSome)) H2
def sDPut (td ty tv : TE) : TS := fun D σ H => tv σ H fun v H1 => td σ H1 fun x H2 => ty σ H2 fun y H3 => ∃ a H4, x = .ref a ∧ DPut H3 a y v H4 ∧ D.nx σ H4
section
variable {X : Cx} {o i e value : Expr} {pos pos' tpos : Pos} {td ty tv : TE}
theorem Zz (hu : X.A.units + 1 < cLine) (ho : PE X o td) (hi : PE X i ty) (hs : NoSl i) : PE X (.Subscript o i pos) (tDGet td ty) := by
 intro pins s σ H Q I h
 refine Qmv PySem.F.slot_dict_getitem.lookup hs (thn (ho pins s σ H _ I h) fun u s1 ⟨x, H1, I1, rx, q1⟩ => thn (hi pins s1 σ H1 _ I1 q1) fun iv s2 hqP => ?_)
 obtain ⟨y, H2, I2, ry, a, v, ex, g, q2⟩ := hqP
 subst ex
 obtain rfl : u = Value.ref a := rx
 exact ⟨Qdi I2 g, Qgz hu I2 g ry fun w' s3 I3 rw' => ⟨v, H2, I3, rw', q2⟩⟩
theorem Qlo (hu : X.A.units + 1 < cLine) (hi : PE X i ty) (ho : PE X o td) : PC X .In i o (tDIn ty td) := by
 intro pins s σ H Q I h
 refine thn (hi pins s σ H _ I h) fun iv s1 ⟨y, H1, I1, ry, q1⟩ => thn (ho pins s1 σ H1 _ I1 q1) fun u s2 hqP => ?_
 obtain ⟨x, H2, I2, rx, a, ov, ex, g, q2⟩ := hqP
 subst ex
 obtain rfl : u = Value.ref a := rx
 exact d_in hu I2 g ry fun s3 I3 => ⟨.bl ov.isSome, H2, I3, rfl, q2⟩
theorem Qhb (hu : X.A.units + 1 < cLine) (hi : PE X i ty) (ho : PE X o td) : PC X .NotIn i o (Qmw ty td) := by
 intro pins s σ H Q I h
 refine thn (hi pins s σ H _ I h) fun iv s1 ⟨y, H1, I1, ry, q1⟩ => thn (ho pins s1 σ H1 _ I1 q1) fun u s2 hqP => ?_
 obtain ⟨x, H2, I2, rx, a, ov, ex, g, q2⟩ := hqP
 subst ex
 obtain rfl : u = Value.ref a := rx
 exact Qmu hu I2 g ry fun s3 I3 => ⟨.bl (!ov.isSome), H2, I3, rfl, q2⟩
theorem Kl (hu : X.A.units + 1 < cLine) (ho : PE X o td) (hi : PE X i ty) (hv : PE X value tv) (hs : swapsWith value (some (.Subscript o i pos')) pos.line X.env = pure false) :
  PS X (.Assign [.Subscript o i pos'] value pos) (sDPut td ty tv) := by
 intro pins s σ H D I h
 refine wpAny_Assign_Subscript (thn (hv pins s σ H _ I h) fun r s1 ⟨v, H1, I1, rv, q1⟩ => thn (ho pins s1 σ H1 _ I1 q1) fun u s2 ⟨x, H2, I2, rx, q2⟩ => thn (hi pins s2 σ H2 _ I2 q2) fun iv s3 hqP => ?_) hs
 obtain ⟨y, H3, I3, ry, a, H4, ex, g, q3⟩ := hqP
 subst ex
 obtain rfl : u = Value.ref a := rx
 exact Qha hu I3 g ry rv fun s4 I4 => ⟨σ, H4, I4, q3⟩
end
theorem Qap {P : Program} {w : World} {H : Hp} (h : Heap) (hb : sysModules < h.objs.size) : ObjOk P w H (h.push { cls := .type "dict", data := .dict #[] }) h.objs.size (.dK []) :=
 ⟨wK _, beq_eq_false_iff_ne.mpr (Ne.symm (zK hb)), [], .nil, Heap.DictOf.new h⟩
theorem Qjl {P : Program} {w : World} {H : Hp} (h : Heap) (hb : sysModules < h.objs.size) : ObjOk P w H (h.push { cls := .type "dict", data := .dict #[] }) h.objs.size (.dT []) :=
 ⟨wK _, beq_eq_false_iff_ne.mpr (Ne.symm (zK hb)), [], .nil, _, #[], 0, yX _ rfl, ⟨rfl, rfl, rfl⟩, rfl, rfl, List.nodup_nil⟩
def tDNewK : TE := fun _ H Q => ∀ p, H p = none → Q (.ref p) (upd H p (.dK []))
section
variable {X : Cx} {pos : Pos}
theorem Qjm : PE X (.Dict [] [] pos) tDNewK := fun pins s σ H Q I h =>
 wpAny_Dict_empty ⟨.ref s.heap.objs.size, _, I.laid (a := s.heap.objs.size) (o := .dK []) (t' := s.toks) (fun _ _ q => jJ _ q) (jX _) (Qap s.heap I.big), rfl, h _ (I.hok.fresh (jX _))⟩
end
structure M1 (X : Cx) (o : Expr) (m : Str) (apos : Pos) (e : Expr) (cpos : Pos) : Prop where
 base : attributeBase o m X.env (eval o X.env) = eval o X.env
 few : ((backTo cpos (starEach [e] X.env)).all (fun x => !x.1) && (backToKw cpos (keywordEach [] X.env)).all (fun x => x.1.isSome)
  && decide (([e] : List Expr).length + ([] : List Keyword).length + (if ([] : List Keyword).isEmpty then 0 else 1) < 30)) = true
 line : (apos.endLine == cpos.line) = true
 trees : backTo cpos (starEach [e] X.env) = [(false, eval e X.env)]
structure M2 (X : Cx) (o : Expr) (m : Str) (apos : Pos) (e f : Expr) (cpos : Pos) : Prop where
 base : attributeBase o m X.env (eval o X.env) = eval o X.env
 few : ((backTo cpos (starEach [e, f] X.env)).all (fun x => !x.1) && (backToKw cpos (keywordEach [] X.env)).all (fun x => x.1.isSome)
  && decide (([e, f] : List Expr).length + ([] : List Keyword).length + (if ([] : List Keyword).isEmpty then 0 else 1) < 30)) = true
 line : (apos.endLine == cpos.line) = true
 trees : backTo cpos (starEach [e, f] X.env) = [(false, eval e X.env), (false, eval f X.env)]
def IsD (H : Hp) (a : Addr) : Prop := (∃ kvs, Rd H a (.dK kvs)) ∨ ∃ kvs, Rd H a (.dT kvs)
theorem Qel {X : Cx} {pins : List (Addr × Obj)} {σ : St} {H : Hp} {s : Shared} {a : Addr} (I : Inv X pins σ H s) (d : IsD H a) :
  s.TypeIs (.ref a) "dict" ∧ (∀ b, Value.ref a = .ref b → ∃ ob, s.heap.get? b = some ob ∧ ob.dict = none) ∧ (a == sysModules) = false := by
 rcases d with ⟨kvs, e⟩ | ⟨kvs, e⟩
 ·obtain ⟨_, hd, vs, _, dd⟩ := Qch I.hok e
  refine ⟨dd.typeIs, fun b q => ?_, hd⟩
  cases q
  obtain ⟨ob, _, _, h1, h2, _⟩ := dd
  exact ⟨ob, h1, h2.2.1⟩
 ·obtain ⟨_, hd, xs, _, dd⟩ := Qci I.hok e
  refine ⟨dd.typeIs, fun b q => ?_, hd⟩
  cases q
  obtain ⟨ob, _, _, h1, h2, _⟩ := dd
  exact ⟨ob, h1, h2.2.1⟩
section
variable {X : Cx} {pins : List (Addr × Obj)} {σ : St} {H : Hp} {s : Shared} {a : Addr} {y d : V} {u r : Value} {o : Option V} {A : Around} {E : Value → Shared → Prop}
theorem d_get1 {Q : Value → Shared → Prop} (hu : A.units + 1 < cLine) (I : Inv X pins σ H s) (g : DGet H a y o) (ry : RelV y u) (h : ∀ w' s', Inv X pins σ H s' → RelV (o.getD .non) w' → Q w' s') :
  wpAny (model X.prog X.w) A (call (.builtin "dict.get") [.ref a, u]) Q E s := by
 rcases g with ⟨kvs, k, e, ey, l⟩ | ⟨kvs, k, b, e, ey, eb, l⟩
 ·subst ey
  obtain ⟨z, hd, vs, rel, dd⟩ := Qch I.hok e
  refine call_meetsIn PySem.F.slot_dict_get dd.typeIs PySem.F.entry_dict_get (PySem.F.args_dict_get_2 _ _) (meets_dict_get (Xi X.prog X.w) a (Qao ry) hd) ⟨_, dd.mapOf, h _ _ (I.tok _) ?_⟩
  rw [l]
  exact (rel.val k).getD rfl
 ·subst ey
  cases (show u = Value.ref b from ry)
  obtain ⟨z, hd, xs, rel, dd⟩ := Qci I.hok e
  refine call_meetsIn PySem.F.slot_dict_get dd.typeIs PySem.F.entry_dict_get (PySem.F.args_dict_get_2 _ _) (meetsH_dict_get (tupleKind (Xi X.prog X.w)) a b hd) ⟨tupleKind_room_in1 hu, k, xs, Kt I.hok eb, dd, h _ _ (I.tok _) ?_⟩
  rw [l]
  exact (rel.val k).getD rfl
theorem d_get2 {Q : Value → Shared → Prop} (hu : A.units + 1 < cLine) (I : Inv X pins σ H s) (g : DGet H a y o) (ry : RelV y u) (rd : RelV d r) (h : ∀ w' s', Inv X pins σ H s' → RelV (o.getD d) w' → Q w' s') :
  wpAny (model X.prog X.w) A (call (.builtin "dict.get") [.ref a, u, r]) Q E s := by
 rcases g with ⟨kvs, k, e, ey, l⟩ | ⟨kvs, k, b, e, ey, eb, l⟩
 ·subst ey
  obtain ⟨z, hd, vs, rel, dd⟩ := Qch I.hok e
  refine call_meetsIn PySem.F.slot_dict_get dd.typeIs PySem.F.entry_dict_get (PySem.F.args_dict_get_3 _ _ _) (meets_dict_get_default (Xi X.prog X.w) a (Qao ry) hd r) ⟨_, dd.mapOf, h _ _ (I.tok _) ?_⟩
  rw [l]
  exact (rel.val k).getD rd
 ·subst ey
  cases (show u = Value.ref b from ry)
  obtain ⟨z, hd, xs, rel, dd⟩ := Qci I.hok e
  refine call_meetsIn PySem.F.slot_dict_get dd.typeIs PySem.F.entry_dict_get (PySem.F.args_dict_get_3 _ _ _) (meetsH_dict_get_default (tupleKind (Xi X.prog X.w)) a b hd r) ⟨tupleKind_room_in1 hu, k, xs, Kt I.hok eb, dd, h _ _ (I.tok _) ?_⟩
  rw [l]
  exact (rel.val k).getD rd
end
def tDGet1 (td ty : TE) : TE := fun σ H Q => td σ H fun x H1 => ∃ a, x = .ref a ∧ IsD H1 a ∧ ty σ H1 fun y H2 => ∃ o, DGet H2 a y o ∧ Q (o.getD .non) H2
def tDGet2 (td ty tx : TE) : TE := fun σ H Q => td σ H fun x H1 => ∃ a, x = .ref a ∧ IsD H1 a ∧ ty σ H1 fun y H2 => tx σ H2 fun z H3 => ∃ o, DGet H3 a y o ∧ Q (o.getD z) H3
def tDPop1 (td ty : TE) : TE := fun σ H Q => td σ H fun x H1 => ∃ a, x = .ref a ∧ IsD H1 a ∧ ty σ H1 fun y H2 => ∃ kvs k v, H2 a = some (.dK kvs) ∧ y = kV k ∧ valV kvs k = some v ∧ Q v (upd H2 a (.dK (Qan kvs k)))
section
variable {X : Cx} {o e f : Expr} {apos cpos : Pos} {td ty tx : TE}
theorem Qjn (hu : X.A.units + 1 < cLine) (ho : PE X o td) (he : PE X e ty) (m : M1 X o "get" apos e cpos) : PE X (.Call (.Attribute o "get" apos) [e] [] cpos) (tDGet1 td ty) := by
 intro pins s σ H Q I h
 refine wpAny_Call_method m.base m.few m.line PySem.F.plainAttrs_dict PySem.F.slot_dict_get PySem.F.type_dict_get (thn (ho pins s σ H _ I h) fun u s1 hqP => ?_)
 obtain ⟨x, H1, I1, rx, a, ex, d, q1⟩ := hqP
 subst ex
 obtain rfl : u = Value.ref a := rx
 obtain ⟨t1, t2, _⟩ := Qel I1 d
 refine ⟨t1, t2, ?_⟩
 rw [m.trees]
 refine Calls.callWith_builtin rfl (Calls.evalArgs_plain (Calls.spliced_cons (thn (he pins s1 σ H1 _ I1 q1) fun iv s2 ⟨y, H2, I2, ry, ov, g, q2⟩ => Calls.spliced_nil ?_)))
 exact d_get1 hu I2 g ry fun w' s3 I3 rw' => ⟨_, H2, I3, rw', q2⟩
theorem Qem (hu : X.A.units + 1 < cLine) (ho : PE X o td) (he : PE X e ty) (hf : PE X f tx) (m : M2 X o "get" apos e f cpos) : PE X (.Call (.Attribute o "get" apos) [e, f] [] cpos) (tDGet2 td ty tx) := by
 intro pins s σ H Q I h
 refine wpAny_Call_method m.base m.few m.line PySem.F.plainAttrs_dict PySem.F.slot_dict_get PySem.F.type_dict_get (thn (ho pins s σ H _ I h) fun u s1 hqP => ?_)
 obtain ⟨x, H1, I1, rx, a, ex, d, q1⟩ := hqP
 subst ex
 obtain rfl : u = Value.ref a := rx
 obtain ⟨t1, t2, _⟩ := Qel I1 d
 refine ⟨t1, t2, ?_⟩
 rw [m.trees]
 refine Calls.callWith_builtin rfl (Calls.evalArgs_plain (Calls.spliced_cons (thn (he pins s1 σ H1 _ I1 q1) fun iv s2 ⟨y, H2, I2, ry, q2⟩ =>
  Calls.spliced_cons (thn (hf pins s2 σ H2 _ I2 q2) fun fv s3 ⟨z, H3, I3, rz, ov, g, q3⟩ => Calls.spliced_nil ?_))))
 exact d_get2 hu I3 g ry rz fun w' s4 I4 rw' => ⟨_, H3, I4, rw', q3⟩
theorem Qjo (ho : PE X o td) (he : PE X e ty) (m : M1 X o "pop" apos e cpos) : PE X (.Call (.Attribute o "pop" apos) [e] [] cpos) (tDPop1 td ty) := by
 intro pins s σ H Q I h
 refine wpAny_Call_method m.base m.few m.line PySem.F.plainAttrs_dict PySem.F.slot_dict_pop PySem.F.type_dict_pop (thn (ho pins s σ H _ I h) fun u s1 hqP => ?_)
 obtain ⟨x, H1, I1, rx, a, ex, d, q1⟩ := hqP
 subst ex
 obtain rfl : u = Value.ref a := rx
 obtain ⟨t1, t2, _⟩ := Qel I1 d
 refine ⟨t1, t2, ?_⟩
 rw [m.trees]
 refine Calls.callWith_builtin rfl (Calls.evalArgs_plain (Calls.spliced_cons (thn (he pins s1 σ H1 _ I1 q1) fun iv s2 ⟨y, H2, I2, ry, kvs, k, v, ea, ey, l, q2⟩ => Calls.spliced_nil ?_)))
 subst ey
 exact d_pop I2 ea ry l (.inl rfl) fun w' s3 I3 rw' => ⟨v, _, I3, rw', q2⟩
end
section
variable {X : Cx} {pins : List (Addr × Obj)} {σ : St} {H : Hp} {s : Shared} {a : Addr} {kvs : List (Key × V)} {A : Around} {E : Value → Shared → Prop}
end
section
variable {X : Cx} {pins : List (Addr × Obj)} {σ : St} {H : Hp} {s : Shared} {a : Addr} {y : V} {u : Value} {A : Around} {E : Value → Shared → Prop}
end
end L2
namespace Att
open PySem PySem.W PySem.Calls PyProof.Rows
section
variable {prog : Program} {w : World} {A : Around} {E : Value → Shared → Prop} {s : Shared} {K : Frag}
end
end Att
namespace L2
open PySem PySem.Spec PyProof.Rows
section
variable {P : Program} {w : World} {K : Fg} {mg : Str → Option Value} {base : Heap}
end
section
variable {X : Cx}
end
section
variable {κ : Type} [DecidableEq κ]
theorem Qmx {kvs : List (κ × V)} {k : κ} {v : V} (h : valV kvs k = some v) : k ∈ kvs.map (·.1) := by
 have q : (kvs.any fun kv => decide (kv.1 = k)) = true := by
  rw [Jg, h]
  all_goals rfl
 obtain ⟨p, hp, e⟩ := jYa.mp q
 exact zV.mpr ⟨p, hp, kY e⟩
end
theorem Qcj : typeLookup (.type "list") "keys" = pure none := by rw [typeLookup_type, builtinLookup_eq_fast]; kernel_rfl
section
variable {prog : Program} {w : World} {A : Around} {E : Value → Shared → Prop}
theorem Kd {s : Shared} {a : Addr} {xs : Array Value} {k : Nat} {sl : Array (Option Value)} {Q : Option Value → Shared → Prop} (hx : s.heap.get? a = some { cls := .type "list", dict := none, data := .seq xs k, slots := sl }) (hA : A.handled = none)
  (h : ∀ h' tk, (∀ b o, s.heap.get? b = some o → h'.get? b = some o) → Q none { s with heap := h', toks := tk }) : wpAny (model prog w) A (getAttr? (.ref a) "keys") Q E s := by
 obtain ⟨hp, g, d, tk, os⟩ := s
 have hT : ∀ tk', (⟨hp, g, d, tk', os⟩ : Shared).TypeIs (.ref a) "list" := fun _ => ⟨_, hx, rfl⟩
 have f1 := sub_AttributeError
 have f3 := F.slot_list_getattribute.lookup
 have f4 := F.slot_list_getattribute.bind (.ref a)
 have f5 := am_list_getattr_none
 have hname : (["__module__", "__name__", "__qualname__", "__doc__", "__annotations__"] : List Str).contains "keys" = false := by decide +kernel
 unfold getAttr? getAttrBy? getAttrBy
 repeat (any_goals (first | assumption | exact hT _ | ((with_reducible show wpAny _ _ (call (Value.builtin "list.__getattribute__") _ _) _ _ _); refine call_meets F.slot_list_getattribute (hT _) am_entry_list_getattribute (F.args_list_getattribute_2 _ _) (meets_getattribute_miss_list a xs k sl "keys" _ Qcj hname (by decide +kernel)) ⟨hx, hA, fun h' tk' e hx' => ?_⟩) | wp_step))
 have hxo := hx'.of
 obtain ⟨⟨cl, dc, da, sl2⟩, vs, he, hc, _, _⟩ := hxo.there
 simp only at hc
 subst hc
 have hE : ∀ tk2, (⟨h', g, d, tk2, os⟩ : Shared).TypeIs (.ref e) "AttributeError" := fun _ => ⟨_, he, rfl⟩
 show wpAny _ _ (getattributeRaised _ _ _ _ _ _ _) _ _ _
 unfold getattributeRaised
 repeat (any_goals (first | assumption | exact hE _ | wp_step))
 all_goals exact h _ _ hxo.keeps
end
def Ke : entryFor table "dict.update.loop" = some Builtin.«dict.update.loop» := entryFor_of_tree (by kernel_rfl)
theorem Zb : plainId "dict.update.loop" = true := by decide +kernel
section
variable {X : Cx}
end
section
variable {P : Program} {w : World} {A : Around} {E : Value → Shared → Prop} {s : Shared} {e it l : Addr} {st : Nat → Heap → Prop} {src : List Value → Heap → Prop} {i : Nat} {xs : List Value} {old : Value}
theorem Qaq {x : Value} {Q : Option Value → Shared → Prop} (dr : Drw P w it l st src) (hE : IsEnum s.heap e it i old) (hI : st i s.heap) (hl : src xs s.heap) (hx : xs[i]? = some x) (hne : e ≠ it)
  (hQ : ∀ h', IsEnumOut h' e it ((i : Int) + 1) x s.heap.objs.size → st (i + 1) h' → h'.get? s.heap.objs.size = some { cls := .type "tuple", data := .seq #[.int i s.toks, x] } →
   (∀ b o, b ≠ e → b ≠ it → s.heap.get? b = some o → h'.get? b = some o) → Q (some (.ref s.heap.objs.size)) { s with heap := h', toks := s.toks + 1 }) : wpAny (model P w) A (pyNext (.ref e)) Q E s := by
 have hTy : s.TypeIs (.ref e) "enumerate" := ⟨_, hE, rfl⟩
 unfold pyNext
 refine jQ (wpAny_attempt (wpAny_callSpecial?_slot (name := Str.ofString "__next__") hTy F.slot_enumerate_next (wpAny_call_entry F.slot_enumerate_next hTy F.entry_enumerate_next ?_ (F.args_enumerate_next_1 _))))
 obtain ⟨hp, g, d, tk, os⟩ := s
 show wpAny _ _ (field (.ref e) 2 >>= _) _ _ _
 refine jQ (wpAny_field hE rfl (x := .ref it) rfl ?_)
 refine jQ (dr.item _ _ ⟨hp, g, d, tk, os⟩ i xs x _ hI hl hx fun g1 hI1 e1 => ?_)
 replace e1 : Heap.SameBut it hp g1 := e1
 have hE1 : IsEnum g1 e it i old := (e1.2 e hne).trans hE
 show wpAny _ _ (field (.ref e) 3 >>= _) _ _ ⟨g1, g, d, tk, os⟩
 refine jQ (wpAny_field hE1 rfl (x := rawInt i) rfl ?_)
 show wpAny _ _ (field (.ref e) 4 >>= _) _ _ ⟨g1, g, d, tk, os⟩
 refine jQ (wpAny_field hE1 rfl (x := .none) rfl ?_)
 show wpAny _ _ (mkInt i >>= _) _ _ ⟨g1, g, d, tk, os⟩
 refine jQ (wpAny_mkInt ?_)
 show wpAny _ _ (setField (.ref e) 3 (rawInt ((i : Int) + 1)) >>= _) _ _ ⟨g1, g, d, tk + 1, os⟩
 refine jQ (wpAny_setField_rec hE1 (by simp) fun g2 hE2 e2 => ?_)
 replace e2 : Heap.SameBut e g1 g2 := e2
 replace hE2 : IsEnum g2 e it ((i : Int) + 1) old := hE2
 show wpAny _ _ (setField (.ref e) 4 .none >>= _) _ _ ⟨g2, g, d, tk + 1, os⟩
 refine jQ (wpAny_setField_rec hE2 (by simp) fun g3 hE3 e3 => ?_)
 replace e3 : Heap.SameBut e g2 g3 := e3
 replace hE3 : IsEnum g3 e it ((i : Int) + 1) old := hE3
 show wpAny _ _ (newTuple [.int i tk, x] >>= _) _ _ ⟨g3, g, d, tk + 1, os⟩
 refine jQ (wpAny_newTuple ?_)
 have hE4 : IsEnum (g3.push { cls := .type "tuple", data := .seq #[.int i tk, x] }) e it ((i : Int) + 1) old := jJ _ hE3
 generalize hg4 : g3.push { cls := .type "tuple", data := .seq #[.int i tk, x] } = g4 at hE4
 have hsz : g3.objs.size = hp.objs.size := by rw [e3.1, e2.1, e1.1]
 have hel : e < hp.objs.size := yK hE
 have hT4 : g4.get? hp.objs.size = some { cls := .type "tuple", data := .seq #[.int i tk, x] } := by rw [← hg4, ← hsz]; exact yX _ rfl
 have hk4 : ∀ b o, b ≠ e → b ≠ it → hp.get? b = some o → g4.get? b = some o := fun b o hbe hbi hb => by
  rw [← hg4]; exact jJ _ (e3.extBut b o hbe (e2.extBut b o hbe (e1.extBut b o hbi hb)))
 have hI4 : st (i + 1) g4 := dr.keep _ _ _ hI1 fun q z => by rw [← hg4]; exact jJ _ (e3.extBut _ _ hne.symm (e2.extBut _ _ hne.symm z))
 show wpAny _ _ (Builtin.SmallTypes.ownedTupleIsFree (.ref e) >>= _) _ _ ⟨g4, g, d, tk + 1, os⟩
 rw [hsz]
 clear hg4 hE3 e3 hE2 e2 hE1 e1 hI1 hsz
 refine jQ ?_
 unfold Builtin.SmallTypes.ownedTupleIsFree
 refine jQ (wpAny_field hE4 rfl (x := .none) rfl (jW ?_))
 simp only [if_true]
 refine jQ (wpAny_rule (jQ (wpAny_field hE4 rfl (x := old) rfl (jQ (wpAny_setField_rec hE4 (by simp) fun g5 hE5 e5 => ?_)))))
 replace e5 : Heap.SameBut e g4 g5 := e5
 replace hE5 : IsEnum g5 e it ((i : Int) + 1) x := hE5
 show wpAny _ _ (Builtin.SmallTypes.ownedTupleHandOut (.ref e) (.ref hp.objs.size) >>= _) _ _ ⟨g5, g, d, tk + 1, os⟩
 refine jQ ?_
 unfold Builtin.SmallTypes.ownedTupleHandOut
 refine jQ (wpAny_setField_rec hE5 (by simp) fun g6 hE6 e6 => ?_)
 replace e6 : Heap.SameBut e g5 g6 := e6
 replace hE6 : IsEnumOut g6 e it ((i : Int) + 1) x hp.objs.size := hE6
 refine wpAny_setField_rec hE6 (by simp) fun g7 hE7 e7 => ?_
 replace e7 : Heap.SameBut e g6 g7 := e7
 replace hE7 : IsEnumOut g7 e it ((i : Int) + 1) x hp.objs.size := hE7
 have up : ∀ b o, b ≠ e → g4.get? b = some o → g7.get? b = some o := fun b o hb z => e7.extBut b o hb (e6.extBut b o hb (e5.extBut b o hb z))
 refine jQ (wpAny_letGo (jW ⟨_, rfl, jW (hQ g7 hE7 ?_ ?_ ?_)⟩))
 ·exact dr.keep _ _ _ hI4 fun q z => up _ _ hne.symm z
 ·exact up _ _ (Nat.ne_of_gt hel) hT4
 ·exact fun b o hbe hbi hb => up b o hbe (hk4 b o hbe hbi hb)
theorem Qck {Q : Option Value → Shared → Prop} (hh : A.handled = none) (dr : Drw P w it l st src) (hE : IsEnum s.heap e it i old) (hI : st i s.heap) (hl : src xs s.heap) (hx : xs[i]? = none)
  (hQ : ∀ h', Heap.ExtBut it s.heap h' → Q none { s with heap := h' }) : wpAny (model P w) A (pyNext (.ref e)) Q E s := by
 have hTy : s.TypeIs (.ref e) "enumerate" := ⟨_, hE, rfl⟩
 unfold pyNext
 refine jQ (wpAny_attempt (wpAny_callSpecial?_slot (name := Str.ofString "__next__") hTy F.slot_enumerate_next (wpAny_call_entry F.slot_enumerate_next hTy F.entry_enumerate_next ?_ (F.args_enumerate_next_1 _))))
 show wpAny _ _ (field (.ref e) 2 >>= _) _ _ _
 refine jQ (wpAny_field hE rfl (x := .ref it) rfl ?_)
 refine jQ (dr.done _ _ s i xs _ hh hI hl hx fun h' x eb hx' => ?_)
 obtain ⟨o, ho, hc⟩ := hx'
 refine jQ (wpAny_isInstance (T := "StopIteration") (b := true) ⟨o, ho, hc⟩ isSubtype_stop (jW (hQ _ eb)))
end
theorem Qfl {n : String} {l : Addr} {p : Heap → Prop} (I : Itr0 n l p) :
  Meets (Builtin.«enumerate.__new__» ⟨[.type "enumerate", .ref l], []⟩) (fun _ R s => p s.heap ∧ R (.ok (.ret (.ref (s.heap.push (Vr n l)).objs.size))) { s with heap := (s.heap.push (Vr n l)).push { cls := .type "enumerate", data := .fields #[.none, .bool false, .ref s.heap.objs.size, rawInt 0, .none, .none] } }) :=
 .of_wp fun prog w A R s h => by
  obtain ⟨hp, g, d, tk, os⟩ := s
  obtain ⟨q, h⟩ := h
  have hsub := sub_enumerate
  have f1 := fun (A : Around) (E : Value → Shared → Prop) (Q : Value → Shared → Prop) => I.go prog w A E ⟨hp, g, d, tk, os⟩ Q q
  wp_walk
  refine wpAny_stack_any fun stk => jW ?_
  split
  ·rename_i c _ _ _ _ _
   cases (c == Value.type "enumerate")
   ·wp_walk using f1 _ _ _
    exact ⟨_, rfl, h⟩
   ·wp_walk using f1 _ _ _
    exact ⟨_, rfl, h⟩
  ·wp_walk using f1 _ _ _
   exact ⟨_, rfl, h⟩
def Ite (K : Fg) (m : Bool) (a : Addr) : It :=
  ⟨fun i H => ∃ xs x, Sq K m H a xs ∧ xs[i]? = some x,
   fun i H v H' => ∃ T x, v = .ref T ∧ H T = none ∧ H' = upd H T (.tup [.int (i : Nat), x]) ∧ (∀ xs, Sq K m H a xs → xs[i]? = some x),
   fun i H => ∃ xs, Sq K m H a xs ∧ xs.length ≤ i⟩
def eTn (m : Bool) (e it a : Addr) (i : Nat) (h : Heap) : Prop := (∃ old, IsEnum h e it i old) ∧ itSt m it a i h
theorem Qhc {P : Program} {w : World} {K : Fg} {es : List Expr} {kk : Nat} {tp : Pos} {m : Bool} {e it a : Addr} (hne : e ≠ it) (hea : a ≠ e) (hia : a ≠ it) :
  Turn P w K (.Tuple es kk tp) (Ite K m a) [e, it] e (eTn m e it a) where
 mem := by simp
 obj := fun i h st c hc => by
  obtain ⟨⟨old, h1⟩, h2⟩ := st
  simp only [yJ, jYb, or_false] at hc
  rcases hc with rfl | rfl
  ·exact ⟨_, h1, fun v z => by cases z⟩
  ·exact (Vs (P := P) (w := w) m c a).obj i h h2
 keep := fun i h h' st k => by
  obtain ⟨⟨old, h1⟩, h2⟩ := st
  exact ⟨⟨old, k e (by simp) _ h1⟩, (Vs (P := P) (w := w) m it a).keep i h h' h2 (k it (by simp))⟩
 item := by
  intro X hP hw hK hc i pins s σ H E I hf st hg
  subst hP hw hK
  obtain ⟨xs, x, q1, hx⟩ := hg
  obtain ⟨is1, r1, p1, z1⟩ := I.sq q1
  obtain ⟨v1, e1, rv1⟩ := r1.get hx
  obtain ⟨⟨old, hE⟩, s1⟩ := st
  refine Qaq (Vs m it a) hE s1 p1 e1 hne fun h' a1 a2 a3 a4 => ⟨_, rfl, ?_⟩
  have kk : ∀ c q, c ∉ [e, it] → s.heap.get? c = some q → h'.get? c = some q := fun c q hc e => by
   simp only [yJ, jYb, or_false, not_or] at hc
   exact a4 c q hc.1 hc.2 e
  have I1 : Inv X pins σ (upd H s.heap.objs.size (.tup [.int (i : Nat), x])) { s with heap := h' } := I.tupNew (ch := [e, it]) (its := [.int i s.toks, v1]) (jX _) (.cons ⟨_, rfl⟩ (.cons rv1 .nil)) (by show 2 ≤ sizeLine; decide) a3 hf kk (fun c hc => by
   simp only [yJ, jYb, or_false] at hc
   rcases hc with rfl | rfl
   ·exact ⟨_, a1⟩
   ·obtain ⟨q, z, _⟩ := (Vs (P := X.prog) (w := X.w) m c a).obj _ _ a2; exact ⟨q, z⟩)
  refine wpAny_letOwnedTupleGo_enum (s := { s with heap := h', toks := s.toks + 1 }) a1 fun h2 g1 g2 => ?_
  obtain ⟨f0, f1, f2, f3, f4, f5⟩ := hf e (by simp)
  have lte : e < s.heap.objs.size := yK hE
  have I2 : Inv X pins σ (upd H s.heap.objs.size (.tup [.int (i : Nat), x])) { s with heap := h2, toks := s.toks + 1 } := I1.turned (h' := h2) (t' := s.toks + 1) (fun c q hc z => g2.extBut c q hc z) (by rw [Qj (zK lte)]; exact f0) f1 f3 f4 f5
  refine ⟨.ref s.heap.objs.size, _, I2, rfl, ⟨_, x, rfl, I.hok.fresh (jX _), rfl, fun xs' hq => by rw [I.sq_inj hq q1]; exact hx⟩, ⟨⟨_, by exact_mod_cast g1⟩, (Vs (P := X.prog) (w := X.w) m it a).keep _ _ _ a2 fun q z => g2.extBut _ _ hne.symm z⟩, fun c hc => ?_⟩
  have hlt : c ≠ s.heap.objs.size := by
   simp only [yJ, jYb, or_false] at hc
   rcases hc with rfl | rfl
   ·exact zK lte
   ·obtain ⟨q, z, _⟩ := (Vs (P := X.prog) (w := X.w) m c a).obj _ _ s1; exact zK (yK z)
  rw [Qj hlt]
  exact (hf c hc).1
 done := by
  intro X hP hw hK hc i pins s σ H E I hf st hg
  subst hP hw hK
  obtain ⟨xs, q1, hx⟩ := hg
  obtain ⟨is1, r1, p1, z1⟩ := I.sq q1
  obtain ⟨⟨old, hE⟩, s1⟩ := st
  have l1 := r1.length
  obtain ⟨f0, f1, f2, f3, f4, f5⟩ := hf it (by simp)
  exact Qck (I.ok.hd hc) (Vs m it a) hE s1 p1 (List.getElem?_eq_none_iff.mpr (by omega)) fun h' eb => ⟨rfl, I.turned (t' := s.toks) (fun b o hb z => eb b o hb z) f0 f1 f3 f4 f5⟩
 self := fun _ _ _ _ _ st h => by
  obtain ⟨⟨old, h1⟩, _⟩ := st
  exact wpAny_pyIter_enum h1 h
section
variable {X : Cx}
def iEnum (K : Fg) (m : Bool) (ta : TA) : TI := fun σ H R => ta σ H fun vs H1 => ∃ a, vs = [.ref a] ∧ (∃ xs, Sq K m H1 a xs) ∧ R (Ite K m a) H1
theorem Qmy {a : Expr} {ta : TA} {p pos tp : Pos} {es : List Expr} {kk : Nat} (m : Bool) (hg : Gl X "enumerate") (hm : X.mg "enumerate" = none) (ha : PA X [a] ta) (hs : autoParam (starEach [a] X.env = [(false, eval a X.env)]) L2.aRfl._auto_1) :
  PI X (.Tuple es kk tp) (.Call (.Name "enumerate" p) [a] [] pos) (iEnum X.K m ta) := by
 intro pins s σ H R I h
 refine Call_ (Vg I hg hm Qce (PyProof.Rows.callWith_type1 (thn (ha pos pins s σ H _ I h) fun us s1 hqP => ?_) hs rfl))
 obtain ⟨vs, H1, I1, r1, q1⟩ := hqP
 obtain ⟨l1, e, ⟨xs, q1⟩, q⟩ := q1
 subst e
 obtain ⟨u1, rfl, e1⟩ := r1.one
 cases e1
 obtain ⟨is1, r1, p1, z1⟩ := I1.sq q1
 refine callType_new F.called_enumerate (by decide) (F.typeCall_enumerate_1 _) (F.newCall_enumerate_1 _) (fun obj => F.args_object_init_2 obj _) F.entry_enumerate_new (Qfl (Qmp m l1 is1)) ⟨p1, ?_⟩
 have z2 : (s1.heap.push (Vr (itN m) l1)).objs.size = s1.heap.objs.size + 1 := jKf ..
 have g2 : ((s1.heap.push (Vr (itN m) l1)).push { cls := .type "enumerate", data := .fields #[.none, .bool false, .ref s1.heap.objs.size, rawInt 0, .none, .none] }).get? (s1.heap.push (Vr (itN m) l1)).objs.size = some { cls := .type "enumerate", data := .fields #[.none, .bool false, .ref s1.heap.objs.size, rawInt 0, .none, .none] } := yX _ rfl
 have g1 : ((s1.heap.push (Vr (itN m) l1)).push { cls := .type "enumerate", data := .fields #[.none, .bool false, .ref s1.heap.objs.size, rawInt 0, .none, .none] }).get? s1.heap.objs.size = some (Vr (itN m) l1) := jJ _ (yX _ rfl)
 rw [z2] at g2
 show _ ∧ _
 rw [z2]
 have kp : ∀ b o, s1.heap.get? b = some o → ((s1.heap.push (Vr (itN m) l1)).push { cls := .type "enumerate", data := .fields #[.none, .bool false, .ref s1.heap.objs.size, rawInt 0, .none, .none] }).get? b = some o := fun b o z => jJ _ (jJ _ z)
 generalize (s1.heap.push (Vr (itN m) l1)).push { cls := .type "enumerate", data := .fields #[.none, .bool false, .ref s1.heap.objs.size, rawInt 0, .none, .none] } = h' at g1 g2 kp
 have I2 : Inv X pins σ H1 { s1 with heap := h' } := I1.kept (t' := s1.toks) kp
 have ltl : l1 < s1.heap.objs.size := Qje p1
 refine ⟨⟨_, g2, rfl⟩, wpAny_pyIter_enum (s := { s1 with heap := h' }) g2 ⟨_, [s1.heap.objs.size + 1, s1.heap.objs.size], _, _, H1, rfl, I2, Qhc (m := m) (a := l1) (Nat.succ_ne_self _) (zK (kQe ltl)) (zK ltl), ⟨⟨_, g2⟩, Qjd m g1⟩, fun c hc => ?_, q⟩⟩
 have hle : s1.heap.objs.size ≤ c := by
  simp only [yJ, jYb, or_false] at hc
  rcases hc with rfl | rfl
  ·exact Nat.le_add_right _ _
  ·exact jX _
 exact I1.fpOk hle (I1.hok.fresh hle)
end
theorem Qjp {K : Fg} {m : Bool} {a : Addr} {xs : List V} {g : TG} {tb : TS} {D : Ends} {σ : St} {H : Hp} (Pv : Nat → St → Hp → Prop) (h0 : Pv 0 σ H) (hl : ∀ i σ H, i ≤ xs.length → Pv i σ H → Sq K m H a xs)
  (hs : ∀ i x σ H T, xs[i]? = some x → Pv i σ H → H T = none → g (.ref T) σ (upd H T (.tup [.int (i : Nat), x])) fun σ2 H2 => tb { D with nx := Pv (i + 1), ct := Pv (i + 1), bk := D.nx } σ2 H2) (hd : ∀ σ H, Pv xs.length σ H → D.nx σ H) :
  ∃ W : Nat → Nat → St → Hp → Prop, (∃ m, W 0 m σ H) ∧ ∀ i n σ H, W i n σ H →
   ((Ite K m a).stop i H ∧ D.nx σ H) ∨ ((Ite K m a).go i H ∧ ∃ N : St → Hp → Prop, (∀ σ' H', N σ' H' → ∃ m', m' < n ∧ W (i + 1) m' σ' H') ∧ ∀ x H', (Ite K m a).yld i H x H' → g x σ H' fun σ2 H2 => tb { D with nx := N, ct := N, bk := D.nx } σ2 H2) := by
 refine ⟨fun i n σ H => n = xs.length - i ∧ i ≤ xs.length ∧ Pv i σ H, ⟨_, rfl, wK _, h0⟩, ?_⟩
 rintro i n σ H ⟨rfl, hi, p⟩
 have q1 := hl i σ H hi p
 by_cases hlt : i < xs.length
 ·refine .inr ⟨⟨xs, xs[i], q1, by simp [hlt]⟩, Pv (i + 1), fun σ' H' p' => ⟨xs.length - (i + 1), by omega, rfl, hlt, p'⟩, fun x H' y => ?_⟩
  obtain ⟨T, u, rfl, hT, rfl, y1⟩ := y
  exact hs i u σ H T (y1 xs q1) p hT
 ·have e : i = xs.length := by omega
  subst e
  exact .inl ⟨⟨xs, q1, jX _⟩, hd σ H p⟩
section
variable {prog : Program} {w : World} {A : Around} {E : Value → Shared → Prop} {s : Shared}
end
section
variable {X : Cx}
end
section
variable {P : Program} {w : World} {A : Around} {E : Value → Shared → Prop} {s : Shared}
end
section
variable {P : Program} {w : World} {A : Around} {E : Value → Shared → Prop} {s : Shared} {z u o i1 i2 l1 l2 : Addr} {st1 st2 : Nat → Heap → Prop} {src1 src2 : List Value → Heap → Prop} {k1 k2 : Nat} {xs ys : List Value}
end
section
variable {X : Cx} {pins : List (Addr × Obj)} {σ : St} {H : Hp} {s : Shared} {m1 m2 : Bool} {z u o i1 i2 a b : Addr} {i : Nat} {xs ys : List V} {E : Value → Shared → Prop} {A : Around}
end
section
variable {X : Cx}
end
def Itr3 (lo c : Int) (n : Nat) : It := ⟨fun i _ => i < n, fun i H x H' => H' = H ∧ x = .int (lo + (i : Nat) * c), fun i _ => n ≤ i⟩
theorem Qdj {P : Program} {w : World} {K : Fg} {tg : Expr} (it : Addr) (lo c : Int) (n : Nat) : Turn P w K tg (Itr3 lo c n) [it] it (fun i h => IsRangeIter h it (lo + (i : Nat) * c) ((n : Int) - (i : Nat)) c) where
 mem := by simp
 obj := fun i h st b hb => by
  have e : b = it := by simpa using hb
  subst e
  exact ⟨_, st, fun v z => by
   have z' : Data.fields _ = Data.cell v := z
   cases z'⟩
 keep := fun i h h' st k => k it (by simp) _ st
 item := by
  intro X hP hw hK hc i pins s σ H E I hf st hg
  subst hP hw hK
  obtain ⟨f0, f1, f2, f3, f4, f5⟩ := hf it (by simp)
  have W := Walks.range (prog := X.prog) (w := X.w) (I.ok.hd hc) it lo c n
  refine W.item i s _ _ hg st fun v h' tk hv st' kk => ?_
  obtain ⟨t, rfl⟩ := hv
  have I1 : Inv X pins σ H { s with heap := h', toks := tk } := I.turned (fun b o hb e => kk b o (by simpa using hb) e) f0 f1 f3 f4 f5
  exact ⟨_, rfl, Qis (s := { s with heap := h', toks := tk }) (n := "range_iterator") st' rfl rfl (by decide) ⟨.int (lo + (i : Nat) * c), H, I1, ⟨t, rfl⟩, ⟨rfl, rfl⟩, st', fun b hb => (hf b hb).1⟩⟩
 done := by
  intro X hP hw hK hc i pins s σ H E I hf st hg
  subst hP hw hK
  obtain ⟨f0, f1, f2, f3, f4, f5⟩ := hf it (by simp)
  exact wpAny_pyNext_range_end (I.ok.hd hc) st (by have : n ≤ i := hg; omega) fun h' eb => ⟨rfl, I.turned (t' := s.toks) (fun b o hb e => eb b o hb e) f0 f1 f3 f4 f5⟩
 self := fun _ _ _ _ _ st h => wpAny_pyIter_rangeiter st h
section
variable {X : Cx} {tg : Expr}
end
theorem Qfm {lo c : Int} {n : Nat} {g : TG} {tb : TS} {D : Ends} {σ : St} {H : Hp} (Pv : Nat → St → Hp → Prop) (h0 : Pv 0 σ H)
  (hs : ∀ i σ H, i < n → Pv i σ H → g (.int (lo + (i : Nat) * c)) σ H fun σ2 H2 => tb { D with nx := Pv (i + 1), ct := Pv (i + 1), bk := D.nx } σ2 H2) (hd : ∀ σ H, Pv n σ H → D.nx σ H) :
  ∃ W : Nat → Nat → St → Hp → Prop, (∃ m, W 0 m σ H) ∧ ∀ i m σ H, W i m σ H →
   ((Itr3 lo c n).stop i H ∧ D.nx σ H) ∨ ((Itr3 lo c n).go i H ∧ ∃ N : St → Hp → Prop, (∀ σ' H', N σ' H' → ∃ m', m' < m ∧ W (i + 1) m' σ' H') ∧ ∀ x H', (Itr3 lo c n).yld i H x H' → g x σ H' fun σ2 H2 => tb { D with nx := N, ct := N, bk := D.nx } σ2 H2) := by
 refine ⟨fun i m σ H => m = n - i ∧ i ≤ n ∧ Pv i σ H, ⟨n, by simp, wK _, h0⟩, ?_⟩
 rintro i m σ H ⟨rfl, hi, p⟩
 by_cases hlt : i < n
 ·refine .inr ⟨hlt, Pv (i + 1), fun σ' H' p' => ⟨n - (i + 1), by omega, rfl, hlt, p'⟩, fun x H' y => ?_⟩
  obtain ⟨e, y⟩ := y
  subst e y
  exact hs i σ _ hlt p
 ·have e : i = n := by omega
  subst e
  exact .inl ⟨jX _, hd σ H p⟩
section
variable {X : Cx} {tg : Expr}
end
def gTrip (K : Fg) (i j l : Nat) : TG := gTup K 3 (Qfa (Qbm i) (Qfa (Qbm j) (Qfa (Qbm l) gNil)))
theorem Qhd {X : Cx} {K : Fg} {i j l : Nat} {x y z : Str} {px py pz pos : Pos} {k : Nat} (hK : X.K = K) (hc : X.calm = true) (hN : X.N.Nodup) (hi : X.N[i]? = some x) (hj : X.N[j]? = some y) (hl : X.N[l]? = some z) (hx : X.env.scope.names.lookup x = some .local) (hy : X.env.scope.names.lookup y = some .local) (hz : X.env.scope.names.lookup z = some .local) :
  PG X (.Tuple [.Name x px, .Name y py, .Name z pz] k pos) (gTrip K i j l) := by
 subst hK
 exact Qdz hc (Yy (Qt hN hi (.inl hx) (.inr hx)) (Yy (Qt hN hj (.inl hy) (.inr hy)) (Yy (Qt hN hl (.inl hz) (.inr hz)) Qad)))
end L2
namespace L2
open PySem PySem.Spec PyProof.Rows PySem.SeqAt
section
variable {X : Cx}
end
end L2
namespace L2
open PySem PySem.Spec PyProof.Rows PySem.SeqAt
theorem Xg {α β : Type} {R : α → β → Prop} {xs : List α} {ys : List β} (h : Paired R xs ys) : ∀ {i : Nat} {x : α}, xs[i]? = some x → ∃ y, ys[i]? = some y ∧ R x y := by
 induction h with
 | nil => intro i x e; exact nomatch e
 | cons z _ ih =>
  intro i x e
  match i with
  | 0 => cases e; exact ⟨_, rfl, z⟩
  | i + 1 => exact ih (show _ = some x from e)
theorem Qar (k : Key) : Yt (kV k) = true := by cases k <;> rfl
theorem Qhe (a b : Key) : eqV (kV a) (kV b) = true ↔ a = b := by
 cases a with
 | inl i =>
  cases b with
  | inl j => show (i == j) = true ↔ _; rw [beq_iff_eq]; exact ⟨fun z => (by rw [z]), fun z => (by cases z; rfl)⟩
  | inr y => exact ⟨fun z => (nomatch z), fun z => (nomatch z)⟩
 | inr x =>
  cases b with
  | inl j => exact ⟨fun z => (nomatch z), fun z => (nomatch z)⟩
  | inr y => show (x == y) = true ↔ _; rw [beq_iff_eq]; exact ⟨fun z => (by rw [z]), fun z => (by cases z; rfl)⟩
def Qhf (H : Hp) : List V → List (List Key) → Prop := Paired fun v r => ∃ l, v = .ref l ∧ H l = some (.lst (r.map kV))
def PlanAt (K : Fg) (H : Hp) (d : Addr) (pl : List (Str × Str × Int)) : Prop := ∃ kvs : List (Key × V), H d = some (.dK kvs) ∧ Paired (fun (p : Key × V) (q : Str × Str × Int) => p.1 = Sum.inr q.1 ∧ ∃ t, p.2 = .ref t ∧ SqT K H t [.str q.2.1, .int q.2.2]) kvs pl
section
variable {X : Cx} {pins : List (Addr × Obj)} {σ : St} {H : Hp} {s : Shared}
theorem Qhg {A : Around} {ks ls : List Key} {its its' : List Value} (r : Vals (ks.map kV) its) (r' : Vals (ls.map kV) its') :
  ∀ j (h1 : j < its.toArray.size) (h2 : j < its'.toArray.size), EqAt A s its.toArray[j] its'.toArray[j] (decide (ks[j]? = ls[j]?)) := fun j h1 h2 => by
 have l1 := r.length
 have l2 := r'.length
 rw [jZ] at l1 l2
 rw [jV] at h1 h2
 have j1 : j < ks.length := by omega
 have j2 : j < ls.length := by omega
 obtain ⟨u1, e1, ru1⟩ := r.get (i := j) (x := kV ks[j]) (by rw [yY, gE j1]; rfl)
 obtain ⟨u2, e2, ru2⟩ := r'.get (i := j) (x := kV ls[j]) (by rw [yY, gE j2]; rfl)
 have z1 : its.toArray[j] = u1 := by rw [gE (by omega)] at e1; simpa using e1
 have z2 : its'.toArray[j] = u2 := by rw [gE (by omega)] at e2; simpa using e2
 rw [z1, z2]
 have e : decide (ks[j]? = ls[j]?) = eqV (kV ks[j]) (kV ls[j]) := by
  rw [jZf, decide_eq_true_iff, Qhe, gE j1, gE j2]
  exact ⟨fun z => Option.some.inj z, fun z => congrArg some z⟩
 rw [e]
 exact Qef ru1 ru2 (Qar _) (Qar _)
theorem Qcl {A : Around} {a b : Addr} {ks ls : List Key} (hu : A.units < cLine) (I : Inv X pins σ H s) (h1 : SqL X.K H a (ks.map kV)) (h2 : SqL X.K H b (ls.map kV)) :
  ∃ c : Bool, (c = true ↔ ks = ls) ∧ EqAt A s (.ref a) (.ref b) c ∧ RcAt A s (.ref a) (.ref b) c ∧ RcNeAt A s (.ref a) (.ref b) (!c) := by
 obtain ⟨its, r, pt, _⟩ := I.list h1
 obtain ⟨its', r', pt', _⟩ := I.list h2
 have l1 := r.length
 have l2 := r'.length
 rw [jZ] at l1 l2
 have key := Qhg (A := A.in1) (s := s) r r'
 have inj : a = b → ks = ls := fun z => by
  subst z
  have := I.list_inj h1 h2
  refine Qgv (by rw [← jZ (f := kV), this, jZ]) fun i x y ex ey => ?_
  have e5 : (ks.map kV)[i]? = (ls.map kV)[i]? := by rw [this]
  rw [yY, yY, ex, ey] at e5
  have e6 : kV x = kV y := Option.some.inj e5
  exact (Qhe x y).mp (by
   rw [e6]
   exact (Qhe y y).mpr rfl)
 by_cases hsz : its.toArray.size = its'.toArray.size
 ·have hb : ((List.range its.toArray.size).all (fun j => decide (ks[j]? = ls[j]?))) = true ↔ ks = ls := by
   rw [jV, jV] at hsz
   rw [Qak, jV]
   constructor
   ·intro z1
    refine Qgv (by omega) fun i x y ex ey => ?_
    have hi := (kJ.mp ex).1
    have := kY (z1 i (by omega))
    rw [ex, ey] at this
    exact Option.some.inj this
   ·intro z
    subst z
    exact fun i _ => kZ rfl
  refine ⟨_, hb, ?_, RcAt.lists pt.isList pt'.isList hsz hu key, RcNeAt.lists pt.isList pt'.isList hsz hu key⟩
  by_cases hpq : a = b
  ·rw [hb.mpr (inj hpq)]
   subst hpq
   exact EqAt.same _
  ·exact EqAt.of_refs hpq (RcAt.lists pt.isList pt'.isList hsz hu key)
 ·have hne : (its.toArray.size != its'.toArray.size) = true := by simpa using hsz
  rw [jV, jV] at hsz
  have hb : false = true ↔ ks = ls := ⟨fun z => (nomatch z), fun z => (by subst z; omega)⟩
  refine ⟨false, hb, ?_, RcAt.lists_lengths pt.isList pt'.isList hne hu, RcNeAt.lists_lengths pt.isList pt'.isList hne hu⟩
  by_cases hpq : a = b
  ·exact absurd (hb.mpr (inj hpq)) (by decide)
  ·exact EqAt.of_refs hpq (RcAt.lists_lengths pt.isList pt'.isList hne hu)
theorem op_eqK {K : Fg} {n : Nat} (hK : X.K = K) (hu : X.A.units + n < cLine) : OpR X (compareOp .Eq) (fun x y H Q => ∃ (a b : Addr) (ks ls : List Key), x = .ref a ∧ y = .ref b ∧ SqL K H a (ks.map kV) ∧ SqL K H b (ls.map kV) ∧ ∀ c : Bool, (c = true ↔ ks = ls) → Q (.bl c) H) := by
 subst hK
 intro pins s σ H x y v u Q I rx ry h
 obtain ⟨a, b, ks, ls, rfl, rfl, h1, h2, q⟩ := h
 cases rx
 cases ry
 obtain ⟨c, hc, _, hr, _⟩ := Qcl (A := X.A) (by omega) I h1 h2
 exact hr _ _ _ _ ⟨.bl c, H, I, rfl, q c hc⟩
theorem Qlp {A : Around} {a b : Addr} {xs : List V} (hu : A.units < cLine) (I : Inv X pins σ H s) (h1 : SqL X.K H a xs) (h2 : SqL X.K H b []) : RcAt A s (.ref a) (.ref b) xs.isEmpty ∧ RcNeAt A s (.ref a) (.ref b) (!xs.isEmpty) := by
 obtain ⟨its, r, pt, _⟩ := I.list h1
 obtain ⟨its', r', pt', _⟩ := I.list h2
 have l1 := r.length
 have l2 := r'.length
 cases xs with
 | nil =>
  have e1 : its = [] := jKc l1.symm
  have e2 : its' = [] := jKc l2.symm
  subst e1 e2
  have key : ∀ j (h1 : j < ([] : List Value).toArray.size) (h2 : j < ([] : List Value).toArray.size), EqAt A.in1 s ([] : List Value).toArray[j] ([] : List Value).toArray[j] ((fun _ => true) j) := fun j h1 _ => absurd h1 (by simp)
  exact ⟨RcAt.lists pt.isList pt'.isList rfl hu key, RcNeAt.lists pt.isList pt'.isList rfl hu key⟩
 | cons x xs =>
  have hne : (its.toArray.size != its'.toArray.size) = true := by
   rw [jV, jV, ← l1, ← l2]
   simp
  exact ⟨RcAt.lists_lengths pt.isList pt'.isList hne hu, RcNeAt.lists_lengths pt.isList pt'.isList hne hu⟩
theorem Qjq {K : Fg} {n : Nat} (hK : X.K = K) (hu : X.A.units + n < cLine) : OpR X (compareOp .Eq) (fun x y H Q => ∃ (a b : Addr) (xs : List V), x = .ref a ∧ y = .ref b ∧ SqL K H a xs ∧ SqL K H b [] ∧ Q (.bl xs.isEmpty) H) := by
 subst hK
 intro pins s σ H x y v u Q I rx ry h
 obtain ⟨a, b, xs, rfl, rfl, h1, h2, q⟩ := h
 cases rx
 cases ry
 exact (Qlp (A := X.A) (by omega) I h1 h2).1 _ _ _ _ ⟨.bl _, H, I, rfl, q⟩
theorem Qas {K : Fg} {n : Nat} (hK : X.K = K) (hu : X.A.units + n < cLine) : OpR X (compareOp .NotEq) (fun x y H Q => ∃ (a b : Addr) (xs : List V), x = .ref a ∧ y = .ref b ∧ SqL K H a xs ∧ SqL K H b [] ∧ Q (.bl (!xs.isEmpty)) H) := by
 subst hK
 intro pins s σ H x y v u Q I rx ry h
 obtain ⟨a, b, xs, rfl, rfl, h1, h2, q⟩ := h
 cases rx
 cases ry
 exact (Qlp (A := X.A) (by omega) I h1 h2).2 _ _ _ _ ⟨.bl _, H, I, rfl, q⟩
theorem all_tt (n : Nat) : (List.range n).all (fun _ => true) = true := by simp
theorem Qhh {A : Around} {a b : Addr} {us vs : List V} {bk : List (List Key)} (hu : A.units + 1 < cLine) (I : Inv X pins σ H s) (h1 : SqL X.K H a us) (h2 : SqL X.K H b vs) (r1 : Qhf H us bk) (r2 : Qhf H vs bk) : EqAt A s (.ref a) (.ref b) true := by
 by_cases hpq : a = b
 ·subst hpq
  exact EqAt.same _
 obtain ⟨its, r, pt, _⟩ := I.list h1
 obtain ⟨its', r', pt', _⟩ := I.list h2
 have l1 := r.length
 have l2 := r'.length
 have l3 := Paired.length r1
 have l4 := Paired.length r2
 have key : ∀ j (h1 : j < its.toArray.size) (h2 : j < its'.toArray.size), EqAt A.in1 s its.toArray[j] its'.toArray[j] ((fun _ => true) j) := fun j h1 h2 => by
  rw [jV] at h1 h2
  have j1 : j < us.length := by omega
  have j2 : j < vs.length := by omega
  obtain ⟨u1, e1, ru1⟩ := r.get (gE j1)
  obtain ⟨u2, e2, ru2⟩ := r'.get (gE j2)
  obtain ⟨q1, e3, m1, f1, g1⟩ := Xg r1 (gE j1)
  obtain ⟨q2, e4, m2, f2, g2⟩ := Xg r2 (gE j2)
  have e5 : q1 = q2 := Option.some.inj (e3.symm.trans e4)
  subst e5
  rw [f1] at ru1
  rw [f2] at ru2
  cases ru1
  cases ru2
  have z1 : its.toArray[j] = .ref m1 := by rw [gE (by omega)] at e1; simpa using e1
  have z2 : its'.toArray[j] = .ref m2 := by rw [gE (by omega)] at e2; simpa using e2
  rw [z1, z2]
  obtain ⟨c, hc, he, _⟩ := Qcl (A := A.in1) (by show A.units + 1 < cLine; exact hu) I (.of g1) (.of g2)
  rw [hc.mpr rfl] at he
  exact he
 have := RcAt.lists pt.isList pt'.isList (by rw [jV, jV]; omega) (by omega) key
 rw [all_tt] at this
 exact EqAt.of_refs hpq this
theorem Qhi {κ : Type} [DecidableEq κ] : ∀ {kvs : List (κ × V)} {i : Nat} {k : κ} {v : V}, (kvs.map (·.1)).Nodup → kvs[i]? = some (k, v) → valV kvs k = some v
 | [], i, k, v, _, e => nomatch e
 | p :: r, 0, k, v, _, e => by
  cases e
  unfold valV
  rw [List.find?_cons_of_pos (by simp)]
  rfl
 | p :: r, i + 1, k, v, n, e => by
  have n' : (p.1 :: r.map (·.1)).Nodup := n
  obtain ⟨n1, n2⟩ := jXd.mp n'
  have e' : r[i]? = some (k, v) := e
  have ne : ¬ p.1 = k := fun z => n1 (by rw [z]; exact zV.mpr ⟨(k, v), yV e', rfl⟩)
  have := Qhi n2 e'
  unfold valV at this ⊢
  rw [List.find?_cons_of_neg (by simpa using ne)]
  exact this
theorem Qhj {kvs : List (Key × V)} {vs : List (Key × Value)} (h : KV kvs vs) : kvs.map (·.1) = vs.map (·.1) := by
 induction h with
 | nil => rfl
 | cons h _ ih => rw [zJ, zJ, ih, h.1]
def EqW (prog : Program) (w : World) (A : Around) (s : Shared) (y x : Value) (b : Bool) : Prop := ∀ (E : Value → Shared → Prop) (Q : Bool → Shared → Prop), Q b s → wpAny (model prog w) A (eqBool y x) Q E s
theorem Qjr {prog : Program} {w : World} {A : Around} {l b : Addr} {k : Bool} (hne : l ≠ b) (h : ∀ (E : Value → Shared → Prop) (Q : Value → Shared → Prop), Q (.bool k) s → wpAny (model prog w) A (richCompare .Eq (.ref l) (.ref b)) Q E s) : EqW prog w A s (.ref l) (.ref b) k := fun E Q hq => by
 unfold eqBool
 try with_reducible refine wpAny_holding ?_
 show wpAny _ _ (if (Value.ref l == Value.ref b) = true then _ else _) Q E s
 rw [if_neg (fun z => hne (by have := eq_of_beq z; injection this))]
 exact jQ (h _ _ (wpAny_truthy_bool hq))
open PySem.MeetsSeq PySem.MeetsSeq2 PySem.MeetsSeq3 in
open AutoSeq1 (wpAny_loadPart') in
theorem Qjs {prog : Program} {w : World} (l b : Addr) (items items2 : Array Value) (n n2 : Nat) (dd dd2 : Option Addr) (sl sl2 : Array (Option Value)) (hsz : items.size = items2.size) (k : Nat) :
  ∀ i : Nat, items.size - i = k → MeetsIn prog w (Builtin.«list.__eq__.loop» ⟨[.ref l, .ref b, rawInt i, rawInt 3], []⟩)
   (fun A R s => s.heap.get? l = some { cls := .type "list", dict := dd, data := .seq items n, slots := sl } ∧ s.heap.get? b = some { cls := .type "list", dict := dd2, data := .seq items2 n2, slots := sl2 } ∧
    (∀ j (h1 : j < items.size) (h2 : j < items2.size), EqW prog w A.in1 s items[j] items2[j] true) ∧ R (.ok (.ret (.bool false))) s) := by
 induction k with
 | zero =>
  intro i hk A R s h
  obtain ⟨hp, g, d, tk, os⟩ := s; obtain ⟨hl, hb, he, h⟩ := h
  wp_walk using wpAny_loadPart' hl, wpAny_loadPart' hb
  have hi1 : items[((i : Nat) : Int).toNat]? = none := by simp; omega
  have hi2 : items2[((i : Nat) : Int).toNat]? = none := by simp; omega
  rw [hi1, hi2]
  wp_walk using wpAny_loadPart' hl, wpAny_loadPart' hb
  show R (.ok (.ret (.bool (items.size != items2.size)))) _
  rw [hsz]
  simpa using h
 | succ k ih =>
  intro i hk A R s h
  obtain ⟨hp, g, d, tk, os⟩ := s; obtain ⟨hl, hb, he, h⟩ := h
  wp_walk using wpAny_loadPart' hl, wpAny_loadPart' hb
  have hlt : i < items.size := by omega
  have hlt2 : i < items2.size := by omega
  have hi1 : items[((i : Nat) : Int).toNat]? = some items[i] := by simp [hlt]
  have hi2 : items2[((i : Nat) : Int).toNat]? = some items2[i] := by simp [hlt2]
  have hc : ((i : Int) + 1) = ((i + 1 : Nat) : Int) := by push_cast; rfl
  rw [hi1, hi2]
  refine jQ (he i hlt hlt2 _ _ ?_)
  wp_walk
  rw [hc]
  exact ⟨jKa plain_eq_loop _, codeAny_builtin entry_eq_loop (by
   rw [Around.under_plainId plain_eq_loop _]
   exact ih (i + 1) (by omega) A R _ ⟨hl, hb, he, h⟩)⟩
open PySem.MeetsSeq PySem.MeetsSeq2 PySem.MeetsSeq3 in
open AutoSeq1 (wpAny_loadPart') in
theorem Qjt {prog : Program} {w : World} (l b : Addr) (items items2 : Array Value) (n n2 : Nat) (dd dd2 : Option Addr) (sl sl2 : Array (Option Value)) (hsz : items.size = items2.size) :
  MeetsIn prog w (Builtin.«list.__ne__» ⟨[.ref l, .ref b], []⟩)
   (fun A R s => s.heap.get? l = some { cls := .type "list", dict := dd, data := .seq items n, slots := sl } ∧ s.heap.get? b = some { cls := .type "list", dict := dd2, data := .seq items2 n2, slots := sl2 } ∧
    (∀ j (h1 : j < items.size) (h2 : j < items2.size), EqW prog w A.in1 s items[j] items2[j] true) ∧ R (.ok (.ret (.bool false))) s) := by
 intro A R s h
 obtain ⟨hp, g, d, tk, os⟩ := s; obtain ⟨hl, hb, he, h⟩ := h
 have f3 := AutoSeq1.sub_list_list
 have hne : ¬ (items.size != items2.size) = true := by simp [hsz]
 wp_walk using wpAny_loadPart' hl, wpAny_loadPart' hb
 exact ⟨jKa plain_eq_loop _, codeAny_builtin entry_eq_loop (by
  rw [Around.under_plainId plain_eq_loop _]
  exact Qjs l b items items2 n n2 dd dd2 sl sl2 hsz _ 0 rfl A R _ ⟨hl, hb, he, h⟩)⟩
end
def Qhk (K : Fg) (H : Hp) : List V → List (List Key × V) → Prop := Paired fun v p => ∃ t b, v = .ref t ∧ SqT K H t [.ref b, p.2] ∧ H b = some (.tup (p.1.map kV))
def Xl (ps : List (List Key × V)) : List (List Key × V) := ps.foldl (fun d p => putK d p.1 p.2) []
theorem Ja {ps : List (List Key × V)} {i : Nat} {p : List Key × V} (h : ps[i]? = some p) : Xl (ps.take (i + 1)) = putK (Xl (ps.take i)) p.1 p.2 := by
 unfold Xl
 rw [List.take_add_one, h, List.foldl_append]
 rfl
theorem Qdk (ps : List (List Key × V)) : (Xl ps).length ≤ ps.length := by
 have key : ∀ (l : List (List Key × V)) (acc : List (List Key × V)), (l.foldl (fun d p => putK d p.1 p.2) acc).length ≤ acc.length + l.length := by
  intro l
  induction l with
  | nil => intro acc; exact jX _
  | cons p t ih =>
   intro acc
   have h1 := ih (putK acc p.1 p.2)
   have h2 := Yv acc p.1 p.2
   rw [kYb, yW]
   omega
 have := key ps []
 rwa [List.length_nil, Nat.zero_add] at this
section
variable {X : Cx}
theorem Qhl {pins : List (Addr × Obj)} {σ : St} {H : Hp} {d it l : Addr} {vs : List V} {ps : List (List Key × V)} {A : Around} {R : Result → Shared → Prop} (hh : A.handled = none) (hu : A.units + 1 < cLine) (hd : H d = none) (hl : SqL X.K H l vs) (hp : Qhk X.K H vs ps) (hz : ps.length < sizeLine)
  (hR : ∀ s', Inv X pins σ (upd H d (.dT (Xl ps))) s' → R (.ok (.ret .none)) s') :
  ∀ (k i : Nat) (s : Shared), ps.length - i = k → i ≤ ps.length → Inv X pins σ (upd H d (.dT (Xl (ps.take i)))) s → s.heap.IsListIter it l i → FpOk X pins (upd H d (.dT (Xl (ps.take i)))) it →
   codeAny (model X.prog X.w) A (.builtin "dict.update.loop" ⟨[.ref d, .ref it, rawInt i, .none], []⟩) R s := by
 intro k
 induction k with
 | zero =>
  intro i s hk hi I st f
  have ei : i = ps.length := by omega
  subst ei
  rw [kX] at I f
  have sm : Same H (upd H d (.dT (Xl ps))) := Qc hd _
  obtain ⟨its, r, p, _⟩ := I.list (sm.seq hl)
  have lv := Paired.length hp
  have lr := r.length
  refine codeAny_builtin Ke ?_
  rw [Around.under_plainId Zb _]
  show wpAny _ A.in1 (pyNext (.ref it) >>= _) _ _ s
  refine jQ (wpAny_pyNext_list_end (A := A.in1) hh st p.isList (by simp; omega) fun h' eb => ?_)
  refine jQ (jW (jW ?_))
  exact hR _ (I.turned (t' := s.toks) (fun b o hb e => eb b o hb e) f.1 f.2.1 f.2.2.2.1 f.2.2.2.2.1 f.2.2.2.2.2)
 | succ k ih =>
  intro i s hk hi I st f
  have sm : Same H (upd H d (.dT (Xl (ps.take i)))) := Qc hd _
  obtain ⟨its, r, p, _⟩ := I.list (sm.seq hl)
  have lv := Paired.length hp
  have hlt : i < vs.length := by omega
  obtain ⟨pr, ep, t, b, ev, hT, hb⟩ := Xg hp (gE hlt)
  obtain ⟨u, hu', ru⟩ := r.get (gE hlt)
  rw [ev] at ru
  cases ru
  refine codeAny_builtin Ke ?_
  rw [Around.under_plainId Zb _]
  show wpAny _ A.in1 (pyNext (.ref it) >>= _) _ _ s
  refine jQ (wpAny_pyNext_list_item st p.isList (x := .ref t) (by simpa using hu') fun h' st' sb => ?_)
  have I1 : Inv X pins σ (upd H d (.dT (Xl (ps.take i)))) { s with heap := h' } := I.turned (t' := s.toks) (fun b o hb e => (sb.2 b hb).trans e) f.1 f.2.1 f.2.2.2.1 f.2.2.2.2.1 f.2.2.2.2.2
  obtain ⟨its2, r2, ⟨ot, gt, ct, nt, dt⟩, _⟩ := I1.tuple (sm.tup hT)
  obtain ⟨u1, u2, rfl, ru1, ru2⟩ := r2.two
  cases ru1
  refine jQ (wpAny_holding ?_)
  refine jQ (wpAny_tryCatch ?_)
  unfold Builtin.Dict.pairItems
  refine jQ (wpAny_typeOf (T := "tuple") ⟨ot, gt, ct⟩ ?_)
  rw [if_pos (by simp)]
  refine jQ (wpAny_seqItems gt dt (jW ?_))
  show wpAny _ _ (holding [Value.ref b, u2] (dictSet d (Value.ref b) u2)) _ _ _
  obtain ⟨z, hdS, xs, rel, dd⟩ := Qmt I1.hok (Qb (H := H) (a := d) (o := .dT (Xl (ps.take i))))
  have l1 := Qdk (ps.take i)
  rw [xZ] at l1
  have hz2 : xs.length ≤ sizeLine := by rw [← Paired.length rel]; exact z
  have eb := sm _ _ hb
  refine wpAny_holding (wpAny_dictSet_heap (hsz := hz2) (knd := tupleKind (Xi X.prog X.w)) (k := pr.1) (by first | exact hu | exact jQb hu | (show A.units + 1 < cLine; exact hu)) (Kt I1.hok eb) dd fun h2 dd' hs2 => ?_)
  obtain ⟨q, es, ep5, hq, q2, q3, q4, _, q5⟩ := dd'
  have l2 := Yv (Xl (ps.take i)) pr.1 pr.2
  have I2 : Inv X pins σ (upd (upd H d (.dT (Xl (ps.take i)))) d (.dT (putK (Xl (ps.take i)) pr.1 pr.2))) { s with heap := h2, toks := s.toks + (tupleKind (Xi X.prog X.w)).draws pr.1 } :=
   Jo (s := { s with heap := h' }) I1 (by rw [Qb]; exact True.intro) hs2 ⟨q, hq⟩ ⟨by omega, hdS, _, (rel.put pr.1 eb ru2).keeps fun c ys ec => (by
    rw [Qj (Yl ec (Qb (H := H) (a := d) (o := .dT (Xl (ps.take i)))) (fun z => nomatch z))]
    exact ec), q, es, ep5, hq, q2, q3, q4, q5⟩
  rw [Qda, ← Ja ep] at I2
  have nit : it ≠ d := fun e => by have := f.1; rw [e, Qb] at this; cases this
  refine jW ⟨jKa Zb _, ?_⟩
  have ei : rawInt ((i : Int) + 1) = rawInt ((i + 1 : Nat) : Int) := by push_cast; rfl
  rw [ei]
  refine ih (i + 1) _ (by omega) (by omega) I2 (st'.at fun o e => hs2.extBut _ _ nit e) ⟨?_, f.2⟩
  have := f.1
  rw [Qj nit] at this ⊢
  exact this
theorem Qat {n : Nat} (hn : 2 ≤ n) (hu : X.A.units + n < cLine) (hc : X.calm = true) : Zq X (.type "dict") (fun xs H Q => ∃ (l : Addr) (vs : List V) (ps : List (List Key × V)), xs = [.ref l] ∧ SqL X.K H l vs ∧ Qhk X.K H vs ps ∧ ps.length < sizeLine ∧ ∀ d, H d = none → Q (.ref d) (upd H d (.dT (Xl ps)))) := by
 intro pins s σ H xs us Q I rv h
 obtain ⟨l, vs, ps, rfl, hl, hp, hz, q⟩ := h
 obtain ⟨u, rfl, ru⟩ := rv.one
 cases ru
 refine callType_codes (Q₁ := fun obj s1 => obj = .ref s.heap.objs.size ∧ s1 = { s with heap := s.heap.push { cls := .type "dict", data := .dict #[] } }) F.kt_called_dict (F.kt_typeCall_dict_1 _) F.entry_dict_init (kt_code_dict_new _ ⟨rfl, rfl⟩) ?_
 rintro obj s1 ⟨rfl, rfl⟩
 have hd : H s.heap.objs.size = none := I.hok.fresh (jX _)
 have I1 : Inv X pins σ (upd H s.heap.objs.size (.dT [])) { s with heap := s.heap.push { cls := .type "dict", data := .dict #[] } } := I.laid (t' := s.toks) (fun _ _ q => jJ _ q) (jX _) (Qjl s.heap I.big)
 have sm : Same H (upd H s.heap.objs.size (.dT [])) := Qc hd _
 obtain ⟨z, hdS, kv, rel, dd⟩ := Qmt I1.hok (Qb (H := H) (a := s.heap.objs.size) (o := .dT []))
 refine ⟨dd.typeIs, F.args_dict_init_2 _ _, ?_⟩
 unfold Builtin.«dict.__init__»
 refine jQ ?_
 unfold Builtin.Dict.selfAndRest
 refine jQ (wpAny_notOrdered_dict dd.typeIs ?_)
 show wpAny _ _ (pure (s.heap.objs.size, [Value.ref l])) _ _ _
 refine jW ?_
 show wpAny _ _ (Builtin.Dict.updateFrom "dict.__init__" s.heap.objs.size (.ref l) [] .none) _ _ _
 unfold Builtin.Dict.updateFrom
 obtain ⟨its, r, ⟨o, n5, e, c, dn, sl⟩, _⟩ := I1.list (sm.seq hl)
 obtain ⟨cls, dct, dat, sls⟩ := o
 simp only at c dn sl
 subst c dn sl
 refine jQ (wpAny_typeOf (T := "list") ⟨_, e, rfl⟩ ?_)
 rw [if_pos (by decide)]
 refine jQ (Kd (s := { s with heap := s.heap.push { cls := .type "dict", data := .dict #[] } }) e (by exact I.ok.hd hc) fun h2 tk2 hk2 => ?_)
 have I2 : Inv X pins σ (upd H s.heap.objs.size (.dT [])) { s with heap := h2, toks := tk2 } := I1.kept hk2
 rw [if_pos (by rfl)]
 refine jQ (wpAny_rule (jQ ?_))
 obtain ⟨its2, r2, p2, _⟩ := I2.list (sm.seq hl)
 refine wpAny_pyIter_list (s := { s with heap := h2, toks := tk2 }) p2.isList ?_
 refine jW ⟨jKa Zb _, ?_⟩
 have I3 : Inv X pins σ (upd H s.heap.objs.size (.dT [])) { s with heap := h2.push { cls := .type "list_iterator", data := .fields #[.ref l, .int 0 0] }, toks := tk2 } := I2.kept (t' := tk2) fun b o e => jJ _ e
 have hfr := I2.hok.fresh (a := h2.objs.size) (jX _)
 refine Qhl (X := X) (pins := pins) (σ := σ) (H := H) (vs := vs) (ps := ps) (A := X.A.in1) (by exact I.ok.hd hc) (by show X.A.units + 1 + 1 < cLine; omega) hd hl hp hz (fun s' I' => ⟨rfl, .ref s.heap.objs.size, _, I', rfl, q _ hd⟩) ps.length 0 _ (by omega) (wK _) I3 ⟨_, yX _ rfl, rfl, rfl⟩ (I2.fpOk (jX _) hfr)
theorem Wv : Zq X (.type "dict") (fun xs H Q => ∃ (a : Addr) (kvs : List (Key × V)), xs = [.ref a] ∧ H a = some (.dK kvs) ∧ kvs.length < sizeLine ∧ ∀ d, H d = none → Q (.ref d) (upd H d (.dK kvs))) := by
 intro pins s σ H xs us Q I rv h
 obtain ⟨a, kvs, rfl, ha, hz, q⟩ := h
 obtain ⟨u, rfl, ru⟩ := rv.one
 cases ru
 refine callType_codes (Q₁ := fun obj s1 => obj = .ref s.heap.objs.size ∧ s1 = { s with heap := s.heap.push { cls := .type "dict", data := .dict #[] } }) F.kt_called_dict (F.kt_typeCall_dict_1 _) F.entry_dict_init (kt_code_dict_new _ ⟨rfl, rfl⟩) ?_
 rintro obj s1 ⟨rfl, rfl⟩
 have hd : H s.heap.objs.size = none := I.hok.fresh (jX _)
 have I1 : Inv X pins σ (upd H s.heap.objs.size (.dK [])) { s with heap := s.heap.push { cls := .type "dict", data := .dict #[] } } := I.laid (t' := s.toks) (fun _ _ q => jJ _ q) (jX _) (Qap s.heap I.big)
 have na : s.heap.objs.size ≠ a := fun z => by rw [z, ha] at hd; cases hd
 obtain ⟨z, hdS, kv, rel, dd⟩ := Vv I1.hok (Qb (H := H) (a := s.heap.objs.size) (o := .dK []))
 cases rel
 obtain ⟨z2, hdA, kv2, rel2, dd2⟩ := Vv I1.hok (Qc hd (.dK []) a _ ha)
 refine ⟨dd.typeIs, F.args_dict_init_2 _ _, ?_⟩
 unfold Builtin.«dict.__init__»
 refine jQ ?_
 unfold Builtin.Dict.selfAndRest
 refine jQ (wpAny_notOrdered_dict dd.typeIs ?_)
 show wpAny _ _ (pure (s.heap.objs.size, [Value.ref a])) _ _ _
 refine jW ?_
 show wpAny _ _ (Builtin.Dict.updateFrom "dict.__init__" s.heap.objs.size (.ref a) [] .none) _ _ _
 unfold Builtin.Dict.updateFrom
 refine jQ (wpAny_typeOf dd2.typeIs ?_)
 rw [if_neg (by decide)]
 refine jQ ?_
 unfold Builtin.Dict.merge
 refine jQ ?_
 unfold Builtin.Dict.readDirectly
 refine jQ (wpAny_isInstance dd2.typeIs PySem.F.sub_dict_dict ?_)
 simp only [Bool.not_true, jZd, if_false]
 refine jQ (wpAny_specialOf dd2.typeIs F.slot_dict_iter.lookup (jW ?_))
 simp only [beq_self_eq_true, if_true]
 refine jQ (jW ?_)
 have lz := rel2.length
 refine wpAny_mergeDict (hsz := by rw [List.length_nil]; omega) na hdA dd dd2 fun h' hd' ho' hs' => ?_
 show wpAny _ _ (Builtin.Dict.addKeywords s.heap.objs.size [] >>= _) _ _ _
 have nd : (kv2.map (·.1)).Nodup := by
  obtain ⟨_, _, _, _, _, _, _, _, n⟩ := id dd2
  exact n
 rw [merged_nil_of_nodup _ nd] at hd'
 have I2 : Inv X pins σ (upd (upd H s.heap.objs.size (.dK [])) s.heap.objs.size (.dK kvs)) { s with heap := h' } :=
  Jo (s := { s with heap := s.heap.push { cls := .type "dict", data := .dict #[] } }) (t' := s.toks) I1 (by rw [Qb]; exact True.intro) hs' (let ⟨q, _, _, hq, _⟩ := hd'; ⟨q, hq⟩) (Qek (by omega) hdS rel2 hd')
 rw [Qda] at I2
 exact jQ (jW (jW ⟨rfl, .ref s.heap.objs.size, _, I2, rfl, q _ hd⟩))
end
end L2
namespace L2
open PySem PySem.Spec PyProof.Rows PySem.W
inductive IsT : String → Prop
 | int : IsT "int"
 | bool : IsT "bool"
 | tuple : IsT "tuple"
 | list : IsT "list"
 | str : IsT "str"
def isiW (K : Fg) (H : Hp) : V → String → Bool → Prop
 | .non, _, b => b = false
 | .int _, T, b => b = decide (T = "int")
 | .bl _, T, b => b = decide (T = "int" ∨ T = "bool")
 | .str _, T, b => b = decide (T = "str")
 | .ref a, T, b => ((∃ xs, SqT K H a xs) ∧ b = decide (T = "tuple")) ∨ ((∃ xs, SqL K H a xs) ∧ b = decide (T = "list"))
 | _, _, _ => False
theorem Zl {X : Cx} : Zq X (.builtin "isinstance") (fun xs H Q => ∃ x T b, xs = [x, .ty T] ∧ IsT T ∧ isiW X.K H x T b ∧ Q (.bl b) H) := by
 intro pins s σ H xs us Q I rv h
 obtain ⟨x, T, b, rfl, hT, hi, q⟩ := h
 obtain ⟨u, v, rfl, ru, rT⟩ := rv.two
 cases rT
 have fin : ∀ (tk : Nat), EP X pins σ Q (.bool b) { s with toks := tk } := fun tk => ⟨.bl b, H, I.tok tk, rfl, q⟩
 cases x with
 | int n =>
  obtain ⟨t, rfl⟩ := ru
  cases hT <;> (subst hi)
  ·exact IsiPair.int_int (fin s.toks)
  ·exact IsiPair.int_bool (fin _)
  ·exact IsiPair.int_tuple (fin _)
  ·exact IsiPair.int_list (fin _)
  ·exact IsiPair.int_str (fin _)
 | bl n =>
  cases ru
  cases hT <;> (subst hi)
  ·exact IsiPair.bool_int (fin s.toks)
  ·exact IsiPair.bool_bool (fin s.toks)
  ·exact IsiPair.bool_tuple (fin _)
  ·exact IsiPair.bool_list (fin _)
  ·exact IsiPair.bool_str (fin _)
 | str n =>
  obtain ⟨t, rfl⟩ := ru
  cases hT <;> (subst hi)
  ·exact IsiPair.str_int (fin _)
  ·exact IsiPair.str_bool (fin _)
  ·exact IsiPair.str_tuple (fin _)
  ·exact IsiPair.str_list (fin _)
  ·exact IsiPair.str_str (fin s.toks)
 | non =>
  cases ru
  cases hT <;> (subst hi)
  ·exact IsiPair.NoneType_int (fin _)
  ·exact IsiPair.NoneType_bool (fin _)
  ·exact IsiPair.NoneType_tuple (fin _)
  ·exact IsiPair.NoneType_list (fin _)
  ·exact IsiPair.NoneType_str (fin _)
 | ref a =>
  cases ru
  rcases hi with ⟨⟨xs, hq⟩, hi⟩ | ⟨⟨xs, hq⟩, hi⟩
  ·obtain ⟨its, r, ⟨o, e, c, _⟩, _⟩ := I.tuple hq
   cases hT <;> (subst hi)
   ·exact IsiPair.tuple_int e c (fin _)
   ·exact IsiPair.tuple_bool e c (fin _)
   ·exact IsiPair.tuple_tuple e c (fin s.toks)
   ·exact IsiPair.tuple_list e c (fin _)
   ·exact IsiPair.tuple_str e c (fin _)
  ·obtain ⟨its, r, pl, _⟩ := I.list hq
   obtain ⟨o, e, c, _⟩ := pl.isList
   cases hT <;> (subst hi)
   ·exact IsiPair.list_int e c (fin _)
   ·exact IsiPair.list_bool e c (fin _)
   ·exact IsiPair.list_tuple e c (fin _)
   ·exact IsiPair.list_list e c (fin s.toks)
   ·exact IsiPair.list_str e c (fin _)
 | byt _ => exact hi.elim
 | flt _ => exact hi.elim
 | ty _ => exact hi.elim
open Att in
section
variable {prog : Program} {w : World} {A : Around} {R : Result → Shared → Prop} {I : Addr} {fp wr : List Addr} {n : Nat} {P : Nat → Value → Prop} {St : Nat → Heap → Prop}
end
section
variable {prog : Program} {w : World} {A : Around} {E : Value → Shared → Prop} {s : Shared} {l : Addr} {xs : Array (Int × Tok)}
end
section
variable {X : Cx}
end
end L2
namespace L2
open PySem PySem.Spec PySem.Calls PyProof.Rows PySem.W
section
variable {P : Program} {w : World} {K : Fg} {mg : Str → Option Value} {base : Heap} {N : List Str} {qual : Str} {scope : Scope} {f : Addr} {cd : Value} {A : Around} {outer : List Env} {s₀ : Shared} {H₀ : Hp} {E : XK} {C : Addr}
 {pins : List (Addr × Obj)} {σ : St} {H : Hp} {s : Shared}
end
end L2
namespace L2
open PySem PySem.Spec PySem.Calls PyProof.Rows PySem.W
section
variable {X : Cx} {pins : List (Addr × Obj)} {σ : St} {H H' : Hp} {s : Shared} {e : Addr}
end
section
variable {X : Cx} {k : Nat} {f C D : Addr} {fd : FuncData} {ps : List Str} {sp : Sp} {g x n c : Str} {p np pc pn cpos epos hpos apos pos : Pos} {a : Expr} {es : List Expr} {t : TA} {i j : Nat}
end
end L2
namespace L2
open PySem PySem.Spec PySem.Calls PyProof.Rows PySem.W
section
variable {prog : Program} {w : World} {A : Around} {E : Value → Shared → Prop} {h : Heap} {g : Array GenState} {d : Drawn} {t : Nat} {os : OsState} {a C : Addr} {o : Obj} {K : Frag}
open Builtin Builtin.ObjectAttr Builtin.Getset_descriptor in
end
end L2
namespace L2
open PySem PySem.Spec PySem.Calls PyProof.Rows PySem.W
section
variable {X : Cx}
end
def Big (i : Int) : Prop := i.natAbs < 2 ^ 4000
section
variable {X : Cx}
theorem Qju : OpR X (binaryOp .FloorDiv) (rI (fun _ j => j ≠ 0 ∧ Big j) fun i j => .int (i.fdiv j)) := opI fun i j _ _ _ _ _ hc q => floordiv_int hc.1 q (.inl (PyProof.noPylong_of_log2 (zY ((Nat.log2_lt (by have := hc.1; omega)).mpr hc.2) (by decide))))
end
section
variable {P : Program} {w : World} {K : Fg} {mg : Str → Option Value} {base : Heap} {N : List Str} {qual : Str} {scope : Scope} {f : Addr} {cd : Value} {A : Around} {outer : List Env} {s₀ : Shared} {H₀ : Hp} {E : XK} {C : Addr}
end
end L2
namespace L2
open PySem PySem.Spec PySem.Calls PyProof.Rows PySem.W
section
variable {X : Cx}
end
def rCatG (K : Fg) : R2 := fun x y H Q => ∃ a b xs ys, x = .ref a ∧ y = .ref b ∧ SqT K H a xs ∧ SqT K H b ys ∧ ys ≠ [] ∧ xs.length + ys.length ≤ sizeLine ∧ ∀ (p : Addr) (H' : Hp), Same H H' → SqT K H' p (xs ++ ys) → Q (.ref p) H'
theorem Qmz {X : Cx} : OpR X (binaryOp .Add) (rCatG X.K) := by
 intro pins s σ H x y v u Q I rx ry h
 obtain ⟨a, b, xs, ys, rfl, rfl, ha, hb, hy, hz, q⟩ := h
 by_cases hx : xs = []
 ·subst hx
  cases rx
  cases ry
  obtain ⟨its, r1, p1, _⟩ := I.tuple ha
  obtain ⟨its2, r2, p2, _⟩ := I.tuple hb
  have e0 : its = [] := r1.nil_iff.mpr rfl
  subst e0
  obtain ⟨⟨c1, d1, da1, sl1⟩, ho, hc, n, hd⟩ := id p1
  obtain ⟨⟨c2, d2, da2, sl2⟩, ho2, hc2, n2, hd2⟩ := id p2
  simp only at hc hd hc2 hd2
  subst hc hd hc2 hd2
  exact concat_meets ⟨_, ho, rfl⟩ ⟨_, ho2, rfl⟩ noFill_tuple_add seq_tuple_add PySem.F.slot_tuple_add PySem.F.entry_tuple_add (PySem.F.args_tuple_add_2 _ _) (tuple_addW0 a b ([] : List Value).toArray its2.toArray n n2 d1 d2 sl1 sl2 (by simp)) ⟨ho, ho2, ⟨.ref b, H, I, rfl, q b H (Same.refl H) hb⟩⟩
 ·exact Qah pins s σ H (.ref a) (.ref b) v u Q I rx ry ⟨a, b, xs, ys, rfl, rfl, ha, hb, hx, hz, fun z => absurd z hy, fun _ p hp => q p _ (Qc hp _) (Xb Qb)⟩
theorem Qjv {X : Cx} {K : Fg} (hK : X.K = K) : OpR X (binaryOp .Add) (rCatG K) := by subst hK; exact Qmz
end L2
namespace L2
open PySem PySem.W PyProof.Rows
section
variable {r : Nat → Int} {n : Nat}
end
end L2
namespace L2
open PySem PySem.Spec PySem.W PyProof.Rows
open PySem.SeqAt
section
variable {prog : Program} {w : World} {A : Around} {E : Value → Shared → Prop} {s : Shared}
end
section
variable {prog : Program} {w : World} {A : Around} {E : Value → Shared → Prop} {s : Shared}
end
end L2
namespace L2
open PySem PySem.Spec PySem.W PyProof.Rows
open PySem.SeqAt
section
variable {prog : Program} {w : World} {A : Around} {E : Value → Shared → Prop} {s : Shared}
end
section
variable {X : Cx}
end
end L2
namespace L2
open PySem PySem.Spec PyProof.Rows PySem.W
structure Tab (w : World) (K : Frag) (mg : Str → Option Value) (x : Str) (a : Addr) (f : Str → Option Value) : Prop where
 bound : mg x = some (.ref a)
 map : ∀ (P : Program) (h : Heap), K.In h → h.MapOf (strKind P w) a f
 low : (a == sysModules) = false
theorem tab_mk {w : World} {K : Frag} {mg : Str → Option Value} {x : Str} {a : Addr} {es : Array DictEntry} {n : Nat} (hb : mg x = some (.ref a)) (hl : K.lookup a = some ⟨.type "dict", none, .dict es n, #[]⟩) (hk : KeysLit w.params es.toList) (lo : (a == sysModules) = false) :
  Tab w K mg x a (fun k => findBy Value.isStrOf es k) := ⟨hb, fun P h X => mapOf_K (prog := P) X hl hk, lo⟩
def rTab (a : Addr) (f : Str → Option Value) : R2 := fun x y H Q => ∃ s v z, x = .ref a ∧ y = .str s ∧ f s = some v ∧ RelV z v ∧ Q z H
section
variable {X : Cx}
theorem ix_tab {x : Str} {a : Addr} {f : Str → Option Value} (T : Tab X.w X.K X.mg x a f) : IxR X (rTab a f) := by
 intro value slice pins s σ H x y v u Q I rx ry h hs
 obtain ⟨z, w', r, rfl, rfl, hf, rv, q⟩ := h
 cases rx
 obtain ⟨t, rfl⟩ := ry
 have hm := T.map X.prog _ I.kIn
 exact tail_any hm.typeIs slot_dict_getitem.lookup (wpAny_getItem_of (strKind_is X.prog X.w z t) hm hf ⟨r, H, I.tok _, rv, q⟩) hs
end
theorem Qlq : bootBuiltins "str" = some (.type "str") := by decide +kernel
end L2
namespace L2
open PySem PySem.Spec PySem.W PyProof.Rows
open PySem.SeqAt
section
variable {A : Around} {s : Shared}
end
section
variable {X : Cx}
open Classical in
open Classical in
end
end L2
namespace L2
open PySem PySem.Spec PySem.W PyProof.Rows
open PySem.SeqAt
section
variable {X : Cx}
open Classical in
end
end L2
namespace HT
open PySem PySem.Spec PyProof.Rows
section
variable {prog : Program} {w : World} {A : Around} {E : Value → Shared → Prop} {s : Shared}
end
end HT
namespace L2
open PySem PySem.Spec PySem.W PyProof.Rows
open PySem.SeqAt
section
variable {X : Cx}
end
end L2
namespace L2
open PySem
section
variable {X : Cx}
end
section
variable {X : Cx}
theorem lenS {α : Type} {l : List α} {n : Nat} (h : l.length = n + 1) : ∃ a t, l = a :: t ∧ t.length = n := by
 cases l with
 | nil => exact absurd h (Nat.succ_ne_zero n).symm
 | cons a t => exact ⟨a, t, rfl, Nat.succ.inj h⟩
theorem len1 {α : Type} {l : List α} (h : l.length = 1) : ∃ a, l = [a] := by
 obtain ⟨a, t, rfl, h'⟩ := lenS h
 exact ⟨a, congrArg _ (List.length_eq_zero_iff.mp h')⟩
theorem len2 {α : Type} {l : List α} (h : l.length = 2) : ∃ a b, l = [a, b] := by
 obtain ⟨a, t, rfl, h'⟩ := lenS h
 obtain ⟨b, rfl⟩ := len1 h'
 exact ⟨a, b, rfl⟩
theorem len3 {α : Type} {l : List α} (h : l.length = 3) : ∃ a b c, l = [a, b, c] := by
 obtain ⟨a, t, rfl, h'⟩ := lenS h
 obtain ⟨b, c, rfl⟩ := len2 h'
 exact ⟨a, b, c, rfl⟩
theorem len4 {α : Type} {l : List α} (h : l.length = 4) : ∃ a b c d, l = [a, b, c, d] := by
 obtain ⟨a, t, rfl, h'⟩ := lenS h
 obtain ⟨b, c, d, rfl⟩ := len3 h'
 exact ⟨a, b, c, d, rfl⟩
theorem len5 {α : Type} {l : List α} (h : l.length = 5) : ∃ a b c d e, l = [a, b, c, d, e] := by
 obtain ⟨a, t, rfl, h'⟩ := lenS h
 obtain ⟨b, c, d, e, rfl⟩ := len4 h'
 exact ⟨a, b, c, d, e, rfl⟩
theorem bind1 {F : List Value → Prop} (h : ∀ a, F [a]) : ∀ us : List Value, us.length = 1 → F us := fun us hl => by
 obtain ⟨a, rfl⟩ := len1 hl
 exact h a
theorem Kx {F : List Value → Prop} (h : ∀ a b, F [a, b]) : ∀ us : List Value, us.length = 2 → F us := fun us hl => by
 obtain ⟨a, b, rfl⟩ := len2 hl
 exact h a b
theorem Qfn {F : List Value → Prop} (h : ∀ a b c, F [a, b, c]) : ∀ us : List Value, us.length = 3 → F us := fun us hl => by
 obtain ⟨a, b, c, rfl⟩ := len3 hl
 exact h a b c
theorem bind5 {F : List Value → Prop} (h : ∀ a b c d e, F [a, b, c, d, e]) : ∀ us : List Value, us.length = 5 → F us := fun us hl => by
 obtain ⟨a, b, c, d, e, rfl⟩ := len5 hl
 exact h a b c d e
theorem Qjw {s1 s2 s3 : TS} {D : Ends} {σ : St} {H : Hp} (h : let r3 : TS := s3; let r2 : TS := tSeq s2 r3; tSeq s1 r2 D σ H) : (tSeq s1 (tSeq s2 (s3))) D σ H := h
theorem Kf {s1 s2 s3 s4 : TS} {D : Ends} {σ : St} {H : Hp} (h : let r4 : TS := s4; let r3 : TS := tSeq s3 r4; let r2 : TS := tSeq s2 r3; tSeq s1 r2 D σ H) : (tSeq s1 (tSeq s2 (tSeq s3 (s4)))) D σ H := h
theorem Qau {s1 s2 s3 s4 s5 : TS} {D : Ends} {σ : St} {H : Hp} (h : let r5 : TS := s5; let r4 : TS := tSeq s4 r5; let r3 : TS := tSeq s3 r4; let r2 : TS := tSeq s2 r3; tSeq s1 r2 D σ H) : (tSeq s1 (tSeq s2 (tSeq s3 (tSeq s4 (s5))))) D σ H := h
theorem Qjx {s1 s2 s3 s4 s5 s6 : TS} {D : Ends} {σ : St} {H : Hp} (h : let r6 : TS := s6; let r5 : TS := tSeq s5 r6; let r4 : TS := tSeq s4 r5; let r3 : TS := tSeq s3 r4; let r2 : TS := tSeq s2 r3; tSeq s1 r2 D σ H) : (tSeq s1 (tSeq s2 (tSeq s3 (tSeq s4 (tSeq s5 (s6)))))) D σ H := h
theorem Qjy {s1 s2 s3 s4 s5 s6 s7 : TS} {D : Ends} {σ : St} {H : Hp} (h : let r7 : TS := s7; let r6 : TS := tSeq s6 r7; let r5 : TS := tSeq s5 r6; let r4 : TS := tSeq s4 r5; let r3 : TS := tSeq s3 r4; let r2 : TS := tSeq s2 r3; tSeq s1 r2 D σ H) : (tSeq s1 (tSeq s2 (tSeq s3 (tSeq s4 (tSeq s5 (tSeq s6 (s7))))))) D σ H := h
end
end L2
namespace L2
open PySem PySem.Spec PyProof.Rows PySem.W
section
variable {prog : Program} {w : World} {A : Around} {R : Result → Shared → Prop} {I : Addr} {fp wr : List Addr} {n : Nat} {P : Nat → Value → Prop} {St : Nat → Heap → Prop}
end
section
variable {prog : Program} {w : World} {A : Around} {E : Value → Shared → Prop} {s : Shared} {l : Addr} {xs : Array (Int × Tok)}
end
section
variable {X : Cx}
end
section
variable {X : Cx}
end
end L2
namespace Nb
open PySem L2
def top (i : Nat) : Stmt := PySem.Challenge.pw_nonebetter_k62_works_done_otherwise.main.body.getD i (.Pass ⟨0, 0, 0, 0⟩)
abbrev Qen : Stmt := top 20
abbrev Qeo : Stmt := top 21
inductive BR where
 | days (n : Int)
 | bench (b : Str) (r : Int)
 | shut (b : Str) (f t : Int)
 | store (s : Str) (m f : Int)
 | work (w : Str)
 | way (w v : Str) (l c : Int)
 | use (k : Fin 3) (w v t : Str) (m : Int)
 | after (w x : Str) (g : Int)
 | late (w : Str) (d c : Int)
def useW : Fin 3 → Str
 | 0 => "uses"
 | 1 => "takes"
 | 2 => "gives"
def BR.word : BR → Str
 | .days _ => "days"
 | .bench _ _ => "bench"
 | .shut _ _ _ => "shut"
 | .store _ _ _ => "store"
 | .work _ => "work"
 | .way _ _ _ _ => "way"
 | .use k _ _ _ _ => useW k
 | .after _ _ _ => "after"
 | .late _ _ _ => "late"
def BR.names : BR → List Str
 | .days _ => []
 | .bench b _ => [b]
 | .shut b _ _ => [b]
 | .store s _ _ => [s]
 | .work w => [w]
 | .way w v _ _ => [w, v]
 | .use _ w v t _ => [w, v, t]
 | .after w x _ => [w, x]
 | .late w _ _ => [w]
def BR.nums : BR → List Int
 | .days n => [n]
 | .bench _ r => [r]
 | .shut _ f t => [f, t]
 | .store _ m f => [m, f]
 | .work _ => []
 | .way _ _ l c => [l, c]
 | .use _ _ _ _ m => [m]
 | .after _ _ g => [g]
 | .late _ d c => [d, c]
def BR.key (r : BR) : List Key := Sum.inr r.word :: r.names.map Sum.inr
def BR.cells (r : BR) : List Key := r.key ++ r.nums.map Sum.inl
def BR.own : BR → List Str
 | .work w => [w]
 | .way w _ _ _ => [w]
 | .use _ w _ _ _ => [w]
 | .after w x _ => [w, x]
 | .late w _ _ => [w]
 | _ => []
def BR.ok (n : Int) : BR → Prop
 | .days m => m = n
 | .bench _ r => 0 ≤ r ∧ r ≤ 99
 | .shut _ f t => 0 ≤ f ∧ f < t ∧ t ≤ n
 | .store _ m f => 0 ≤ f ∧ f ≤ m ∧ m ≤ 999
 | .work _ => True
 | .way _ _ l c => 1 ≤ l ∧ l ≤ n ∧ 0 ≤ c ∧ c ≤ 999999
 | .use _ _ _ _ m => 1 ≤ m ∧ m ≤ 99
 | .after w x g => w ≠ x ∧ 0 ≤ g ∧ g ≤ n
 | .late _ d c => 0 ≤ d ∧ d ≤ n ∧ 1 ≤ c ∧ c ≤ 999
def Apart (r q : BR) : Prop := r.word = "shut" ∨ q.word = "shut" ∨ r.key ≠ q.key
theorem Apart.symm {r q : BR} (h : Apart r q) : Apart q r := by
 rcases h with h | h | h
 ·exact .inr (.inl h)
 ·exact .inl h
 ·exact .inr (.inr h.symm)
theorem Ww {r q : BR} (h : r.word ≠ q.word) : Apart r q := .inr (.inr fun z => h (by injection z with z1; injection z1))
structure WB (n : Int) (B : List BR) : Prop where
 ok : ∀ r ∈ B, r.ok n
 nd : B.Pairwise Apart
 ref : ∀ r ∈ B, ∀ w ∈ r.own, BR.work w ∈ B
 len : B.length ≤ 400
 few : ∃ nm : List Str, nm.length ≤ 5 ∧ ∀ r ∈ B, ∀ w ∈ r.own, w ∈ nm
theorem WB.perm {n : Int} {B C : List BR} (h : WB n B) (p : B.Perm C) : WB n C :=
 ⟨fun r hr => h.ok r (p.mem_iff.mpr hr), (p.pairwise_iff Apart.symm).mp h.nd, fun r hr w hw => p.mem_iff.mp (h.ref r (p.mem_iff.mpr hr) w hw), by rw [← p.length_eq]; exact h.len, h.few.elim fun nm q => ⟨nm, q.1, fun r hr w hw => q.2 r (p.mem_iff.mpr hr) w hw⟩⟩
def BR.kind : BR → Nat
 | .days _ => 0
 | .bench _ _ => 1
 | .shut _ _ _ => 2
 | .store _ _ _ => 3
 | .work _ => 4
 | .way _ _ _ _ => 5
 | .use k _ _ _ _ => 6 + k.val
 | .after _ _ _ => 9
 | .late _ _ _ => 10
def wordOf : Nat → Str
 | 0 => "days"
 | 1 => "bench"
 | 2 => "shut"
 | 3 => "store"
 | 4 => "work"
 | 5 => "way"
 | 6 => "uses"
 | 7 => "takes"
 | 8 => "gives"
 | 9 => "after"
 | _ => "late"
theorem Km (r : BR) : r.word = wordOf r.kind := by
 cases r with
 | use k _ _ _ _ => match k with | 0 => rfl | 1 => rfl | 2 => rfl
 | _ => rfl
theorem Vw (r : BR) : r.kind < 11 := by
 cases r with
 | use k _ _ _ _ => show 6 + k.val < 11; omega
 | days n => show (0 : Nat) < 11; decide
 | bench b r => show (1 : Nat) < 11; decide
 | shut b f t => show (2 : Nat) < 11; decide
 | store b m f => show (3 : Nat) < 11; decide
 | work w => show (4 : Nat) < 11; decide
 | way w v l c => show (5 : Nat) < 11; decide
 | after w x g => show (9 : Nat) < 11; decide
 | late w d c => show (10 : Nat) < 11; decide
theorem Kn : ∀ i, i < 11 → ∀ j, j < 11 → wordOf i = wordOf j → i = j := by decide +kernel
theorem Zv (r : BR) {k : Nat} (hk : k < 11) : r.word = wordOf k ↔ r.kind = k := ⟨fun h => Kn _ (Vw r) _ hk (by rw [← Km]; exact h), fun h => by rw [Km, h]⟩
theorem Yw {r q : BR} (h : r.kind ≠ q.kind) : Apart r q := Ww fun z => h (Kn _ (Vw r) _ (Vw q) (by rw [← Km, ← Km]; exact z))
theorem Qjz {r : BR} (h : r.kind = 5) : ∃ w v l c, r = .way w v l c := by
 cases r with
 | way w v l c => exact ⟨w, v, l, c, rfl⟩
 | use k _ _ _ _ => exact absurd (show 6 + k.val = 5 from h) (by omega)
 | _ => exact nomatch h
theorem Qhm {r : BR} (h : r.kind = 4) : ∃ w, r = .work w := by
 cases r with
 | work w => exact ⟨w, rfl⟩
 | use k _ _ _ _ => exact absurd (show 6 + k.val = 4 from h) (by omega)
 | _ => exact nomatch h
theorem Qfo {r : BR} (h : r.kind = 9) : ∃ w x g, r = .after w x g := by
 cases r with
 | after w x g => exact ⟨w, x, g, rfl⟩
 | use k _ _ _ _ => exact absurd (show 6 + k.val = 9 from h) (by omega)
 | _ => exact nomatch h
theorem Qav {r : BR} (h : r.word = "way") : ∃ w v l c, r = .way w v l c := Qjz ((Zv r (k := 5) (by decide)).mp h)
theorem Kg {r : BR} (h : r.word = "work") : ∃ w, r = .work w := Qhm ((Zv r (k := 4) (by decide)).mp h)
theorem Qfp {r : BR} (h : r.word = "after") : ∃ w x g, r = .after w x g := Qfo ((Zv r (k := 9) (by decide)).mp h)
def fl (x : Str) : Nat := x.cps.getD 0 0
def RowsB (H : Hp) (vs : List V) (B : List BR) : Prop := Qhf H vs (B.map BR.cells)
theorem Yp (r : BR) : atI (r.cells.map kV) 0 = some (.str r.word) := by cases r <;> rfl
theorem RowsB.get {H : Hp} {vs : List V} {B : List BR} (h : RowsB H vs B) {i : Nat} {v : V} (e : vs[i]? = some v) : ∃ r l, B[i]? = some r ∧ v = .ref l ∧ H l = some (.lst (r.cells.map kV)) := by
 obtain ⟨ks, e1, l, e2, h1⟩ := Xg h e
 rw [yY] at e1
 obtain ⟨r, e3, e4⟩ := Option.map_eq_some_iff.mp e1
 exact ⟨r, l, e3, e2, by rw [e4]; exact h1⟩
theorem RowsB.imp {H H' : Hp} {vs : List V} {B : List BR} (h : RowsB H vs B) (f : ∀ l (r : BR), V.ref l ∈ vs → H l = some (.lst (r.cells.map kV)) → H' l = some (.lst (r.cells.map kV))) : RowsB H' vs B := by
 unfold RowsB at h ⊢
 induction B generalizing vs with
 | nil => cases h; exact .nil
 | cons r B ih =>
  cases h with
  | cons z t =>
   obtain ⟨l, e, h1⟩ := z
   exact .cons ⟨l, e, f l r (by rw [e]; exact jK) h1⟩ (ih t fun l r hm => f l r (zQ _ hm))
theorem RowsB.same {H H' : Hp} {vs : List V} {B : List BR} (h : RowsB H vs B) (s : Same H H') : RowsB H' vs B := h.imp fun _ _ _ z => s _ _ z
theorem RowsB.length {H : Hp} {vs : List V} {B : List BR} (h : RowsB H vs B) : vs.length = B.length := by
 have := Paired.length h
 rwa [jZ] at this
theorem RowsB.snoc {H : Hp} {vs : List V} {B : List BR} {r : BR} {l : Addr} (h : RowsB H vs B) (z : H l = some (.lst (r.cells.map kV))) : RowsB H (vs ++ [.ref l]) (B ++ [r]) := by
 unfold RowsB at h ⊢
 rw [yQ]
 exact Paired.snoc h ⟨l, rfl, z⟩
theorem Qfq {α β : Type} {R : α → β → Prop} {xs xs' : List α} {ys ys' : List β} (h1 : Paired R xs ys) (h2 : Paired R xs' ys') : Paired R (xs ++ xs') (ys ++ ys') := by
 induction h1 with
 | nil => exact h2
 | cons z _ ih => exact .cons z ih
theorem RowsB.app {H : Hp} {vs vs' : List V} {B B' : List BR} (h : RowsB H vs B) (h' : RowsB H vs' B') : RowsB H (vs ++ vs') (B ++ B') := by
 unfold RowsB at h h' ⊢
 rw [yQ]
 exact Qfq h h'
theorem Vx {α β : Type} {R : α → β → Prop} : ∀ {xs : List α} {ys : List β} (n : Nat), Paired R xs ys → Paired R (xs.take n) (ys.take n)
 | _, _, 0, _ => .nil
 | _, _, _ + 1, .nil => .nil
 | _, _, n + 1, .cons z t => .cons z (Vx n t)
theorem Vy {α β : Type} {R : α → β → Prop} : ∀ {xs : List α} {ys : List β} (n : Nat), Paired R xs ys → Paired R (xs.drop n) (ys.drop n)
 | _, _, 0, h => h
 | _, _, _ + 1, .nil => .nil
 | _, _, n + 1, .cons _ t => Vy n t
theorem RowsB.take {H : Hp} {vs : List V} {B : List BR} (n : Nat) (h : RowsB H vs B) : RowsB H (vs.take n) (B.take n) := by
 unfold RowsB at h ⊢
 rw [List.map_take]
 exact Vx n h
theorem RowsB.drop {H : Hp} {vs : List V} {B : List BR} (n : Nat) (h : RowsB H vs B) : RowsB H (vs.drop n) (B.drop n) := by
 unfold RowsB at h ⊢
 rw [List.map_drop]
 exact Vy n h
def Qna (ys : List V) : Prop := ∀ s r, ys ≠ V.str s :: r
theorem RowsB.noRow {H : Hp} {vs : List V} {B : List BR} (h : RowsB H vs B) : Qna vs := fun s r e => by
 subst e
 obtain ⟨_, _, _, e, _⟩ := h.get (i := 0) (v := .str s) rfl
 cases e
theorem Qaw {ys : List V} (h : Qna ys) (r : BR) : r.cells.map kV ≠ ys := fun e => h r.word (r.cells.map kV).tail (by rw [← e]; cases r <;> rfl)
theorem RowsB.updL {H : Hp} {vs : List V} {B : List BR} {g : Addr} {ys zs : List V} (h : RowsB H vs B) (hg : H g = some (.lst ys)) (n : Qna ys) : RowsB (upd H g (.lst zs)) vs B := h.imp fun l r _ z => by
 rw [Qj (Yl z hg fun e => Qaw n r (HO.lst.inj e))]
 exact z
section
variable {P : Program} {w : World} {K : Fg} {mg : Str → Option Value} {base : Heap}
theorem scBlock : FnScope ["_law_script", "_law_k", "_law_cell", "_law_j"] ["_law_script", "_law_k"] (Qi Qen) := ⟨rfl, rfl, rfl, by decide +kernel, rfl, by decide +kernel, by decide +kernel⟩
theorem Qnb (F : Fn K mg "_law_block" Qen) (M : Mg mg) : Cal P w K mg base 1 "_law_block" ["_law_script", "_law_k"] (Qgy K) := by
 refine Ya F scBlock (fun _ _ _ _ _ _ => Kx (fun _ _ => rfl)) (fun vs H Q E h => ?_) (fun f cdv A outer s H vs Q E hr h => ?_)
 ·obtain ⟨a, ns, k, rfl, _⟩ := h
  rfl
 obtain ⟨a, ns, k, rfl, hS, h0, q⟩ := h
 refine ⟨_, (Qh (Qr (i := 2) scBlock.nd rfl (Or.inl rfl) Qe)
  (Qh (Xx (Qp Qgj (Qm Qz Qe (Qm Qy (Qm Xj (pv 1) Qe) Qe)) (Qs Qv rfl M.len Yj (Qa (pv 0) Qf)) (Qw _)) (Ql (Qr (i := 2) scBlock.nd rfl (Or.inl rfl) (Qm Qeh (Qu Qq (pv 0) (Qm Qz Qe (Qm Qy (Qm Xj (pv 1) Qe) Qe)) (fun _ _ => rfl)) (Qm Qea Qe Qe)))) Xa)
  (Qh (Yq PassesOwn.never rfl (Xy rfl M.range_ (Qa (Qm Qy (pv 1) Qe) Qf)) (Qt (i := 3) scBlock.nd rfl (Or.inl rfl) (Or.inl rfl)) (Ql (Qr (i := 2) scBlock.nd rfl (Or.inl rfl) (Qm Qeh (pv 2) Qe))))
  (Ql (Xe (pv 2)))))), ?_⟩
 refine Kf ?_
 intro rT4 rT3 rT2
 refine ⟨_, rfl, _, _, rfl, rfl, ⟨by decide, by decide⟩, _, _, rfl, rfl, (by show (0 : Int) < _; decide +kernel), _, _, rfl, rfl, _, rfl, _, _, rfl, .inl hS, _, _, rfl, rfl, _, rfl, ?_⟩
 refine ite2 (fun c => ?_) (fun c => ?_)
 ·obtain ⟨v, hv⟩ := atNs (k := 1 + k / 8 % 62) (by omega) (kY c)
  refine ⟨_, rfl, _, rfl, _, _, rfl, rfl, ⟨by decide, by decide⟩, _, _, rfl, rfl, (by show (0 : Int) < _; decide +kernel), _, _, rfl, rfl, _, _, _, _, rfl, rfl, hS, hv, _, _, rfl, rfl, ⟨by decide, by decide, by decide⟩, _, _, rfl, rfl, ⟨by decide +kernel, by decide +kernel⟩, ?_⟩
  let Pv1 : Nat → St → Hp → Prop := fun i σ H' => H' = H ∧ ∃ (z : Int) (v : Option V), σ = [some (.ref a), some (.int k), some (.int z), v]
  refine ⟨_, rfl, _, _, rfl, rfl, (by show (0 : Int) < _; decide +kernel), k % 8, rfl, by omega, by omega, Xv (lo := 0) (n := (k % 8).toNat) Pv1 ⟨rfl, _, _, rfl⟩ ?_ ?_⟩
  ·rintro i σ H' hi ⟨rfl, z, v, rfl⟩
   exact ⟨_, rfl, _, _, rfl, rfl, ⟨by decide +kernel, by decide +kernel⟩, rfl, _, _, rfl⟩
  ·rintro σ H' ⟨rfl, z, v, rfl⟩
   exact ⟨_, rfl, q z⟩
 ·let Pv2 : Nat → St → Hp → Prop := fun i σ H' => H' = H ∧ ∃ (z : Int) (v : Option V), σ = [some (.ref a), some (.int k), some (.int z), v]
  refine ⟨_, rfl, _, _, rfl, rfl, (by show (0 : Int) < _; decide +kernel), k % 8, rfl, by omega, by omega, Xv (lo := 0) (n := (k % 8).toNat) Pv2 ⟨rfl, _, _, rfl⟩ ?_ ?_⟩
  ·rintro i σ H' hi ⟨rfl, z, v, rfl⟩
   exact ⟨_, rfl, _, _, rfl, rfl, ⟨by decide +kernel, by decide +kernel⟩, rfl, _, _, rfl⟩
  ·rintro σ H' ⟨rfl, z, v, rfl⟩
   exact ⟨_, rfl, q z⟩
theorem scMixed : FnScope ["_law_script", "_law_k", "_law_cell", "_law_number"] ["_law_script", "_law_k"] (Qi Qeo) := ⟨rfl, rfl, rfl, by decide +kernel, rfl, by decide +kernel, by decide +kernel⟩
theorem Qnc (F : Fn K mg "_law_mixed" Qeo) (M : Mg mg) (cl_block : Cal P w K mg base 1 "_law_block" ["_law_script", "_law_k"] (Qgy K)) : Cal P w K mg base 2 "_law_mixed" ["_law_script", "_law_k"] (Zy K) := by
 refine Ya F scMixed (fun _ _ _ _ _ _ => Kx (fun _ _ => rfl)) (fun vs H Q E h => ?_) (fun f cdv A outer s H vs Q E hr h => ?_)
 ·obtain ⟨a, ns, k, rfl, _⟩ := h
  rfl
 obtain ⟨a, ns, k, rfl, hS, h0, h1, q⟩ := h
 refine ⟨_, (Qh (Qr (i := 2) scMixed.nd rfl (Or.inl rfl) Qe)
  (Qh (Xx (Qp Qaf (Qs Qv rfl M.len Yj (Qa (pv 0) Qf)) Qe (Qw _)) (Ql (Qr (i := 2) scMixed.nd rfl (Or.inl rfl) (Qu Qq (pv 0) Qe (fun _ _ => rfl)))) Xa)
  (Qh (Xx (PW.pt (Zr (Qp Ym (Qm Qy (Qm Xj (pv 2) (Qm Qea Qe Qe)) Qe) Qe (Qw _)) (Zc (Qp Qmf (Xp cl_block (hr.mono (by decide)) (Qa (pv 0) (Qa (pv 1) Qf))) Qe (Qw _))))) (Ql (Xe (Qm Qy (Xp cl_block (hr.mono (by decide)) (Qa (pv 0) (Qa (pv 1) Qf))) Qe))) Xa)
  (Qh (Xx (Qp Qaf (Qs Qv rfl M.len Yj (Qa (pv 0) Qf)) Qe (Qw _)) (Ql (Qr (i := 2) scMixed.nd rfl (Or.inl rfl) (Qu Qq (pv 0) (Qm Qy (pv 1) (Qs (Jw rfl) rfl M.min Qei (Qa Qe (Qa (Qs Qv rfl M.len Yj (Qa (pv 0) Qf)) Qf)))) (fun _ _ => rfl)))) Xa)
  (Qh (Qr (i := 3) scMixed.nd rfl (Or.inl rfl) (Qm Qz (Qm Qy (pv 2) (Qm Qea Qe Qe)) (Qm Zg Qe (Qm Qz (pv 1) Qe))))
  (Qh (Qr (i := 3) scMixed.nd rfl (Or.inl rfl) (Qm Qz (Qm Qy (Qm Zg (pv 3) (pv 3)) Qe) (Qm Zg Qe (pv 1))))
  (Ql (Xe (Qm Qy (Qm Zg (pv 3) (pv 3)) Qe))))))))), ?_⟩
 refine Qjy ?_
 intro rT7 rT6 rT5 rT4 rT3 rT2
 refine ⟨_, rfl, _, _, rfl, .inl hS, _, _, rfl, rfl, _, rfl, ?_⟩
 have fin : ∀ x : Int, Q (.int (x % 2147483587)) H := fun x => q _ (xW _ (by decide)) (Int.lt_trans (xX _ (by decide)) (by decide))
 refine ite2 (fun c => ?_) (fun c => ?_)
 ·obtain ⟨v, hv⟩ := atNs (k := 0) (Int.le_refl 0) (kY c)
  refine ⟨_, rfl, _, _, _, _, rfl, rfl, hS, hv, ?_⟩
  refine ⟨_, rfl, _, _, rfl, rfl, ⟨by decide, by decide, by decide⟩, _, _, rfl, rfl, ⟨by decide +kernel, by decide +kernel⟩, _, _, rfl, rfl, (by show (0 : Int) < _; decide +kernel), rfl, _, rfl, ?_⟩
  refine ite2 (fun c2 => ⟨_, rfl, _, rfl, a, ns, k, rfl, hS, h0, fun z => ⟨rfl, _, rfl, ite2 (fun c4 => ⟨_, rfl, _, rfl, a, ns, k, rfl, hS, h0, fun z => ⟨_, _, rfl, rfl, (by show (0 : Int) < _; decide +kernel), fin _⟩⟩) (fun c4 => ?_)⟩⟩) (fun c2 => iteF ?_)
  all_goals
   refine ⟨_, rfl, _, _, rfl, .inl hS, _, _, rfl, rfl, _, rfl, ?_⟩
   refine ite2 (fun c3 => ?_) (fun c3 => absurd c c3)
   have c' : (0 : Int) < (((ns.map V.int).length : Nat) : Int) := kY c
   have pm : (0 : Int) < (if (((ns.map V.int).length : Nat) : Int) < 63 then (((ns.map V.int).length : Nat) : Int) else 63) := by split <;> omega
   have pl : (if (((ns.map V.int).length : Nat) : Int) < 63 then (((ns.map V.int).length : Nat) : Int) else 63) ≤ (((ns.map V.int).length : Nat) : Int) := by split <;> omega
   obtain ⟨v3, hv3⟩ := atNs (ns := ns) (k := k % (if (((ns.map V.int).length : Nat) : Int) < 63 then (((ns.map V.int).length : Nat) : Int) else 63)) (xW _ (kXe pm)) (Int.lt_of_lt_of_le (xX _ pm) pl)
   refine ⟨_, rfl, _, rfl, _, rfl, _, _, rfl, .inl hS, _, _, rfl, _, _, rfl, rfl, pm, _, _, _, _, rfl, rfl, hS, hv3, ?_⟩
   refine ⟨_, rfl, _, _, rfl, rfl, ⟨by decide, by decide, by decide⟩, _, _, rfl, rfl, (by show (0 : Int) < _; decide +kernel), _, rfl, _, _, rfl, rfl, _, _, rfl, rfl, mulC _ _ (by decide) (by decide), _, _, rfl, rfl, ?_⟩
   refine ⟨_, rfl, _, rfl, _, _, rfl, rfl, mulA _ k h0 h1 _, _, _, rfl, rfl, (by show (0 : Int) < _; decide +kernel), _, rfl, _, _, rfl, rfl, mulC _ _ (by decide) (by decide), _, _, rfl, rfl, ?_⟩
   exact ⟨_, rfl, _, rfl, _, _, rfl, rfl, mulB _ k h0 h1 _, _, _, rfl, rfl, (by show (0 : Int) < _; decide +kernel), fin _⟩
 ·refine ⟨_, rfl, _, _, rfl, rfl, ⟨by decide, by decide, by decide⟩, _, _, rfl, rfl, ⟨by decide +kernel, by decide +kernel⟩, _, _, rfl, rfl, (by show (0 : Int) < _; decide +kernel), rfl, _, rfl, ?_⟩
  refine iteF (iteF ?_)
  refine ⟨_, rfl, _, _, rfl, .inl hS, _, _, rfl, rfl, _, rfl, ?_⟩
  refine ite2 (fun c3 => absurd c3 c) (fun c3 => ?_)
  refine ⟨_, rfl, _, _, rfl, rfl, ⟨by decide, by decide, by decide⟩, _, _, rfl, rfl, (by show (0 : Int) < _; decide +kernel), _, rfl, _, _, rfl, rfl, _, _, rfl, rfl, mulC _ _ (by decide) (by decide), _, _, rfl, rfl, ?_⟩
  refine ⟨_, rfl, _, rfl, _, _, rfl, rfl, mulA _ k h0 h1 _, _, _, rfl, rfl, (by show (0 : Int) < _; decide +kernel), _, rfl, _, _, rfl, rfl, mulC _ _ (by decide) (by decide), _, _, rfl, rfl, ?_⟩
  exact ⟨_, rfl, _, rfl, _, _, rfl, rfl, mulB _ k h0 h1 _, _, _, rfl, rfl, (by show (0 : Int) < _; decide +kernel), fin _⟩
end
abbrev Qka : Stmt := top 22
theorem fl_app {x y : Str} (h : 1 ≤ x.length) : fl (x ++ y) = fl x := by
 show (x.cps ++ y.cps).getD 0 0 = x.cps.getD 0 0
 have h' : 0 < x.cps.size := h
 rw [Array.getD_eq_getD_getElem?, Array.getD_eq_getD_getElem?, Array.getElem?_append_left h']
theorem len_app (x y : Str) : (x ++ y).length = x.length + y.length := by
 show (x.cps ++ y.cps).size = _
 rw [Array.size_append]
 rfl
theorem atS {x : Str} {z : Int} (h0 : 0 ≤ z) (h1 : z < (x.length : Nat)) : ∃ c, atI x.cps.toList z = some c := by
 have e : z = ((z.toNat : Nat) : Int) := by omega
 have h2 : z.toNat < x.cps.toList.length := by
  have h3 : x.length = x.cps.toList.length := by show x.cps.size = _; exact jJf.symm
  omega
 exact ⟨_, by rw [e]; exact Zj (gE h2)⟩
theorem Qnd {f : Int} (h0 : 0 ≤ f) (h1 : f < 8) : atI ("abcdefgh" : Str).cps.toList f = some (97 + f.toNat) := by
 rcases (show f = 0 ∨ f = 1 ∨ f = 2 ∨ f = 3 ∨ f = 4 ∨ f = 5 ∨ f = 6 ∨ f = 7 by omega) with h | h | h | h | h | h | h | h <;> (subst h; decide +kernel)
theorem len26 : ("abcdefghijklmnopqrstuvwxyz" : Str).length = 26 := by decide +kernel
theorem len8 : ("abcdefgh" : Str).length = 8 := by decide +kernel
theorem pick5 {a b c d e z : Int} : ∃ m : Int, atI [V.int a, V.int b, V.int c, V.int d, V.int e] (z % 5) = some (.int m) ∧ (m = a ∨ m = b ∨ m = c ∨ m = d ∨ m = e) := by
 rcases (show z % 5 = 0 ∨ z % 5 = 1 ∨ z % 5 = 2 ∨ z % 5 = 3 ∨ z % 5 = 4 by omega) with h | h | h | h | h <;> rw [h]
 ·exact ⟨a, rfl, .inl rfl⟩
 ·exact ⟨b, rfl, .inr (.inl rfl)⟩
 ·exact ⟨c, rfl, .inr (.inr (.inl rfl))⟩
 ·exact ⟨d, rfl, .inr (.inr (.inr (.inl rfl)))⟩
 ·exact ⟨e, rfl, .inr (.inr (.inr (.inr rfl)))⟩
def Qhn (K : Fg) : Sp := fun vs H Q _ => ∃ (a : Addr) (ns : List Int) (k f : Int), vs = [.ref a, .int k, .int f] ∧ SqL K H a (ns.map V.int) ∧ 0 ≤ k ∧ k ≤ 1000 ∧ 0 ≤ f ∧ f < 8 ∧ ∀ (x : Str) (H' : Hp), fl x = 97 + f.toNat → x.length ≤ 12 → Same H H' → Q (.str x) H'
section
variable {P : Program} {w : World} {K : Fg} {mg : Str → Option Value} {base : Heap}
theorem scName : FnScope ["_law_script", "_law_k", "_law_first", "_law_number", "_law_found", "_law_j"] ["_law_script", "_law_k", "_law_first"] (Qi Qka) := ⟨rfl, rfl, rfl, by decide +kernel, rfl, by decide +kernel, by decide +kernel⟩
theorem okName (F : Fn K mg "_law_name" Qka) (M : Mg mg) (cl_mixed : Cal P w K mg base 2 "_law_mixed" ["_law_script", "_law_k"] (Zy K)) : Cal P w K mg base 3 "_law_name" ["_law_script", "_law_k", "_law_first"] (Qhn K) := by
 refine Ya F scName (fun _ _ _ _ _ _ => Qfn (fun _ _ _ => rfl)) (fun vs H Q E h => ?_) (fun f cdv A outer s H vs Q E hr h => ?_)
 ·obtain ⟨a, ns, k, f, rfl, _⟩ := h
  rfl
 obtain ⟨a, ns, k, f, rfl, hS, h0, h1, f0, f1, q⟩ := h
 refine ⟨_, (Qh (Qr (i := 3) scName.nd rfl (Or.inl rfl) (Xp cl_mixed (hr.mono (by decide)) (Qa (pv 0) (Qa (pv 1) Qf))))
  (Qh (Qr (i := 4) scName.nd rfl (Or.inl rfl) (Qu Qli Qx (pv 2) (fun _ _ => rfl)))
  (Qh (Yq PassesOwn.never rfl (Xy rfl M.range_ (Qa (Qu Qq (Xf (Qa Qe (Qa Qe (Qa Qe (Qa Qe (Qa Qe Qf)))))) (Qm Qy (pv 3) Qe) (fun _ _ => rfl)) Qf)) (Qt (i := 5) scName.nd rfl (Or.inl rfl) (Or.inl rfl)) (Qh (Qr (i := 3) scName.nd rfl (Or.inl rfl) (Qm Qz (Qm Qz (Qm Xj (pv 3) Qe) (Qm Zg Qe (Xp cl_mixed (hr.mono (by decide)) (Qa (pv 0) (Qa (Qm Qz (pv 1) Qe) Qf))))) (pv 5)))
  (Ql (Qr (i := 4) scName.nd rfl (Or.inl rfl) (Qm Wr (pv 4) (Qu Qli Qx (Qm Qy (pv 3) Qe) (fun _ _ => rfl)))))))
  (Ql (Xe (pv 4)))))), ?_⟩
 refine Kf ?_
 intro rT4 rT3 rT2
 have hz : (20000 : Nat) < sizeLine := by decide
 refine ⟨_, rfl, _, rfl, a, ns, k, rfl, hS, h0, by omega, fun z z0 z1 => ?_⟩
 refine ⟨_, rfl, _, _, _, rfl, rfl, by rw [len8]; decide, Qnd f0 f1, ?_⟩
 refine ⟨by show 5 ≤ sizeLine; decide, fun p hp => ?_⟩
 have s0 := Qc hp (.lst [.int 0, .int 0, .int 1, .int 2, .int 11])
 obtain ⟨m, em, hm⟩ := pick5 (a := 0) (b := 0) (c := 1) (d := 2) (e := 11) (z := z)
 have m0 : 0 ≤ m ∧ m ≤ 11 := by omega
 let Pv3 : Nat → St → Hp → Prop := fun i σ H1 => ∃ (zz : Int) (x : Str) (v : Option V), σ = [some (.ref a), some (.int k), some (.int f), some (.int zz), some (.str x), v] ∧ fl x = 97 + f.toNat ∧ x.length = 1 + i ∧ Same H H1
 refine ⟨_, rfl, _, _, rfl, rfl, (by show (0 : Int) < _; decide +kernel), p, _, _, _, rfl, rfl, Qd Qb, em, m, rfl, by omega, by omega, Xv (lo := 0) (n := m.toNat) Pv3 ⟨z, _, none, rfl, rfl, rfl, s0⟩ ?_ ?_⟩
 ·rintro i σ H1 hi ⟨zz, x, v, rfl, hf, hx, s1⟩
  refine ⟨_, rfl, _, _, rfl, rfl, ⟨by decide, by decide⟩, _, rfl, _, rfl, _, _, rfl, rfl, a, ns, _, rfl, s1.seq hS, by omega, by omega, fun y y0 y1 => ?_⟩
  refine ⟨_, _, rfl, rfl, mulC _ _ (by decide) (by decide), _, _, rfl, rfl, _, rfl, _, _, rfl, rfl, ?_⟩
  obtain ⟨c, ec⟩ := atS (x := "abcdefghijklmnopqrstuvwxyz") (z := (zz / 5 + 7 * y + (0 + (i : Int))) % 26) (by omega) (by rw [len26]; omega)
  refine ⟨_, rfl, _, rfl, _, _, rfl, rfl, (by show (0 : Int) < _; decide +kernel), _, _, _, rfl, rfl, by rw [len26]; decide, ec, _, _, rfl, rfl, ?_, _, _, _, rfl, ?_, ?_, s1⟩
  ·show x.length + 1 ≤ sizeLine
   omega
  ·rw [fl_app (by omega)]; exact hf
  ·rw [len_app, hx]
   show 1 + i + 1 = 1 + (i + 1)
   omega
 ·rintro σ H1 ⟨zz, x, v, rfl, hf, hx, s1⟩
  exact ⟨_, rfl, q x H1 hf (by omega) s1⟩
end
abbrev Qax : Stmt := top 23
theorem pick4 {a b c d z : Int} : ∃ m : Int, atI [V.int a, V.int b, V.int c, V.int d] (z % 4) = some (.int m) ∧ (m = a ∨ m = b ∨ m = c ∨ m = d) := by
 rcases (show z % 4 = 0 ∨ z % 4 = 1 ∨ z % 4 = 2 ∨ z % 4 = 3 by omega) with h | h | h | h <;> rw [h]
 ·exact ⟨a, rfl, .inl rfl⟩
 ·exact ⟨b, rfl, .inr (.inl rfl)⟩
 ·exact ⟨c, rfl, .inr (.inr (.inl rfl))⟩
 ·exact ⟨d, rfl, .inr (.inr (.inr rfl))⟩
inductive Thing : BR → Prop
 | bench (b r) : b.length ≤ 12 → Thing (.bench b r)
 | shut (b f t) : b.length ≤ 12 → Thing (.shut b f t)
 | store (s m f) : s.length ≤ 12 → Thing (.store s m f)
structure ThOk (n : Int) (T : List BR) : Prop where
 ok : ∀ r ∈ T, r.ok n
 th : ∀ r ∈ T, Thing r
 nd : T.Pairwise Apart
theorem ThOk.snoc {n : Int} {T : List BR} {r : BR} (h : ThOk n T) (h1 : r.ok n) (h2 : Thing r) (h3 : ∀ q ∈ T, Apart q r) : ThOk n (T ++ [r]) := by
 refine ⟨fun q hq => ?_, fun q hq => ?_, ?_⟩
 ·rcases kW.mp hq with z | z
  ·exact h.ok q z
  ·rw [kQ.mp z]; exact h1
 ·rcases kW.mp hq with z | z
  ·exact h.th q z
  ·rw [kQ.mp z]; exact h2
 ·refine jQf.mpr ⟨h.nd, jXc _ _, fun a ha b hb => ?_⟩
  rw [kQ.mp hb]
  exact h3 a ha
def flB : BR → Nat
 | .bench b _ => fl b
 | _ => 0
def flS : BR → Nat
 | .store s _ _ => fl s
 | _ => 0
theorem Qdl {q : BR} {b : Str} {r : Int} (hq : Thing q) (h : flB q < fl b) : Apart q (.bench b r) := by
 cases hq with
 | bench b' r' =>
  refine .inr (.inr fun z => ?_)
  have h' : fl b' < fl b := h
  have z' : [(Sum.inr ("bench" : Str) : Key), Sum.inr b'] = [Sum.inr ("bench" : Str), Sum.inr b] := z
  injection z' with _ z2
  injection z2 with z3
  injection z3 with z4
  rw [z4] at h'
  exact absurd h' (jYf _)
 | shut b' f t => exact .inl rfl
 | store s m f => exact Yw (by show (3 : Nat) ≠ 1; decide)
theorem Qdm {q : BR} {s : Str} {m f : Int} (hq : Thing q) (h : flS q < fl s) : Apart q (.store s m f) := by
 cases hq with
 | bench b' r' => exact Yw (by show (1 : Nat) ≠ 3; decide)
 | shut b' f t => exact .inl rfl
 | store s' m' f' =>
  refine .inr (.inr fun z => ?_)
  have h' : fl s' < fl s := h
  have z' : [(Sum.inr ("store" : Str) : Key), Sum.inr s'] = [Sum.inr ("store" : Str), Sum.inr s] := z
  injection z' with _ z2
  injection z2 with z3
  injection z3 with z4
  rw [z4] at h'
  exact absurd h' (jYf _)
def Qep (K : Fg) : Sp := fun vs H Q _ => ∃ (a : Addr) (ns : List Int) (n : Int), vs = [.ref a, .int n] ∧ SqL K H a (ns.map V.int) ∧ 1 ≤ n ∧ n ≤ 12 ∧
 ∀ (g : Addr) (vs : List V) (B : List BR) (H' : Hp), Same H H' → H g = none → H' g = some (.lst vs) → RowsB H' vs B → ThOk n B → B.length ≤ 11 → Q (.ref g) H'
section
variable {P : Program} {w : World} {K : Fg} {mg : Str → Option Value} {base : Heap}
theorem scThings : FnScope ["_law_script", "_law_days", "_law_found", "_law_number", "_law_k", "_law_bench", "_law_more", "_law_j", "_law_end", "_law_most"] ["_law_script", "_law_days"] (Qi Qax) := ⟨rfl, rfl, rfl, by decide +kernel, rfl, by decide +kernel, by decide +kernel⟩
theorem Qkb (F : Fn K mg "_law_things" Qax) (M : Mg mg) (cl_mixed : Cal P w K mg base 2 "_law_mixed" ["_law_script", "_law_k"] (Zy K)) (cl_name : Cal P w K mg base 3 "_law_name" ["_law_script", "_law_k", "_law_first"] (Qhn K)) : Cal P w K mg base 4 "_law_things" ["_law_script", "_law_days"] (Qep K) := by
 refine Ya F scThings (fun _ _ _ _ _ _ => Kx (fun _ _ => rfl)) (fun vs H Q E h => ?_) (fun f cdv A outer s H vs Q E hr h => ?_)
 ·obtain ⟨a, ns, n, rfl, _⟩ := h
  rfl
 obtain ⟨a, ns, n, rfl, hS, n1, n12, q⟩ := h
 refine ⟨_, (Qh (Qr (i := 2) scThings.nd rfl (Or.inl rfl) (Xf Qf))
  (Qh (Qr (i := 3) scThings.nd rfl (Or.inl rfl) (Xp cl_mixed (hr.mono (by decide)) (Qa (pv 0) (Qa Qe Qf))))
  (Qh (Yq PassesOwn.never rfl (Xy rfl M.range_ (Qa (Qm Qy (pv 3) Qe) Qf)) (Qt (i := 4) scThings.nd rfl (Or.inl rfl) (Or.inl rfl)) (Qh (Qr (i := 5) scThings.nd rfl (Or.inl rfl) (Xp cl_name (hr.mono (by decide)) (Qa (pv 0) (Qa (Qm Qz Qe (Qm Zg Qe (pv 4))) (Qa (pv 4) Qf)))))
  (Qh (Yn (Kw PySem.F.plainAttrs_list PySem.F.slot_list_append PySem.F.type_list_append Xw (pv 2) (Qa (Xf (Qa Qx (Qa (pv 5) (Qa (Qu Qq (Xf (Qa Qe (Qa Qe (Qa Qe (Qa Qe (Qa Qe Qf)))))) (Qm Qy (Xp cl_mixed (hr.mono (by decide)) (Qa (pv 0) (Qa (Qm Qz Qe (pv 4)) Qf))) Qe) (fun _ _ => rfl)) Qf)))) Qf)))
  (Qh (Qr (i := 6) scThings.nd rfl (Or.inl rfl) (Xp cl_mixed (hr.mono (by decide)) (Qa (pv 0) (Qa (Qm Qz Qe (pv 4)) Qf))))
  (Ql (Yq PassesOwn.never rfl (Xy rfl M.range_ (Qa (Qm Qy (pv 6) Qe) Qf)) (Qt (i := 7) scThings.nd rfl (Or.inl rfl) (Or.inl rfl)) (Qh (Qr (i := 8) scThings.nd rfl (Or.inl rfl) (Qm Qz Qe (Qm Qy (Qm Xj (pv 6) Qe) (pv 1))))
  (Qh (Yn (Kw PySem.F.plainAttrs_list PySem.F.slot_list_append PySem.F.type_list_append Xw (pv 2) (Qa (Xf (Qa Qx (Qa (pv 5) (Qa (Qm Qy (Qm Xj (pv 6) Qe) (pv 8)) (Qa (pv 8) Qf))))) Qf)))
  (Ql (Qr (i := 6) scThings.nd rfl (Or.inl rfl) (Qm Xj (pv 6) Qe)))))))))))
  (Qh (Yq PassesOwn.never rfl (Xy rfl M.range_ (Qa (Qm Qy (Qm Xj (pv 3) Qe) Qe) Qf)) (Qt (i := 4) scThings.nd rfl (Or.inl rfl) (Or.inl rfl)) (Qh (Qr (i := 9) scThings.nd rfl (Or.inl rfl) (Qu Qq (Xf (Qa Qe (Qa Qe (Qa Qe (Qa Qe Qf))))) (Qm Qy (Xp cl_mixed (hr.mono (by decide)) (Qa (pv 0) (Qa (Qm Qz Qe (pv 4)) Qf))) Qe) (fun _ _ => rfl)))
  (Ql (Yn (Kw PySem.F.plainAttrs_list PySem.F.slot_list_append PySem.F.type_list_append Xw (pv 2) (Qa (Xf (Qa Qx (Qa (Xp cl_name (hr.mono (by decide)) (Qa (pv 0) (Qa (Qm Qz Qe (Qm Zg Qe (pv 4))) (Qa (pv 4) Qf)))) (Qa (pv 9) (Qa (Qm Qy (Xp cl_mixed (hr.mono (by decide)) (Qa (pv 0) (Qa (Qm Qz Qe (pv 4)) Qf))) (Qm Qz (pv 9) Qe)) Qf))))) Qf))))))
  (Ql (Xe (pv 2))))))), ?_⟩
 refine Qau ?_
 intro rT5 rT4 rT3 rT2
 have hz : (20000 : Nat) < sizeLine := by decide
 refine ⟨by show 0 ≤ sizeLine; decide, fun g hg => ?_⟩
 have s0 := Qc hg (.lst [])
 have hg0 : upd H g (.lst []) g = some (.lst []) := Qb
 generalize upd H g (.lst []) = H0 at s0 hg0 ⊢
 refine ⟨_, rfl, a, ns, 1, rfl, s0.seq hS, by decide, by decide, fun z z0 z1 => ?_⟩
 let Pv4 : Nat → St → Hp → Prop := fun i σ H1 => ∃ (v4 v5 v6 v7 v8 v9 : Option V) (vs : List V) (B : List BR), σ = [some (.ref a), some (.int n), some (.ref g), some (.int z), v4, v5, v6, v7, v8, v9] ∧ H1 g = some (.lst vs) ∧ RowsB H1 vs B ∧ ThOk n B ∧ (∀ r ∈ B, flB r < 97 + i ∧ flS r = 0) ∧ B.length ≤ 3 * i ∧ Same H H1
 refine ⟨_, rfl, _, _, rfl, rfl, (by show (0 : Int) < _; decide +kernel), z % 4, rfl, by omega, by omega, Xv (lo := 0) (n := (z % 4).toNat) Pv4 ⟨none, none, none, none, none, none, [], [], rfl, hg0, .nil, ⟨fun _ h => (nomatch h), fun _ h => (nomatch h), .nil⟩, fun _ h => (nomatch h), wK _, s0⟩ ?_ ?_⟩
 ·rintro i σ H1 hi ⟨v4, v5, v6, v7, v8, v9, vs, B, rfl, hg1, hB, hT, hfl, hl, s1⟩
  have hi' : i < 4 := by omega
  have lv := hB.length
  refine ⟨_, rfl, _, rfl, _, _, rfl, rfl, mulC _ _ (by decide) (by decide), _, _, rfl, rfl, _, rfl, a, ns, _, _, rfl, s1.seq hS, by omega, by omega, by omega, by omega, fun b H2 hb hbl s2 => ?_⟩
  have hb' : fl b = 97 + i := by rw [hb]; omega
  refine ⟨_, rfl, .inl ⟨rfl, _, Qd (s2 _ _ hg1)⟩, _, rfl, by show 5 ≤ sizeLine; decide, fun p hp => ?_⟩
  have s3 := s2.trans (Qc hp (.lst [.int 1, .int 2, .int 5, .int 99, .int 0]))
  refine ⟨_, rfl, _, rfl, _, _, rfl, rfl, a, ns, _, rfl, (s1.trans s3).seq hS, by omega, by omega, fun y y0 y1 => ?_⟩
  obtain ⟨m, em, hm⟩ := pick5 (a := 1) (b := 2) (c := 5) (d := 99) (e := 0) (z := y)
  refine ⟨_, _, rfl, rfl, (by show (0 : Int) < _; decide +kernel), p, _, _, _, rfl, rfl, Qd Qb, em, by show 3 ≤ sizeLine; decide, fun l hl' => ?_⟩
  have s4 := s3.trans (Qc hl' (.lst [.str "bench", .str b, .int m]))
  have hl4 : upd (upd H2 p (.lst [.int 1, .int 2, .int 5, .int 99, .int 0])) l (.lst [.str "bench", .str b, .int m]) l = some (.lst ((BR.bench b m).cells.map kV)) := Qb
  generalize upd (upd H2 p (.lst [.int 1, .int 2, .int 5, .int 99, .int 0])) l (.lst [.str "bench", .str b, .int m]) = H4 at s4 hl4 ⊢
  have hg4 := s4 _ _ hg1
  refine ⟨g, _, _, rfl, rfl, hg4, by omega, ?_⟩
  have hB5 : RowsB (upd H4 g (.lst (vs ++ [.ref l]))) (vs ++ [.ref l]) (B ++ [.bench b m]) := ((hB.same s4).snoc hl4).updL hg4 hB.noRow
  have hg5 : upd H4 g (.lst (vs ++ [.ref l])) g = some (.lst (vs ++ [.ref l])) := Qb
  have s5 : Same H (upd H4 g (.lst (vs ++ [.ref l]))) := fun c o e => by rw [Qj (Qk e hg)]; exact (s1.trans s4) _ _ e
  generalize upd H4 g (.lst (vs ++ [.ref l])) = H5 at hB5 hg5 s5 ⊢
  refine ⟨_, rfl, _, rfl, _, _, rfl, rfl, a, ns, _, rfl, s5.seq hS, by omega, by omega, fun mo mo0 mo1 => ?_⟩
  have hT5 : ThOk n (B ++ [.bench b m]) := hT.snoc ⟨by omega, by omega⟩ (.bench _ _ hbl) fun r hr => Qdl (hT.th r hr) (by rw [hb']; exact (hfl r hr).1)
  let Pv5 : Nat → St → Hp → Prop := fun j σ H6 => ∃ (mo' : Int) (v7 v8 v9 : Option V) (vs : List V) (B : List BR), σ = [some (.ref a), some (.int n), some (.ref g), some (.int z), some (.int (0 + (i : Int))), some (.str b), some (.int mo'), v7, v8, v9] ∧ H6 g = some (.lst vs) ∧ RowsB H6 vs B ∧ ThOk n B ∧ (∀ r ∈ B, flB r < 97 + (i + 1) ∧ flS r = 0) ∧ B.length ≤ 3 * i + 1 + j ∧ Same H H6
  refine ⟨_, rfl, _, _, rfl, rfl, (by show (0 : Int) < _; decide +kernel), mo % 3, rfl, by omega, by omega, Xv (lo := 0) (n := (mo % 3).toNat) Pv5 ⟨mo, _, _, _, _, _, rfl, hg5, hB5, hT5, fun r hr => ?_, by rw [jY]; show B.length + 1 ≤ _; omega, s5⟩ ?_ ?_⟩
  ·rcases kW.mp hr with h | h
   ·have := hfl r h; exact ⟨by omega, this.2⟩
   ·rw [kQ.mp h]; exact ⟨by show fl b < _; omega, rfl⟩
  ·rintro j σ H6 hj ⟨mo', v7, v8, v9, vs6, B6, rfl, hg6, hB6, hT6, hfl6, hl6, s6⟩
   have lv6 := hB6.length
   have e0 := xW (mo' / 3) (show n ≠ 0 by omega)
   have e1 := xX (mo' / 3) (show 0 < n by omega)
   generalize hE : mo' / 3 % n = E at e0 e1
   have f0 := xW (mo' / 40) (show (1 + E) ≠ 0 by omega)
   have f1 := xX (mo' / 40) (show 0 < 1 + E by omega)
   refine ⟨_, rfl, _, _, rfl, rfl, ⟨by decide, by decide⟩, _, rfl, _, _, rfl, rfl, (by show 0 < n; omega), _, _, rfl, rfl, ?_⟩
   rw [hE]
   refine ⟨_, rfl, .inl ⟨rfl, _, Qd hg6⟩, _, rfl, _, rfl, _, _, rfl, rfl, ⟨by decide, by decide⟩, _, rfl, _, _, rfl, rfl, (by show 0 < 1 + E; omega), _, rfl, by show 4 ≤ sizeLine; decide, fun l hl' => ?_⟩
   have s7 := Qc hl' (.lst [.str "shut", .str b, .int (mo' / 40 % (1 + E)), .int (1 + E)])
   have hl7 : upd H6 l (.lst [.str "shut", .str b, .int (mo' / 40 % (1 + E)), .int (1 + E)]) l = some (.lst ((BR.shut b (mo' / 40 % (1 + E)) (1 + E)).cells.map kV)) := Qb
   generalize upd H6 l (.lst [.str "shut", .str b, .int (mo' / 40 % (1 + E)), .int (1 + E)]) = H7 at s7 hl7 ⊢
   have hg7 := s7 _ _ hg6
   refine ⟨g, _, _, rfl, rfl, hg7, by omega, ?_⟩
   refine ⟨_, rfl, _, _, rfl, rfl, ⟨by decide, by decide⟩, _, _, _, _, _, _, rfl, Qb, ((hB6.same s7).snoc hl7).updL hg7 hB6.noRow, hT6.snoc ⟨f0, f1, by omega⟩ (.shut _ _ _ hbl) fun r _ => .inr (.inl rfl), fun r hr => ?_, by rw [jY]; show B6.length + 1 ≤ _; omega, fun c o e => by rw [Qj (Qk e hg)]; exact (s6.trans s7) _ _ e⟩
   rcases kW.mp hr with h | h
   ·exact hfl6 r h
   ·rw [kQ.mp h]; exact ⟨by show 0 < _; omega, rfl⟩
  ·rintro σ H6 ⟨mo', v7, v8, v9, vs6, B6, rfl, hg6, hB6, hT6, hfl6, hl6, s6⟩
   exact ⟨_, _, _, _, _, _, vs6, B6, rfl, hg6, hB6, hT6, hfl6, by omega, s6⟩
 ·rintro σ H1 ⟨v4, v5, v6, v7, v8, v9, vs, B, rfl, hg1, hB, hT, hfl, hl, s1⟩
  let Pv6 : Nat → St → Hp → Prop := fun i σ H1 => ∃ (v4 v5 v6 v7 v8 v9 : Option V) (vs : List V) (B : List BR), σ = [some (.ref a), some (.int n), some (.ref g), some (.int z), v4, v5, v6, v7, v8, v9] ∧ H1 g = some (.lst vs) ∧ RowsB H1 vs B ∧ ThOk n B ∧ (∀ r ∈ B, flS r < 97 + i) ∧ B.length ≤ 9 + i ∧ Same H H1
  refine ⟨_, rfl, _, _, rfl, rfl, ⟨by decide, by decide⟩, _, _, rfl, rfl, (by show (0 : Int) < _; decide +kernel), z / 4 % 3, rfl, by omega, by omega, Xv (lo := 0) (n := (z / 4 % 3).toNat) Pv6 ⟨_, _, _, _, _, _, vs, B, rfl, hg1, hB, hT, fun r hr => by rw [(hfl r hr).2]; omega, by omega, s1⟩ ?_ ?_⟩
  ·rintro i σ H2 hi ⟨v4, v5, v6, v7, v8, v9, vs2, B2, rfl, hg2, hB2, hT2, hfl2, hl2, s2⟩
   have hi' : i < 3 := by omega
   have lv := hB2.length
   refine ⟨by show 4 ≤ sizeLine; decide, fun p hp => ?_⟩
   have s3 := Qc hp (.lst [.int 0, .int 3, .int 9, .int 999])
   have hp3 : upd H2 p (.lst [.int 0, .int 3, .int 9, .int 999]) p = some (.lst [.int 0, .int 3, .int 9, .int 999]) := Qb
   generalize upd H2 p (.lst [.int 0, .int 3, .int 9, .int 999]) = H3 at s3 hp3 ⊢
   refine ⟨_, rfl, _, rfl, _, _, rfl, rfl, a, ns, _, rfl, (s2.trans s3).seq hS, by omega, by omega, fun y y0 y1 => ?_⟩
   obtain ⟨m, em, hm⟩ := pick4 (a := 0) (b := 3) (c := 9) (d := 999) (z := y)
   have hm' : 0 ≤ m ∧ m ≤ 999 := by omega
   refine ⟨_, _, rfl, rfl, (by show (0 : Int) < _; decide +kernel), p, _, _, _, rfl, rfl, Qd hp3, em, ?_⟩
   refine ⟨_, rfl, .inl ⟨rfl, _, Qd (s3 _ _ hg2)⟩, _, rfl, _, rfl, _, _, rfl, rfl, mulC _ _ (by decide) (by decide), _, _, rfl, rfl, _, rfl, a, ns, _, _, rfl, (s2.trans s3).seq hS, by omega, by omega, by omega, by omega, fun x H4 hx hxl s4 => ?_⟩
   have hx' : fl x = 97 + i := by rw [hx]; omega
   have s34 := s3.trans s4
   refine ⟨_, rfl, _, rfl, _, rfl, _, _, rfl, rfl, a, ns, _, rfl, (s2.trans s34).seq hS, by omega, by omega, fun y' y0' y1' => ?_⟩
   have f0 := xW y' (show (m + 1) ≠ 0 by omega)
   have f1 := xX y' (show 0 < m + 1 by omega)
   refine ⟨_, rfl, _, _, rfl, rfl, _, _, rfl, rfl, (by show 0 < m + 1; omega), by show 4 ≤ sizeLine; decide, fun l hl' => ?_⟩
   have s5 := s34.trans (Qc hl' (.lst [.str "store", .str x, .int m, .int (y' % (m + 1))]))
   have hl5 : upd H4 l (.lst [.str "store", .str x, .int m, .int (y' % (m + 1))]) l = some (.lst ((BR.store x m (y' % (m + 1))).cells.map kV)) := Qb
   generalize upd H4 l (.lst [.str "store", .str x, .int m, .int (y' % (m + 1))]) = H5 at s5 hl5 ⊢
   have hg5 := s5 _ _ hg2
   refine ⟨g, _, _, rfl, rfl, hg5, by omega, ?_⟩
   refine ⟨_, _, _, _, _, _, _, _, rfl, Qb, ((hB2.same s5).snoc hl5).updL hg5 hB2.noRow, hT2.snoc ⟨f0, by omega, hm'.2⟩ (.store _ _ _ hxl) fun r hr => Qdm (hT2.th r hr) (by rw [hx']; exact hfl2 r hr), fun r hr => ?_, by rw [jY]; show B2.length + 1 ≤ _; omega, fun c o e => by rw [Qj (Qk e hg)]; exact (s2.trans s5) _ _ e⟩
   rcases kW.mp hr with h | h
   ·have := hfl2 r h; omega
   ·rw [kQ.mp h]; show fl x < _; omega
  ·rintro σ H2 ⟨v4, v5, v6, v7, v8, v9, vs2, B2, rfl, hg2, hB2, hT2, hfl2, hl2, s2⟩
   exact ⟨_, rfl, q g vs2 B2 H2 s2 hg hg2 hB2 hT2 (by omega)⟩
end
abbrev sWay : Stmt := top 24
theorem at_b1 (b : Str) (r : Int) : atI ((BR.bench b r).cells.map kV) 1 = some (.str b) := rfl
theorem at_s1 (b : Str) (m f : Int) : atI ((BR.store b m f).cells.map kV) 1 = some (.str b) := rfl
theorem Ky {r : BR} {x : Str} (h : r.word = x) : atI (r.cells.map kV) 0 = some (.str x) := by rw [← h]; exact Yp r
theorem bind6 {F : List Value → Prop} (h : ∀ a b c d e f, F [a, b, c, d, e, f]) : ∀ us : List Value, us.length = 6 → F us := fun us hl => by
 cases us with
 | nil => cases hl
 | cons a us => exact bind5 (F := fun us => F (a :: us)) (h a) us (Nat.succ.inj hl)
theorem neS {a b : Str} (h : a ≠ b) : ¬ (decide (V.str a = V.str b) = true) := fun z => by
 have := kY z
 injection this with z1
 exact h z1
theorem eqS {a b : Str} (h : decide (V.str a = V.str b) = true) : a = b := by
 have := kY h
 injection this
theorem yesS (a : Str) : decide (V.str a = V.str a) = true := kZ rfl
theorem w_bs : ("bench" : Str) ≠ "store" := by decide +kernel
theorem w_sb : ("store" : Str) ≠ "bench" := by decide +kernel
theorem w_hb : ("shut" : Str) ≠ "bench" := by decide +kernel
theorem w_hs : ("shut" : Str) ≠ "store" := by decide +kernel
theorem pick2 {a b z : Int} : ∃ m : Int, atI [V.int a, V.int b] (z % 2) = some (.int m) ∧ (m = a ∨ m = b) := by
 rcases (show z % 2 = 0 ∨ z % 2 = 1 by omega) with h | h <;> rw [h]
 ·exact ⟨a, rfl, .inl rfl⟩
 ·exact ⟨b, rfl, .inr rfl⟩
theorem pick3 {a b c z : Int} : ∃ m : Int, atI [V.int a, V.int b, V.int c] (z % 3) = some (.int m) ∧ (m = a ∨ m = b ∨ m = c) := by
 rcases (show z % 3 = 0 ∨ z % 3 = 1 ∨ z % 3 = 2 by omega) with h | h | h <;> rw [h]
 ·exact ⟨a, rfl, .inl rfl⟩
 ·exact ⟨b, rfl, .inr (.inl rfl)⟩
 ·exact ⟨c, rfl, .inr (.inr rfl)⟩
theorem pickTG (N : Int) : ∃ kk : Fin 3, atI [V.str "takes", V.str "gives"] (N % 2) = some (.str (useW kk)) ∧ kk ≠ 0 ∧ (N % 2 = 1 → kk = 2) := by
 rcases (show N % 2 = 0 ∨ N % 2 = 1 by omega) with h | h <;> rw [h]
 ·exact ⟨1, rfl, by decide, fun z => absurd z (by decide)⟩
 ·exact ⟨2, rfl, by decide, fun _ => rfl⟩
def UseOf (T : List BR) (w v : Str) (i : Nat) (r : BR) : Prop := ∃ k t m, r = .use k w v t m ∧ 1 ≤ m ∧ m ≤ 99 ∧ ((k = 0 ∧ ∃ j b, j < i ∧ T[j]? = some (.bench t b)) ∨ (k ≠ 0 ∧ ∃ j b c, j < i ∧ T[j]? = some (.store t b c)))
theorem UseOf.mono {T : List BR} {w v : Str} {i j : Nat} {r : BR} (h : UseOf T w v i r) (hij : i ≤ j) : UseOf T w v j r := by
 obtain ⟨k, t, m, e, m1, m2, h⟩ := h
 refine ⟨k, t, m, e, m1, m2, ?_⟩
 rcases h with ⟨e, j', b, h1, h2⟩ | ⟨e, j', b, c, h1, h2⟩
 ·exact .inl ⟨e, j', b, by omega, h2⟩
 ·exact .inr ⟨e, j', b, c, by omega, h2⟩
theorem Qdn {α : Type} {R : α → α → Prop} : ∀ {l : List α} {i j : Nat} {x y : α}, l.Pairwise R → i < j → l[i]? = some x → l[j]? = some y → R x y
 | a :: l, 0, j + 1, x, y, h, _, e1, e2 => by
  cases e1
  exact (jXa.mp h).1 y (yV (show l[j]? = some y from e2))
 | a :: l, i + 1, j + 1, x, y, h, hij, e1, e2 => Qdn (jXa.mp h).2 (by omega) (show l[i]? = some x from e1) (show l[j]? = some y from e2)
 | [], _, _, _, _, _, _, e1, _ => nomatch e1
 | _ :: _, _, 0, _, _, _, h, _, _ => absurd h (Nat.not_lt_zero _)
theorem Qkc : ∀ k' k : Fin 3, useW k' = useW k → k' = k := by decide +kernel
theorem Vz {T : List BR} {w v t : Str} {i : Nat} {k : Fin 3} {m : Int} {r : BR} (hT : T.Pairwise Apart) (h : UseOf T w v i r) (hi : (k = 0 ∧ ∃ b, T[i]? = some (.bench t b)) ∨ (k ≠ 0 ∧ ∃ b c, T[i]? = some (.store t b c))) : Apart r (.use k w v t m) := by
 obtain ⟨k', t', m', rfl, _, _, h⟩ := h
 refine .inr (.inr fun z => ?_)
 have z' : [(Sum.inr (useW k') : Key), Sum.inr w, Sum.inr v, Sum.inr t'] = [Sum.inr (useW k), Sum.inr w, Sum.inr v, Sum.inr t] := z
 injection z' with z1 z2
 injection z2 with _ z3
 injection z3 with _ z4
 injection z4 with z5
 injection z5 with z6
 injection z1 with z7
 have ek : k' = k := Qkc k' k z7
 subst ek z6
 rcases h with ⟨e, j, b, h1, h2⟩ | ⟨e, j, b, c, h1, h2⟩
 ·rcases hi with ⟨_, b', h3⟩ | ⟨e', _⟩
  ·rcases Qdn hT h1 h2 h3 with q | q | q
   ·exact absurd q (by show ¬ (("bench" : Str) = "shut"); decide +kernel)
   ·exact absurd q (by show ¬ (("bench" : Str) = "shut"); decide +kernel)
   ·exact q rfl
  ·exact e' e
 ·rcases hi with ⟨e', _⟩ | ⟨_, b', c', h3⟩
  ·exact e e'
  ·rcases Qdn hT h1 h2 h3 with q | q | q
   ·exact absurd q (by show ¬ (("store" : Str) = "shut"); decide +kernel)
   ·exact absurd q (by show ¬ (("store" : Str) = "shut"); decide +kernel)
   ·exact q rfl
theorem way_apart {w v w' v' t : Str} {l c m : Int} {k : Fin 3} : Apart (.way w v l c) (.use k w' v' t m) := Yw (by show (5 : Nat) ≠ 6 + k.val; omega)
structure WayBlk (n : Int) (T : List BR) (w v : Str) (R : List BR) : Prop where
 hd : ∃ l c U, R = .way w v l c :: U ∧ 1 ≤ l ∧ l ≤ n ∧ 0 ≤ c ∧ c ≤ 999999 ∧ ∀ r ∈ U, UseOf T w v T.length r
 nd : R.Pairwise Apart
 len : R.length ≤ 1 + 2 * T.length
def spWay (K : Fg) : Sp := fun vs H Q _ => ∃ (a d : Addr) (ns : List Int) (st n : Int) (w v : Str) (us : List V) (T : List BR), vs = [.ref a, .int st, .int n, .str w, .str v, .ref d] ∧ SqL K H a (ns.map V.int) ∧ 0 ≤ st ∧ st ≤ 1000 ∧ 1 ≤ n ∧ n ≤ 12 ∧ SqL K H d us ∧ RowsB H us T ∧ ThOk n T ∧ T.length ≤ 11 ∧
 ∀ (g : Addr) (vs : List V) (R : List BR) (H' : Hp), Same H H' → H g = none → H' g = some (.lst vs) → RowsB H' vs R → WayBlk n T w v R → Q (.ref g) H'
section
variable {P : Program} {w : World} {K : Fg} {mg : Str → Option Value} {base : Heap}
theorem scWay : FnScope ["_law_script", "_law_start", "_law_days", "_law_work", "_law_way_here", "_law_things_here", "_law_number", "_law_length_here", "_law_found", "_law_thing", "_law_many_here"] ["_law_script", "_law_start", "_law_days", "_law_work", "_law_way_here", "_law_things_here"] (Qi sWay) := ⟨rfl, rfl, rfl, by decide +kernel, rfl, by decide +kernel, by decide +kernel⟩
theorem okWay (F : Fn K mg "_law_way" sWay) (M : Mg mg) (cl_mixed : Cal P w K mg base 2 "_law_mixed" ["_law_script", "_law_k"] (Zy K)) : Cal P w K mg base 3 "_law_way" ["_law_script", "_law_start", "_law_days", "_law_work", "_law_way_here", "_law_things_here"] (spWay K) := by
 refine Ya F scWay (fun _ _ _ _ _ _ => bind6 (fun _ _ _ _ _ _ => rfl)) (fun vs H Q E h => ?_) (fun f cdv A outer s H vs Q E hr h => ?_)
 ·obtain ⟨a, d, ns, st, n, w, v, us, T, rfl, _⟩ := h
  rfl
 obtain ⟨a, d, ns, st, n, w, v, us, T, rfl, hS, st0, st1, n1, n12, hd, hT, tT, tl, q⟩ := h
 refine ⟨_, (Qh (Qr (i := 6) scWay.nd rfl (Or.inl rfl) (Xp cl_mixed (hr.mono (by decide)) (Qa (pv 0) (Qa (pv 1) Qf))))
  (Qh (Qr (i := 7) scWay.nd rfl (Or.inl rfl) (Qm Qz Qe (Qm Qy (pv 6) (Qs (Jw rfl) rfl M.min Qei (Qa (pv 2) (Qa (Qu Qq (Xf (Qa Qe (Qa Qe Qf))) (Qm Qy (Qm Xj (pv 6) Qe) Qe) (fun _ _ => rfl)) Qf))))))
  (Qh (Qr (i := 8) scWay.nd rfl (Or.inl rfl) (Xf (Qa (Xf (Qa Qx (Qa (pv 3) (Qa (pv 4) (Qa (pv 7) (Qa (Qu Qq (Xf (Qa (Qm Qy (Qm Xj (pv 6) Qe) Qe) (Qa (Qm Qy (Qm Xj (pv 6) Qe) Qe) Qf))) (Qm Qy (pv 6) Qe) (fun _ _ => rfl)) Qf)))))) Qf)))
  (Qh (Yq PassesOwn.never rfl (Xk (pv 5)) (Qt (i := 9) scWay.nd rfl (Or.inl rfl) (Or.inl rfl)) (Qh (Qr (i := 6) scWay.nd rfl (Or.inl rfl) (Qm Qz (Qm Qju (Xp cl_mixed (hr.mono (by decide)) (Qa (pv 0) (Qa (Qm Qz (pv 1) Qe) Qf))) (Qm Qz Qe (Qm Zg Qe (Qs Qv rfl M.len Yj (Qa (pv 8) Qf))))) (Qs Qv rfl M.len Yj (Qa (pv 8) Qf))))
  (Qh (Qr (i := 10) scWay.nd rfl (Or.inl rfl) (Qu Qq (Xf (Qa Qe (Qa Qe (Qa Qe Qf)))) (Qm Qy (Qm Xj (pv 6) Qe) Qe) (fun _ _ => rfl)))
  (Qh (Xx (PW.pt (Zr (Qp Ym (Qu Qq (pv 9) Qe (fun _ _ => rfl)) Qx (Qw _)) (Zc (Qp Qaf (Qm Qy (pv 6) Qe) Qe (Qw _))))) (Ql (Yn (Kw PySem.F.plainAttrs_list PySem.F.slot_list_append PySem.F.type_list_append Xw (pv 8) (Qa (Xf (Qa Qx (Qa (pv 3) (Qa (pv 4) (Qa (Qu Qq (pv 9) Qe (fun _ _ => rfl)) (Qa (pv 10) Qf)))))) Qf)))) Xa)
  (Qh (Xx (PW.pt (Zr (Qp Ym (Qu Qq (pv 9) Qe (fun _ _ => rfl)) Qx (Qw _)) (Zc (Qp Qmf (Qm Qy (pv 6) Qe) Qe (Qw _))))) (Ql (Yn (Kw PySem.F.plainAttrs_list PySem.F.slot_list_append PySem.F.type_list_append Xw (pv 8) (Qa (Xf (Qa (Qu Qq (Xf (Qa Qx (Qa Qx Qf))) (Qm Qy (pv 6) Qe) (fun _ _ => rfl)) (Qa (pv 3) (Qa (pv 4) (Qa (Qu Qq (pv 9) Qe (fun _ _ => rfl)) (Qa (pv 10) Qf)))))) Qf)))) Xa)
  (Ql (Xx (PW.pt (Zr (Qp Ym (Qu Qq (pv 9) Qe (fun _ _ => rfl)) Qx (Qw _)) (Zc (Qp Ym (Qm Qy (pv 6) Qe) Qe (Qw _))))) (Ql (Yn (Kw PySem.F.plainAttrs_list PySem.F.slot_list_append PySem.F.type_list_append Xw (pv 8) (Qa (Xf (Qa Qx (Qa (pv 3) (Qa (pv 4) (Qa (Qu Qq (pv 9) Qe (fun _ _ => rfl)) (Qa (Qm Qz Qe (Qm Qy (Qm Xj (pv 6) Qe) Qe)) Qf)))))) Qf)))) Xa)))))))
  (Ql (Xe (pv 8))))))), ?_⟩
 refine Qau ?_
 intro rT5 rT4 rT3 rT2
 have hz : (20000 : Nat) < sizeLine := by decide
 have lu := hT.length
 refine ⟨_, rfl, _, rfl, a, ns, st, rfl, hS, st0, by omega, fun z z0 z1 => ?_⟩
 refine ⟨_, rfl, _, rfl, by show 2 ≤ sizeLine; decide, fun p hp => ?_⟩
 have s1 := Qc hp (.lst [.int 3, .int 12])
 have hp1 : upd H p (.lst [.int 3, .int 12]) p = some (.lst [.int 3, .int 12]) := Qb
 generalize upd H p (.lst [.int 3, .int 12]) = H1 at s1 hp1 ⊢
 obtain ⟨m, em, hm⟩ := pick2 (a := 3) (b := 12) (z := z / 12)
 refine ⟨_, rfl, _, _, rfl, rfl, ⟨by decide, by decide⟩, _, _, rfl, rfl, (by show (0 : Int) < _; decide +kernel), p, _, _, _, rfl, rfl, Qd hp1, em, _, _, rfl, ?_⟩
 obtain ⟨mm, emm⟩ : ∃ mm : Int, (if m < n then m else n) = mm := ⟨_, rfl⟩
 have hmm : 1 ≤ mm ∧ mm ≤ n := by rw [← emm]; split <;> omega
 rw [emm]
 have l0 := xW z (show mm ≠ 0 by omega)
 have l1 := xX z (show 0 < mm by omega)
 refine ⟨_, _, rfl, rfl, (by show 0 < mm; omega), _, _, rfl, rfl, ?_⟩
 dsimp only
 generalize hL : 1 + z % mm = L
 have hL1 : 1 ≤ L ∧ L ≤ n := by omega
 refine ⟨_, rfl, _, rfl, _, rfl, _, rfl, _, _, rfl, rfl, ⟨by decide, by decide⟩, _, _, rfl, rfl, (by show (0 : Int) < _; decide +kernel), _, rfl, _, _, rfl, rfl, ⟨by decide, by decide⟩, _, _, rfl, rfl, (by show (0 : Int) < _; decide +kernel), by show 2 ≤ sizeLine; decide, fun p2 hp2 => ?_⟩
 have s2 := s1.trans (Qc hp2 (.lst [.int (z / 24 % 10), .int (z / 24 % 1000000)]))
 have hp22 : upd H1 p2 (.lst [.int (z / 24 % 10), .int (z / 24 % 1000000)]) p2 = some (.lst [.int (z / 24 % 10), .int (z / 24 % 1000000)]) := Qb
 generalize upd H1 p2 (.lst [.int (z / 24 % 10), .int (z / 24 % 1000000)]) = H2 at s2 hp22 ⊢
 obtain ⟨c, ec, hc⟩ := pick2 (a := z / 24 % 10) (b := z / 24 % 1000000) (z := z)
 have hc' : 0 ≤ c ∧ c ≤ 999999 := by omega
 refine ⟨_, rfl, _, _, rfl, rfl, (by show (0 : Int) < _; decide +kernel), p2, _, _, _, rfl, rfl, Qd hp22, ec, by show 5 ≤ sizeLine; decide, fun l hl => ?_⟩
 have s3 := s2.trans (Qc hl (.lst [.str "way", .str w, .str v, .int L, .int c]))
 have hl3 : upd H2 l (.lst [.str "way", .str w, .str v, .int L, .int c]) l = some (.lst ((BR.way w v L c).cells.map kV)) := Qb
 generalize upd H2 l (.lst [.str "way", .str w, .str v, .int L, .int c]) = H3 at s3 hl3 ⊢
 refine ⟨by show 1 ≤ sizeLine; decide, fun g hg => ?_⟩
 have gH : H g = none := by
  cases e5 : H g with
  | none => rfl
  | some o => rw [s3 _ _ e5] at hg; cases hg
 have s4 := s3.trans (Qc hg (.lst [.ref l]))
 have hg4 : upd H3 g (.lst [.ref l]) g = some (.lst [.ref l]) := Qb
 have hB4 : RowsB (upd H3 g (.lst [.ref l])) [.ref l] [.way w v L c] := RowsB.snoc (vs := []) (B := []) .nil (Qc hg _ _ _ hl3)
 generalize upd H3 g (.lst [.ref l]) = H4 at s4 hg4 hB4 ⊢
 let Pv7 : Nat → St → Hp → Prop := fun i σ H5 => ∃ (zz : Int) (v9 v10 : Option V) (vs : List V) (U : List BR), σ = [some (.ref a), some (.int st), some (.int n), some (.str w), some (.str v), some (.ref d), some (.int zz), some (.int L), some (.ref g), v9, v10] ∧ H5 g = some (.lst vs) ∧ RowsB H5 vs (.way w v L c :: U) ∧ (∀ r ∈ U, UseOf T w v i r) ∧ U.Pairwise Apart ∧ U.length ≤ 2 * i ∧ Same H H5
 refine ⟨_, rfl, d, rfl, ⟨_, s4.seq hd⟩, Kz (K := K) (a := d) (xs := us) Pv7 ⟨z, none, none, _, [], rfl, hg4, hB4, fun _ h => (nomatch h), .nil, wK _, s4⟩ (fun i σ H5 _ h => ?_) ?_ ?_⟩
 ·obtain ⟨zz, v9, v10, vs, U, rfl, hg5, hB5, hU, hnd, hlen, s5⟩ := h
  exact s5.seq hd
 ·rintro i x σ H5 e1 ⟨zz, v9, v10, vs, U, rfl, hg5, hB5, hU, hnd, hlen, s5⟩
  obtain ⟨r, lr, er, rfl, hr5⟩ := (hT.same s5).get e1
  have hi : i < T.length := (kJ.mp er).1
  have lv := hB5.length
  rw [yW] at lv
  refine ⟨_, rfl, _, rfl, _, _, rfl, rfl, a, ns, _, rfl, s5.seq hS, by omega, by omega, fun y y0 y1 => ?_⟩
  refine ⟨_, rfl, g, _, rfl, .inl (Qd hg5), _, _, rfl, rfl, mulC _ _ (by decide) (by decide), _, _, rfl, rfl, _, _, rfl, rfl, ?_, _, rfl, g, _, rfl, .inl (Qd hg5), _, _, rfl, rfl, ?_⟩
  ·exact ⟨by omega, xQ (show (1 + 5 * ((vs.length : Nat) : Int)).natAbs ≤ 1000000 by omega) (by decide +kernel)⟩
  dsimp only
  generalize y.fdiv (1 + 5 * ((vs.length : Nat) : Int)) + ((vs.length : Nat) : Int) = N
  refine ⟨by show 3 ≤ sizeLine; decide, fun p6 hp6 => ?_⟩
  have s6 := Qc hp6 (.lst [.int 1, .int 2, .int 99])
  have hp66 : upd H5 p6 (.lst [.int 1, .int 2, .int 99]) p6 = some (.lst [.int 1, .int 2, .int 99]) := Qb
  generalize upd H5 p6 (.lst [.int 1, .int 2, .int 99]) = H6 at s6 hp66 ⊢
  obtain ⟨mu, emu, hmu⟩ := pick3 (a := 1) (b := 2) (c := 99) (z := N / 4)
  have hmu' : 1 ≤ mu ∧ mu ≤ 99 := by omega
  refine ⟨_, rfl, _, _, rfl, rfl, ⟨by decide, by decide⟩, _, _, rfl, rfl, (by show (0 : Int) < _; decide +kernel), p6, _, _, _, rfl, rfl, Qd hp66, emu, ?_⟩
  have hr6 := s6 _ _ hr5
  have hg6 := s6 _ _ hg5
  have hB6 := hB5.same s6
  have s56 := s5.trans s6
  cases tT.th r (yV er) with
  | shut b f t =>
   refine ⟨_, rfl, lr, _, _, _, rfl, rfl, Qd hr6, Ky (x := "shut") rfl, rfl, _, rfl, ite2 (fun y' => absurd y' (neS w_hb)) (fun _ => ?_)⟩
   refine ⟨_, rfl, lr, _, _, _, rfl, rfl, Qd hr6, Ky (x := "shut") rfl, rfl, _, rfl, ite2 (fun y' => absurd y' (neS w_hs)) (fun _ => ?_)⟩
   refine ⟨_, rfl, lr, _, _, _, rfl, rfl, Qd hr6, Ky (x := "shut") rfl, rfl, _, rfl, ite2 (fun y' => absurd y' (neS w_hs)) (fun _ => ?_)⟩
   exact ⟨_, _, _, vs, U, rfl, hg6, hB6, fun r hr => (hU r hr).mono (by omega), hnd, by omega, s56⟩
  | bench b rm =>
   refine ⟨_, rfl, lr, _, _, _, rfl, rfl, Qd hr6, Ky (x := "bench") rfl, rfl, _, rfl, ite2 (fun _ => ?_) (fun y' => absurd (yesS _) y')⟩
   have key : ∀ (H7 : Hp) (vs7 : List V) (U7 : List BR), H7 lr = some (.lst ((BR.bench b rm).cells.map kV)) → H7 g = some (.lst vs7) → RowsB H7 vs7 (.way w v L c :: U7) → (∀ r ∈ U7, UseOf T w v (i + 1) r) → U7.Pairwise Apart → U7.length ≤ 2 * (i + 1) → Same H H7 → ∃ (zz : Int) (v9 v10 : Option V) (vs : List V) (U : List BR), [some (.ref a), some (.int st), some (.int n), some (.str w), some (.str v), some (.ref d), some (.int N), some (.int L), some (.ref g), some (.ref lr), some (.int mu)] = [some (.ref a), some (.int st), some (.int n), some (.str w), some (.str v), some (.ref d), some (.int zz), some (.int L), some (.ref g), v9, v10] ∧ H7 g = some (.lst vs) ∧ RowsB H7 vs (.way w v L c :: U) ∧ (∀ r ∈ U, UseOf T w v (i + 1) r) ∧ U.Pairwise Apart ∧ U.length ≤ 2 * (i + 1) ∧ Same H H7 :=
    fun H7 vs7 U7 _ h2 h3 h4 h5 h6 h7 => ⟨_, _, _, vs7, U7, rfl, h2, h3, h4, h5, h6, h7⟩
   refine ⟨_, rfl, _, _, rfl, rfl, (by show (0 : Int) < _; decide +kernel), _, _, rfl, rfl, _, rfl, ite2 (fun _ => ?_) (fun _ => ?_)⟩
   ·refine ⟨_, rfl, .inl ⟨rfl, _, Qd hg6⟩, _, rfl, _, rfl, _, rfl, lr, _, _, _, rfl, rfl, Qd hr6, at_b1 _ _, _, rfl, by show 5 ≤ sizeLine; decide, fun l7 hl7 => ?_⟩
    have s7 := Qc hl7 (.lst [.str "uses", .str w, .str v, .str b, .int mu])
    have hl77 : upd H6 l7 (.lst [.str "uses", .str w, .str v, .str b, .int mu]) l7 = some (.lst ((BR.use 0 w v b mu).cells.map kV)) := Qb
    generalize upd H6 l7 (.lst [.str "uses", .str w, .str v, .str b, .int mu]) = H7 at s7 hl77 ⊢
    have hg7 := s7 _ _ hg6
    refine ⟨g, _, _, rfl, rfl, hg7, by omega, ?_⟩
    have hB8 := ((hB6.same s7).snoc hl77).updL (zs := vs ++ [.ref l7]) hg7 hB6.noRow
    have hr8 : upd H7 g (.lst (vs ++ [.ref l7])) lr = some (.lst ((BR.bench b rm).cells.map kV)) := by rw [Qj (Yl (s7 _ _ hr6) hg7 fun e => Qaw hB6.noRow (.bench b rm) (HO.lst.inj e))]; exact s7 _ _ hr6
    have hg8 : upd H7 g (.lst (vs ++ [.ref l7])) g = some (.lst (vs ++ [.ref l7])) := Qb
    have s8 : Same H (upd H7 g (.lst (vs ++ [.ref l7]))) := fun c' o e => by rw [Qj (Qk e gH)]; exact (s56.trans s7) _ _ e
    generalize upd H7 g (.lst (vs ++ [.ref l7])) = H8 at hB8 hr8 hg8 s8 ⊢
    refine ⟨_, rfl, lr, _, _, _, rfl, rfl, Qd hr8, Ky (x := "bench") rfl, rfl, _, rfl, ite2 (fun y' => absurd y' (neS w_bs)) (fun _ => ?_)⟩
    refine ⟨_, rfl, lr, _, _, _, rfl, rfl, Qd hr8, Ky (x := "bench") rfl, rfl, _, rfl, ite2 (fun y' => absurd y' (neS w_bs)) (fun _ => ?_)⟩
    refine key H8 _ (U ++ [BR.use 0 w v b mu]) hr8 hg8 hB8 (fun r hr => ?_) (jQf.mpr ⟨hnd, jXc _ _, fun r hr q hq => ?_⟩) (by rw [jY]; show U.length + 1 ≤ _; omega) s8
    ·rcases kW.mp hr with h | h
     ·exact (hU r h).mono (by omega)
     ·rw [kQ.mp h]; exact ⟨0, b, mu, rfl, hmu'.1, hmu'.2, .inl ⟨rfl, i, rm, by omega, er⟩⟩
    ·rw [kQ.mp hq]; exact Vz tT.nd (hU r hr) (.inl ⟨rfl, rm, er⟩)
   ·refine ⟨_, rfl, lr, _, _, _, rfl, rfl, Qd hr6, Ky (x := "bench") rfl, rfl, _, rfl, ite2 (fun y' => absurd y' (neS w_bs)) (fun _ => ?_)⟩
    refine ⟨_, rfl, lr, _, _, _, rfl, rfl, Qd hr6, Ky (x := "bench") rfl, rfl, _, rfl, ite2 (fun y' => absurd y' (neS w_bs)) (fun _ => ?_)⟩
    exact key H6 vs U hr6 hg6 hB6 (fun r hr => (hU r hr).mono (by omega)) hnd (by omega) s56
  | store b rm ff =>
   refine ⟨_, rfl, lr, _, _, _, rfl, rfl, Qd hr6, Ky (x := "store") rfl, rfl, _, rfl, ite2 (fun y' => absurd y' (neS w_sb)) (fun _ => ?_)⟩
   have fin : ∀ (H7 : Hp) (vs7 : List V) (U7 : List BR), H7 g = some (.lst vs7) → RowsB H7 vs7 (.way w v L c :: U7) → (∀ r ∈ U7, UseOf T w v (i + 1) r) → U7.Pairwise Apart → U7.length ≤ 2 * (i + 1) → Same H H7 → ∃ (zz : Int) (v9 v10 : Option V) (vs : List V) (U : List BR), [some (.ref a), some (.int st), some (.int n), some (.str w), some (.str v), some (.ref d), some (.int N), some (.int L), some (.ref g), some (.ref lr), some (.int mu)] = [some (.ref a), some (.int st), some (.int n), some (.str w), some (.str v), some (.ref d), some (.int zz), some (.int L), some (.ref g), v9, v10] ∧ H7 g = some (.lst vs) ∧ RowsB H7 vs (.way w v L c :: U) ∧ (∀ r ∈ U, UseOf T w v (i + 1) r) ∧ U.Pairwise Apart ∧ U.length ≤ 2 * (i + 1) ∧ Same H H7 :=
    fun H7 vs7 U7 h2 h3 h4 h5 h6 h7 => ⟨_, _, _, vs7, U7, rfl, h2, h3, h4, h5, h6, h7⟩
   refine ⟨_, rfl, lr, _, _, _, rfl, rfl, Qd hr6, Ky (x := "store") rfl, rfl, _, rfl, ite2 (fun _ => ?_) (fun y' => absurd (yesS _) y')⟩
   refine ⟨_, rfl, _, _, rfl, rfl, (by show (0 : Int) < _; decide +kernel), rfl, _, rfl, ite2 (fun ne => ?_) (fun eq => ?_)⟩
   ·obtain ⟨kk, ekk, k0, k2⟩ := pickTG N
    refine ⟨_, rfl, .inl ⟨rfl, _, Qd hg6⟩, by show 2 ≤ sizeLine; decide, fun p7 hp7 => ?_⟩
    have s7a := Qc hp7 (.lst [.str "takes", .str "gives"])
    have hp77 : upd H6 p7 (.lst [.str "takes", .str "gives"]) p7 = some (.lst [.str "takes", .str "gives"]) := Qb
    generalize upd H6 p7 (.lst [.str "takes", .str "gives"]) = H7a at s7a hp77 ⊢
    refine ⟨_, rfl, _, _, rfl, rfl, (by show (0 : Int) < _; decide +kernel), p7, _, _, _, rfl, rfl, Qd hp77, ekk, _, rfl, _, rfl, _, rfl, lr, _, _, _, rfl, rfl, Qd (s7a _ _ hr6), at_s1 _ _ _, _, rfl, by show 5 ≤ sizeLine; decide, fun l7 hl7 => ?_⟩
    have s7 := s7a.trans (Qc hl7 (.lst [.str (useW kk), .str w, .str v, .str b, .int mu]))
    have hl77 : upd H7a l7 (.lst [.str (useW kk), .str w, .str v, .str b, .int mu]) l7 = some (.lst ((BR.use kk w v b mu).cells.map kV)) := Qb
    generalize upd H7a l7 (.lst [.str (useW kk), .str w, .str v, .str b, .int mu]) = H7 at s7 hl77 ⊢
    have hg7 := s7 _ _ hg6
    refine ⟨g, _, _, rfl, rfl, hg7, by omega, ?_⟩
    have hB8 := ((hB6.same s7).snoc hl77).updL (zs := vs ++ [.ref l7]) hg7 hB6.noRow
    have hr8 : upd H7 g (.lst (vs ++ [.ref l7])) lr = some (.lst ((BR.store b rm ff).cells.map kV)) := by rw [Qj (Yl (s7 _ _ hr6) hg7 fun e => Qaw hB6.noRow (.store b rm ff) (HO.lst.inj e))]; exact s7 _ _ hr6
    have hg8 : upd H7 g (.lst (vs ++ [.ref l7])) g = some (.lst (vs ++ [.ref l7])) := Qb
    have s8 : Same H (upd H7 g (.lst (vs ++ [.ref l7]))) := fun c' o e => by rw [Qj (Qk e gH)]; exact (s56.trans s7) _ _ e
    generalize upd H7 g (.lst (vs ++ [.ref l7])) = H8 at hB8 hr8 hg8 s8 ⊢
    have hU8 : ∀ r ∈ U ++ [BR.use kk w v b mu], UseOf T w v (i + 1) r := fun r hr => by
     rcases kW.mp hr with h | h
     ·exact (hU r h).mono (by omega)
     ·rw [kQ.mp h]; exact ⟨kk, b, mu, rfl, hmu'.1, hmu'.2, .inr ⟨k0, i, rm, ff, by omega, er⟩⟩
    have hn8 : (U ++ [BR.use kk w v b mu]).Pairwise Apart := jQf.mpr ⟨hnd, jXc _ _, fun r hr q hq => by
     rw [kQ.mp hq]; exact Vz tT.nd (hU r hr) (.inr ⟨k0, rm, ff, er⟩)⟩
    have hl8 : (U ++ [BR.use kk w v b mu]).length = U.length + 1 := by rw [jY]; rfl
    refine ⟨_, rfl, lr, _, _, _, rfl, rfl, Qd hr8, Ky (x := "store") rfl, rfl, _, rfl, ite2 (fun _ => ?_) (fun y' => absurd (yesS _) y')⟩
    refine ⟨_, rfl, _, _, rfl, rfl, (by show (0 : Int) < _; decide +kernel), rfl, _, rfl, ite2 (fun y3 => ?_) (fun _ => ?_)⟩
    ·have e3 : N % 4 = 3 := by
      have := kY y3
      injection this
     have ek2 : kk = 2 := k2 (by omega)
     subst ek2
     have c0 := xW (N / 12) (show (99 : Int) ≠ 0 by decide)
     have c1 := xX (N / 12) (show (0 : Int) < 99 by decide)
     refine ⟨_, rfl, .inl ⟨rfl, _, Qd hg8⟩, _, rfl, _, rfl, _, rfl, lr, _, _, _, rfl, rfl, Qd hr8, at_s1 _ _ _, _, rfl, _, _, rfl, rfl, ⟨by decide, by decide⟩, _, _, rfl, rfl, (by show (0 : Int) < _; decide +kernel), _, _, rfl, rfl, by show 5 ≤ sizeLine; decide, fun l9 hl9 => ?_⟩
     have s9 := Qc hl9 (.lst [.str "takes", .str w, .str v, .str b, .int (1 + N / 12 % 99)])
     have hl99 : upd H8 l9 (.lst [.str "takes", .str w, .str v, .str b, .int (1 + N / 12 % 99)]) l9 = some (.lst ((BR.use 1 w v b (1 + N / 12 % 99)).cells.map kV)) := Qb
     generalize upd H8 l9 (.lst [.str "takes", .str w, .str v, .str b, .int (1 + N / 12 % 99)]) = H9 at s9 hl99 ⊢
     have hg9 := s9 _ _ hg8
     refine ⟨g, _, _, rfl, rfl, hg9, by rw [jY]; show vs.length + 1 < _; omega, ?_⟩
     have hB10 := ((hB8.same s9).snoc hl99).updL (zs := vs ++ [.ref l7] ++ [.ref l9]) hg9 hB8.noRow
     refine fin _ _ (U ++ [BR.use 2 w v b mu] ++ [BR.use 1 w v b (1 + N / 12 % 99)]) Qb hB10 (fun r hr => ?_) (jQf.mpr ⟨hn8, jXc _ _, fun r hr q hq => ?_⟩) (by rw [jY, hl8]; show U.length + 1 + 1 ≤ _; omega) (fun c' o e => by rw [Qj (Qk e gH)]; exact (s8.trans s9) _ _ e)
     ·rcases kW.mp hr with h | h
      ·exact hU8 r h
      ·rw [kQ.mp h]; exact ⟨1, b, _, rfl, by omega, by omega, .inr ⟨by decide, i, rm, ff, by omega, er⟩⟩
     ·rw [kQ.mp hq]
      rcases kW.mp hr with h | h
      ·exact Vz tT.nd (hU r h) (.inr ⟨by decide, rm, ff, er⟩)
      ·rw [kQ.mp h]; exact Ww (by show ¬ (("gives" : Str) = "takes"); decide +kernel)
    ·exact fin H8 _ (U ++ [BR.use kk w v b mu]) hg8 hB8 hU8 hn8 (by rw [hl8]; omega) s8
   ·have e0 : N % 4 = 0 := by
     by_cases e0 : N % 4 = 0
     ·exact e0
     ·exact absurd (show (!decide (V.int (N % 4) = V.int 0)) = true by rw [Bool.not_eq_true', decide_eq_false_iff_not]; intro z'; injection z' with z'; exact e0 z') eq
    refine ⟨_, rfl, lr, _, _, _, rfl, rfl, Qd hr6, Ky (x := "store") rfl, rfl, _, rfl, ite2 (fun _ => ?_) (fun y' => absurd (yesS _) y')⟩
    refine ⟨_, rfl, _, _, rfl, rfl, (by show (0 : Int) < _; decide +kernel), rfl, _, rfl, ite2 (fun y3 => ?_) (fun _ => ?_)⟩
    ·have := kY y3
     injection this with e3
     omega
    ·exact fin H6 vs U hg6 hB6 (fun r hr => (hU r hr).mono (by omega)) hnd (by omega) s56
 ·rintro σ H5 ⟨zz, v9, v10, vs, U, rfl, hg5, hB5, hU, hnd, hlen, s5⟩
  rw [lu] at hU
  refine ⟨_, rfl, q g vs _ H5 s5 gH hg5 hB5 ⟨⟨L, c, U, rfl, hL1.1, hL1.2, hc'.1, hc'.2, hU⟩, jXa.mpr ⟨fun r hr => ?_, hnd⟩, by rw [yW]; omega⟩⟩
  obtain ⟨k, t, m', rfl, _⟩ := hU r hr
  exact way_apart
end
abbrev sPut : Stmt := top 26
def ownN (k : Nat) (ns : List Str) : List Str := if k = 9 then ns else if k ≤ 3 then [] else ns.take 1
theorem Qlr (r : BR) : r.own = ownN r.kind r.names := by
 cases r with
 | use k w v t m =>
  have hk := k.isLt
  show [w] = ownN (6 + k.val) [w, v, t]
  unfold ownN
  rw [if_neg (by omega), if_neg (by omega)]
  rfl
 | _ => rfl
theorem Qdo {r q : BR} (h : r.key = q.key) {w : Str} (hw : w ∈ q.own) : w ∈ r.own := by
 have h' : ((Sum.inr r.word : Key) :: r.names.map Sum.inr) = Sum.inr q.word :: q.names.map Sum.inr := h
 injection h' with h1 h2
 have e1 : r.word = q.word := Sum.inr.inj h1
 have e2 : r.names = q.names := (List.map_inj_right fun x y e => Sum.inr.inj e).mp h2
 have e3 : r.kind = q.kind := Kn _ (Vw r) _ (Vw q) (by rw [← Km, ← Km]; exact e1)
 rw [Qlr, e2, e3, ← Qlr]
 exact hw
structure WkOk (n : Int) (nm : List Str) (W : List BR) : Prop where
 ok : ∀ r ∈ W, r.ok n
 nd : W.Pairwise Apart
 own : ∀ r ∈ W, r.own ≠ [] ∧ ∀ w ∈ r.own, w ∈ nm
 wk : ∀ w ∈ nm, BR.work w ∈ W
 nl : ∀ w ∈ nm, w.length ≤ 12
def OfWay (w : Str) (j : Nat) (r : BR) : Prop := ∃ v, fl v < 97 + j ∧ ((∃ l c, r = .way w v l c) ∨ ∃ k t m, r = .use k w v t m)
theorem OfWay.own {w : Str} {j : Nat} {r : BR} (h : OfWay w j r) : r.own = [w] := by
 obtain ⟨v, _, ⟨l, c, rfl⟩ | ⟨k, t, m, rfl⟩⟩ := h
 ·rfl
 ·rfl
theorem OfWay.mono {w : Str} {i j : Nat} {r : BR} (h : OfWay w i r) (hij : i ≤ j) : OfWay w j r := by
 obtain ⟨v, h1, h2⟩ := h
 exact ⟨v, by omega, h2⟩
theorem Qho {n : Int} {T : List BR} {w v : Str} {j : Nat} {R : List BR} {r q : BR} (hr : OfWay w j r) (hv : fl v = 97 + j) (hR : WayBlk n T w v R) (hq : q ∈ R) : Apart r q := by
 obtain ⟨l, c, U, rfl, _, _, _, _, hU⟩ := hR.hd
 obtain ⟨v', h1, h2⟩ := hr
 have ne : v' ≠ v := fun z => by rw [z] at h1; omega
 have hq' : (∃ l c, q = .way w v l c) ∨ ∃ k t m, q = .use k w v t m := by
  rcases yJ.mp hq with e | e
  ·exact .inl ⟨l, c, e⟩
  ·obtain ⟨k, t, m, e1, _⟩ := hU q e
   exact .inr ⟨k, t, m, e1⟩
 have kv : ∀ {a b : Str} {x y : List Key}, (Sum.inr a :: (Sum.inr w : Key) :: Sum.inr v' :: x) = (Sum.inr b :: Sum.inr w :: Sum.inr v :: y) → False := fun z => by
  injection z with _ z2
  injection z2 with _ z3
  injection z3 with z4
  injection z4 with z5
  exact ne z5
 rcases h2 with ⟨l', c', rfl⟩ | ⟨k', t', m', rfl⟩
 ·rcases hq' with ⟨l2, c2, rfl⟩ | ⟨k2, t2, m2, rfl⟩
  ·exact .inr (.inr fun z => kv z)
  ·exact way_apart
 ·rcases hq' with ⟨l2, c2, rfl⟩ | ⟨k2, t2, m2, rfl⟩
  ·exact way_apart.symm
  ·exact .inr (.inr fun z => kv z)
theorem blk_of {n : Int} {T : List BR} {w v : Str} {j : Nat} {R : List BR} (hv : fl v = 97 + j) (hR : WayBlk n T w v R) : (∀ q ∈ R, OfWay w (j + 1) q) ∧ ∀ q ∈ R, q.ok n := by
 obtain ⟨l, c, U, rfl, h1, h2, h3, h4, hU⟩ := hR.hd
 refine ⟨fun q hq => ?_, fun q hq => ?_⟩
 ·rcases yJ.mp hq with e | e
  ·exact ⟨v, by omega, .inl ⟨l, c, e⟩⟩
  ·obtain ⟨k, t, m, e1, _⟩ := hU q e
   exact ⟨v, by omega, .inr ⟨k, t, m, e1⟩⟩
 ·rcases yJ.mp hq with e | e
  ·rw [e]; exact ⟨h1, h2, h3, h4⟩
  ·obtain ⟨k, t, m, e1, m1, m2, _⟩ := hU q e
   rw [e1]; exact ⟨m1, m2⟩
structure BlkOk (n : Int) (nm : List Str) (w : Str) (W Y : List BR) : Prop where
 ok : ∀ r ∈ Y, r.ok n
 nd : Y.Pairwise Apart
 own : ∀ r ∈ Y, w ∈ r.own ∧ ∀ x ∈ r.own, x ∈ nm ++ [w]
theorem BlkOk.snoc {n : Int} {nm : List Str} {w : Str} {W Y : List BR} {r : BR} (h : BlkOk n nm w W Y) (h1 : r.ok n) (h2 : w ∈ r.own) (h3 : ∀ x ∈ r.own, x ∈ nm ++ [w]) (h4 : ∀ q ∈ Y, Apart q r) : BlkOk n nm w W (Y ++ [r]) := by
 refine ⟨fun q hq => ?_, jQf.mpr ⟨h.nd, jXc _ _, fun a ha b hb => ?_⟩, fun q hq => ?_⟩
 ·rcases kW.mp hq with z | z
  ·exact h.ok q z
  ·rw [kQ.mp z]; exact h1
 ·rw [kQ.mp hb]; exact h4 a ha
 ·rcases kW.mp hq with z | z
  ·exact h.own q z
  ·rw [kQ.mp z]; exact ⟨h2, h3⟩
theorem WkOk.join {n : Int} {nm : List Str} {w : Str} {W Y : List BR} (h : WkOk n nm W) (hw : w ∉ nm) (hl : w.length ≤ 12) (b : BlkOk n nm w W Y) (hk : BR.work w ∈ Y) : WkOk n (nm ++ [w]) (W ++ Y) := by
 refine ⟨fun r hr => ?_, jQf.mpr ⟨h.nd, b.nd, fun r hr q hq => ?_⟩, fun r hr => ?_, fun x hx => ?_, fun x hx => ?_⟩
 ·rcases kW.mp hr with z | z
  ·exact h.ok r z
  ·exact b.ok r z
 ·refine .inr (.inr fun z => hw ?_)
  exact (h.own r hr).2 w (Qdo z (b.own q hq).1)
 ·rcases kW.mp hr with z | z
  ·exact ⟨(h.own r z).1, fun x hx => jXb _ ((h.own r z).2 x hx)⟩
  ·exact ⟨fun e => (by have := (b.own r z).1; rw [e] at this; exact nomatch this), (b.own r z).2⟩
 ·rcases kW.mp hx with z | z
  ·exact jXb _ (h.wk x z)
  ·rw [kQ.mp z]; exact zX _ hk
 ·rcases kW.mp hx with z | z
  ·exact h.nl x z
  ·rw [kQ.mp z]; exact hl
theorem Qay (ks : List Key) (lo hi : Option Int) : ∃ ls : List Key, cutV (ks.map kV) lo hi = ls.map kV := by
 unfold cutV
 rw [jZ]
 exact ⟨(ks.drop (HT.sIx ks.length 0 lo)).take (HT.sIx ks.length ks.length hi - HT.sIx ks.length 0 lo), by rw [List.map_take, List.map_drop]⟩
theorem flat_keys (ks : List Key) : (ks.map kV).all Yt = true := by
 rw [jZc]
 intro v hv
 obtain ⟨k, _, rfl⟩ := zV.mp hv
 exact Qar k
theorem in3 {a b c : Str} {r : BR} (h : inV (.str r.word) [.str a, .str b, .str c] = true) : a = r.word ∨ b = r.word ∨ c = r.word := by
 have h' : (a == r.word || (b == r.word || (c == r.word || false))) = true := h
 simp only [kXf, beq_iff_eq, jZd, or_false] at h'
 exact h'
theorem cell1 {r : BR} (h : ("bench" : Str) = r.word ∨ ("store" : Str) = r.word ∨ ("work" : Str) = r.word) : ∃ x : Str, atI (r.cells.map kV) 1 = some (.str x) := by
 cases r with
 | days n =>
  rcases h with h | h | h
  ·exact absurd h (by show ¬ (("bench" : Str) = "days"); decide +kernel)
  ·exact absurd h (by show ¬ (("store" : Str) = "days"); decide +kernel)
  ·exact absurd h (by show ¬ (("work" : Str) = "days"); decide +kernel)
 | bench b r => exact ⟨b, rfl⟩
 | shut b f t => exact ⟨b, rfl⟩
 | store s m f => exact ⟨s, rfl⟩
 | work w => exact ⟨w, rfl⟩
 | way w v l c => exact ⟨w, rfl⟩
 | use k w v t m => exact ⟨w, rfl⟩
 | after w x g => exact ⟨w, rfl⟩
 | late w d c => exact ⟨w, rfl⟩
theorem Ko {t1 t2 : TS} {D : Ends} {σ : St} {H : Hp} (Pv : St → Hp → Prop) (h2 : ∀ σ' H', Pv σ' H' → t2 D σ' H') (h1 : (∀ σ' H', Pv σ' H' → t2 D σ' H') → t1 { D with nx := t2 D } σ H) : tSeq t1 t2 D σ H := h1 h2
def spPut (K : Fg) : Sp := fun vs H Q _ => ∃ (d l : Addr) (z : Int) (us : List V) (B : List BR) (r : BR), vs = [.ref d, .ref l, .int z] ∧ H d = some (.lst us) ∧ RowsB H us B ∧ 1 ≤ B.length ∧ B.length ≤ 1000 ∧ H l = some (.lst (r.cells.map kV)) ∧
 ∀ (g : Addr) (k : Nat) (H' : Hp), 1 ≤ k → k ≤ B.length → Same H H' → H g = none → H' g = some (.lst (us.take k ++ [.ref l] ++ us.drop k)) → Q (.ref g) H'
section
variable {P : Program} {w : World} {K : Fg} {mg : Str → Option Value} {base : Heap}
theorem scPut : FnScope ["_law_rows", "_law_row", "_law_number", "_law_least", "_law_k", "_law_at"] ["_law_rows", "_law_row", "_law_number"] (Qi sPut) := ⟨rfl, rfl, rfl, by decide +kernel, rfl, by decide +kernel, by decide +kernel⟩
theorem okPut (F : Fn K mg "_law_put" sPut) (M : Mg mg) : Cal P w K mg base 1 "_law_put" ["_law_rows", "_law_row", "_law_number"] (spPut K) := by
 refine Ya F scPut (fun _ _ _ _ _ _ => Qfn (fun _ _ _ => rfl)) (fun vs H Q E h => ?_) (fun f cdv A outer s H vs Q E hr h => ?_)
 ·obtain ⟨d, l, z, us, B, r, rfl, _⟩ := h
  rfl
 obtain ⟨d, l, z, us, B, r, rfl, hd, hB, b1, b2, hl, q⟩ := h
 have hu6 : (A.deeper (PyProof.Rows.envOfC "_law_put" (Qi sPut) s.heap.objs.size f cdv)).units + 6 < cLine := xQ (xV (by decide) _) hr.un
 refine ⟨_, (Qh (Qr (i := 3) scPut.nd rfl (Or.inl rfl) Qe)
  (Qh (Yq PassesOwn.never rfl (Xy rfl M.range_ (Qa (Qs Qv rfl M.len Yj (Qa (pv 0) Qf)) Qf)) (Qt (i := 4) scPut.nd rfl (Or.inl rfl) (Or.inl rfl)) (Qh (Xx (PW.pt (Zr (Qp Qbv (Qu Qq (Qu Qq (pv 0) (pv 4) (fun _ _ => rfl)) Qe (fun _ _ => rfl)) (Xf (Qa Qx (Qa Qx (Qa Qx Qf)))) rfl) (Zc (Qp Qbv (Qu Qq (Qu Qq (pv 0) (pv 4) (fun _ _ => rfl)) Qe (fun _ _ => rfl)) (Yc Jl (pv 1) (Yf Qe) Zd) rfl)))) (Ql (Qr (i := 3) scPut.nd rfl (Or.inl rfl) (Qm Qz (pv 4) Qe))) Xa)
  (Ql (Xx (PW.pt (Zr (Qp Ym (Qu Qq (Qu Qq (pv 0) (pv 4) (fun _ _ => rfl)) Qe (fun _ _ => rfl)) Qx (Qw _)) (Zc (Qp (op_eqK (K := K) (n := 6) rfl hu6) (Yc Jl (Qu Qq (pv 0) (pv 4) (fun _ _ => rfl)) (Yf Qe) (Yf Qe)) (Yc Jl (pv 1) (Yf Qe) (Yf Qe)) (Qw _))))) (Ql (Qr (i := 3) scPut.nd rfl (Or.inl rfl) (Qm Qz (pv 4) Qe))) Xa))))
  (Qh (Qr (i := 5) scPut.nd rfl (Or.inl rfl) (Qm Qz (pv 3) (Qm Qy (pv 2) (Qm Qz (Qm Vi (Qs Qv rfl M.len Yj (Qa (pv 0) Qf)) (pv 3)) Qe))))
  (Ql (Xe (Qm Ji (Qm Ji (Yc Jl (pv 0) Zd (Yf (pv 5))) (Xf (Qa (pv 1) Qf))) (Yc Jl (pv 0) (Yf (pv 5)) Zd))))))), ?_⟩
 refine Kf ?_
 intro rT4 rT3 rT2
 have hz : (20000 : Nat) < sizeLine := by decide
 have lu := hB.length
 let Pv8 : Nat → St → Hp → Prop := fun i σ H1 => ∃ (le : Nat) (v5 v6 : Option V), σ = [some (.ref d), some (.ref l), some (.int z), some (.int ((le : Nat) : Int)), v5, v6] ∧ 1 ≤ le ∧ le ≤ B.length ∧ Same H H1
 refine ⟨_, rfl, d, _, rfl, .inl (Qd hd), _, rfl, by omega, by omega, Xv (lo := 0) (n := Int.toNat ((us.length : Nat) : Int)) Pv8 ⟨1, none, none, rfl, jX _, b1, Same.refl _⟩ ?_ ?_⟩
 ·rintro i σ H1 hi ⟨le, v5, v6, rfl, e1, e2, s1⟩
  have hi' : i < us.length := by omega
  obtain ⟨q0, lr, er, ev, hr⟩ := (hB.same s1).get (gE hi')
  have ai : atI us (0 + (i : Int)) = some (.ref lr) := by
   rw [show (0 : Int) + (i : Int) = ((i : Nat) : Int) by omega]
   exact Qdh (by rw [gE hi', ev])
  have si : (0 : Int) + (i : Int) + 1 = ((i + 1 : Nat) : Int) := by omega
  refine Ko (fun σ' H' => ∃ (le' : Nat) (v6 : Option V), σ' = [some (.ref d), some (.ref l), some (.int z), some (.int ((le' : Nat) : Int)), some (.int (0 + (i : Int))), v6] ∧ 1 ≤ le' ∧ le' ≤ B.length ∧ Same H1 H') ?_ fun REST => ?_
  ·rintro σ' H2 ⟨le', v6', rfl, e1', e2', s2⟩
   have hr2 := s2 _ _ hr
   have hd2 := (s1.trans s2) _ _ hd
   have hl2 := (s1.trans s2) _ _ hl
   refine ⟨_, rfl, _, rfl, d, _, _, _, rfl, rfl, Qd hd2, ai, lr, _, _, _, rfl, rfl, Qd hr2, Yp _, rfl, _, rfl, ite2 (fun _ => ?_) (fun _ => ?_)⟩
   ·refine ⟨_, rfl, _, rfl, d, _, _, _, rfl, rfl, Qd hd2, ai, _, rfl, _, rfl, lr, _, rfl, Qd hr2, fun p hp => ?_⟩
    obtain ⟨ks, ek⟩ := Qay q0.cells (some 1) (some 3)
    rw [ek]
    have s3 := Qc hp (.lst (ks.map kV))
    refine ⟨_, rfl, _, rfl, _, rfl, l, _, rfl, Qd (s3 _ _ hl2), fun p' hp' => ?_⟩
    obtain ⟨ls, el⟩ := Qay r.cells (some 1) (some 3)
    rw [el]
    have s4 := Qc hp' (.lst (ls.map kV))
    refine ⟨p, p', ks, ls, rfl, rfl, Qd (s4 _ _ Qb), Qd Qb, fun c hc => ⟨_, rfl, ite2 (fun _ => ?_) (fun _ => ?_)⟩⟩
    ·refine ⟨_, rfl, _, _, rfl, rfl, ?_⟩
     dsimp only
     rw [si]
     exact ⟨i + 1, _, _, rfl, by omega, by omega, ((s1.trans s2).trans s3).trans s4⟩
    ·exact ⟨le', _, _, rfl, e1', e2', ((s1.trans s2).trans s3).trans s4⟩
   ·exact ⟨le', _, _, rfl, e1', e2', s1.trans s2⟩
  ·refine ⟨_, rfl, _, rfl, d, _, _, _, rfl, rfl, Qd (s1 _ _ hd), ai, lr, _, _, _, rfl, rfl, Qd hr, Yp _, by show 3 ≤ sizeLine; decide, fun p hp => ?_⟩
   have s3 := Qc hp (.lst [.str "bench", .str "store", .str "work"])
   have hr3 := s3 _ _ hr
   have hd3 := (s1.trans s3) _ _ hd
   have hl3 := (s1.trans s3) _ _ hl
   refine ⟨p, _, rfl, .inl (Qd Qb), rfl, rfl, _, rfl, ite2 (fun y => ?_) (fun _ => ?_)⟩
   ·obtain ⟨x, ex⟩ := cell1 (in3 y)
    refine ⟨_, rfl, _, rfl, d, _, _, _, rfl, rfl, Qd hd3, ai, lr, _, _, _, rfl, rfl, Qd hr3, ex, _, rfl, _, rfl, l, _, rfl, Qd hl3, fun p' hp' => ?_⟩
    obtain ⟨ls, el⟩ := Qay r.cells (some 1) none
    rw [el]
    have s4 := s3.trans (Qc hp' (.lst (ls.map kV)))
    refine ⟨p', _, rfl, .inl (Qd Qb), rfl, flat_keys ls, _, rfl, ite2 (fun _ => ?_) (fun _ => ?_)⟩
    ·refine ⟨_, rfl, _, _, rfl, rfl, ?_⟩
     dsimp only
     rw [si]
     exact REST _ _ ⟨i + 1, _, rfl, by omega, by omega, s4⟩
    ·exact REST _ _ ⟨le, _, rfl, e1, e2, s4⟩
   ·exact REST _ _ ⟨le, _, rfl, e1, e2, s3⟩
 ·rintro σ H1 ⟨le, v5, v6, rfl, e1, e2, s1⟩
  have hd1 := s1 _ _ hd
  have p0 : (0 : Int) < ((us.length : Nat) : Int) - ((le : Nat) : Int) + 1 := by omega
  have m0 := xW z (kXe p0)
  have m1 := xX z p0
  refine ⟨_, rfl, _, rfl, _, rfl, d, _, rfl, .inl (Qd hd1), _, rfl, _, _, rfl, rfl, _, _, rfl, rfl, _, _, rfl, rfl, p0, _, _, rfl, rfl, ?_⟩
  obtain ⟨k, ek⟩ : ∃ k : Nat, ((le : Nat) : Int) + z % (((us.length : Nat) : Int) - ((le : Nat) : Int) + 1) = ((k : Nat) : Int) := ⟨(((le : Nat) : Int) + z % (((us.length : Nat) : Int) - ((le : Nat) : Int) + 1)).toNat, by omega⟩
  have k1 : 1 ≤ k ∧ k ≤ us.length := by omega
  dsimp only
  rw [ek]
  have c1 : cutV us none (some ((k : Nat) : Int)) = us.take k := by
   unfold cutV
   rw [HT.sIx_none, HT.sIx_nat, jJa k1.2, kQa, Nat.sub_zero]
  have c2 : cutV us (some ((k : Nat) : Int)) none = us.drop k := by
   unfold cutV
   rw [HT.sIx_none, HT.sIx_nat, jJa k1.2, ← jZb, kX]
  refine ⟨_, rfl, _, rfl, _, rfl, d, _, rfl, Qd hd1, fun p hp => ?_⟩
  rw [c1]
  have s2 := Qc hp (.lst (us.take k))
  refine ⟨_, rfl, by show 1 ≤ sizeLine; decide, fun p2 hp2 => ?_⟩
  have s3 := Qc hp2 (.lst [.ref l])
  refine ⟨p, p2, _, _, rfl, rfl, s3 _ _ Qb, Qb, by rw [xZ]; show min k us.length + 1 ≤ _; omega, fun p3 hp3 => ?_⟩
  have s4 := Qc hp3 (.lst (us.take k ++ [.ref l]))
  have s24 := (s2.trans s3).trans s4
  refine ⟨_, rfl, _, rfl, _, rfl, d, _, rfl, Qd (s24 _ _ hd1), fun p4 hp4 => ?_⟩
  rw [c2]
  have s5 := Qc hp4 (.lst (us.drop k))
  refine ⟨p3, p4, _, _, rfl, rfl, s5 _ _ Qb, Qb, by rw [jY, xZ, jZb]; show min k us.length + 1 + _ ≤ _; omega, fun g hg => ?_⟩
  have s6 := Qc hg (.lst (us.take k ++ [.ref l] ++ us.drop k))
  have s16 := s1.trans ((s24.trans s5).trans s6)
  have gH : H g = none := by
   cases e5 : H g with
   | none => rfl
   | some o => rw [(s1.trans (s24.trans s5)) _ _ e5] at hg; cases hg
  exact q g k _ k1.1 (by omega) s16 gH Qb
end
abbrev Qeq : Stmt := top 25
theorem pick8 {a b c d e f g h z : Int} : ∃ m : Int, atI [V.int a, V.int b, V.int c, V.int d, V.int e, V.int f, V.int g, V.int h] (z % 8) = some (.int m) ∧ (m = a ∨ m = b ∨ m = c ∨ m = d ∨ m = e ∨ m = f ∨ m = g ∨ m = h) := by
 rcases (show z % 8 = 0 ∨ z % 8 = 1 ∨ z % 8 = 2 ∨ z % 8 = 3 ∨ z % 8 = 4 ∨ z % 8 = 5 ∨ z % 8 = 6 ∨ z % 8 = 7 by omega) with q | q | q | q | q | q | q | q <;> rw [q]
 ·exact ⟨a, rfl, by omega⟩
 ·exact ⟨b, rfl, by omega⟩
 ·exact ⟨c, rfl, by omega⟩
 ·exact ⟨d, rfl, by omega⟩
 ·exact ⟨e, rfl, by omega⟩
 ·exact ⟨f, rfl, by omega⟩
 ·exact ⟨g, rfl, by omega⟩
 ·exact ⟨h, rfl, by omega⟩
theorem Qfr {r : BR} {nm : List Str} (h : r.nums ≠ []) : r.cells.map kV ≠ nm.map V.str := fun e => by
 obtain ⟨z, zs, ez⟩ : ∃ z zs, r.nums = z :: zs := by
  cases hn : r.nums with
  | nil => exact absurd hn h
  | cons z zs => exact ⟨z, zs, rfl⟩
 have h1 : V.int z ∈ r.cells.map kV := by
  unfold BR.cells
  rw [ez, yQ]
  exact zX _ jK
 rw [e] at h1
 obtain ⟨x, _, e2⟩ := zV.mp h1
 cases e2
theorem Qkd {n : Int} {T : List BR} {w v : Str} {R : List BR} (hR : WayBlk n T w v R) : ∀ q ∈ R, q.nums ≠ [] := fun q hq => by
 obtain ⟨l, c, U, rfl, _, _, _, _, hU⟩ := hR.hd
 rcases yJ.mp hq with e | e
 ·rw [e]; exact fun z => nomatch z
 ·obtain ⟨k, t, m, e1, _⟩ := hU q e
  rw [e1]; exact fun z => nomatch z
theorem RowsB.mem {H : Hp} {vs : List V} {B : List BR} (h : RowsB H vs B) {l : Addr} (hm : V.ref l ∈ vs) : ∃ r ∈ B, H l = some (.lst (r.cells.map kV)) := by
 obtain ⟨i, e⟩ := wW.mp hm
 obtain ⟨r, l', e1, e2, h1⟩ := h.get e
 cases e2
 exact ⟨r, yV e1, h1⟩
theorem Vb {t1 t2 : TS} {D : Ends} {i : Nat} {x : V} {σ : St} {H : Hp} (Pv : St → Hp → Prop) (h2 : ∀ σ' H', Pv σ' H' → t2 D σ' H') (h1 : (∀ σ' H', Pv σ' H' → t2 D σ' H') → t1 { D with nx := t2 D } (σ.set i (some x)) H) : Qbm i x σ H ({ D with nx := tSeq t1 t2 D } : Ends).nx := h1 h2
def Qhp (K : Fg) : Sp := fun vs H Q _ => ∃ (a d : Addr) (ns : List Int) (n : Int) (us : List V) (T : List BR), vs = [.ref a, .int n, .ref d] ∧ SqL K H a (ns.map V.int) ∧ 1 ≤ n ∧ n ≤ 12 ∧ SqL K H d us ∧ RowsB H us T ∧ ThOk n T ∧ T.length ≤ 11 ∧
 ∀ (g : Addr) (vs : List V) (nm : List Str) (W : List BR) (H' : Hp), Same H H' → H g = none → H' g = some (.lst vs) → RowsB H' vs W → WkOk n nm W → W.length ≤ 370 → nm.length ≤ 5 → Q (.ref g) H'
section
variable {P : Program} {w : World} {K : Fg} {mg : Str → Option Value} {base : Heap}
theorem scWorks : FnScope ["_law_script", "_law_days", "_law_things_here", "_law_found", "_law_names", "_law_many_here", "_law_k", "_law_work", "_law_number", "_law_j", "_law_rows", "_law_pair"] ["_law_script", "_law_days", "_law_things_here"] (Qi Qeq) := ⟨rfl, rfl, rfl, by decide +kernel, rfl, by decide +kernel, by decide +kernel⟩
theorem Qne (F : Fn K mg "_law_works" Qeq) (M : Mg mg) (cl_mixed : Cal P w K mg base 2 "_law_mixed" ["_law_script", "_law_k"] (Zy K)) (cl_name : Cal P w K mg base 3 "_law_name" ["_law_script", "_law_k", "_law_first"] (Qhn K)) (cl_way : Cal P w K mg base 3 "_law_way" ["_law_script", "_law_start", "_law_days", "_law_work", "_law_way_here", "_law_things_here"] (spWay K)) : Cal P w K mg base 4 "_law_works" ["_law_script", "_law_days", "_law_things_here"] (Qhp K) := by
 refine Ya F scWorks (fun _ _ _ _ _ _ => Qfn (fun _ _ _ => rfl)) (fun vs H Q E h => ?_) (fun f cdv A outer s H vs Q E hr h => ?_)
 ·obtain ⟨a, d, ns, n, us, T, rfl, _⟩ := h
  rfl
 obtain ⟨a, d, ns, n, us, T, rfl, hS, n1, n12, hd, hT, tT, tl, q⟩ := h
 refine ⟨_, (Qh (Qr (i := 3) scWorks.nd rfl (Or.inl rfl) (Xf Qf))
  (Qh (Qr (i := 4) scWorks.nd rfl (Or.inl rfl) (Xf Qf))
  (Qh (Qr (i := 5) scWorks.nd rfl (Or.inl rfl) Qe)
  (Qh (Yq PassesOwn.never rfl (Xy rfl M.range_ (Qa (Qu Qq (Xf (Qa Qe (Qa Qe (Qa Qe (Qa Qe (Qa Qe (Qa Qe (Qa Qe (Qa Qe Qf))))))))) (Qm Qy (Xp cl_mixed (hr.mono (by decide)) (Qa (pv 0) (Qa Qe Qf))) Qe) (fun _ _ => rfl)) Qf)) (Qt (i := 6) scWorks.nd rfl (Or.inl rfl) (Or.inl rfl)) (Qh (Qr (i := 7) scWorks.nd rfl (Or.inl rfl) (Xp cl_name (hr.mono (by decide)) (Qa (pv 0) (Qa (Qm Qz Qe (Qm Zg Qe (pv 6))) (Qa (pv 6) Qf)))))
  (Qh (Yn (Kw PySem.F.plainAttrs_list PySem.F.slot_list_append PySem.F.type_list_append Xw (pv 4) (Qa (pv 7) Qf)))
  (Qh (Yn (Kw PySem.F.plainAttrs_list PySem.F.slot_list_append PySem.F.type_list_append Xw (pv 3) (Qa (Xf (Qa Qx (Qa (pv 7) Qf))) Qf)))
  (Qh (Qr (i := 8) scWorks.nd rfl (Or.inl rfl) (Xp cl_mixed (hr.mono (by decide)) (Qa (pv 0) (Qa (Qm Qz Qe (pv 6)) Qf))))
  (Qh (Yq PassesOwn.never rfl (Xy rfl M.range_ (Qa (Qu Qq (Xf (Qa Qe (Qa Qe (Qa Qe (Qa Qe (Qa Qe (Qa Qe (Qa Qe (Qa Qe Qf))))))))) (Qm Qy (pv 8) Qe) (fun _ _ => rfl)) Qf)) (Qt (i := 9) scWorks.nd rfl (Or.inl rfl) (Or.inl rfl)) (Qh (Qr (i := 10) scWorks.nd rfl (Or.inl rfl) (Xp cl_way (hr.mono (by decide)) (Qa (pv 0) (Qa (Qm Qz (Qm Qz Qe (Qm Zg Qe (pv 6))) (Qm Zg Qe (pv 9))) (Qa (pv 1) (Qa (pv 7) (Qa (Xp cl_name (hr.mono (by decide)) (Qa (pv 0) (Qa (Qm Qz (Qm Qz Qe (Qm Zg Qe (pv 6))) (Qm Zg Qe (pv 9))) (Qa (pv 9) Qf)))) (Qa (pv 2) Qf))))))))
  (Ql (Xx (Qp Qae (Qm Qz (Qm Vi (Qm Qz (pv 5) (pv 1)) (Qu Qq (Qu Qq (pv 10) Qe (fun _ _ => rfl)) Qe (fun _ _ => rfl))) Qe) Qe (Qw _)) (Qh (Qr (i := 5) scWorks.nd rfl (Or.inl rfl) (Qm Qz (Qm Vi (Qm Qz (pv 5) (pv 1)) (Qu Qq (Qu Qq (pv 10) Qe (fun _ _ => rfl)) Qe (fun _ _ => rfl))) Qe))
  (Ql (Qr (i := 3) scWorks.nd rfl (Or.inl rfl) (Qm Ji (pv 3) (pv 10))))) Xa))))
  (Qh (Xx (Qp Ym (Qm Qy (Qm Xj (pv 8) Qe) Qe) Qe (Qw _)) (Ql (Yn (Kw PySem.F.plainAttrs_list PySem.F.slot_list_append PySem.F.type_list_append Xw (pv 3) (Qa (Xf (Qa Qx (Qa (pv 7) (Qa (Qm Qy (Qm Xj (pv 8) Qe) (Qm Qz (pv 1) Qe)) (Qa (Qm Qz Qe (Qm Qy (Qm Xj (pv 8) Qe) Qe)) Qf))))) Qf)))) Xa)
  (Ql (Xx (PW.pt (Zr (Qp Qaf (pv 6) Qe (Qw _)) (Zc (Qp Qaf (Qm Qy (Qm Xj (pv 8) Qe) Qe) Qe (Qw _))))) (Qh (Qr (i := 11) scWorks.nd rfl (Or.inl rfl) (Xf (Qa (Qu Qq (pv 4) (Qm Qy (Qm Xj (pv 8) Qe) (pv 6)) (fun _ _ => rfl)) (Qa (pv 7) Qf))))
  (Qh (Xx (Qp Ym (Qm Qy (Qm Xj (pv 8) Qe) Qe) Qe (Qw _)) (Ql (Yn (pe_bm0 PySem.F.plainAttrs_list PySem.F.slot_list_reverse PySem.F.type_list_reverse Qfj (pv 11)))) Xa)
  (Ql (Yn (Kw PySem.F.plainAttrs_list PySem.F.slot_list_append PySem.F.type_list_append Xw (pv 3) (Qa (Xf (Qa Qx (Qa (Qu Qq (pv 11) Qe (fun _ _ => rfl)) (Qa (Qu Qq (pv 11) Qe (fun _ _ => rfl)) (Qa (Qm Qy (Qm Xj (pv 8) Qe) (Qs (Jw rfl) rfl M.min Qei (Qa (Qm Qz (pv 1) Qe) (Qa Qe Qf)))) Qf))))) Qf)))))) Xa)))))))))
  (Ql (Xe (pv 3))))))), ?_⟩
 refine Qau ?_
 intro rT5 rT4 rT3 rT2
 have hz : (20000 : Nat) < sizeLine := by decide
 have up : ∀ {Hy Hz : Hp} {g : Addr}, Hz g = none → Same Hy Hz → Hy g = none := fun {Hy Hz g} h s => by
  cases e5 : Hy g with
  | none => rfl
  | some o => rw [s _ _ e5] at h; cases h
 refine ⟨by show 0 ≤ sizeLine; decide, fun g0 hg0 => ?_⟩
 have s0a := Qc hg0 (.lst [])
 have hga : upd H g0 (.lst []) g0 = some (.lst []) := Qb
 generalize upd H g0 (.lst []) = Ha at s0a hga ⊢
 refine ⟨by show 0 ≤ sizeLine; decide, fun N hN => ?_⟩
 have NH : H N = none := up hN s0a
 have gN0 : g0 ≠ N := Qk hga hN
 have sb := Qc hN (.lst [])
 have s0 := s0a.trans sb
 have hgb := sb _ _ hga
 have hNb : upd Ha N (.lst []) N = some (.lst []) := Qb
 generalize upd Ha N (.lst []) = H0 at s0 hgb hNb ⊢
 clear sb
 refine ⟨by show 8 ≤ sizeLine; decide, fun p hp => ?_⟩
 have s1 := Qc hp (.lst [.int 0, .int 1, .int 2, .int 2, .int 3, .int 3, .int 4, .int 5])
 have hp1 : upd H0 p (.lst [.int 0, .int 1, .int 2, .int 2, .int 3, .int 3, .int 4, .int 5]) p = some (.lst [.int 0, .int 1, .int 2, .int 2, .int 3, .int 3, .int 4, .int 5]) := Qb
 generalize upd H0 p (.lst [.int 0, .int 1, .int 2, .int 2, .int 3, .int 3, .int 4, .int 5]) = H0p at s1 hp1 ⊢
 refine ⟨_, rfl, a, ns, 2, rfl, (s0.trans s1).seq hS, by decide, by decide, fun z z0 z1 => ?_⟩
 obtain ⟨m, em, hm⟩ := pick8 (a := 0) (b := 1) (c := 2) (d := 2) (e := 3) (f := 3) (g := 4) (h := 5) (z := z)
 have hm' : 0 ≤ m ∧ m ≤ 5 := by omega
 let Pv9 : Nat → St → Hp → Prop := fun i σ H1 => ∃ (v6 v7 v8 v9 v10 v11 : Option V) (g : Addr) (my : Int) (vs : List V) (W : List BR) (nm : List Str), σ = [some (.ref a), some (.int n), some (.ref d), some (.ref g), some (.ref N), some (.int my), v6, v7, v8, v9, v10, v11] ∧ H1 g = some (.lst vs) ∧ H g = none ∧ g ≠ N ∧ RowsB H1 vs W ∧ H1 N = some (.lst (nm.map V.str)) ∧ V.ref N ∉ vs ∧ WkOk n nm W ∧ nm.length = i ∧ (∀ j x, nm[j]? = some x → fl x = 97 + j) ∧ W.length ≤ 73 * i ∧ Same H H1
 refine ⟨_, _, rfl, rfl, (by show (0 : Int) < _; decide +kernel), p, _, _, _, rfl, rfl, Qd hp1, em, m, rfl, by omega, by omega, Xv (lo := 0) (n := m.toNat) Pv9 ⟨none, none, none, none, none, none, g0, 0, [], [], [], rfl, s1 _ _ hgb, hg0, gN0, .nil, s1 _ _ hNb, fun h => (nomatch h), ⟨fun _ h => (nomatch h), .nil, fun _ h => (nomatch h), fun _ h => (nomatch h), fun _ h => (nomatch h)⟩, rfl, fun _ _ h => (nomatch h), wK _, s0.trans s1⟩ ?_ ?_⟩
 ·rintro i σ H1 hi ⟨v6, v7, v8, v9, v10, v11, g, my, vs, W, nm, rfl, hg1, gH, gN, hB1, hN1, nN1, hW, hnl, hfl, hlen, s1'⟩
  have hi' : i < 5 := by omega
  have lv := hB1.length
  refine ⟨_, rfl, _, rfl, _, _, rfl, rfl, mulC _ _ (by decide) (by decide), _, _, rfl, rfl, _, rfl, a, ns, _, _, rfl, s1'.seq hS, by omega, by omega, by omega, by omega, fun w H2 hw hwl s2 => ?_⟩
  have hw' : fl w = 97 + i := by rw [hw]; omega
  have wn : w ∉ nm := fun hm => by
   obtain ⟨j, ej⟩ := wW.mp hm
   have h5 := hfl j w ej
   have h6 := (kJ.mp ej).1
   omega
  have hN2 := s2 _ _ hN1
  refine ⟨_, rfl, .inl ⟨rfl, _, Qd hN2⟩, _, rfl, N, _, _, rfl, rfl, hN2, by rw [jZ]; omega, ?_⟩
  have hN3 : upd H2 N (.lst (nm.map V.str ++ [.str w])) N = some (.lst ((nm ++ [w]).map V.str)) := by rw [Qb, yQ]; rfl
  have hg3 : upd H2 N (.lst (nm.map V.str ++ [.str w])) g = some (.lst vs) := by rw [Qj gN]; exact s2 _ _ hg1
  have hB3 : RowsB (upd H2 N (.lst (nm.map V.str ++ [.str w]))) vs W := (hB1.same s2).imp fun l r hm z => by
   rw [Qj (fun e => nN1 (by rw [← e]; exact hm))]; exact z
  have s3 : Same H (upd H2 N (.lst (nm.map V.str ++ [.str w]))) := fun c o e => by rw [Qj (Qk e NH)]; exact (s1'.trans s2) _ _ e
  generalize upd H2 N (.lst (nm.map V.str ++ [.str w])) = H3 at hN3 hg3 hB3 s3 ⊢
  refine ⟨_, rfl, .inl ⟨rfl, _, Qd hg3⟩, _, rfl, by show 2 ≤ sizeLine; decide, fun l hl => ?_⟩
  have lN : l ≠ N := fun e => by rw [e, hN3] at hl; cases hl
  have s4 := Qc hl (.lst [.str "work", .str w])
  have hl4 : upd H3 l (.lst [.str "work", .str w]) l = some (.lst ((BR.work w).cells.map kV)) := Qb
  generalize upd H3 l (.lst [.str "work", .str w]) = H4 at s4 hl4 ⊢
  have hg4 := s4 _ _ hg3
  refine ⟨g, _, _, rfl, rfl, hg4, by omega, ?_⟩
  have hB5 : RowsB (upd H4 g (.lst (vs ++ [.ref l]))) (vs ++ [.ref l]) (W ++ [BR.work w]) := ((hB3.same s4).snoc hl4).updL hg4 hB3.noRow
  have hg5 : upd H4 g (.lst (vs ++ [.ref l])) g = some (.lst (vs ++ [.ref l])) := Qb
  have hN5 : upd H4 g (.lst (vs ++ [.ref l])) N = some (.lst ((nm ++ [w]).map V.str)) := by rw [Qj gN.symm]; exact s4 _ _ hN3
  have s5 : Same H (upd H4 g (.lst (vs ++ [.ref l]))) := fun c o e => by rw [Qj (Qk e gH)]; exact (s3.trans s4) _ _ e
  have nN5 : V.ref N ∉ vs ++ [.ref l] := fun h => by
   rcases kW.mp h with h | h
   ·exact nN1 h
   ·have h2 := kQ.mp h
    injection h2 with h3
    exact lN h3.symm
  generalize upd H4 g (.lst (vs ++ [.ref l])) = H5 at hB5 hg5 hN5 s5 ⊢
  refine ⟨_, rfl, _, rfl, _, _, rfl, rfl, a, ns, _, rfl, s5.seq hS, by omega, by omega, fun nb nb0 nb1 => ?_⟩
  refine ⟨by show 8 ≤ sizeLine; decide, fun p6 hp6 => ?_⟩
  have s6 := Qc hp6 (.lst [.int 1, .int 1, .int 2, .int 2, .int 2, .int 3, .int 3, .int 0])
  have hp66 : upd H5 p6 (.lst [.int 1, .int 1, .int 2, .int 2, .int 2, .int 3, .int 3, .int 0]) p6 = some (.lst [.int 1, .int 1, .int 2, .int 2, .int 2, .int 3, .int 3, .int 0]) := Qb
  generalize upd H5 p6 (.lst [.int 1, .int 1, .int 2, .int 2, .int 2, .int 3, .int 3, .int 0]) = H5p at s6 hp66 ⊢
  obtain ⟨m2, em2, hm2⟩ := pick8 (a := 1) (b := 1) (c := 2) (d := 2) (e := 2) (f := 3) (g := 3) (h := 0) (z := nb)
  have hm2' : 0 ≤ m2 ∧ m2 ≤ 3 := by omega
  let Pv10 : Nat → St → Hp → Prop := fun j σ H6 => ∃ (v9 v10 v11 : Option V) (g : Addr) (my : Int) (vs : List V) (Y : List BR), σ = [some (.ref a), some (.int n), some (.ref d), some (.ref g), some (.ref N), some (.int my), some (.int (0 + (i : Int))), some (.str w), some (.int nb), v9, v10, v11] ∧ H6 g = some (.lst vs) ∧ H g = none ∧ g ≠ N ∧ RowsB H6 vs (W ++ BR.work w :: Y) ∧ H6 N = some (.lst ((nm ++ [w]).map V.str)) ∧ V.ref N ∉ vs ∧ (∀ r ∈ Y, OfWay w j r) ∧ (∀ r ∈ Y, r.ok n) ∧ Y.Pairwise Apart ∧ Y.length ≤ 23 * j ∧ Same H H6
  refine ⟨_, rfl, _, _, rfl, rfl, (by show (0 : Int) < _; decide +kernel), p6, _, _, _, rfl, rfl, Qd hp66, em2, m2, rfl, by omega, by omega, Xv (lo := 0) (n := m2.toNat) Pv10 ⟨_, _, _, g, my, _, [], rfl, s6 _ _ hg5, gH, gN, hB5.same s6, s6 _ _ hN5, nN5, fun _ h => (nomatch h), fun _ h => (nomatch h), .nil, wK _, s5.trans s6⟩ ?_ ?_⟩
  ·rintro j σ H6 hj ⟨v9', v10', v11', g6, my6, vs6, Y, rfl, hg6, gH6, gN6, hB6, hN6, nN6, hY, hYo, hYn, hYl, s6'⟩
   have hj' : j < 3 := by omega
   have lv6 := hB6.length
   rw [jY, yW] at lv6
   refine ⟨_, rfl, _, rfl, _, _, rfl, rfl, mulC _ _ (by decide) (by decide), _, _, rfl, rfl, _, rfl, _, _, rfl, rfl, mulC _ _ (by decide) (by decide), _, _, rfl, rfl, _, rfl, _, rfl, _, rfl, _, rfl, _, _, rfl, rfl, mulC _ _ (by decide) (by decide), _, _, rfl, rfl, _, rfl, _, _, rfl, rfl, mulC _ _ (by decide) (by decide), _, _, rfl, rfl, _, rfl, a, ns, _, _, rfl, s6'.seq hS, by omega, by omega, by omega, by omega, fun v H7 hv hvl s7 => ?_⟩
   have hv' : fl v = 97 + j := by rw [hv]; omega
   refine ⟨_, rfl, a, d, ns, _, n, w, v, us, T, rfl, (s6'.trans s7).seq hS, by omega, by omega, n1, n12, (s6'.trans s7).seq hd, hT.same (s6'.trans s7), tT, tl, fun gr vr R H8 s8 fgr hgr hBr hR => ?_⟩
   have s78 := s7.trans s8
   have s68 := s6'.trans s78
   have hg8 := s78 _ _ hg6
   have hN8 := s78 _ _ hN6
   obtain ⟨L, c, U, eR, _⟩ := hR.hd
   have lvr := hBr.length
   obtain ⟨v0, ev0⟩ : ∃ v0, vr[0]? = some v0 := ⟨_, gE (by rw [lvr, eR]; exact Nat.zero_lt_succ _)⟩
   obtain ⟨r0, lr, er0, rfl, hr0⟩ := hBr.get ev0
   rw [eR] at er0
   cases er0
   have a0 : atI vr 0 = some (.ref lr) := Qdh (k := 0) ev0
   have a3 : atI ((BR.way w v L c).cells.map kV) 3 = some (.int L) := rfl
   obtain ⟨bo, bk⟩ := blk_of hv' hR
   refine ⟨_, rfl, _, rfl, _, _, rfl, rfl, _, rfl, gr, _, _, _, rfl, rfl, Qd hgr, a0, lr, _, _, _, rfl, rfl, Qd hr0, a3, _, _, rfl, rfl, _, _, rfl, rfl, _, _, rfl, rfl, _, rfl, ite2 (fun _ => ?_) (fun _ => ?_)⟩
   ·refine ⟨_, rfl, _, rfl, _, _, rfl, rfl, _, rfl, gr, _, _, _, rfl, rfl, Qd hgr, a0, lr, _, _, _, rfl, rfl, Qd hr0, a3, _, _, rfl, rfl, _, _, rfl, rfl, ?_⟩
    have lR := hR.len
    refine ⟨_, rfl, _, rfl, g6, gr, _, _, rfl, rfl, hg8, hgr, by rw [lv6, lvr]; omega, fun p8 hp8 => ?_⟩
    have s9 := Qc hp8 (.lst (vs6 ++ vr))
    have gH9 : H p8 = none := up hp8 s68
    refine ⟨_, _, _, p8, _, vs6 ++ vr, Y ++ R, rfl, Qb, gH9, (Qk hN8 hp8).symm, ?_, s9 _ _ hN8, fun h => ?_, fun r hr => ?_, fun r hr => ?_, jQf.mpr ⟨hYn, hR.nd, fun r hr q hq => Qho (hY r hr) hv' hR hq⟩, by rw [jY]; omega, s68.trans s9⟩
    ·have h5 := ((hB6.same s78).same s9).app (hBr.same s9)
     rw [kK, List.cons_append] at h5
     exact h5
    ·rcases kW.mp h with h | h
     ·exact nN6 h
     ·obtain ⟨r, hr, hh⟩ := hBr.mem h
      rw [hN8] at hh
      exact Qfr (Qkd hR r hr) (HO.lst.inj (Option.some.inj hh)).symm
    ·rcases kW.mp hr with h | h
     ·exact (hY r h).mono (by omega)
     ·exact bo r h
    ·rcases kW.mp hr with h | h
     ·exact hYo r h
     ·exact bk r h
   ·exact ⟨_, _, _, g6, my6, vs6, Y, rfl, hg8, gH6, gN6, hB6.same s78, hN8, nN6, fun r hr => (hY r hr).mono (by omega), hYo, hYn, by omega, s68⟩
  ·rintro σ H6 ⟨v9', v10', v11', g6, my6, vs6, Y, rfl, hg6, gH6, gN6, hB6, hN6, nN6, hY, hYo, hYn, hYl, s6'⟩
   have lv6 := hB6.length
   rw [jY, yW] at lv6
   have wk4 : ∀ r ∈ Y, r.kind ≠ 4 ∧ r.kind ≠ 10 ∧ r.kind ≠ 9 := fun r hr => by
    obtain ⟨v, _, ⟨l', c', rfl⟩ | ⟨k', t', m', rfl⟩⟩ := hY r hr
    ·exact ⟨by show (5 : Nat) ≠ 4; decide, by show (5 : Nat) ≠ 10; decide, by show (5 : Nat) ≠ 9; decide⟩
    ·have := k'.isLt
     exact ⟨by show 6 + k'.val ≠ 4; omega, by show 6 + k'.val ≠ 10; omega, by show 6 + k'.val ≠ 9; omega⟩
   have hBk : BlkOk n nm w W (BR.work w :: Y) := by
    refine ⟨fun r hr => ?_, jXa.mpr ⟨fun r hr => Yw (fun e => (wk4 r hr).1 e.symm), hYn⟩, fun r hr => ?_⟩
    ·rcases yJ.mp hr with e | e
     ·rw [e]; exact True.intro
     ·exact hYo r e
    ·rcases yJ.mp hr with e | e
     ·rw [e]; exact ⟨jK, fun x hx => by rw [kQ.mp hx]; exact zX _ jK⟩
     ·rw [(hY r e).own]; exact ⟨jK, fun x hx => by rw [kQ.mp hx]; exact zX _ jK⟩
   have no9 : ∀ r ∈ BR.work w :: Y, r.kind ≠ 9 := fun r hr => by
    rcases yJ.mp hr with e | e
    ·rw [e]; show (4 : Nat) ≠ 9; decide
    ·exact (wk4 r e).2.2
   have no10 : ∀ r ∈ BR.work w :: Y, r.kind ≠ 10 := fun r hr => by
    rcases yJ.mp hr with e | e
    ·rw [e]; show (4 : Nat) ≠ 10; decide
    ·exact (wk4 r e).2.1
   dsimp only
   refine Ko (fun σ' H' => ∃ (v9 v10 v11 : Option V) (g : Addr) (my : Int) (vs : List V) (Y : List BR), σ' = [some (.ref a), some (.int n), some (.ref d), some (.ref g), some (.ref N), some (.int my), some (.int (0 + (i : Int))), some (.str w), some (.int nb), v9, v10, v11] ∧ H' g = some (.lst vs) ∧ H g = none ∧ g ≠ N ∧ RowsB H' vs (W ++ Y) ∧ H' N = some (.lst ((nm ++ [w]).map V.str)) ∧ V.ref N ∉ vs ∧ BlkOk n nm w W Y ∧ BR.work w ∈ Y ∧ (∀ r ∈ Y, r.kind ≠ 9) ∧ Y.length ≤ 71 ∧ Same H H') ?_ fun REST => ?_
   ·rintro σ' H7 ⟨v9, v10, v11, g7, my7, vs7, Y7, rfl, hg7, gH7, gN7, hB7, hN7, nN7, hY7, hwk7, h97, hl7, s7⟩
    have lv7 := hB7.length
    rw [jY] at lv7
    have fin : ∀ (v9 v10 v11 : Option V) (H8 : Hp) (vs8 : List V) (Y8 : List BR), H8 g7 = some (.lst vs8) → RowsB H8 vs8 (W ++ Y8) → H8 N = some (.lst ((nm ++ [w]).map V.str)) → V.ref N ∉ vs8 → BlkOk n nm w W Y8 → BR.work w ∈ Y8 → Y8.length ≤ 72 → Same H H8 → ∃ (v6 v7 v8 v9' v10' v11' : Option V) (g : Addr) (my : Int) (vs : List V) (W : List BR) (nm : List Str), [some (V.ref a), some (V.int n), some (V.ref d), some (V.ref g7), some (V.ref N), some (V.int my7), some (V.int (0 + (i : Int))), some (V.str w), some (V.int nb), v9, v10, v11] = [some (.ref a), some (.int n), some (.ref d), some (.ref g), some (.ref N), some (.int my), v6, v7, v8, v9', v10', v11'] ∧ H8 g = some (.lst vs) ∧ H g = none ∧ g ≠ N ∧ RowsB H8 vs W ∧ H8 N = some (.lst (nm.map V.str)) ∧ V.ref N ∉ vs ∧ WkOk n nm W ∧ nm.length = i + 1 ∧ (∀ j x, nm[j]? = some x → fl x = 97 + j) ∧ W.length ≤ 73 * (i + 1) ∧ Same H H8 := by
     intro v9 v10 v11 H8 vs8 Y8 f1 f2 f3 f4 f5 f6 f7 f8
     refine ⟨_, _, _, _, _, _, g7, my7, vs8, W ++ Y8, nm ++ [w], rfl, f1, gH7, gN7, f2, f3, f4, hW.join wn hwl f5 f6, by rw [jY]; show nm.length + 1 = _; omega, fun j x e => ?_, by rw [jY]; omega, f8⟩
     by_cases hj : j < nm.length
     ·rw [jYc hj] at e
      exact hfl j x e
     ·have hj2 := (kJ.mp e).1
      rw [jY] at hj2
      have hj3 : j < nm.length + 1 := hj2
      have ej : j = nm.length := by omega
      subst ej
      rw [List.getElem?_append_right (jX _), Nat.sub_self] at e
      cases e
      rw [hw', hnl]
    refine ⟨_, rfl, _, _, rfl, rfl, _, rfl, ite2 (fun yk => ?_) (fun _ => ?_)⟩
    ·have hi0 : 0 < i := by
      have := kY yk
      omega
     refine ⟨_, rfl, _, _, rfl, rfl, ⟨by decide, by decide⟩, _, _, rfl, rfl, (by show (0 : Int) < _; decide +kernel), _, _, rfl, rfl, _, rfl, ite2 (fun _ => ?_) (fun _ => ?_)⟩
     ·have pi : (0 : Int) < 0 + (i : Int) := by omega
      have x0 := xW (nb / 48) (kXe pi)
      have x1 := xX (nb / 48) pi
      obtain ⟨kx, ekx⟩ : ∃ kx : Nat, nb / 48 % (0 + (i : Int)) = ((kx : Nat) : Int) := ⟨(nb / 48 % (0 + (i : Int))).toNat, by omega⟩
      have hkx : kx < nm.length := by omega
      obtain ⟨x, ex⟩ : ∃ x, nm[kx]? = some x := ⟨_, gE hkx⟩
      have hx := hfl kx x ex
      have xw : x ≠ w := fun e => by rw [e, hw'] at hx; omega
      have xm : x ∈ nm := yV ex
      have ax : atI ((nm ++ [w]).map V.str) (nb / 48 % (0 + (i : Int))) = some (.str x) := by
       rw [ekx]
       exact Qdh (by rw [yY, jYc hkx, ex]; rfl)
      refine ⟨_, rfl, _, rfl, _, _, rfl, rfl, ⟨by decide, by decide⟩, _, rfl, _, _, rfl, rfl, pi, N, _, _, _, rfl, rfl, Qd hN7, ax, _, rfl, by show 2 ≤ sizeLine; decide, fun pr hpr => ?_⟩
      have s8 := Qc hpr (.lst [.str x, .str w])
      have hpr8 : upd H7 pr (.lst [.str x, .str w]) pr = some (.lst [.str x, .str w]) := Qb
      have prg : pr ≠ g7 := fun e => by rw [e, hg7] at hpr; cases hpr
      have prN : pr ≠ N := fun e => by rw [e, hN7] at hpr; cases hpr
      have prH : H pr = none := up hpr s7
      have prv : V.ref pr ∉ vs7 := fun h => by
       obtain ⟨r, _, hh⟩ := hB7.mem h
       rw [hpr] at hh
       cases hh
      generalize upd H7 pr (.lst [.str x, .str w]) = H8 at s8 hpr8 ⊢
      have mn : ∃ mn : Int, (if (3 : Int) < n + 1 then 3 else n + 1) = mn := ⟨_, rfl⟩
      obtain ⟨mn, emn⟩ := mn
      have hmn : 1 ≤ mn ∧ mn ≤ n + 1 := by rw [← emn]; split <;> omega
      have q0 := xW (nb / 500) (show mn ≠ 0 by omega)
      have q1 := xX (nb / 500) (show 0 < mn by omega)
      refine Vb (fun σ' H' => ∃ (x1 x2 : Str), σ' = [some (.ref a), some (.int n), some (.ref d), some (.ref g7), some (.ref N), some (.int my7), some (.int (0 + (i : Int))), some (.str w), some (.int nb), v9, v10, some (.ref pr)] ∧ H' pr = some (.lst [.str x1, .str x2]) ∧ H' g7 = some (.lst vs7) ∧ RowsB H' vs7 (W ++ Y7) ∧ H' N = some (.lst ((nm ++ [w]).map V.str)) ∧ Same H H' ∧ x1 ≠ x2 ∧ (w = x1 ∨ w = x2) ∧ x1 ∈ nm ++ [w] ∧ x2 ∈ nm ++ [w]) ?_ fun REST2 => ?_
      ·rintro σ' H9 ⟨x1, x2, rfl, hpr9, hg9, hB9, hN9, s9, x12, hwx, m1, m2⟩
       refine ⟨_, rfl, .inl ⟨rfl, _, Qd hg9⟩, _, rfl, pr, _, _, _, rfl, rfl, Qd hpr9, at0, _, rfl, pr, _, _, _, rfl, rfl, Qd hpr9, at1, _, rfl, _, _, rfl, rfl, ⟨by decide, by decide⟩, _, rfl, _, _, rfl, rfl, _, _, rfl, ?_⟩
       rw [emn]
       refine ⟨_, _, rfl, rfl, (by show 0 < mn; omega), by show 4 ≤ sizeLine; decide, fun l9 hl9 => ?_⟩
       have lN9 : l9 ≠ N := fun e => by rw [e, hN9] at hl9; cases hl9
       have s10 := Qc hl9 (.lst [.str "after", .str x1, .str x2, .int (nb / 500 % mn)])
       have hl99 : upd H9 l9 (.lst [.str "after", .str x1, .str x2, .int (nb / 500 % mn)]) l9 = some (.lst ((BR.after x1 x2 (nb / 500 % mn)).cells.map kV)) := Qb
       generalize upd H9 l9 (.lst [.str "after", .str x1, .str x2, .int (nb / 500 % mn)]) = H10 at s10 hl99 ⊢
       have hg10 := s10 _ _ hg9
       refine ⟨g7, _, _, rfl, rfl, hg10, by omega, ?_⟩
       have hB11 := ((hB9.same s10).snoc hl99).updL (zs := vs7 ++ [.ref l9]) hg10 hB9.noRow
       rw [kK] at hB11
       refine fin _ _ _ _ _ (Y7 ++ [BR.after x1 x2 (nb / 500 % mn)]) Qb hB11 (by rw [Qj gN7.symm]; exact s10 _ _ hN9) (fun h => ?_) (hY7.snoc ⟨x12, q0, by omega⟩ ?_ (fun y hy => ?_) (fun r hr => Yw (h97 r hr))) (jXb _ hwk7) (by rw [jY]; show Y7.length + 1 ≤ 72; omega) (fun c o e => by rw [Qj (Qk e gH7)]; exact (s9.trans s10) _ _ e)
       ·rcases kW.mp h with h | h
        ·exact nN7 h
        ·have h2 := kQ.mp h
         injection h2 with h3
         exact lN9 h3.symm
       ·rcases hwx with e | e
        ·rw [e]; exact jK
        ·rw [e]; exact zQ _ jK
       ·rcases yJ.mp hy with e | e
        ·rw [e]; exact m1
        ·rw [kQ.mp e]; exact m2
      ·have xi : x ∈ nm ++ [w] := jXb _ xm
       have wi : w ∈ nm ++ [w] := zX _ jK
       refine ⟨_, rfl, _, _, rfl, rfl, ⟨by decide, by decide⟩, _, _, rfl, rfl, (by show (0 : Int) < _; decide +kernel), rfl, _, rfl, ite2 (fun _ => ?_) (fun _ => ?_)⟩
       ·refine ⟨_, rfl, .inl ⟨rfl, _, Qd hpr8⟩, pr, _, rfl, rfl, hpr8, REST2 _ _ ⟨w, x, rfl, Qb, ?_, ?_, ?_, fun c o e => ?_, xw.symm, .inl rfl, wi, xi⟩⟩
        ·rw [Qj prg.symm]; exact s8 _ _ hg7
        ·exact (hB7.same s8).imp fun l r hm z => by rw [Qj (fun e => prv (by rw [← e]; exact hm))]; exact z
        ·rw [Qj prN.symm]; exact s8 _ _ hN7
        ·rw [Qj (Qk e prH)]; exact (s7.trans s8) _ _ e
       ·exact REST2 _ _ ⟨x, w, rfl, hpr8, s8 _ _ hg7, hB7.same s8, s8 _ _ hN7, s7.trans s8, xw, .inr rfl, xi, wi⟩
     ·exact fin _ _ _ _ _ _ hg7 hB7 hN7 nN7 hY7 hwk7 (by omega) s7
    ·exact fin _ _ _ _ _ _ hg7 hB7 hN7 nN7 hY7 hwk7 (by omega) s7
   ·have e0 := xW (nb / 24) (show (n + 1) ≠ 0 by omega)
    have e1 := xX (nb / 24) (show 0 < n + 1 by omega)
    have c0 := xW (nb / 400) (show (999 : Int) ≠ 0 by decide)
    have c1 := xX (nb / 400) (show (0 : Int) < 999 by decide)
    refine ⟨_, rfl, _, _, rfl, rfl, ⟨by decide, by decide⟩, _, _, rfl, rfl, (by show (0 : Int) < _; decide +kernel), rfl, _, rfl, ite2 (fun _ => ?_) (fun _ => ?_)⟩
    ·refine ⟨_, rfl, .inl ⟨rfl, _, Qd hg6⟩, _, rfl, _, rfl, _, _, rfl, rfl, ⟨by decide, by decide⟩, _, rfl, _, _, rfl, rfl, _, _, rfl, rfl, (by show 0 < n + 1; omega), _, rfl, _, _, rfl, rfl, ⟨by decide, by decide⟩, _, _, rfl, rfl, (by show (0 : Int) < _; decide +kernel), _, _, rfl, rfl, by show 4 ≤ sizeLine; decide, fun l7 hl7 => ?_⟩
     have lN7 : l7 ≠ N := fun e => by rw [e, hN6] at hl7; cases hl7
     have s7 := Qc hl7 (.lst [.str "late", .str w, .int (nb / 24 % (n + 1)), .int (1 + nb / 400 % 999)])
     have hl77 : upd H6 l7 (.lst [.str "late", .str w, .int (nb / 24 % (n + 1)), .int (1 + nb / 400 % 999)]) l7 = some (.lst ((BR.late w (nb / 24 % (n + 1)) (1 + nb / 400 % 999)).cells.map kV)) := Qb
     generalize upd H6 l7 (.lst [.str "late", .str w, .int (nb / 24 % (n + 1)), .int (1 + nb / 400 % 999)]) = H7 at s7 hl77 ⊢
     have hg7 := s7 _ _ hg6
     refine ⟨g6, _, _, rfl, rfl, hg7, by omega, REST _ _ ⟨_, _, _, g6, my6, _, BR.work w :: Y ++ [BR.late w (nb / 24 % (n + 1)) (1 + nb / 400 % 999)], rfl, Qb, gH6, gN6, ?_, ?_, fun h => ?_, hBk.snoc ⟨e0, by omega, by omega, by omega⟩ jK (fun x hx => ?_) (fun r hr => Yw (no10 r hr)), jXb _ jK, fun r hr => ?_, ?_, fun c o e => ?_⟩⟩
     ·have h5 := ((hB6.same s7).snoc hl77).updL (zs := vs6 ++ [.ref l7]) hg7 hB6.noRow
      rw [kK] at h5
      exact h5
     ·rw [Qj gN6.symm]; exact s7 _ _ hN6
     ·rcases kW.mp h with h | h
      ·exact nN6 h
      ·have h2 := kQ.mp h
       injection h2 with h3
       exact lN7 h3.symm
     ·rw [kQ.mp hx]; exact zX _ jK
     ·rcases kW.mp hr with h | h
      ·exact no9 r h
      ·rw [kQ.mp h]; show (10 : Nat) ≠ 9; decide
     ·rw [jY, yW]; show Y.length + 1 + 1 ≤ 71; omega
     ·rw [Qj (Qk e gH6)]; exact (s6'.trans s7) _ _ e
    ·exact REST _ _ ⟨_, _, _, g6, my6, vs6, BR.work w :: Y, rfl, hg6, gH6, gN6, hB6, hN6, nN6, hBk, jK, no9, by rw [yW]; omega, s6'⟩
 ·rintro σ H1 ⟨v6, v7, v8, v9, v10, v11, g, my, vs, W, nm, rfl, hg1, gH, gN, hB1, hN1, nN1, hW, hnl, hfl, hlen, s1'⟩
  exact ⟨_, rfl, q g vs nm W H1 s1' gH hg1 hB1 hW (by omega) (by omega)⟩
end
abbrev Qke : Stmt := top 27
theorem Wa {r : BR} (h : Thing r) : r.own = [] := by cases h <;> rfl
theorem Qfs {r : BR} (h : Thing r) : r.kind ≠ 0 := by
 cases h with
 | bench b r => show (1 : Nat) ≠ 0; decide
 | shut b f t => show (2 : Nat) ≠ 0; decide
 | store b m f => show (3 : Nat) ≠ 0; decide
theorem Qnf {n : Int} {nm : List Str} {T W : List BR} (tT : ThOk n T) (hW : WkOk n nm W) (tl : T.length ≤ 11) (wl : W.length ≤ 370) (nl : nm.length ≤ 5) : WB n (.days n :: (T ++ W)) := by
 refine ⟨fun r hr => ?_, jXa.mpr ⟨fun r hr => ?_, jQf.mpr ⟨tT.nd, hW.nd, fun r hr q hq => ?_⟩⟩, fun r hr w hw => ?_, ?_, nm, nl, fun r hr w hw => ?_⟩
 ·rcases yJ.mp hr with e | e
  ·rw [e]; rfl
  ·rcases kW.mp e with e | e
   ·exact tT.ok r e
   ·exact hW.ok r e
 ·rcases kW.mp hr with e | e
  ·exact Yw (fun z => Qfs (tT.th r e) z.symm)
  ·refine .inr (.inr fun z => ?_)
   cases ho : r.own with
   | nil => exact (hW.own r e).1 ho
   | cons w ws =>
    have h5 : w ∈ (BR.days n).own := Qdo z (by rw [ho]; exact jK)
    exact nomatch h5
 ·refine .inr (.inr fun z => ?_)
  cases ho : q.own with
  | nil => exact (hW.own q hq).1 ho
  | cons w ws =>
   have h5 : w ∈ r.own := Qdo z (by rw [ho]; exact jK)
   rw [Wa (tT.th r hr)] at h5
   exact nomatch h5
 ·rcases yJ.mp hr with e | e
  ·rw [e] at hw; exact nomatch hw
  ·rcases kW.mp e with e | e
   ·rw [Wa (tT.th r e)] at hw; exact nomatch hw
   ·exact zQ _ (zX _ (hW.wk w ((hW.own r e).2 w hw)))
 ·rw [yW, jY]; omega
 ·rcases yJ.mp hr with e | e
  ·rw [e] at hw; exact nomatch hw
  ·rcases kW.mp e with e | e
   ·rw [Wa (tT.th r e)] at hw; exact nomatch hw
   ·exact (hW.own r e).2 w hw
theorem Qng {n : Int} {nm : List Str} {T W : List BR} (tT : ThOk n T) (hW : WkOk n nm W) : ∀ r ∈ BR.days n :: (T ++ W), ∀ x, r.names.head? = some x → x.length ≤ 12 := by
 intro r hr x hx
 rcases yJ.mp hr with e | e
 ·subst e; exact nomatch hx
 ·rcases kW.mp e with e | e
  ·cases tT.th r e with
   | bench b m h => cases hx; exact h
   | shut b m t h => cases hx; exact h
   | store b m f h => cases hx; exact h
  ·have ho := (hW.own r e).2
   have hn := (hW.own r e).1
   cases r with
   | work w => cases hx; exact hW.nl _ (ho _ jK)
   | way w v l c => cases hx; exact hW.nl _ (ho _ jK)
   | use k w v t m => cases hx; exact hW.nl _ (ho _ jK)
   | after w y g => cases hx; exact hW.nl _ (ho _ jK)
   | late w d c => cases hx; exact hW.nl _ (ho _ jK)
   | _ => exact absurd rfl hn
structure BookOk (n : Int) (B : List BR) : Prop where
 n1 : 1 ≤ n
 n12 : n ≤ 12
 wb : WB n B
 hd : B[0]? = some (.days n)
 nl : ∀ r ∈ B, ∀ x, r.names.head? = some x → x.length ≤ 12
theorem Qnh {α : Type} (B : List α) (k : Nat) (r : α) : (B.take k ++ [r] ++ B.drop k).Perm (r :: B) := by
 have h := List.perm_middle (a := r) (l₁ := B.take k) (l₂ := B.drop k)
 rw [jJc] at h
 rwa [kK]
def Qls (K : Fg) : Sp := fun vs H Q _ => ∃ (a : Addr) (ns : List Int), vs = [.ref a] ∧ SqL K H a (ns.map V.int) ∧
 ∀ (g : Addr) (vs : List V) (n : Int) (B : List BR) (H' : Hp), Same H H' → H' g = some (.lst vs) → RowsB H' vs B → BookOk n B → Q (.ref g) H'
section
variable {P : Program} {w : World} {K : Fg} {mg : Str → Option Value} {base : Heap}
theorem scBook : FnScope ["_law_script", "_law_days", "_law_things_here", "_law_rows", "_law_mixed_here", "_law_k", "_law_row"] ["_law_script"] (Qi Qke) := ⟨rfl, rfl, rfl, by decide +kernel, rfl, by decide +kernel, by decide +kernel⟩
theorem okBook (F : Fn K mg "_law_book" Qke) (M : Mg mg) (cl_mixed : Cal P w K mg base 2 "_law_mixed" ["_law_script", "_law_k"] (Zy K)) (cl_things : Cal P w K mg base 4 "_law_things" ["_law_script", "_law_days"] (Qep K)) (cl_works : Cal P w K mg base 4 "_law_works" ["_law_script", "_law_days", "_law_things_here"] (Qhp K)) (cl_put : Cal P w K mg base 1 "_law_put" ["_law_rows", "_law_row", "_law_number"] (spPut K)) : Cal P w K mg base 5 "_law_book" ["_law_script"] (Qls K) := by
 refine Ya F scBook (fun _ _ _ _ _ _ => bind1 (fun _ => rfl)) (fun vs H Q E h => ?_) (fun f cdv A outer s H vs Q E hr h => ?_)
 ·obtain ⟨a, ns, rfl, _⟩ := h
  rfl
 obtain ⟨a, ns, rfl, hS, q⟩ := h
 refine ⟨_, (Qh (Qr (i := 1) scBook.nd rfl (Or.inl rfl) (Qm Qz Qe (Qm Qy (Xp cl_mixed (hr.mono (by decide)) (Qa (pv 0) (Qa Qe Qf))) Qe)))
  (Qh (Qr (i := 2) scBook.nd rfl (Or.inl rfl) (Xp cl_things (hr.mono (by decide)) (Qa (pv 0) (Qa (pv 1) Qf))))
  (Qh (Qr (i := 3) scBook.nd rfl (Or.inl rfl) (Xf (Qa (Xf (Qa Qx (Qa (pv 1) Qf))) Qf)))
  (Qh (Qr (i := 4) scBook.nd rfl (Or.inl rfl) (Qag Ym (Qm Qy (Xp cl_mixed (hr.mono (by decide)) (Qa (pv 0) (Qa Qe Qf))) Qe) Qe (Qw _)))
  (Qh (Yq PassesOwn.never rfl (Qmy true rfl M.enumerate_ (Qa (Qm Ji (pv 2) (Xp cl_works (hr.mono (by decide)) (Qa (pv 0) (Qa (pv 1) (Qa (pv 2) Qf))))) Qf)) (Qgw (K := K) (i := 5) (j := 6) rfl rfl scBook.nd rfl rfl rfl rfl) (Ql (Xx (Jv (pv 4)) (Ql (Qr (i := 3) scBook.nd rfl (Or.inl rfl) (Xp cl_put (hr.mono (by decide)) (Qa (pv 3) (Qa (pv 6) (Qa (Xp cl_mixed (hr.mono (by decide)) (Qa (pv 0) (Qa (Qm Qz Qe (pv 5)) Qf))) Qf)))))) (Ql (Qr (i := 3) scBook.nd rfl (Or.inl rfl) (Qm Ji (pv 3) (Xf (Qa (pv 6) Qf))))))))
  (Ql (Xe (pv 3)))))))), ?_⟩
 refine Qjx ?_
 intro rT6 rT5 rT4 rT3 rT2
 have hz : (20000 : Nat) < sizeLine := by decide
 refine ⟨_, rfl, a, ns, 0, rfl, hS, by decide, by decide, fun z z0 z1 => ?_⟩
 refine ⟨_, _, rfl, rfl, (by show (0 : Int) < _; decide +kernel), _, _, rfl, rfl, ?_⟩
 dsimp only
 generalize hn : 1 + z % 12 = n
 have n1 : 1 ≤ n ∧ n ≤ 12 := by omega
 refine ⟨_, rfl, _, rfl, a, ns, n, rfl, hS, n1.1, n1.2, fun gt vt T H1 s1 fgt hgt hBT tT tl => ?_⟩
 refine ⟨_, rfl, by show 2 ≤ sizeLine; decide, fun l hl => ?_⟩
 have s2 := s1.trans (Qc hl (.lst [.str "days", .int n]))
 have s12 := Qc hl (.lst [.str "days", .int n])
 have hl2 : upd H1 l (.lst [.str "days", .int n]) l = some (.lst ((BR.days n).cells.map kV)) := Qb
 generalize upd H1 l (.lst [.str "days", .int n]) = H2 at s2 s12 hl2 ⊢
 refine ⟨by show 1 ≤ sizeLine; decide, fun g0 hg0 => ?_⟩
 have s23 := Qc hg0 (.lst [.ref l])
 have s3 := s2.trans s23
 have s13 := s12.trans s23
 have hg3 : upd H2 g0 (.lst [.ref l]) g0 = some (.lst [.ref l]) := Qb
 have hB3 : RowsB (upd H2 g0 (.lst [.ref l])) [.ref l] [.days n] := RowsB.snoc (vs := []) (B := []) .nil (s23 _ _ hl2)
 generalize upd H2 g0 (.lst [.ref l]) = H3 at s23 s3 s13 hg3 hB3 ⊢
 refine ⟨_, rfl, a, ns, 3, rfl, s3.seq hS, by decide, by decide, fun y y0 y1 => ?_⟩
 refine ⟨_, _, rfl, rfl, (by show (0 : Int) < _; decide +kernel), rfl, ?_⟩
 generalize decide (V.int (y % 2) = V.int 1) = bb
 refine ⟨_, rfl, _, rfl, _, rfl, _, rfl, a, gt, ns, n, vt, T, rfl, s3.seq hS, n1.1, n1.2, Qd (s13 _ _ hgt), hBT.same s13, tT, tl, fun gw vw nm W H4 s4 fgw hgw hBW hW wl nl => ?_⟩
 have lvt := hBT.length
 have lvw := hBW.length
 refine ⟨gt, gw, _, _, rfl, rfl, s4 _ _ (s13 _ _ hgt), hgw, by omega, fun p hp => ?_⟩
 have s45 := Qc hp (.lst (vt ++ vw))
 have hp5 : upd H4 p (.lst (vt ++ vw)) p = some (.lst (vt ++ vw)) := Qb
 have hX5 : RowsB (upd H4 p (.lst (vt ++ vw))) (vt ++ vw) (T ++ W) := ((hBT.same (s13.trans s4)).same s45).app (hBW.same s45)
 have s5 := (s3.trans s4).trans s45
 have hg5 := (s4.trans s45) _ _ hg3
 have hB5 := hB3.same (s4.trans s45)
 generalize upd H4 p (.lst (vt ++ vw)) = H5 at s45 hp5 hX5 s5 hg5 hB5 ⊢
 have lx := hX5.length
 let Pv11 : Nat → St → Hp → Prop := fun i σ H6 => ∃ (v5 v6 : Option V) (g : Addr) (vs : List V) (B : List BR), σ = [some (.ref a), some (.int n), some (.ref gt), some (.ref g), some (.bl bb), v5, v6] ∧ H6 g = some (.lst vs) ∧ RowsB H6 vs B ∧ B.Perm (BR.days n :: (T ++ W).take i) ∧ B[0]? = some (.days n) ∧ Same H5 H6
 refine ⟨p, rfl, ⟨_, Qd hp5⟩, Qjp (K := K) (m := true) (a := p) (xs := vt ++ vw) Pv11 ⟨none, none, g0, _, [.days n], rfl, hg5, hB5, .refl _, rfl, Same.refl _⟩ (fun i σ H6 _ h => ?_) ?_ ?_⟩
 ·obtain ⟨v5, v6, g, vs, B, rfl, hg6, hB6, hpm, hB0, s6⟩ := h
  exact s6.seq (Qd hp5)
 ·rintro i x σ H6 T' e1 ⟨v5, v6, g, vs, B, rfl, hg6, hB6, hpm, hB0, s6⟩ hT'
  obtain ⟨r, lr, er, rfl, hr5⟩ := hX5.get e1
  have hi := (kJ.mp er).1
  rw [jY] at hi
  have lB : B.length = i + 1 := by
   rw [hpm.length_eq, yW, xZ, jY]
   omega
  have lvs := hB6.length
  have s67 := Qc hT' (.tup [.int ((i : Nat) : Int), .ref lr])
  refine ⟨T', _, rfl, Xb Qb, rfl, _, _, rfl, _, _, rfl, rfl, ?_⟩
  generalize upd H6 T' (.tup [.int ((i : Nat) : Int), .ref lr]) = H7 at s67 ⊢
  have s57 := s6.trans s67
  have hr7 := s57 _ _ hr5
  have hg7 := s67 _ _ hg6
  have hB7 := hB6.same s67
  have tk : (T ++ W).take (i + 1) = (T ++ W).take i ++ [r] := Zt er
  have fin : ∀ {B' : List BR}, B'.Perm (r :: B) → B'.Perm (BR.days n :: (T ++ W).take (i + 1)) := fun h => by
   rw [tk]
   refine h.trans ((List.Perm.cons r hpm).trans ?_)
   refine (List.Perm.swap _ _ _).trans (.cons _ ?_)
   have h5 := wQ (l₁ := [r]) (l₂ := (T ++ W).take i)
   exact h5
  refine ⟨_, rfl, _, rfl, ite2 (fun _ => ?_) (fun _ => ?_)⟩
  ·refine ⟨_, rfl, _, rfl, _, rfl, _, rfl, _, _, rfl, rfl, a, ns, _, rfl, (s5.trans s57).seq hS, by omega, by omega, fun y' y0' y1' => ?_⟩
   refine ⟨g, lr, _, vs, B, r, rfl, hg7, hB7, by omega, by omega, hr7, fun g8 k H8 k1 k2 s8 fg8 hg8 => ?_⟩
   refine ⟨_, _, g8, _, B.take k ++ [r] ++ B.drop k, rfl, hg8, (((hB7.same s8).take k).snoc (s8 _ _ hr7)).app ((hB7.same s8).drop k), fin (Qnh B k r), ?_, s57.trans s8⟩
   rw [kK, jYc (by rw [xZ]; omega), List.getElem?_take]
   rw [if_pos (by omega)]
   exact hB0
  ·refine ⟨_, rfl, _, rfl, by show 1 ≤ sizeLine; decide, fun p9 hp9 => ?_⟩
   have s9 := Qc hp9 (.lst [.ref lr])
   refine ⟨g, p9, _, _, rfl, rfl, s9 _ _ hg7, Qb, by show vs.length + 1 ≤ _; omega, fun g8 hg8 => ?_⟩
   have s10 := s9.trans (Qc hg8 (.lst (vs ++ [.ref lr])))
   refine ⟨_, _, g8, _, B ++ [r], rfl, Qb, (hB7.same s10).snoc (s10 _ _ hr7), fin (wQ (l₁ := B) (l₂ := [r])), ?_, s57.trans s10⟩
   rw [jYc (by omega)]
   exact hB0
 ·rintro σ H6 ⟨v5, v6, g, vs, B, rfl, hg6, hB6, hpm, hB0, s6⟩
  rw [lx, kX] at hpm
  exact ⟨_, rfl, q g vs n B H6 (s5.trans s6) hg6 hB6 ⟨n1.1, n1.2, (Qnf tT hW tl wl nl).perm hpm.symm, hB0, fun r hr => Qng tT hW r (hpm.mem_iff.mp hr)⟩⟩
end
abbrev Qkf : Stmt := top 28
theorem Kh {X : Cx} {K : Fg} (hK : X.K = K) : SlR X (rSlL K) := by subst hK; exact Jl
def Jp (w : Str) : BR → Bool
 | .way w' _ _ _ => decide (w' = w)
 | _ => false
theorem Qkg {w : Str} {r : BR} (h : r.word ≠ "way") : Jp w r = false := by
 cases r with
 | way w' v l c => exact absurd rfl h
 | _ => rfl
theorem Ye {α : Type} {B : List α} {i : Nat} {r : α} (p : α → Bool) (h : B[i]? = some r) : (B.take (i + 1)).filter p = (B.take i).filter p ++ (if p r = true then [r] else []) := by
 rw [Zt h, jQd]
 by_cases c : p r = true
 ·rw [if_pos c, wZ c, List.filter_nil]
 ·rw [if_neg c, wJ c, List.filter_nil]
def Qlt (_ : Fg) : Sp := fun vs H Q _ => ∃ (d : Addr) (w : Str) (us : List V) (B : List BR), vs = [.ref d, .str w] ∧ H d = some (.lst us) ∧ RowsB H us B ∧ B.length ≤ 1000 ∧
 ∀ (D : Addr) (ys : List V) (H' : Hp), Same H H' → H D = none → H' D = some (.lst ys) → RowsB H' ys (B.filter (Jp w)) → Q (.ref D) H'
def lenOf (w v : Str) : BR → Option Int
 | .way w' v' l _ => if w' = w ∧ v' = v then some l else none
 | _ => none
def cut3 (ks : List Key) : cutV (ks.map kV) none (some 3) = (ks.take 3).map kV := by
 unfold cutV
 rw [HT.sIx_none, kQa, Nat.sub_zero, jZ, show (3 : Int) = ((3 : Nat) : Int) from rfl, HT.sIx_nat, ← List.map_take]
 by_cases h : 3 ≤ ks.length
 ·rw [jJa h]
 ·rw [Nat.min_eq_right (by omega), kX, jZe (by omega)]
theorem lenOf_some {w v : Str} {r : BR} {x : Int} : lenOf w v r = some x ↔ ∃ c, r = .way w v x c := by
 constructor
 ·intro h
  cases r with
  | way w' v' l c =>
   have h' : (if w' = w ∧ v' = v then some l else none) = some x := h
   by_cases e : w' = w ∧ v' = v
   ·rw [if_pos e] at h'
    cases h'
    rw [e.1, e.2]
    exact ⟨c, rfl⟩
   ·rw [if_neg e] at h'; cases h'
  | _ => cases h
 ·rintro ⟨c, rfl⟩
  exact if_pos ⟨rfl, rfl⟩
theorem Yb {α β : Type} {B : List α} {i : Nat} {r : α} (p : α → Option β) (h : B[i]? = some r) : (B.take (i + 1)).filterMap p = (B.take i).filterMap p ++ (p r).toList := by
 rw [Zt h, List.filterMap_append]
 congr 1
theorem WB.uniq {n : Int} {B : List BR} (h : WB n B) {r q : BR} (hr : r ∈ B) (hq : q ∈ B) (hk : r.key = q.key) (hs : r.word ≠ "shut") : r = q := by
 obtain ⟨i, ei⟩ := wW.mp hr
 obtain ⟨j, ej⟩ := wW.mp hq
 have hs' : q.word ≠ "shut" := by
  have h1 : ((Sum.inr r.word : Key) :: r.names.map Sum.inr) = Sum.inr q.word :: q.names.map Sum.inr := hk
  injection h1 with h2
  rw [← Sum.inr.inj h2]; exact hs
 rcases Nat.lt_trichotomy i j with c | c | c
 ·rcases Qdn h.nd c ei ej with z | z | z
  ·exact absurd z hs
  ·exact absurd z hs'
  ·exact absurd hk z
 ·subst c
  exact Option.some.inj (ei.symm.trans ej)
 ·rcases Qdn h.nd c ej ei with z | z | z
  ·exact absurd z hs'
  ·exact absurd z hs
  ·exact absurd hk.symm z
theorem WB.way1 {n : Int} {B : List BR} (h : WB n B) {w v : Str} {l c l' c' : Int} (h1 : .way w v l c ∈ B) (h2 : .way w v l' c' ∈ B) : l = l' ∧ c = c' := by
 have := h.uniq h1 h2 rfl (by show ¬ (("way" : Str) = "shut"); decide +kernel)
 cases this
 exact ⟨rfl, rfl⟩
section
variable {P : Program} {w : World} {K : Fg} {mg : Str → Option Value} {base : Heap}
theorem scWays : FnScope ["_law_book_here", "_law_work"] ["_law_book_here", "_law_work"] (Qi Qkf) := ⟨rfl, rfl, rfl, by decide +kernel, rfl, by decide +kernel, by decide +kernel⟩
theorem okWays (F : Fn K mg "_law_ways" Qkf) (M : Mg mg) : Cal P w K mg base 1 "_law_ways" ["_law_book_here", "_law_work"] (Qlt K) := by
 refine Ya F scWays (fun _ _ _ _ _ _ => Kx (fun _ _ => rfl)) (fun vs H Q E h => ?_) (fun f cdv A outer s H vs Q E hr h => ?_)
 ·obtain ⟨d, w, us, B, rfl, _⟩ := h
  rfl
 obtain ⟨d, w, us, B, rfl, hd, hB, bl, q⟩ := h
 refine ⟨_, (Ql (Xe (Zs ["_law_row", "_law_work"] [none, some 1] rfl (Xk (pv 0)) (fun _ _ _ => (Qt (i := 0) (show (["_law_row", "_law_work"] : List Str).Nodup by decide +kernel) rfl (Or.inl rfl) (Or.inr rfl))) (fun _ _ _ => (Zk (PW.pt (Zr (Qp Ym (Qu (Xr (K := K) rfl) (pv 0) Qe (fun _ _ => rfl)) Qx (Qw _)) (Zc (Qp Ym (Qu (Xr (K := K) rfl) (pv 0) Qe (fun _ _ => rfl)) (pv 1) (Qw _))))))) (fun _ _ _ => (pv 0))))), ?_⟩
 have hz : (20000 : Nat) < sizeLine := by decide
 have lu := hB.length
 refine ⟨_, rfl, d, rfl, ⟨_, Qd hd⟩, fun D hD => ?_⟩
 let Pv12 : Nat → St → List V → Hp → Prop := fun m τ ys H1 => ∃ v : Option V, τ = [v, some (.str w)] ∧ RowsB H1 ys ((B.take m).filter (Jp w)) ∧ ys.length ≤ m ∧ H1 D = some (.lst ys) ∧ Same H H1
 refine Yd (n := B.length) Pv12 ?_ (fun m τ ys H1 hm h => ?_) (fun m τ ys H1 hm h => ?_) (fun τ ys H1 h => ?_) ?_ ?_
 ·exact ⟨none, rfl, .nil, jX _, Qb, Qc hD _⟩
 ·obtain ⟨v, rfl, hY, hl, hE, s1⟩ := h
  exact ⟨hE, by omega⟩
 ·obtain ⟨v, rfl, hY, hl, hE, s1⟩ := h
  exact ⟨us, us[m]'(by omega), s1.seq (Qd hd), gE (by omega)⟩
 ·obtain ⟨v, rfl, hY, hl, hE, s1⟩ := h
  exact ⟨us, s1.seq (Qd hd), by omega⟩
 ·rintro m τ ys H1 x H2 hm ⟨v, rfl, hY, hl, hE, s1⟩ ⟨rfl, e1⟩
  obtain ⟨r, lr, er, rfl, hr⟩ := (hB.same s1).get (e1 _ (s1.seq (Qd hd)))
  have no : Jp w r = false → ∃ v : Option V, ([some (.ref lr), some (.str w)] : St) = [v, some (.str w)] ∧ RowsB H2 ys ((B.take (m + 1)).filter (Jp w)) ∧ ys.length ≤ m + 1 ∧ H2 D = some (.lst ys) ∧ Same H H2 := fun h => by
   refine ⟨_, rfl, ?_, by omega, hE, s1⟩
   rw [Ye (Jp w) er, h, if_neg (by decide), jQe]
   exact hY
  refine ⟨_, rfl, lr, _, _, _, rfl, rfl, Qd hr, Yp r, rfl, _, rfl, ite2 (fun y => ?_) (fun y => iteF (no (Qkg fun e => y (by rw [e]; exact yesS _))))⟩
  obtain ⟨w', v', l', c', rfl⟩ := Qav (eqS y)
  refine ⟨_, rfl, lr, _, _, _, rfl, rfl, Qd hr, (show atI ((BR.way w' v' l' c').cells.map kV) 1 = some (.str w') from rfl), _, rfl, rfl, _, rfl, ite2 (fun y2 => ?_) (fun y2 => no ?_)⟩
  ·have ew := eqS y2
   refine ⟨_, rfl, hE, _, rfl, ?_, by rw [jY]; exact zZ hl, Qb, fun b o e => ?_⟩
   ·rw [Ye (Jp w) er, show Jp w (.way w' v' l' c') = true from kZ ew, if_pos rfl]
    exact (hY.snoc hr).updL hE hY.noRow
   ·rw [Qj (Qk e hD)]; exact s1 _ _ e
  ·exact zW fun e => y2 (by rw [e]; exact yesS _)
 ·rintro τ ys H1 ⟨v, rfl, hY, hl, hE, s1⟩
  rw [kX] at hY
  exact q D ys H1 s1 hD hE hY
end
def Wb (k : Fin 3) (w v t : Str) : BR → Option Int
 | .use k' w' v' t' m => if k' = k ∧ w' = w ∧ v' = v ∧ t' = t then some m else none
 | _ => none
def Ze (B : List BR) (k : Fin 3) (w v t : Str) : Int := (B.filterMap (Wb k w v t)).sum
theorem Qkh {r : BR} {k : Fin 3} (h : r.word = useW k) : ∃ w v t m, r = .use k w v t m := by
 have hk : r.kind = 6 + k.val := by
  have e : useW k = wordOf (6 + k.val) := by match k with | 0 => rfl | 1 => rfl | 2 => rfl
  exact (Zv r (by have := k.isLt; omega)).mp (h.trans e)
 cases r with
 | use k' w v t m =>
  have e : 6 + k'.val = 6 + k.val := hk
  have e2 : k' = k := Fin.ext (by omega)
  subst e2
  exact ⟨w, v, t, m, rfl⟩
 | days n => exact absurd (show (0 : Nat) = 6 + k.val from hk) (by omega)
 | bench b r => exact absurd (show (1 : Nat) = 6 + k.val from hk) (by omega)
 | shut b f t => exact absurd (show (2 : Nat) = 6 + k.val from hk) (by omega)
 | store b m f => exact absurd (show (3 : Nat) = 6 + k.val from hk) (by omega)
 | work w => exact absurd (show (4 : Nat) = 6 + k.val from hk) (by omega)
 | way w v l c => exact absurd (show (5 : Nat) = 6 + k.val from hk) (by omega)
 | after w x g => exact absurd (show (9 : Nat) = 6 + k.val from hk) (by have := k.isLt; omega)
 | late w d c => exact absurd (show (10 : Nat) = 6 + k.val from hk) (by have := k.isLt; omega)
theorem manyOf_some {k : Fin 3} {w v t : Str} {r : BR} {x : Int} : Wb k w v t r = some x ↔ r = .use k w v t x := by
 constructor
 ·intro h
  cases r with
  | use k' w' v' t' m =>
   have h' : (if k' = k ∧ w' = w ∧ v' = v ∧ t' = t then some m else none) = some x := h
   by_cases e : k' = k ∧ w' = w ∧ v' = v ∧ t' = t
   ·rw [if_pos e] at h'
    cases h'
    obtain ⟨rfl, rfl, rfl, rfl⟩ := e
    rfl
   ·rw [if_neg e] at h'; cases h'
  | _ => cases h
 ·rintro rfl
  exact if_pos ⟨rfl, rfl, rfl, rfl⟩
section
variable {P : Program} {w : World} {K : Fg} {mg : Str → Option Value} {base : Heap}
end
end Nb
namespace L2
open PySem PySem.Spec PyProof.Rows
theorem Wc : isSubtype (.type "range_iterator") (.type "reversed") = pure false := by rw [isSubtype_type]; kernel_rfl
def Qaz (n : Int) : Obj := { cls := .type "range_iterator", data := .fields #[rawInt (0 + (n - 1) * 1), rawInt n, rawInt (-1)] }
section
variable {prog : Program} {w : World} {A : Around} {E : Value → Shared → Prop} {s : Shared}
theorem Qhq {n : Int} (h0 : 0 ≤ n) : Builtin.Range.rangeSize 0 n 1 = n := by
 rw [rangeSize_one]
 split <;> omega
theorem Jq {r : Addr} {n : Int} {t u v : Tok} {Q : Value → Shared → Prop} (hr : s.heap.get? r = some { cls := .type "range", data := .fields #[.int 0 t, .int n u, .int 1 v] }) (h0 : 0 ≤ n) (h1 : n < 1000000)
  (h : Q (.ref s.heap.objs.size) { s with heap := s.heap.push (Qaz n) }) : wpAny (model prog w) A (call (.builtin "range.__reversed__") [.ref r]) Q E s := by
 refine wpAny_call_entry F.slot_range_reversed ⟨_, hr, rfl⟩ F.entry_range_reversed ?_ (F.args_range_reversed_1 _)
 unfold Builtin.«range.__reversed__»
 refine jQ (wpAny_of_eq (a := Value.ref r) rfl ?_)
 refine jQ ?_
 unfold Builtin.Range.rangeFields
 refine jQ (wpAny_field hr rfl (x := .int 0 t) rfl ?_)
 refine jQ (wpAny_of_eq (a := some 0) rfl ?_)
 refine jQ (wpAny_field hr rfl (x := .int n u) rfl ?_)
 refine jQ (wpAny_of_eq (a := some n) rfl ?_)
 refine jQ (wpAny_field hr rfl (x := .int 1 v) rfl ?_)
 refine jQ (wpAny_of_eq (a := some 1) rfl ?_)
 refine jW ?_
 have hs : (Builtin.Range.rangeFitsLong 0 && Builtin.Range.rangeFitsLong n && Builtin.Range.rangeFitsLong 1 && Builtin.Range.rangeFitsLong (-1) && Builtin.Range.rangeFitsLong (0 - 1) && Builtin.Range.rangeFitsLong (Builtin.Range.rangeSize 0 n 1)) = true := by
  rw [Qhq h0]
  simp only [Builtin.Range.rangeFitsLong, wX, decide_eq_true_eq]
  omega
 dsimp only
 rw [hs, Qhq h0]
 rw [if_neg (by decide), if_pos rfl]
 unfold newFields
 exact jQ (wpAny_newObj_type (jW ⟨_, rfl, h⟩))
theorem Jr {r : Addr} {n : Int} {t u v : Tok} {Q₁ : Value → Shared → Prop} (hr : s.heap.get? r = some { cls := .type "range", data := .fields #[.int 0 t, .int n u, .int 1 v] }) (h0 : 0 ≤ n) (h1 : n < 1000000)
  (h : Q₁ (.ref s.heap.objs.size) { s with heap := s.heap.push (Qaz n) }) :
  codeAny (model prog w) A (.call (.builtin "reversed.__new__") ⟨[.type "reversed", .ref r], []⟩) (wants Q₁ E) s := by
 refine codeAny_of_tree ?_
 show wpAny _ A.in1 (do checkBuiltinCall "reversed.__new__" ⟨[.type "reversed", .ref r], []⟩; again (.builtin "reversed.__new__" ⟨[.type "reversed", .ref r], []⟩)) _ _ s
 refine jQ (wpAny_of_eq (F.newCall_reversed_1 _) (jW ⟨jKa F.plain_reversed_new _, codeAny_builtin F.entry_reversed_new ?_⟩))
 rw [Around.under_plainId F.plain_reversed_new _]
 unfold Builtin.«reversed.__new__»
 refine jQ (wpAny_of_eq (newClass_reversed _) ?_)
 try dsimp only
 refine jQ (wpAny_of_eq (a := ()) (by first | rfl | kernel_rfl) ?_)
 refine jQ (wpAny_of_eq (a := ()) (by first | rfl | kernel_rfl) ?_)
 try dsimp only
 refine jQ (wpAny_specialOf (T := "range") ⟨_, hr, rfl⟩ F.slot_range_reversed.lookup ?_)
 try dsimp only
 refine jQ (wpAny_of_eq (F.slot_range_reversed.bind _) ?_)
 try dsimp only
 first
 | rw [if_neg (show ¬ ((Value.builtin "range.__reversed__" == Value.none) = true) from yZ)]
 | (show wpAny _ _ (if (Value.builtin "range.__reversed__" == Value.none) = true then _ else _) _ _ _; rw [if_neg (show ¬ ((Value.builtin "range.__reversed__" == Value.none) = true) from yZ)])
 refine jQ (wpAny_rule ?_)
 refine jQ (m := runValue (.call (.builtin "range.__reversed__") ⟨[.ref r], []⟩)) (show wpAny _ _ (call (.builtin "range.__reversed__") [.ref r]) _ _ _ from Jq hr h0 h1 ?_)
 first
 | exact jW h
 | exact jQ (jW (jW h))
theorem Js {r : Addr} {n : Int} {t u v : Tok} {Q : Value → Shared → Prop} (hr : s.heap.get? r = some { cls := .type "range", data := .fields #[.int 0 t, .int n u, .int 1 v] }) (h0 : 0 ≤ n) (h1 : n < 1000000)
  (h : Q (.ref s.heap.objs.size) { s with heap := s.heap.push (Qaz n) }) : wpAny (model prog w) A (call (.type "reversed") [.ref r]) Q E s := by
 refine callType_other (U := "range_iterator") (Q₁ := fun obj s₁ => obj = .ref s.heap.objs.size ∧ s₁ = { s with heap := s.heap.push (Qaz n) }) (by decide +kernel) F.create_reversed ⟨_, _, F.mro_reversed⟩ F.made_reversed Wc (F.typeCall_reversed_1 _) (Jr hr h0 h1 ⟨rfl, rfl⟩) ?_
 rintro obj s₁ ⟨rfl, rfl⟩
 exact ⟨⟨_, yX _ rfl, rfl⟩, h⟩
end
section
variable {X : Cx} {tg : Expr}
def iRevR (ta : TA) : TI := fun σ H R => ta σ H fun vs H1 => ∃ (p : Addr) (n : Nat), vs = [.ref p] ∧ H1 p = some (.rng 0 ((n : Nat) : Int)) ∧ n < 1000000 ∧ R (Itr3 (((n : Nat) : Int) - 1) (-1) n) H1
theorem Qni {a : Expr} {ta : TA} {p pos : Pos} (hg : Gl X "reversed") (hm : X.mg "reversed" = none) (ha : PA X [a] ta) (hs : autoParam (starEach [a] X.env = [(false, eval a X.env)]) L2.aRfl._auto_1) :
  PI X tg (.Call (.Name "reversed" p) [a] [] pos) (iRevR ta) := by
 intro pins s σ H R I h
 refine Call_ (Vg I hg hm Qdf (PyProof.Rows.callWith_type1 (thn (ha pos pins s σ H _ I h) fun us s1 hqP => ?_) hs rfl))
 obtain ⟨vs, H1, I1, r1, q1⟩ := hqP
 obtain ⟨l, n, e, hl, hn, q⟩ := q1
 subst e
 obtain ⟨u, rfl, ru⟩ := r1.one
 cases ru
 obtain ⟨t, u, v, hr⟩ := (show ObjOk X.prog X.w H1 s1.heap l (.rng 0 ((n : Nat) : Int)) from I1.hok l _ hl)
 refine Js hr (by omega) (by omega) ?_
 have g : (s1.heap.push (Qaz ((n : Nat) : Int))).get? s1.heap.objs.size = some (Qaz ((n : Nat) : Int)) := yX _ rfl
 have st : IsRangeIter (s1.heap.push (Qaz ((n : Nat) : Int))) s1.heap.objs.size ((((n : Nat) : Int) - 1) + ((0 : Nat) : Int) * (-1)) (((n : Nat) : Int) - ((0 : Nat) : Int)) (-1) := by
  have e1 : (((n : Nat) : Int) - 1) + ((0 : Nat) : Int) * (-1) = 0 + (((n : Nat) : Int) - 1) * 1 := by omega
  have e2 : ((n : Nat) : Int) - ((0 : Nat) : Int) = ((n : Nat) : Int) := by omega
  rw [e1, e2]
  exact g
 refine wpAny_pyIter_rangeiter (s := { s1 with heap := s1.heap.push (Qaz ((n : Nat) : Int)) }) st ?_
 have I2 : Inv X pins σ H1 { s1 with heap := s1.heap.push (Qaz ((n : Nat) : Int)) } := I1.kept (t' := s1.toks) fun b o e => jJ _ e
 refine ⟨s1.heap.objs.size, [s1.heap.objs.size], _, _, H1, rfl, I2, Qdj _ (((n : Nat) : Int) - 1) (-1) n, st, fun b hb => ?_, q⟩
 have e : b = s1.heap.objs.size := by simpa using hb
 subst e
 exact I1.fpOk (jX _) (I1.hok.fresh (jX _))
end
theorem is_kV {P : Program} {w : World} {k : Key} {u : Value} (h : (Xi P w).is k u = true) : RelV (kV k) u := by
 rw [Qez] at h
 rcases Xt h with ⟨i, t, rfl, rfl⟩ | ⟨x, t, rfl, rfl⟩
 ·exact ⟨t, rfl⟩
 ·exact ⟨t, rfl⟩
section
variable {X : Cx} {pins : List (Addr × Obj)} {σ : St} {H : Hp} {s : Shared} {d : Addr} {kvs : List (Key × V)} {o : Obj}
def NF (X : Cx) (d : Addr) : Prop := ∀ o u, X.H₀ d ≠ some (.frz o u)
theorem Inv.nf (I : Inv X pins σ H s) (e : H d = some (.dK kvs)) : NF X d := fun o u z => by
 have := I.base.frzs d o u z
 rw [e] at this
 cases this
theorem Inv.freeze (I : Inv X pins σ H s) (e : H d = some (.dK kvs)) : ∃ o, s.heap.get? d = some o ∧ Inv X pins σ (upd H d (.frz o (.dK kvs))) s := by
 obtain ⟨z, hd, vs, rel, dd⟩ := Vv I.hok e
 obtain ⟨o, es, ep, h1, h2⟩ := id dd
 exact ⟨o, h1, Jo (t' := s.toks) I (by rw [e]; exact True.intro) (Heap.SameBut.refl _ _) ⟨o, h1⟩ ⟨h1, z, hd, vs, rel, dd⟩⟩
theorem Inv.thaw (I : Inv X pins σ H s) (nf : NF X d) (e : H d = some (.frz o (.dK kvs))) : Inv X pins σ (upd H d (.dK kvs)) s := by
 have ne : ∀ b, H b = none → b ≠ d := fun b n z => by rw [z, e] at n; cases n
 have ok : ObjOk X.prog X.w H s.heap d (.frz o (.dK kvs)) := I.hok d _ e
 obtain ⟨_, z, hd, vs, rel, dd⟩ := ok
 refine ⟨I.ok, I.os, I.bare, ⟨I.base.keep, I.base.slot, fun b q e1 n hx => ?_, I.base.there, fun b xs q => ?_, fun b o' u q => ?_, fun b ps q => ?_⟩, I.loc, I.cell, ?_, fun x c q => ?_, fun p hp => ?_, fun b u q => ?_, I.len⟩
 ·have n1 := I.base.free b q e1 n hx
  rw [Qj (ne b n1)]; exact n1
 ·have q1 := I.base.tups b xs q
  rw [Qj (Yl q1 e (by intro z; cases z))]; exact q1
 ·have q1 := I.base.frzs b o' u q
  rw [Qj (fun z => by subst z; exact nf _ _ q)]; exact q1
 ·obtain ⟨m, q1⟩ := I.base.tbls b ps q
  exact ⟨m, by rw [Qj (Yl q1 e (by intro z; cases z))]; exact q1⟩
 ·rw [Qj (ne _ I.free)]; exact I.free
 ·have n1 := I.freeC x c q
  rw [Qj (ne _ n1)]; exact n1
 ·obtain ⟨a1, a2, a3⟩ := I.pin p hp
  exact ⟨a1, by rw [Qj (ne _ a2)]; exact a2, a3⟩
 ·by_cases hb : b = d
  ·subst hb
   rw [Qb] at q
   cases q
   exact ⟨z, hd, vs, rel, dd⟩
  ·rw [Qj hb] at q
   exact (I.hok b u q).stay (fun _ _ _ r => r) (fun c r => by rw [Qj (Yl r e (by intro z; cases z))]; exact r) fun c xs r => by rw [Qj (Yl r e (by intro z; cases z))]; exact r
end
theorem Qhr {P : Program} {w : World} {H : Hp} {h : Heap} {d : Addr} {o : Obj} {kvs : List (Key × V)} {es : Array DictEntry} {ep : Nat} (ok : HOk P w H h) (e : H d = some (.frz o (.dK kvs))) (hd : o.data = .dict es ep) : ∃ vs, KV kvs vs ∧ h.DictAt (Xi P w) d vs ep := by
 obtain ⟨h0, z, hn, vs, rel, ob, es', ep', h1, h2, h3, h4⟩ := (show ObjOk P w H h d (.frz o (.dK kvs)) from ok d _ e)
 rw [h0] at h1
 cases h1
 rw [hd] at h3
 cases h3
 exact ⟨vs, rel, o, es, h0, h2, hd, h4⟩
section
variable {X : Cx}
def Thw (F : Addr → Prop) (D : Ends) : Ends where
 nx := fun σ H => ∃ d o kvs, F d ∧ H d = some (.frz o (.dK kvs)) ∧ D.nx σ (upd H d (.dK kvs))
 rt := fun v H => ∃ d o kvs, F d ∧ H d = some (.frz o (.dK kvs)) ∧ D.rt v (upd H d (.dK kvs))
 bk := fun σ H => ∃ d o kvs, F d ∧ H d = some (.frz o (.dK kvs)) ∧ D.bk σ (upd H d (.dK kvs))
 ct := fun σ H => ∃ d o kvs, F d ∧ H d = some (.frz o (.dK kvs)) ∧ D.ct σ (upd H d (.dK kvs))
def tThw (F : Addr → Prop) (t : TS) : TS := fun D σ H => t (Thw F D) σ H
theorem Qnj {st : Stmt} {t : TS} (h : PS X st t) : PS X st (tThw (NF X) t) := by
 intro pins s σ H D I q
 refine thn (h pins s σ H _ I q) fun f s' p => ?_
 cases f with
 | next => obtain ⟨σ', H', I', d, o, kvs, nf, e, r⟩ := p; exact ⟨σ', _, I'.thaw nf e, r⟩
 | brk => obtain ⟨σ', H', I', d, o, kvs, nf, e, r⟩ := p; exact ⟨σ', _, I'.thaw nf e, r⟩
 | cont => obtain ⟨σ', H', I', d, o, kvs, nf, e, r⟩ := p; exact ⟨σ', _, I'.thaw nf e, r⟩
 | ret u => obtain ⟨v, σ', H', I', rv, d, o, kvs, nf, e, r⟩ := p; exact ⟨v, σ', _, I'.thaw nf e, rv, r⟩
end
end L2
namespace Nb
open PySem L2
abbrev Qft : Stmt := top 29
def Ys : BR → Option Str
 | .work w => some w
 | _ => none
def wks (B : List BR) : List Str := B.filterMap Ys
theorem Ki {r : BR} (h : r.word ≠ "work") : Ys r = none := by
 cases r with
 | work w => exact absurd rfl h
 | _ => rfl
theorem wks_mem {B : List BR} {w : Str} : w ∈ wks B ↔ BR.work w ∈ B := by
 unfold wks
 rw [jQc]
 constructor
 ·rintro ⟨r, hr, e⟩
  cases r with
  | work w' => cases e; exact hr
  | _ => cases e
 ·exact fun h => ⟨_, h, rfl⟩
theorem Qhs {n : Int} {B : List BR} (h : WB n B) : (wks B).Nodup := by
 unfold wks List.Nodup
 rw [List.pairwise_filterMap]
 refine h.nd.imp fun {r q} ha w hw w' hw' e => ?_
 cases r with
 | work x =>
  cases hw
  cases q with
  | work y =>
   cases hw'
   subst e
   rcases ha with z | z | z
   ·exact absurd z (by show ¬ (("work" : Str) = "shut"); decide +kernel)
   ·exact absurd z (by show ¬ (("work" : Str) = "shut"); decide +kernel)
   ·exact z rfl
  | _ => cases hw'
 | _ => cases hw
theorem PlanAt.same {K : Fg} {H H' : Hp} {d : Addr} {pl : List (Str × Str × Int)} (h : PlanAt K H d pl) (s : Same H H') : PlanAt K H' d pl := by
 obtain ⟨kvs, h1, h2⟩ := h
 exact ⟨kvs, s _ _ h1, Paired.mapP h2 fun _ _ ⟨e, t, e2, z⟩ => ⟨e, t, e2, s.tup z⟩⟩
theorem Qer {K : Fg} {H : Hp} {P t : Addr} {kvs kvs' : List (Key × V)} {xs : List V} (hP : H P = some (.dK kvs)) (h : SqT K H t xs) : SqT K (upd H P (.dK kvs')) t xs := by
 rcases h with (h | ⟨p, h⟩) | h
 ·exact .inl (.inl (by rw [Qj (Yl h hP (by intro z; cases z))]; exact h))
 ·exact .inl (.inr ⟨p, by rw [Qj (Yl h hP (by intro z; cases z))]; exact h⟩)
 ·exact .inr h
def hasW (B : List BR) (w : Str) : Bool := !(B.filter (Jp w)).isEmpty
theorem Qnk {B : List BR} {w : Str} {yw : List V} (l : yw.length = (B.filter (Jp w)).length) : hasW B w = !yw.isEmpty := by
 unfold hasW
 generalize B.filter (Jp w) = L at l ⊢
 cases yw with
 | nil => cases L with
  | nil => rfl
  | cons a b => exact nomatch l
 | cons c d => cases L with
  | nil => exact nomatch l
  | cons a b => rfl
theorem hasW_iff {B : List BR} {w : Str} : hasW B w = true ↔ ∃ v l c, BR.way w v l c ∈ B := by
 unfold hasW
 constructor
 ·intro h
  cases e : B.filter (Jp w) with
  | nil => rw [e] at h; cases h
  | cons r L =>
   have hr : r ∈ B.filter (Jp w) := by rw [e]; exact jK
   obtain ⟨h1, h2⟩ := xK.mp hr
   cases r with
   | way w' v l c =>
    have e2 : w' = w := kY h2
    subst e2
    exact ⟨v, l, c, h1⟩
   | _ => cases h2
 ·rintro ⟨v, l, c, h⟩
  have hm : BR.way w v l c ∈ B.filter (Jp w) := xK.mpr ⟨h, kZ rfl⟩
  cases e : B.filter (Jp w) with
  | nil => rw [e] at hm; exact nomatch hm
  | cons r L => rfl
structure PlanFor (n : Int) (B : List BR) (pl : List (Str × Str × Int)) : Prop where
 keys : (pl.map (·.1)).Perm ((wks B).filter (hasW B))
 good : ∀ p ∈ pl, ∃ l c, BR.way p.1 p.2.1 l c ∈ B ∧ 0 ≤ p.2.2 ∧ p.2.2 + l ≤ n
theorem Wd {K : Fg} {H : Hp} {kvs : List (Key × V)} {pl : List (Str × Str × Int)} (h : Paired (fun (p : Key × V) (q : Str × Str × Int) => p.1 = Sum.inr q.1 ∧ ∃ t, p.2 = .ref t ∧ SqT K H t [.str q.2.1, .int q.2.2]) kvs pl) : kvs.map (·.1) = (pl.map (·.1)).map Sum.inr := by
 induction h with
 | nil => rfl
 | cons z _ ih => rw [zJ, zJ, zJ, ih, z.1]
theorem Qki {κ : Type} [DecidableEq κ] {kvs : List (κ × V)} {k : κ} (h : k ∉ kvs.map (·.1)) : valV kvs k = none := by
 cases e : valV kvs k with
 | none => rfl
 | some v => exact absurd (Qmx e) h
def Qlu (K : Fg) : Sp := fun vs H Q _ => ∃ (a d : Addr) (ns : List Int) (st n : Int) (us : List V) (B : List BR), vs = [.ref a, .int st, .ref d] ∧ SqL K H a (ns.map V.int) ∧ 0 ≤ st ∧ st ≤ 1000 ∧ H d = some (.lst us) ∧ RowsB H us B ∧ BookOk n B ∧
 ∀ (P : Addr) (pl : List (Str × Str × Int)) (H' : Hp), Same H H' → H P = none → PlanAt K H' P pl → PlanFor n B pl → Q (.ref P) H'
section
variable {P : Program} {w : World} {K : Fg} {mg : Str → Option Value} {base : Heap}
theorem scPlan : FnScope ["_law_script", "_law_start", "_law_book_here", "_law_found", "_law_works_here", "_law_k", "_law_ways_here", "_law_number", "_law_way_here"] ["_law_script", "_law_start", "_law_book_here"] (Qi Qft) := ⟨rfl, rfl, rfl, by decide +kernel, rfl, by decide +kernel, by decide +kernel⟩
theorem okPlan (F : Fn K mg "_law_plan" Qft) (M : Mg mg) (cl_mixed : Cal P w K mg base 2 "_law_mixed" ["_law_script", "_law_k"] (Zy K)) (cl_ways : Cal P w K mg base 1 "_law_ways" ["_law_book_here", "_law_work"] (Qlt K)) : Cal P w K mg base 3 "_law_plan" ["_law_script", "_law_start", "_law_book_here"] (Qlu K) := by
 refine Ya F scPlan (fun _ _ _ _ _ _ => Qfn (fun _ _ _ => rfl)) (fun vs H Q E h => ?_) (fun f cdv A outer s H vs Q E hr h => ?_)
 ·obtain ⟨a, d, ns, st, n, us, B, rfl, _⟩ := h
  rfl
 obtain ⟨a, d, ns, st, n, us, B, rfl, hS, st0, st1, hd, hB, bk, q⟩ := h
 have hu6 : (A.deeper (PyProof.Rows.envOfC "_law_plan" (Qi Qft) s.heap.objs.size f cdv)).units + 6 < cLine := xQ (xV (by decide) _) hr.un
 have hu : (A.deeper (PyProof.Rows.envOfC "_law_plan" (Qi Qft) s.heap.objs.size f cdv)).units + 1 < cLine := xQ (xV (by decide) _) hr.un
 refine ⟨_, (Qh (Qr (i := 3) scPlan.nd rfl (Or.inl rfl) Qjm)
  (Qh (Qaj (i := 4) ["_law_row"] [none] rfl scPlan.nd rfl (Or.inl rfl) (Xk (pv 2)) (fun _ _ _ => (Qt (i := 0) (show (["_law_row"] : List Str).Nodup by decide +kernel) rfl (Or.inl rfl) (Or.inr rfl))) (fun _ _ _ => (Zk (Qp Ym (Qu (Xr (K := K) rfl) (pv 0) Qe (fun _ _ => rfl)) Qx (Qw _)))) (fun _ _ _ => (Qu (Xr (K := K) rfl) (pv 0) Qe (fun _ _ => rfl))))
  (Qh (Yq PassesOwn.never rfl (Qni rfl M.reversed_ (Qa (Qjh M.range_ (Qa (Qs Qv rfl M.len Yj (Qa (pv 4) Qf)) Qf)) Qf)) (Qt (i := 5) scPlan.nd rfl (Or.inl rfl) (Or.inl rfl)) (Qh (Qr (i := 6) scPlan.nd rfl (Or.inl rfl) (Xp cl_ways (hr.mono (by decide)) (Qa (pv 2) (Qa (Qu Qq (pv 4) (pv 5) (fun _ _ => rfl)) Qf))))
  (Ql (Xx (Qp (Qas (K := K) (n := 6) rfl hu6) (pv 6) (Xf Qf) (Qw _)) (Qh (Qr (i := 7) scPlan.nd rfl (Or.inl rfl) (Xp cl_mixed (hr.mono (by decide)) (Qa (pv 0) (Qa (Qm Qz (pv 1) (pv 5)) Qf))))
  (Qh (Qr (i := 8) scPlan.nd rfl (Or.inl rfl) (Qu Qq (pv 6) (Qm Qy (pv 7) (Qs Qv rfl M.len Yj (Qa (pv 6) Qf))) (fun _ _ => rfl)))
  (Ql (Kl hu (pv 3) (Qu Qq (pv 4) (pv 5) (fun _ _ => rfl)) (Xh (Qa (Qu Qq (pv 8) Qe (fun _ _ => rfl)) (Qa (Qm Qy (Qm Xj (pv 7) Qe) (Qm Qz (Qm Vi (Qu Qq (Qu Qq (pv 2) Qe (fun _ _ => rfl)) Qe (fun _ _ => rfl)) (Qu Qq (pv 8) Qe (fun _ _ => rfl))) Qe)) Qf))) rfl)))) Xa))))
  (Ql (Xe (pv 3)))))), ?_⟩
 refine Kf ?_
 intro rT4 rT3 rT2
 have hz : (20000 : Nat) < sizeLine := by decide
 have lu := hB.length
 have bl := bk.wb.len
 intro P hP
 have s0 := Qc hP (.dK [])
 have hP0 : upd H P (.dK []) P = some (.dK []) := Qb
 generalize upd H P (.dK []) = H0 at s0 hP0 ⊢
 refine ⟨_, rfl, d, rfl, ⟨_, Qd (s0 _ _ hd)⟩, fun D hD => ?_⟩
 let Pv13 : Nat → St → List V → Hp → Prop := fun m τ ys H1 => ∃ v : Option V, τ = [v] ∧ ys = ((B.take m).filterMap Ys).map V.str ∧ ys.length ≤ m ∧ H1 D = some (.lst ys) ∧ Same H0 H1
 refine Yd (n := B.length) Pv13 ?_ (fun m τ ys H1 hm h => ?_) (fun m τ ys H1 hm h => ?_) (fun τ ys H1 h => ?_) ?_ ?_
 ·exact ⟨none, rfl, rfl, jX _, Qb, Qc hD _⟩
 ·obtain ⟨v, rfl, ey, hl, hE, s1⟩ := h
  exact ⟨hE, by omega⟩
 ·obtain ⟨v, rfl, ey, hl, hE, s1⟩ := h
  exact ⟨us, us[m]'(by omega), s1.seq (Qd (s0 _ _ hd)), gE (by omega)⟩
 ·obtain ⟨v, rfl, ey, hl, hE, s1⟩ := h
  exact ⟨us, s1.seq (Qd (s0 _ _ hd)), by omega⟩
 ·rintro m τ ys H1 x H2 hm ⟨v, rfl, ey, hl, hE, s1⟩ ⟨rfl, e1⟩
  obtain ⟨r, lr, er, rfl, hr⟩ := (hB.same (s0.trans s1)).get (e1 _ (s1.seq (Qd (s0 _ _ hd))))
  refine ⟨_, rfl, lr, _, _, _, rfl, rfl, Qd hr, Yp r, rfl, _, rfl, ite2 (fun y => ?_) (fun y => ?_)⟩
  ·obtain ⟨w, rfl⟩ := Kg (eqS y)
   refine ⟨_, rfl, lr, _, _, _, rfl, rfl, Qd hr, (show atI ((BR.work w).cells.map kV) 1 = some (.str w) from rfl), hE, _, rfl, ?_, by rw [jY]; exact zZ hl, Qb, fun b o e => ?_⟩
   ·rw [Yb Ys er, show Ys (.work w) = some w from rfl, yQ, ey]
    rfl
   ·rw [Qj (Qk e hD)]; exact s1 _ _ e
  ·refine ⟨_, rfl, ?_, by omega, hE, s1⟩
   rw [Yb Ys er, Ki (fun e => y (by rw [e]; exact yesS _)), ey]
   simp
 ·rintro τ ys H1 ⟨v, rfl, ey, hl, hE, s1⟩
  rw [kX] at ey
  have hL : H1 D = some (.lst ((wks B).map V.str)) := by rw [hE, ey]; rfl
  have s01 := s0.trans s1
  have hD0 : H D = none := by
   cases e5 : H D with
   | none => rfl
   | some o => rw [s0 _ _ e5] at hD; cases hD
  have lw : (wks B).length ≤ B.length := wY _ _
  have lm : ((wks B).map V.str).length = (wks B).length := jZ ..
  refine ⟨_, rfl, D, _, rfl, .inl (Qd hL), _, rfl, fun rr hrr => ?_⟩
  have s2 := Qc hrr (.rng 0 ((((wks B).map V.str).length : Nat) : Int))
  refine ⟨rr, ((wks B).map V.str).length, rfl, Qb, by omega, Qfm (lo := ((((wks B).map V.str).length : Nat) : Int) - 1) (c := -1) (n := ((wks B).map V.str).length) (fun i σ H3 => ∃ (v5 v6 v7 v8 : Option V) (pl : List (Str × Str × Int)), σ = [some (.ref a), some (.int st), some (.ref d), some (.ref P), some (.ref D), v5, v6, v7, v8] ∧ PlanAt K H3 P pl ∧ pl.map (·.1) = (((wks B).drop ((wks B).length - i)).filter (hasW B)).reverse ∧ (∀ p ∈ pl, ∃ l c, BR.way p.1 p.2.1 l c ∈ B ∧ 0 ≤ p.2.2 ∧ p.2.2 + l ≤ n) ∧ H3 D = some (.lst ((wks B).map V.str)) ∧ Same H H3) ⟨none, none, none, none, [], rfl, ⟨[], s2 _ _ (s1 _ _ hP0), .nil⟩, ?_, fun _ h => (nomatch h), s2 _ _ hL, s01.trans s2⟩ ?_ ?_⟩
  ·rw [Nat.sub_zero, List.drop_length]; rfl
  ·rintro i σ H3 hi ⟨v5, v6, v7, v8, pl, rfl, hP3, hk3, hg3, hL3, s3⟩
   rw [lm] at hi
   obtain ⟨k, hk⟩ : ∃ k : Nat, k = (wks B).length - 1 - i := ⟨_, rfl⟩
   have hkl : k < (wks B).length := by omega
   have ek : (((((wks B).map V.str).length : Nat) : Int) - 1) + ((i : Nat) : Int) * (-1) = ((k : Nat) : Int) := by rw [lm]; omega
   rw [ek]
   obtain ⟨w, ew⟩ : ∃ w, (wks B)[k]? = some w := ⟨_, gE hkl⟩
   have aw : atI ((wks B).map V.str) ((k : Nat) : Int) = some (.str w) := Qdh (by rw [yY, ew]; rfl)
   have e5 : (wks B)[k] = w := Option.some.inj ((gE hkl).symm.trans ew)
   have ed : (wks B).drop ((wks B).length - (i + 1)) = w :: (wks B).drop ((wks B).length - i) := by
    rw [show (wks B).length - (i + 1) = k by omega, jYd hkl, show k + 1 = (wks B).length - i by omega, e5]
   refine ⟨_, rfl, _, rfl, _, rfl, D, _, _, _, rfl, rfl, Qd hL3, aw, d, w, us, B, rfl, s3 _ _ hd, hB.same s3, by omega, fun Dw yw H4 s4 fDw hDw hBw => ?_⟩
   have lyw := hBw.length
   have hyw := Qnk lyw
   have yle : yw.length ≤ B.length := by rw [lyw]; exact xY _ _
   refine ⟨_, rfl, by show 0 ≤ sizeLine; decide, fun p5 hp5 => ?_⟩
   have s5 := Qc hp5 (.lst [])
   have s45 := s4.trans s5
   have hDw5 := s5 _ _ hDw
   have hBw5 := hBw.same s5
   refine ⟨Dw, p5, yw, rfl, rfl, Qd hDw5, Qd Qb, _, rfl, ite2 (fun y => ?_) (fun y => ⟨_, _, _, _, pl, rfl, PlanAt.same hP3 s45, ?_, hg3, s45 _ _ hL3, s3.trans s45⟩)⟩
   rotate_left
   ·rw [ed, wJ (by rw [hyw]; exact y)]; exact hk3
   have hw1 : hasW B w = true := by rw [hyw]; exact y
   have yne : 0 < yw.length := by
    cases yw with
    | nil => exact nomatch y
    | cons a b => exact Nat.succ_pos _
   generalize upd H4 p5 (.lst []) = H5 at s5 s45 hDw5 hBw5 ⊢
   have s35 := s3.trans s45
   refine ⟨_, rfl, _, rfl, _, rfl, _, _, rfl, rfl, a, ns, _, rfl, s35.seq hS, by omega, by omega, fun z z0 z1 => ?_⟩
   have py : (0 : Int) < ((yw.length : Nat) : Int) := by omega
   have j0 := xW z (kXe py)
   have j1 := xX z py
   obtain ⟨j, ej⟩ : ∃ j : Nat, z % ((yw.length : Nat) : Int) = ((j : Nat) : Int) := ⟨(z % ((yw.length : Nat) : Int)).toNat, by omega⟩
   have jl : j < yw.length := by omega
   obtain ⟨r, lr, er, ev, hr⟩ := hBw5.get (gE jl)
   obtain ⟨hrB, hrw⟩ := xK.mp (yV er)
   obtain ⟨v', l', c', rfl⟩ : ∃ v' l' c', r = .way w v' l' c' := by
    cases r with
    | way w' v' l' c' =>
     have e : w' = w := kY hrw
     subst e
     exact ⟨v', l', c', rfl⟩
    | _ => cases hrw
   have hok := bk.wb.ok _ hrB
   have hl1 : 1 ≤ l' ∧ l' ≤ n := ⟨hok.1, hok.2.1⟩
   have aj : atI yw (z % ((yw.length : Nat) : Int)) = some (.ref lr) := by
    rw [ej]
    exact Qdh (by rw [gE jl, ev])
   refine ⟨_, rfl, _, rfl, _, rfl, Dw, _, rfl, .inl (Qd hDw5), _, _, rfl, rfl, py, Dw, _, _, _, rfl, rfl, Qd hDw5, aj, ?_⟩
   obtain ⟨u0, eu0⟩ : ∃ u0, us[0]? = some u0 := ⟨_, gE (by
    rw [lu]
    exact (kJ.mp bk.hd).1)⟩
   obtain ⟨r0, ld, er0, rfl, hr0⟩ := (hB.same s35).get eu0
   rw [bk.hd] at er0
   cases er0
   have a0 : atI us 0 = some (.ref ld) := Qdh (k := 0) eu0
   have b0 := xW (z / 3) (show (n - l' + 1) ≠ 0 by omega)
   have b1 := xX (z / 3) (show 0 < n - l' + 1 by omega)
   refine ⟨_, rfl, lr, _, _, _, rfl, rfl, Qd hr, (show atI ((BR.way w v' l' c').cells.map kV) 2 = some (.str v') from rfl), _, rfl, _, _, rfl, rfl, ⟨by decide, by decide⟩, _, rfl, d, _, _, _, rfl, rfl, Qd (s35 _ _ hd), a0, ld, _, _, _, rfl, rfl, Qd hr0, (show atI ((BR.days n).cells.map kV) 1 = some (.int n) from rfl), _, rfl, lr, _, _, _, rfl, rfl, Qd hr, (show atI ((BR.way w v' l' c').cells.map kV) 3 = some (.int l') from rfl), _, _, rfl, rfl, _, _, rfl, rfl, _, _, rfl, rfl, (by show 0 < n - l' + 1; omega), by show 2 ≤ sizeLine; decide, fun t ht => ?_⟩
   have s6 := Qc ht (.tup [.str v', .int (z / 3 % (n - l' + 1))])
   have ht6 : upd H5 t (.tup [.str v', .int (z / 3 % (n - l' + 1))]) t = some (.tup [.str v', .int (z / 3 % (n - l' + 1))]) := Qb
   generalize upd H5 t (.tup [.str v', .int (z / 3 % (n - l' + 1))]) = H6 at s6 ht6 ⊢
   have s36 := s45.trans s6
   obtain ⟨kvs, hk6, hp6⟩ := PlanAt.same hP3 s36
   have wnk : (Sum.inr w : Key) ∉ kvs.map (·.1) := fun h => by
    rw [Wd hp6, hk3] at h
    obtain ⟨x, hx, e⟩ := zV.mp h
    cases e
    have hx' := (xK.mp (List.mem_reverse.mp hx)).1
    obtain ⟨j', ej'⟩ := wW.mp hx'
    rw [List.getElem?_drop] at ej'
    have := (List.getElem?_inj hkl (Qhs bk.wb)).mp (ew.trans ej'.symm)
    omega
   have lk : kvs.length ≤ 400 := by
    have h5 := congrArg List.length (Wd hp6)
    rw [jZ, jZ, hk3, List.length_reverse] at h5
    have h6 := xY (hasW B) ((wks B).drop ((wks B).length - i))
    rw [jZb] at h6
    omega
   refine ⟨_, rfl, _, rfl, _, rfl, D, _, _, _, rfl, rfl, Qd (s36 _ _ hL3), aw, P, _, rfl, DPut.k (k := Sum.inr w) hk6 (by omega), _, _, _, _, pl ++ [(w, v', z / 3 % (n - l' + 1))], rfl, ⟨_, Qb, ?_⟩, ?_, fun p hp => ?_, ?_, fun b o e => ?_⟩
   ·rw [Qjj _ (Qki wnk)]
    exact Paired.snoc (Paired.mapP hp6 fun _ _ ⟨e, t', e2, z'⟩ => ⟨e, t', e2, Qer hk6 z'⟩) ⟨rfl, t, rfl, Qer hk6 (Xb ht6)⟩
   ·rw [yQ, hk3, ed, wZ hw1, List.reverse_cons]
    rfl
   ·rcases kW.mp hp with h | h
    ·exact hg3 p h
    ·rw [kQ.mp h]; exact ⟨l', c', hrB, b0, (by show z / 3 % (n - l' + 1) + l' ≤ n; omega)⟩
   ·rw [Qj (Yl (s36 _ _ hL3) hk6 (by intro z'; cases z'))]; exact s36 _ _ hL3
   ·rw [Qj (Qk e hP)]; exact (s3.trans s36) _ _ e
  ·rintro σ H3 ⟨v5, v6, v7, v8, pl, rfl, hP3, hk3, hg3, hL3, s3⟩
   rw [lm, Nat.sub_self, kQa] at hk3
   exact ⟨_, rfl, q P pl H3 s3 hP hP3 ⟨by rw [hk3]; exact kQf _, hg3⟩⟩
end
def lenB (B : List BR) (w v : Str) : Int := (B.filterMap (lenOf w v)).headD 0
def Jj (b : Str) (day : Int) : BR → Bool
 | .shut b' f t => decide (b' = b ∧ f ≤ day ∧ day < t)
 | _ => false
theorem Qht {r : BR} (h : r.word = "shut") : ∃ b f t, r = .shut b f t := by
 have hk : r.kind = 2 := (Zv r (k := 2) (by decide)).mp h
 cases r with
 | shut b f t => exact ⟨b, f, t, rfl⟩
 | use k _ _ _ _ => exact absurd (show 6 + k.val = 2 from hk) (by omega)
 | _ => exact nomatch hk
def Qfu (B : List BR) (b : Str) (r day : Int) : Int := if (B.filter (Jj b day)).length = 0 then r else 0
def useR (B : List BR) (b : Str) (day : Int) (p : Str × Str × Int) : Int := if p.2.2 ≤ day ∧ day < p.2.2 + lenB B p.1 p.2.1 then Ze B 0 p.1 p.2.1 b else 0
def Qcm (B : List BR) (pl : List (Str × Str × Int)) (b : Str) (r day : Int) : Int := Qfu B b r day - (pl.map (useR B b day)).sum
def Qes (n : Int) (B : List BR) (pl : List (Str × Str × Int)) : Prop := ∀ p ∈ pl, ∃ l c, BR.way p.1 p.2.1 l c ∈ B ∧ 0 ≤ p.2.2 ∧ p.2.2 + l ≤ n
theorem Jt {n : Int} {B : List BR} (wb : WB n B) {w v : Str} {l c : Int} (h : BR.way w v l c ∈ B) : lenB B w v = l := by
 have hx : ∀ x ∈ B.filterMap (lenOf w v), x = l := fun x hx => by
  obtain ⟨r, hr, e⟩ := jQc.mp hx
  obtain ⟨c', rfl⟩ := lenOf_some.mp e
  exact (wb.way1 hr h).1
 have hne : l ∈ B.filterMap (lenOf w v) := jQc.mpr ⟨_, h, lenOf_some.mpr ⟨c, rfl⟩⟩
 unfold lenB
 cases e : B.filterMap (lenOf w v) with
 | nil => rw [e] at hne; exact nomatch hne
 | cons a b => exact hx a (by rw [e]; exact jK)
def chP (B : List BR) (st : Str) (day : Int) (p : Str × Str × Int) : Int := (if p.2.2 + lenB B p.1 p.2.1 = day then Ze B 2 p.1 p.2.1 st else 0) - (if p.2.2 = day then Ze B 1 p.1 p.2.1 st else 0)
def chR (B : List BR) (pl : List (Str × Str × Int)) (st : Str) (day : Int) : Int := (pl.map (chP B st day)).sum
def Zm (B : List BR) (pl : List (Str × Str × Int)) (st : Str) (f : Int) (day : Nat) : Int := f + ((List.range (day + 1)).map fun dd : Nat => chR B pl st dd).sum
theorem Yk (f : Nat → Int) (i : Nat) : ((List.range (i + 1)).map f).sum = ((List.range i).map f).sum + f i := by
 rw [List.range_succ, yQ, List.sum_append]
 show _ + (f i + 0) = _
 omega
def hasK (pl : List (Str × Str × Int)) (w : Str) : Bool := pl.any fun p => decide (p.1 = w)
theorem hasK_iff {pl : List (Str × Str × Int)} {w : Str} : hasK pl w = true ↔ w ∈ pl.map (·.1) := by
 unfold hasK
 rw [jYa]
 constructor
 ·rintro ⟨p, hp, e⟩
  exact zV.mpr ⟨p, hp, kY e⟩
 ·intro h
  obtain ⟨p, hp, e⟩ := zV.mp h
  exact ⟨p, hp, kZ e⟩
def look (pl : List (Str × Str × Int)) (w : Str) : Str × Int := ((pl.find? fun p => decide (p.1 = w)).map (·.2)).getD ("", 0)
theorem Qhu {pl : List (Str × Str × Int)} {w v : Str} {b : Int} (nd : (pl.map (·.1)).Nodup) (h : (w, v, b) ∈ pl) : look pl w = (v, b) := by
 have e : pl.find? (fun p => decide (p.1 = w)) = some (w, v, b) := by
  induction pl with
  | nil => exact nomatch h
  | cons p pl ih =>
   have nd' : (p.1 :: pl.map (·.1)).Nodup := nd
   obtain ⟨n1, n2⟩ := jXd.mp nd'
   rcases yJ.mp h with e | e
   ·rw [List.find?_cons_of_pos (by rw [← e]; exact kZ rfl), e]
   ·have ne : ¬ p.1 = w := fun z => n1 (by rw [z]; exact zV.mpr ⟨_, e, rfl⟩)
    rw [List.find?_cons_of_neg (by simpa using ne)]
    exact ih n2 e
 unfold look
 rw [e]
 rfl
theorem PlanFor.nd {n : Int} {B : List BR} {pl : List (Str × Str × Int)} (h : PlanFor n B pl) (wb : WB n B) : (pl.map (·.1)).Nodup := by
 exact (h.keys.nodup_iff).mpr ((Qhs wb).filter _)
theorem PlanFor.get {n : Int} {B : List BR} {pl : List (Str × Str × Int)} (h : PlanFor n B pl) (wb : WB n B) {w : Str} (hw : hasK pl w = true) : ∃ l c, (w, (look pl w).1, (look pl w).2) ∈ pl ∧ BR.way w (look pl w).1 l c ∈ B ∧ 0 ≤ (look pl w).2 ∧ (look pl w).2 + l ≤ n := by
 obtain ⟨⟨w', v, b⟩, hp, e⟩ := zV.mp (hasK_iff.mp hw)
 have e' : w' = w := e
 subst e'
 rw [Qhu (h.nd wb) hp]
 obtain ⟨l, c, h1, h2, h3⟩ := h.good _ hp
 exact ⟨l, c, hp, h1, h2, h3⟩
theorem We {α β : Type} {R : α → β → Prop} {xs : List α} {ys : List β} (h : Paired R xs ys) : ∀ {i : Nat} {y : β}, ys[i]? = some y → ∃ x, xs[i]? = some x ∧ R x y := by
 induction h with
 | nil => intro i x e; exact nomatch e
 | cons z _ ih =>
  intro i x e
  match i with
  | 0 => cases e; exact ⟨_, rfl, z⟩
  | i + 1 => exact ih (show _ = some x from e)
theorem Qkj {K : Fg} {H : Hp} {P : Addr} {pl : List (Str × Str × Int)} {w v : Str} {b : Int} (h : PlanAt K H P pl) (nd : (pl.map (·.1)).Nodup) (hm : (w, v, b) ∈ pl) : ∃ t, DGet H P (.str w) (some (.ref t)) ∧ SqT K H t [.str v, .int b] := by
 obtain ⟨kvs, h1, h2⟩ := h
 obtain ⟨i, ei⟩ := wW.mp hm
 obtain ⟨⟨k, x⟩, ex, ek, t, et, hT⟩ := We h2 ei
 have ek' : k = Sum.inr w := ek
 have et' : x = .ref t := et
 subst ek' et'
 have ndk : (kvs.map (·.1)).Nodup := by
  rw [Wd h2]
  exact List.Pairwise.map Sum.inr (fun a b (hab : a ≠ b) e => hab (Sum.inr.inj e)) nd
 have hv : valV kvs (Sum.inr w) = some (.ref t) := Qhi ndk ex
 have hg := DGet.k (k := Sum.inr w) h1
 rw [hv] at hg
 exact ⟨t, hg, hT⟩
def gW (pl : List (Str × Str × Int)) : BR → List (List Key)
 | .work w => if hasK pl w = true then [] else [[Sum.inr ("work" : Str), Sum.inr w]]
 | _ => []
def Jk (f : Int → Prop) [DecidablePred f] (N : Nat) : List Nat := (List.range N).filter fun d => decide (f d)
def gR (n : Int) (B : List BR) (pl : List (Str × Str × Int)) : BR → List (List Key)
 | .bench b r => (Jk (fun day => Qcm B pl b r day < 0) n.toNat).map fun d : Nat => [Sum.inr ("room" : Str), Sum.inr b, Sum.inl (d : Int)]
 | _ => []
def gS (n : Int) (B : List BR) (pl : List (Str × Str × Int)) : BR → List (List Key)
 | .store st mo fi => (Jk (fun day => Zm B pl st fi day.toNat < 0 ∨ mo < Zm B pl st fi day.toNat) (n.toNat + 1)).map fun d : Nat => [Sum.inr ("store" : Str), Sum.inr st, Sum.inl (d : Int)]
 | _ => []
def gA (B : List BR) (pl : List (Str × Str × Int)) : BR → List (List Key)
 | .after w x g => if (look pl x).2 - (look pl w).2 - lenB B w (look pl w).1 < g then [[Sum.inr ("after" : Str), Sum.inr w, Sum.inr x]] else []
 | _ => []
def Qhv (H : Hp) : Option (List Key) → V → Prop
 | none, v => v = .non
 | some ks, v => ∃ T, v = .ref T ∧ H T = some (.tup (ks.map kV))
theorem Qba {α β : Type} {B : List α} {i : Nat} {r : α} (g : α → List β) (h : B[i]? = some r) : (B.take (i + 1)).flatMap g = (B.take i).flatMap g ++ g r := by
 rw [Zt h, List.flatMap_append]
 congr 1
 show g r ++ [] = _
 rw [jQe]
theorem Zu {B : List BR} {pl : List (Str × Str × Int)} (h : B.flatMap (gW pl) = []) {w : Str} (hw : BR.work w ∈ B) : hasK pl w = true := by
 have h1 := List.flatMap_eq_nil_iff.mp h _ hw
 have h2 : (if hasK pl w = true then [] else [[(Sum.inr ("work" : Str) : Key), Sum.inr w]]) = [] := h1
 by_cases e : hasK pl w = true
 ·exact e
 ·rw [if_neg e] at h2; cases h2
theorem gS_no {n : Int} {B : List BR} {pl : List (Str × Str × Int)} {r : BR} (h : r.word ≠ "store") : gS n B pl r = [] := by
 cases r with
 | store b m f => exact absurd rfl h
 | _ => rfl
theorem gA_no {B : List BR} {pl : List (Str × Str × Int)} {r : BR} (h : r.word ≠ "after") : gA B pl r = [] := by
 cases r with
 | after w x g => exact absurd rfl h
 | _ => rfl
theorem Qfv {r : BR} (h : r.word = "bench") : ∃ b c, r = .bench b c := by
 have hk : r.kind = 1 := (Zv r (k := 1) (by decide)).mp h
 cases r with
 | bench b c => exact ⟨b, c, rfl⟩
 | use k _ _ _ _ => exact absurd (show 6 + k.val = 1 from hk) (by omega)
 | _ => exact nomatch hk
theorem Qfw {r : BR} (h : r.word = "store") : ∃ b m f, r = .store b m f := by
 have hk : r.kind = 3 := (Zv r (k := 3) (by decide)).mp h
 cases r with
 | store b m f => exact ⟨b, m, f, rfl⟩
 | use k _ _ _ _ => exact absurd (show 6 + k.val = 3 from hk) (by omega)
 | _ => exact nomatch hk
abbrev Qkk : Stmt := top 6
abbrev Kp : Stmt := inClass (top 8) 0
abbrev Qcn : Stmt := inClass (top 8) 4
def Qbb (fN : Str → Option Value) : Prop := ∀ r : BR, ∃ t, fN r.word = some (.int ((r.names.length : Nat) : Int) t)
theorem Qnl (r : BR) : r.key.length = 1 + r.names.length := by
 unfold BR.key
 rw [yW, jZ]
 omega
theorem Qnm (r : BR) : cutV (r.cells.map kV) none (some (1 + ((r.names.length : Nat) : Int))) = r.key.map kV := by
 unfold cutV
 have h1 : (1 : Int) + ((r.names.length : Nat) : Int) = ((r.key.length : Nat) : Int) := by rw [Qnl]; omega
 have h2 : r.key.length ≤ r.cells.length := by unfold BR.cells; rw [jY]; omega
 rw [HT.sIx_none, kQa, Nat.sub_zero, h1, HT.sIx_nat, jZ, jJa h2, ← List.map_take]
 unfold BR.cells
 rw [List.take_left']
 rfl
theorem Qkl (r : BR) : cutV (r.cells.map kV) (some (((r.key.map kV).length : Nat) : Int)) none = r.nums.map V.int := by
 unfold cutV
 have h2 : r.key.length ≤ r.cells.length := by unfold BR.cells; rw [jY]; omega
 rw [HT.sIx_none, HT.sIx_nat, jZ, jZ, jJa h2, ← List.map_drop]
 unfold BR.cells
 rw [List.drop_left', jY, Nat.add_sub_cancel_left, jJe, jZe (by rw [jZ, jZ]; exact jX _)]
 ·rfl
 ·rfl
def Qlv : Sp := fun vs H Q _ => ∃ (l : Addr) (r : BR), vs = [.ref l] ∧ H l = some (.lst (r.cells.map kV)) ∧ ∀ (t : Addr) (H' : Hp), Same H H' → H t = none → H' t = some (.tup (r.key.map kV)) → Q (.ref t) H'
structure FcTxt (K : Fg) (mg : Str → Option Value) (C : Addr) : Prop where
 cl : Cls K C
 nD : NoAttr K C "days"
 nW : NoAttr K C "works"
 nB : NoAttr K C "benches"
 nH : NoAttr K C "shuts"
 nS : NoAttr K C "stores"
 nA : NoAttr K C "afters"
 nI : NoAttr K C "said"
 mgC : mg "Facts" = some (.ref C)
def FrP (p : Addr) (H H' : Hp) : Prop := ∀ b o, H b = some o → b ≠ p → H' b = some o
theorem RowsB.frP {p : Addr} {H H' : Hp} {vs : List V} {B : List BR} {C dx : Addr} {fs : List (Str × V)} (h : RowsB H vs B) (f : FrP p H H') (hp : H p = some (.ins C dx fs)) : RowsB H' vs B := h.imp fun l r _ z => f _ _ z (Yl z hp (by intro e; cases e))
theorem Vc {K : Fg} {H : Hp} {P t C dx C' dx' : Addr} {fs fs' : List (Str × V)} {xs : List V} (hP : H P = some (.ins C dx fs)) (h : SqT K H t xs) : SqT K (upd H P (.ins C' dx' fs')) t xs := by
 rcases h with (h | ⟨p, h⟩) | h
 ·exact .inl (.inl (by rw [Qj (Yl h hP (by intro z; cases z))]; exact h))
 ·exact .inl (.inr ⟨p, by rw [Qj (Yl h hP (by intro z; cases z))]; exact h⟩)
 ·exact .inr h
def SaidOk (K : Fg) (H : Hp) (kvs : List (List Key × V)) (B : List BR) : Prop :=
 (∀ r ∈ B, r.word ≠ "shut" → ∃ t, valV kvs r.key = some (.ref t) ∧ SqT K H t (r.nums.map V.int)) ∧ ∀ k : List Key, (∀ r ∈ B, r.key ≠ k) → valV kvs k = none
def Qlw (K : Fg) (H : Hp) : List (List Key × V) → List BR → Prop := Paired fun p r => p.1 = r.key ∧ ∃ t, p.2 = .ref t ∧ SqT K H t (r.nums.map V.int)
theorem Qco {ps : List (List Key × V)} {k : List Key} (h : ∀ p ∈ ps, p.1 ≠ k) : ∀ m, m ≤ ps.length → valV (Xl (ps.take m)) k = none := by
 intro m
 induction m with
 | zero => intro _; rfl
 | succ m ih =>
  intro hm
  have e : ps[m]? = some ps[m] := gE hm
  rw [Ja e, Va, if_neg (fun z => h _ (yV e) z.symm)]
  exact ih (by omega)
theorem Qcp {ps : List (List Key × V)} {k : List Key} {v : V} {i : Nat} (hi : ps[i]? = some (k, v)) (hu : ∀ j p, ps[j]? = some p → p.1 = k → j = i) : ∀ m, i < m → m ≤ ps.length → valV (Xl (ps.take m)) k = some v := by
 intro m
 induction m with
 | zero => intro h; exact absurd h (Nat.not_lt_zero _)
 | succ m ih =>
  intro h1 hm
  have e : ps[m]? = some ps[m] := gE hm
  rw [Ja e, Va]
  by_cases c : m = i
  ·subst c
   have e2 : ps[m] = (k, v) := Option.some.inj (e.symm.trans hi)
   rw [e2, if_pos rfl]
  ·rw [if_neg (fun z => c (hu m _ e z.symm))]
   exact ih (by omega) (by omega)
theorem Qnn {K : Fg} {H : Hp} {ps : List (List Key × V)} {n : Int} {B : List BR} (h : Qlw K H ps B) (wb : WB n B) : SaidOk K H (Xl ps) B := by
 have hl := Paired.length h
 refine ⟨fun r hr hs => ?_, fun k hk => ?_⟩
 ·obtain ⟨i, ei⟩ := wW.mp hr
  obtain ⟨⟨k, v⟩, ex, e1, t, e2, hT⟩ := We h ei
  have e1' : k = r.key := e1
  have e2' : v = .ref t := e2
  subst e1' e2'
  have il := (kJ.mp ex).1
  have hv := Qcp ex (fun j p ep hp => ?_) ps.length il (jX _)
  ·rw [kX] at hv
   exact ⟨t, hv, hT⟩
  ·obtain ⟨q, eq, e3, _⟩ := Xg h ep
   have hk : r.key = q.key := hp.symm.trans e3
   rcases Nat.lt_trichotomy i j with c | c | c
   ·rcases Qdn wb.nd c ei eq with z | z | z
    ·exact absurd z hs
    ·have h1 : ((Sum.inr r.word : Key) :: r.names.map Sum.inr) = Sum.inr q.word :: q.names.map Sum.inr := hk
     injection h1 with h2
     exact absurd ((Sum.inr.inj h2).trans z) hs
    ·exact absurd hk z
   ·exact c.symm
   ·rcases Qdn wb.nd c eq ei with z | z | z
    ·have h1 : ((Sum.inr r.word : Key) :: r.names.map Sum.inr) = Sum.inr q.word :: q.names.map Sum.inr := hk
     injection h1 with h2
     exact absurd ((Sum.inr.inj h2).trans z) hs
    ·exact absurd z hs
    ·exact absurd hk.symm z
 ·have hv := Qco (ps := ps) (k := k) (fun p hp => ?_) ps.length (jX _)
  ·rw [kX] at hv
   exact hv
  ·obtain ⟨i, ei⟩ := wW.mp hp
   obtain ⟨q, eq, e3, _⟩ := Xg h ei
   rw [e3]
   exact hk q (yV eq)
def Kq : BR → Option Str
 | .bench b _ => some b
 | _ => none
def bns (B : List BR) : List Str := B.filterMap Kq
theorem Qfx {r : BR} (h : r.word ≠ "bench") : Kq r = none := by
 cases r with
 | bench b c => exact absurd rfl h
 | _ => rfl
def selW (w : Str) (r : BR) : Bool := decide (r.word = w)
def TupsOf (K : Fg) (H : Hp) : List V → List BR → Prop := Paired fun v r => ∃ t, v = .ref t ∧ SqT K H t ((r.cells.drop 1).map kV)
theorem Qno (r : BR) : cutV (r.cells.map kV) (some 1) none = (r.cells.drop 1).map kV := by
 unfold cutV
 have h2 : 1 ≤ r.cells.length := by unfold BR.cells BR.key; rw [jY, yW]; omega
 rw [HT.sIx_none, show (1 : Int) = ((1 : Nat) : Int) from rfl, HT.sIx_nat, jZ, jJa h2, ← List.map_drop, jZe (by rw [jZ, jZb]; exact jX _)]
theorem FrP.trans {p : Addr} {H H1 H2 : Hp} (a : FrP p H H1) (b : FrP p H1 H2) : FrP p H H2 := fun c o e hc => b c o (a c o e hc) hc
theorem Qnp {K : Fg} {H H' : Hp} {p t C dx : Addr} {fs : List (Str × V)} {xs : List V} (h : SqT K H t xs) (f : FrP p H H') (hp : H p = some (.ins C dx fs)) : SqT K H' t xs := by
 rcases h with (h | ⟨q, h⟩) | h
 ·exact .inl (.inl (f _ _ h (Yl h hp (by intro z; cases z))))
 ·exact .inl (.inr ⟨q, f _ _ h (Yl h hp (by intro z; cases z))⟩)
 ·exact .inr h
theorem TupsOf.frP {K : Fg} {H H' : Hp} {p C dx : Addr} {fs : List (Str × V)} {ys : List V} {B : List BR} (h : TupsOf K H ys B) (f : FrP p H H') (hp : H p = some (.ins C dx fs)) : TupsOf K H' ys B := Paired.mapP h fun _ _ ⟨t, e, z⟩ => ⟨t, e, Qnp z f hp⟩
theorem TupsOf.same {K : Fg} {H H' : Hp} {ys : List V} {B : List BR} (h : TupsOf K H ys B) (s : Same H H') : TupsOf K H' ys B := Paired.mapP h fun _ _ ⟨t, e, z⟩ => ⟨t, e, s.tup z⟩
theorem SaidOk.same {K : Fg} {H H' : Hp} {kvs : List (List Key × V)} {B : List BR} (h : SaidOk K H kvs B) (s : Same H H') : SaidOk K H' kvs B := ⟨fun r hr hs => (let ⟨t, a, b⟩ := h.1 r hr hs; ⟨t, a, s.tup b⟩), h.2⟩
structure FcF (K : Fg) (C : Addr) (H : Hp) (p : Addr) (n : Int) (B : List BR) (dx lw lb lh ls la ds : Addr) (fs : List (Str × V)) (kvs : List (List Key × V)) (yh ys ya : List V) : Prop where
 hp : H p = some (.ins C dx fs)
 fD : fs.lookup ("days" : Str) = some (.int n)
 fW : fs.lookup ("works" : Str) = some (.ref lw)
 fB : fs.lookup ("benches" : Str) = some (.ref lb)
 fH : fs.lookup ("shuts" : Str) = some (.ref lh)
 fS : fs.lookup ("stores" : Str) = some (.ref ls)
 fA : fs.lookup ("afters" : Str) = some (.ref la)
 fI : fs.lookup ("said" : Str) = some (.ref ds)
 nE : fs.lookup ("end_of" : Str) = none
 nY : fs.lookup ("is_way" : Str) = none
 nL : fs.lookup ("last_begin" : Str) = none
 nM : fs.lookup ("many" : Str) = none
 nU : fs.lookup ("used_by" : Str) = none
 nG : fs.lookup ("gain_by" : Str) = none
 nR : fs.lookup ("room_of" : Str) = none
 hW : H lw = some (.lst ((wks B).map V.str))
 hB : H lb = some (.lst ((bns B).map V.str))
 hH : H lh = some (.lst yh)
 hS : H ls = some (.lst ys)
 hA : H la = some (.lst ya)
 tH : TupsOf K H yh (B.filter (selW "shut"))
 tS : TupsOf K H ys (B.filter (selW "store"))
 tA : TupsOf K H ya (B.filter (selW "after"))
 hI : H ds = some (.dT kvs)
 sd : SaidOk K H kvs B
def FcAt (K : Fg) (C : Addr) (H : Hp) (p : Addr) (n : Int) (B : List BR) : Prop := ∃ dx lw lb lh ls la ds fs kvs yh ys ya, FcF K C H p n B dx lw lb lh ls la ds fs kvs yh ys ya
theorem FcAt.same {K : Fg} {C : Addr} {H H' : Hp} {p : Addr} {n : Int} {B : List BR} (h : FcAt K C H p n B) (s : Same H H') : FcAt K C H' p n B := by
 obtain ⟨dx, lw, lb, lh, ls, la, ds, fs, kvs, yh, ys, ya, h⟩ := h
 exact ⟨dx, lw, lb, lh, ls, la, ds, fs, kvs, yh, ys, ya, { h with hp := s _ _ h.hp, hW := s _ _ h.hW, hB := s _ _ h.hB, hH := s _ _ h.hH, hS := s _ _ h.hS, hA := s _ _ h.hA, tH := h.tH.same s, tS := h.tS.same s, tA := h.tA.same s, hI := s _ _ h.hI, sd := h.sd.same s }⟩
def Qhw (K : Fg) (C : Addr) : Sp := fun vs H Q _ => ∃ (p d dx : Addr) (n : Int) (us : List V) (B : List BR), vs = [.ref p, .ref d] ∧ H p = some (.ins C dx []) ∧ H d = some (.lst us) ∧ RowsB H us B ∧ BookOk n B ∧
 ∀ H', FcAt K C H' p n B → FrP p H H' → Q .non H'
section
variable {P : Program} {w : World} {K : Fg} {mg : Str → Option Value} {base : Heap}
theorem scSaid : FnScope ["row"] ["row"] (Qi Qkk) := ⟨rfl, rfl, rfl, by decide +kernel, rfl, by decide +kernel, by decide +kernel⟩
theorem okSaid {aN : Addr} {fN : Str → Option Value} (F : Fn K mg "said_by" Qkk) (M : Mg mg) (TN : Tab w K mg "NAMES" aN fN) (hN : Qbb fN) : Cal P w K mg base 1 "said_by" ["row"] Qlv := by
 refine Ya F scSaid (fun _ _ _ _ _ _ => bind1 (fun _ => rfl)) (fun vs H Q E h => ?_) (fun f cdv A outer s H vs Q E hr h => ?_)
 ·obtain ⟨l, r, rfl, _⟩ := h
  rfl
 obtain ⟨l, r, rfl, hl, q⟩ := h
 refine ⟨_, (Ql (Xe (Xz Jy rfl M.tuple_ Zp (Qa (Yc Jl (pv 0) Zd (Yf (Qm Qz Qe (Qu (ix_tab TN) (Qmd (v := .ref aN) rfl TN.bound rfl) (Qu Qq (pv 0) Qe (fun _ _ => rfl)) (fun _ _ => rfl))))) Qf)))), ?_⟩
 obtain ⟨t, ht⟩ := hN r
 refine ⟨_, rfl, _, rfl, l, _, _, _, rfl, rfl, Qd hl, Yp r, _, _, .int ((r.names.length : Nat) : Int), rfl, rfl, ht, ⟨_, rfl⟩, _, _, rfl, rfl, _, rfl, l, _, rfl, Qd hl, fun p1 hp1 => ?_⟩
 rw [Qnm]
 have s1 := Qc hp1 (.lst (r.key.map kV))
 refine ⟨p1, _, rfl, .inl ⟨Qd Qb, fun t1 ht1 => ?_⟩⟩
 refine q t1 _ (s1.trans (Qc ht1 _)) ?_ Qb
 cases e5 : H t1 with
 | none => rfl
 | some o => rw [s1 _ _ e5] at ht1; cases ht1
theorem scFcI : FnScope ["self", "book"] ["self", "book"] (Qi Kp) := ⟨rfl, rfl, rfl, by decide +kernel, rfl, by decide +kernel, by decide +kernel⟩
theorem okFcI {f C : Addr} {fd : FuncData} (F : Fun K "__init__" "Facts.__init__" Kp f fd) (M : Mg mg) (T : FcTxt K mg C) (c_said_by : Cal P w K mg base 1 "said_by" ["row"] Qlv) : FnOk P w K mg base CX0 2 f fd ["self", "book"] (Qhw K C) := by
 refine F.ok scFcI (fun vs H Q E h => ?_) (fun cdv A outer s H vs Q E hr h => ?_)
 ·obtain ⟨p, d, dx, n, us, B, rfl, _⟩ := h
  rfl
 ·obtain ⟨p, d, dx, n, us, B, rfl, hp, hd, hB, bk, q⟩ := h
  have hz : (20000 : Nat) < sizeLine := by decide
  have lu := hB.length
  have bl := bk.wb.len
  have hu6 : (A.deeper (PyProof.Rows.envOfC "Facts.__init__" (Qi Kp) s.heap.objs.size f cdv)).units + 6 < cLine := xQ (xV (by decide) _) hr.un
  have nd : d ≠ p := Yl hd hp (by intro z; cases z)
  refine ⟨_, (Qh (Vk (pv 0) (Qu Qq (Qu Qq (pv 1) Qe (fun _ _ => rfl)) Qe (fun _ _ => rfl)) rfl)
  (Qh (Vk (pv 0) (Zs ["row"] [none] rfl (Xk (pv 1)) (fun _ _ _ => (Qt (i := 0) (show (["row"] : List Str).Nodup by decide +kernel) rfl (Or.inl rfl) (Or.inr rfl))) (fun _ _ _ => (Zk (Qp Ym (Qu (Xr (K := K) rfl) (pv 0) Qe (fun _ _ => rfl)) Qx (Qw _)))) (fun _ _ _ => (Qu (Xr (K := K) rfl) (pv 0) Qe (fun _ _ => rfl)))) rfl)
  (Qh (Vk (pv 0) (Zs ["row"] [none] rfl (Xk (pv 1)) (fun _ _ _ => (Qt (i := 0) (show (["row"] : List Str).Nodup by decide +kernel) rfl (Or.inl rfl) (Or.inr rfl))) (fun _ _ _ => (Zk (Qp Ym (Qu (Xr (K := K) rfl) (pv 0) Qe (fun _ _ => rfl)) Qx (Qw _)))) (fun _ _ _ => (Qu (Xr (K := K) rfl) (pv 0) Qe (fun _ _ => rfl)))) rfl)
  (Qh (Vk (pv 0) (Zs ["row"] [none] rfl (Xk (pv 1)) (fun _ _ _ => (Qt (i := 0) (show (["row"] : List Str).Nodup by decide +kernel) rfl (Or.inl rfl) (Or.inr rfl))) (fun _ _ _ => (Zk (Qp Ym (Qu (Xr (K := K) rfl) (pv 0) Qe (fun _ _ => rfl)) Qx (Qw _)))) (fun _ _ _ => (Xz (Yz (K := K) rfl) rfl M.tuple_ Zp (Qa (Yc (Kh (K := K) rfl) (pv 0) (Yf Qe) Zd) Qf)))) rfl)
  (Qh (Vk (pv 0) (Zs ["row"] [none] rfl (Xk (pv 1)) (fun _ _ _ => (Qt (i := 0) (show (["row"] : List Str).Nodup by decide +kernel) rfl (Or.inl rfl) (Or.inr rfl))) (fun _ _ _ => (Zk (Qp Ym (Qu (Xr (K := K) rfl) (pv 0) Qe (fun _ _ => rfl)) Qx (Qw _)))) (fun _ _ _ => (Xz (Yz (K := K) rfl) rfl M.tuple_ Zp (Qa (Yc (Kh (K := K) rfl) (pv 0) (Yf Qe) Zd) Qf)))) rfl)
  (Qh (Vk (pv 0) (Zs ["row"] [none] rfl (Xk (pv 1)) (fun _ _ _ => (Qt (i := 0) (show (["row"] : List Str).Nodup by decide +kernel) rfl (Or.inl rfl) (Or.inr rfl))) (fun _ _ _ => (Zk (Qp Ym (Qu (Xr (K := K) rfl) (pv 0) Qe (fun _ _ => rfl)) Qx (Qw _)))) (fun _ _ _ => (Xz (Yz (K := K) rfl) rfl M.tuple_ Zp (Qa (Yc (Kh (K := K) rfl) (pv 0) (Yf Qe) Zd) Qf)))) rfl)
  (Ql (Vk (pv 0) (Xz (Qat (n := 6) (by decide) hu6 rfl) rfl M.dict_ Vu (Qa (Zs ["row"] [none] rfl (Xk (pv 1)) (fun _ _ _ => (Qt (i := 0) (show (["row"] : List Str).Nodup by decide +kernel) rfl (Or.inl rfl) (Or.inr rfl))) (fun _ _ _ => Kb) (fun _ _ _ => (Xh (Qa (Xp c_said_by (hr.mono (by decide)) (Qa (pv 0) Qf)) (Qa (Xz (Yz (K := K) rfl) rfl M.tuple_ Zp (Qa (Yc (Kh (K := K) rfl) (pv 0) (Yf (Qs (Qal (K := K) rfl) rfl M.len Yj (Qa (Xp c_said_by (hr.mono (by decide)) (Qa (pv 0) Qf)) Qf))) Zd) Qf)) Qf))))) Qf)) rfl)))))))), ?_⟩
  obtain ⟨u0, eu0⟩ : ∃ u0, us[0]? = some u0 := ⟨_, gE (by
   rw [lu]
   exact (kJ.mp bk.hd).1)⟩
  obtain ⟨r0, ld, er0, rfl, hr0⟩ := hB.get eu0
  rw [bk.hd] at er0
  cases er0
  have a0 : atI us 0 = some (.ref ld) := Qdh (k := 0) eu0
  refine ⟨_, rfl, d, _, _, _, rfl, rfl, Qd hd, a0, ld, _, _, _, rfl, rfl, Qd hr0, (show atI ((BR.days n).cells.map kV) 1 = some (.int n) from rfl), _, rfl, p, C, dx, [], rfl, hp, T.cl, T.nD, (by show 0 < 1000; decide), ?_⟩
  have fr1 : FrP p H (upd H p (.ins C dx (putF "days" (.int n) []))) := fun b o e hb => by rw [Qj hb]; exact e
  have hp1 : upd H p (.ins C dx (putF "days" (.int n) [])) p = some (.ins C dx (putF "days" (.int n) [])) := Qb
  obtain ⟨fs1, efs1⟩ : ∃ fs, fs = putF "days" (.int n) [] := ⟨_, rfl⟩
  have lf1 : fs1.length ≤ 1 := by rw [efs1]; exact Xm "days" (.int n) []
  rw [← efs1] at fr1 hp1 ⊢
  generalize upd H p (.ins C dx fs1) = H1' at fr1 hp1 ⊢
  have hd1 := fr1 _ _ hd nd
  have hB1 := hB.frP fr1 hp
  refine ⟨_, rfl, d, rfl, ⟨_, Qd hd1⟩, fun lw hlw => ?_⟩
  let Pv14 : Nat → St → List V → Hp → Prop := fun m τ ys H1 => ∃ v : Option V, τ = [v] ∧ ys = ((B.take m).filterMap Ys).map V.str ∧ ys.length ≤ m ∧ H1 lw = some (.lst ys) ∧ Same H1' H1
  refine Yd (n := B.length) Pv14 ?_ (fun m τ ys H1 hm h => ?_) (fun m τ ys H1 hm h => ?_) (fun τ ys H1 h => ?_) ?_ ?_
  ·exact ⟨none, rfl, rfl, jX _, Qb, Qc hlw _⟩
  ·obtain ⟨v, rfl, ey, hl, hE, sv⟩ := h
   exact ⟨hE, by omega⟩
  ·obtain ⟨v, rfl, ey, hl, hE, sv⟩ := h
   exact ⟨us, us[m]'(by omega), sv.seq (Qd hd1), gE (by omega)⟩
  ·obtain ⟨v, rfl, ey, hl, hE, sv⟩ := h
   exact ⟨us, sv.seq (Qd hd1), by omega⟩
  ·rintro m τ ys H1 x H2 hm ⟨v, rfl, ey, hl, hE, sv⟩ ⟨rfl, e1⟩
   obtain ⟨r, lr, er, rfl, hr⟩ := (hB1.same sv).get (e1 _ (sv.seq (Qd hd1)))
   refine ⟨_, rfl, lr, _, _, _, rfl, rfl, Qd hr, Yp r, rfl, _, rfl, ite2 (fun y => ?_) (fun y => ?_)⟩
   ·obtain ⟨w, rfl⟩ := Kg (eqS y)
    refine ⟨_, rfl, lr, _, _, _, rfl, rfl, Qd hr, (show atI ((BR.work w).cells.map kV) 1 = some (.str w) from rfl), hE, _, rfl, ?_, by rw [jY]; exact zZ hl, Qb, fun b o e => ?_⟩
    ·rw [Yb Ys er, show Ys (.work w) = some w from rfl, yQ, ey]
     rfl
    ·rw [Qj (Qk e hlw)]; exact sv _ _ e
   ·refine ⟨_, rfl, ?_, by omega, hE, sv⟩
    rw [Yb Ys er, Ki (fun e => y (by rw [e]; exact yesS _)), ey]
    simp
  rintro τ ys H1 ⟨v, rfl, ey, hl, hE, sv⟩
  rw [kX] at ey
  have nlw : lw ≠ p := fun e => by rw [e, hp1] at hlw; cases hlw
  have lw1 : H1 lw = some (.lst ((wks B).map V.str)) := by rw [hE, ey]; rfl
  refine ⟨_, rfl, p, C, dx, _, rfl, sv _ _ hp1, T.cl, T.nW, by omega, ?_⟩
  have fr2 : FrP p H (upd H1 p (.ins C dx (putF "works" (.ref lw) fs1))) := fun b o e hb => by rw [Qj hb]; exact sv _ _ (fr1 b o e hb)
  have stp2 : FrP p H1' (upd H1 p (.ins C dx (putF "works" (.ref lw) fs1))) := fun b o e hb => by rw [Qj hb]; exact sv _ _ e
  have hp2 : upd H1 p (.ins C dx (putF "works" (.ref lw) fs1)) p = some (.ins C dx (putF "works" (.ref lw) fs1)) := Qb
  have lw2 : upd H1 p (.ins C dx (putF "works" (.ref lw) fs1)) lw = some (.lst ((wks B).map V.str)) := by rw [Qj nlw]; exact lw1
  obtain ⟨fs2, efs2⟩ : ∃ fs, fs = putF "works" (.ref lw) fs1 := ⟨_, rfl⟩
  have lf2 : fs2.length ≤ 2 := by rw [efs2]; have := Xm "works" (.ref lw) fs1; omega
  rw [← efs2] at fr2 stp2 hp2 lw2  ⊢
  clear sv
  generalize upd H1 p (.ins C dx fs2) = H2 at fr2 stp2 hp2 lw2  ⊢
  have hd2 := fr2 _ _ hd nd
  have hB2 := hB.frP fr2 hp
  refine ⟨_, rfl, d, rfl, ⟨_, Qd hd2⟩, fun D3 hD => ?_⟩
  let Pv15 : Nat → St → List V → Hp → Prop := fun m τ ys H1 => ∃ v : Option V, τ = [v] ∧ ys = ((B.take m).filterMap Kq).map V.str ∧ ys.length ≤ m ∧ H1 D3 = some (.lst ys) ∧ Same H2 H1
  refine Yd (n := B.length) Pv15 ?_ (fun m τ ys H1 hm h => ?_) (fun m τ ys H1 hm h => ?_) (fun τ ys H1 h => ?_) ?_ ?_
  ·exact ⟨none, rfl, rfl, jX _, Qb, Qc hD _⟩
  ·obtain ⟨v, rfl, hi, hl, hE, sv⟩ := h
   exact ⟨hE, by omega⟩
  ·obtain ⟨v, rfl, hi, hl, hE, sv⟩ := h
   exact ⟨us, us[m]'(by omega), sv.seq (Qd hd2), gE (by omega)⟩
  ·obtain ⟨v, rfl, hi, hl, hE, sv⟩ := h
   exact ⟨us, sv.seq (Qd hd2), by omega⟩
  ·rintro m τ ys H1 x H2 hm ⟨v, rfl, hi, hl, hE, sv⟩ ⟨rfl, e1⟩
   obtain ⟨r, lr, er, rfl, hr⟩ := (hB2.same sv).get (e1 _ (sv.seq (Qd hd2)))
   refine ⟨_, rfl, lr, _, _, _, rfl, rfl, Qd hr, Yp r, rfl, _, rfl, ite2 (fun y => ?_) (fun y => ?_)⟩
   ·have ey := eqS y
    obtain ⟨bb, cc, rfl⟩ := Qfv ey
    refine ⟨_, rfl, lr, _, _, _, rfl, rfl, Qd hr, (show atI ((BR.bench bb cc).cells.map kV) 1 = some (.str bb) from rfl), hE, _, rfl, ?_, by rw [jY]; exact zZ hl, Qb, fun b o e => by rw [Qj (Qk e hD)]; exact sv _ _ e⟩
    rw [Yb Kq er, show Kq (.bench bb cc) = some bb from rfl, yQ, hi]
    rfl
   ·exact ⟨_, rfl, by
     rw [Yb Kq er, Qfx (fun e => y (by rw [e]; exact yesS _)), hi]
     simp, by omega, hE, sv⟩
  rintro τ ys3 H1 ⟨v, rfl, hi, hl, hE, sv⟩
  rw [kX] at hi
  have nD3 : D3 ≠ p := fun e => by rw [e, hp2] at hD; cases hD
  refine ⟨_, rfl, p, C, dx, _, rfl, sv _ _ hp2, T.cl, T.nB, by have := Xm "works" (.ref lw) fs1; omega, ?_⟩
  have con3 : upd H1 p (.ins C dx (putF "benches" (.ref D3) fs2)) D3 = some (.lst ((bns B).map V.str)) := by rw [Qj nD3, hE, hi]; rfl
  have fr3 : FrP p H (upd H1 p (.ins C dx (putF "benches" (.ref D3) fs2))) := fun b o e hb => by rw [Qj hb]; exact sv _ _ (fr2 b o e hb)
  have stp3 : FrP p H2 (upd H1 p (.ins C dx (putF "benches" (.ref D3) fs2))) := fun b o e hb => by rw [Qj hb]; exact sv _ _ e
  have hp3 : upd H1 p (.ins C dx (putF "benches" (.ref D3) fs2)) p = some (.ins C dx (putF "benches" (.ref D3) fs2)) := Qb
  have lw3 : upd H1 p (.ins C dx (putF "benches" (.ref D3) fs2)) lw = some (.lst ((wks B).map V.str)) := by rw [Qj nlw]; exact sv _ _ lw2
  obtain ⟨fs3, efs3⟩ : ∃ fs, fs = putF "benches" (.ref D3) fs2 := ⟨_, rfl⟩
  have lf3 : fs3.length ≤ 3 := by rw [efs3]; have := Xm "benches" (.ref D3) fs2; omega
  rw [← efs3] at fr3 stp3 hp3 lw3 con3 ⊢
  clear sv
  generalize upd H1 p (.ins C dx fs3) = H3 at fr3 stp3 hp3 lw3 con3 ⊢
  have hd3 := fr3 _ _ hd nd
  have hB3 := hB.frP fr3 hp
  refine ⟨_, rfl, d, rfl, ⟨_, Qd hd3⟩, fun D4 hD => ?_⟩
  let Pv16 : Nat → St → List V → Hp → Prop := fun m τ ys H1 => ∃ v : Option V, τ = [v] ∧ TupsOf K H1 ys ((B.take m).filter (selW "shut")) ∧ ys.length ≤ m ∧ H1 D4 = some (.lst ys) ∧ Same H3 H1
  refine Yd (n := B.length) Pv16 ?_ (fun m τ ys H1 hm h => ?_) (fun m τ ys H1 hm h => ?_) (fun τ ys H1 h => ?_) ?_ ?_
  ·exact ⟨none, rfl, .nil, jX _, Qb, Qc hD _⟩
  ·obtain ⟨v, rfl, hi, hl, hE, sv⟩ := h
   exact ⟨hE, by omega⟩
  ·obtain ⟨v, rfl, hi, hl, hE, sv⟩ := h
   exact ⟨us, us[m]'(by omega), sv.seq (Qd hd3), gE (by omega)⟩
  ·obtain ⟨v, rfl, hi, hl, hE, sv⟩ := h
   exact ⟨us, sv.seq (Qd hd3), by omega⟩
  ·rintro m τ ys H1 x H2 hm ⟨v, rfl, hi, hl, hE, sv⟩ ⟨rfl, e1⟩
   obtain ⟨r, lr, er, rfl, hr⟩ := (hB3.same sv).get (e1 _ (sv.seq (Qd hd3)))
   refine ⟨_, rfl, lr, _, _, _, rfl, rfl, Qd hr, Yp r, rfl, _, rfl, ite2 (fun y => ?_) (fun y => ?_)⟩
   ·have ey := eqS y
    refine ⟨_, rfl, _, rfl, lr, _, rfl, Qd hr, fun p1 hp1 => ⟨p1, _, rfl, .inl ⟨Qd Qb, fun t1 ht1 => ?_⟩⟩⟩
    have sx := (Qc hp1 (.lst (cutV (r.cells.map kV) (some 1) none))).trans (Qc ht1 (.tup (cutV (r.cells.map kV) (some 1) none)))
    refine ⟨sx _ _ hE, _, rfl, ?_, by rw [jY]; exact zZ hl, Qb, fun b o e => by rw [Qj (Qk e hD)]; exact sx _ _ (sv _ _ e)⟩
    rw [Ye (selW "shut") er, show selW "shut" r = true from kZ ey, if_pos rfl]
    exact Paired.snoc (Paired.mapP hi fun _ _ ⟨t, e, z⟩ => ⟨t, e, Yo (sx _ _ hE) (sx.tup z)⟩) ⟨t1, rfl, Yo (sx _ _ hE) (Xb (by rw [Qb, Qno]))⟩
   ·exact ⟨_, rfl, by
     rw [Ye (selW "shut") er, show selW "shut" r = false from zW (fun e => y (by rw [e]; exact yesS _)), if_neg (by decide), jQe]
     exact hi, by omega, hE, sv⟩
  rintro τ ys4 H1 ⟨v, rfl, hi, hl, hE, sv⟩
  rw [kX] at hi
  have nD4 : D4 ≠ p := fun e => by rw [e, hp3] at hD; cases hD
  refine ⟨_, rfl, p, C, dx, _, rfl, sv _ _ hp3, T.cl, T.nH, by have := Xm "benches" (.ref lw) fs2; omega, ?_⟩
  have con4 : upd H1 p (.ins C dx (putF "shuts" (.ref D4) fs3)) D4 = some (.lst ys4) := by rw [Qj nD4]; exact hE
  have tps4 : TupsOf K (upd H1 p (.ins C dx (putF "shuts" (.ref D4) fs3))) ys4 (B.filter (selW "shut")) := Paired.mapP hi fun _ _ ⟨t, e, z⟩ => ⟨t, e, Vc (sv _ _ hp3) z⟩
  have fr4 : FrP p H (upd H1 p (.ins C dx (putF "shuts" (.ref D4) fs3))) := fun b o e hb => by rw [Qj hb]; exact sv _ _ (fr3 b o e hb)
  have stp4 : FrP p H3 (upd H1 p (.ins C dx (putF "shuts" (.ref D4) fs3))) := fun b o e hb => by rw [Qj hb]; exact sv _ _ e
  have hp4 : upd H1 p (.ins C dx (putF "shuts" (.ref D4) fs3)) p = some (.ins C dx (putF "shuts" (.ref D4) fs3)) := Qb
  have lw4 : upd H1 p (.ins C dx (putF "shuts" (.ref D4) fs3)) lw = some (.lst ((wks B).map V.str)) := by rw [Qj nlw]; exact sv _ _ lw3
  obtain ⟨fs4, efs4⟩ : ∃ fs, fs = putF "shuts" (.ref D4) fs3 := ⟨_, rfl⟩
  have lf4 : fs4.length ≤ 4 := by rw [efs4]; have := Xm "shuts" (.ref D4) fs3; omega
  rw [← efs4] at fr4 stp4 hp4 lw4 con4 tps4 ⊢
  clear sv
  generalize upd H1 p (.ins C dx fs4) = H4 at fr4 stp4 hp4 lw4 con4 tps4 ⊢
  have hd4 := fr4 _ _ hd nd
  have hB4 := hB.frP fr4 hp
  refine ⟨_, rfl, d, rfl, ⟨_, Qd hd4⟩, fun D5 hD => ?_⟩
  let Pv17 : Nat → St → List V → Hp → Prop := fun m τ ys H1 => ∃ v : Option V, τ = [v] ∧ TupsOf K H1 ys ((B.take m).filter (selW "store")) ∧ ys.length ≤ m ∧ H1 D5 = some (.lst ys) ∧ Same H4 H1
  refine Yd (n := B.length) Pv17 ?_ (fun m τ ys H1 hm h => ?_) (fun m τ ys H1 hm h => ?_) (fun τ ys H1 h => ?_) ?_ ?_
  ·exact ⟨none, rfl, .nil, jX _, Qb, Qc hD _⟩
  ·obtain ⟨v, rfl, hi, hl, hE, sv⟩ := h
   exact ⟨hE, by omega⟩
  ·obtain ⟨v, rfl, hi, hl, hE, sv⟩ := h
   exact ⟨us, us[m]'(by omega), sv.seq (Qd hd4), gE (by omega)⟩
  ·obtain ⟨v, rfl, hi, hl, hE, sv⟩ := h
   exact ⟨us, sv.seq (Qd hd4), by omega⟩
  ·rintro m τ ys H1 x H2 hm ⟨v, rfl, hi, hl, hE, sv⟩ ⟨rfl, e1⟩
   obtain ⟨r, lr, er, rfl, hr⟩ := (hB4.same sv).get (e1 _ (sv.seq (Qd hd4)))
   refine ⟨_, rfl, lr, _, _, _, rfl, rfl, Qd hr, Yp r, rfl, _, rfl, ite2 (fun y => ?_) (fun y => ?_)⟩
   ·have ey := eqS y
    refine ⟨_, rfl, _, rfl, lr, _, rfl, Qd hr, fun p1 hp1 => ⟨p1, _, rfl, .inl ⟨Qd Qb, fun t1 ht1 => ?_⟩⟩⟩
    have sx := (Qc hp1 (.lst (cutV (r.cells.map kV) (some 1) none))).trans (Qc ht1 (.tup (cutV (r.cells.map kV) (some 1) none)))
    refine ⟨sx _ _ hE, _, rfl, ?_, by rw [jY]; exact zZ hl, Qb, fun b o e => by rw [Qj (Qk e hD)]; exact sx _ _ (sv _ _ e)⟩
    rw [Ye (selW "store") er, show selW "store" r = true from kZ ey, if_pos rfl]
    exact Paired.snoc (Paired.mapP hi fun _ _ ⟨t, e, z⟩ => ⟨t, e, Yo (sx _ _ hE) (sx.tup z)⟩) ⟨t1, rfl, Yo (sx _ _ hE) (Xb (by rw [Qb, Qno]))⟩
   ·exact ⟨_, rfl, by
     rw [Ye (selW "store") er, show selW "store" r = false from zW (fun e => y (by rw [e]; exact yesS _)), if_neg (by decide), jQe]
     exact hi, by omega, hE, sv⟩
  rintro τ ys5 H1 ⟨v, rfl, hi, hl, hE, sv⟩
  rw [kX] at hi
  have nD5 : D5 ≠ p := fun e => by rw [e, hp4] at hD; cases hD
  refine ⟨_, rfl, p, C, dx, _, rfl, sv _ _ hp4, T.cl, T.nS, by have := Xm "shuts" (.ref lw) fs3; omega, ?_⟩
  have con5 : upd H1 p (.ins C dx (putF "stores" (.ref D5) fs4)) D5 = some (.lst ys5) := by rw [Qj nD5]; exact hE
  have tps5 : TupsOf K (upd H1 p (.ins C dx (putF "stores" (.ref D5) fs4))) ys5 (B.filter (selW "store")) := Paired.mapP hi fun _ _ ⟨t, e, z⟩ => ⟨t, e, Vc (sv _ _ hp4) z⟩
  have fr5 : FrP p H (upd H1 p (.ins C dx (putF "stores" (.ref D5) fs4))) := fun b o e hb => by rw [Qj hb]; exact sv _ _ (fr4 b o e hb)
  have stp5 : FrP p H4 (upd H1 p (.ins C dx (putF "stores" (.ref D5) fs4))) := fun b o e hb => by rw [Qj hb]; exact sv _ _ e
  have hp5 : upd H1 p (.ins C dx (putF "stores" (.ref D5) fs4)) p = some (.ins C dx (putF "stores" (.ref D5) fs4)) := Qb
  have lw5 : upd H1 p (.ins C dx (putF "stores" (.ref D5) fs4)) lw = some (.lst ((wks B).map V.str)) := by rw [Qj nlw]; exact sv _ _ lw4
  obtain ⟨fs5, efs5⟩ : ∃ fs, fs = putF "stores" (.ref D5) fs4 := ⟨_, rfl⟩
  have lf5 : fs5.length ≤ 5 := by rw [efs5]; have := Xm "stores" (.ref D5) fs4; omega
  rw [← efs5] at fr5 stp5 hp5 lw5 con5 tps5 ⊢
  clear sv
  generalize upd H1 p (.ins C dx fs5) = H5 at fr5 stp5 hp5 lw5 con5 tps5 ⊢
  have hd5 := fr5 _ _ hd nd
  have hB5 := hB.frP fr5 hp
  refine ⟨_, rfl, d, rfl, ⟨_, Qd hd5⟩, fun D6 hD => ?_⟩
  let Pv18 : Nat → St → List V → Hp → Prop := fun m τ ys H1 => ∃ v : Option V, τ = [v] ∧ TupsOf K H1 ys ((B.take m).filter (selW "after")) ∧ ys.length ≤ m ∧ H1 D6 = some (.lst ys) ∧ Same H5 H1
  refine Yd (n := B.length) Pv18 ?_ (fun m τ ys H1 hm h => ?_) (fun m τ ys H1 hm h => ?_) (fun τ ys H1 h => ?_) ?_ ?_
  ·exact ⟨none, rfl, .nil, jX _, Qb, Qc hD _⟩
  ·obtain ⟨v, rfl, hi, hl, hE, sv⟩ := h
   exact ⟨hE, by omega⟩
  ·obtain ⟨v, rfl, hi, hl, hE, sv⟩ := h
   exact ⟨us, us[m]'(by omega), sv.seq (Qd hd5), gE (by omega)⟩
  ·obtain ⟨v, rfl, hi, hl, hE, sv⟩ := h
   exact ⟨us, sv.seq (Qd hd5), by omega⟩
  ·rintro m τ ys H1 x H2 hm ⟨v, rfl, hi, hl, hE, sv⟩ ⟨rfl, e1⟩
   obtain ⟨r, lr, er, rfl, hr⟩ := (hB5.same sv).get (e1 _ (sv.seq (Qd hd5)))
   refine ⟨_, rfl, lr, _, _, _, rfl, rfl, Qd hr, Yp r, rfl, _, rfl, ite2 (fun y => ?_) (fun y => ?_)⟩
   ·have ey := eqS y
    refine ⟨_, rfl, _, rfl, lr, _, rfl, Qd hr, fun p1 hp1 => ⟨p1, _, rfl, .inl ⟨Qd Qb, fun t1 ht1 => ?_⟩⟩⟩
    have sx := (Qc hp1 (.lst (cutV (r.cells.map kV) (some 1) none))).trans (Qc ht1 (.tup (cutV (r.cells.map kV) (some 1) none)))
    refine ⟨sx _ _ hE, _, rfl, ?_, by rw [jY]; exact zZ hl, Qb, fun b o e => by rw [Qj (Qk e hD)]; exact sx _ _ (sv _ _ e)⟩
    rw [Ye (selW "after") er, show selW "after" r = true from kZ ey, if_pos rfl]
    exact Paired.snoc (Paired.mapP hi fun _ _ ⟨t, e, z⟩ => ⟨t, e, Yo (sx _ _ hE) (sx.tup z)⟩) ⟨t1, rfl, Yo (sx _ _ hE) (Xb (by rw [Qb, Qno]))⟩
   ·exact ⟨_, rfl, by
     rw [Ye (selW "after") er, show selW "after" r = false from zW (fun e => y (by rw [e]; exact yesS _)), if_neg (by decide), jQe]
     exact hi, by omega, hE, sv⟩
  rintro τ ys6 H1 ⟨v, rfl, hi, hl, hE, sv⟩
  rw [kX] at hi
  have nD6 : D6 ≠ p := fun e => by rw [e, hp5] at hD; cases hD
  refine ⟨_, rfl, p, C, dx, _, rfl, sv _ _ hp5, T.cl, T.nA, by have := Xm "stores" (.ref lw) fs4; omega, ?_⟩
  have con6 : upd H1 p (.ins C dx (putF "afters" (.ref D6) fs5)) D6 = some (.lst ys6) := by rw [Qj nD6]; exact hE
  have tps6 : TupsOf K (upd H1 p (.ins C dx (putF "afters" (.ref D6) fs5))) ys6 (B.filter (selW "after")) := Paired.mapP hi fun _ _ ⟨t, e, z⟩ => ⟨t, e, Vc (sv _ _ hp5) z⟩
  have fr6 : FrP p H (upd H1 p (.ins C dx (putF "afters" (.ref D6) fs5))) := fun b o e hb => by rw [Qj hb]; exact sv _ _ (fr5 b o e hb)
  have stp6 : FrP p H5 (upd H1 p (.ins C dx (putF "afters" (.ref D6) fs5))) := fun b o e hb => by rw [Qj hb]; exact sv _ _ e
  have hp6 : upd H1 p (.ins C dx (putF "afters" (.ref D6) fs5)) p = some (.ins C dx (putF "afters" (.ref D6) fs5)) := Qb
  have lw6 : upd H1 p (.ins C dx (putF "afters" (.ref D6) fs5)) lw = some (.lst ((wks B).map V.str)) := by rw [Qj nlw]; exact sv _ _ lw5
  obtain ⟨fs6, efs6⟩ : ∃ fs, fs = putF "afters" (.ref D6) fs5 := ⟨_, rfl⟩
  have lf6 : fs6.length ≤ 6 := by rw [efs6]; have := Xm "afters" (.ref D6) fs5; omega
  rw [← efs6] at fr6 stp6 hp6 lw6 con6 tps6 ⊢
  clear sv
  generalize upd H1 p (.ins C dx fs6) = H6 at fr6 stp6 hp6 lw6 con6 tps6 ⊢
  have hd6 := fr6 _ _ hd nd
  have hB6 := hB.frP fr6 hp
  refine ⟨_, rfl, d, rfl, ⟨_, Qd hd6⟩, fun D hD => ?_⟩
  let Pv19 : Nat → St → List V → Hp → Prop := fun m τ ys H1 => ∃ (v : Option V) (ps : List (List Key × V)), τ = [v] ∧ Qhk K H1 ys ps ∧ Qlw K H1 ps (B.take m) ∧ ys.length ≤ m ∧ H1 D = some (.lst ys) ∧ Same H6 H1
  refine Yd (n := B.length) Pv19 ?_ (fun m τ ys H1 hm h => ?_) (fun m τ ys H1 hm h => ?_) (fun τ ys H1 h => ?_) ?_ ?_
  ·exact ⟨none, [], rfl, .nil, .nil, jX _, Qb, Qc hD _⟩
  ·obtain ⟨v, ps, rfl, hq, hs, hl, hE, sv⟩ := h
   exact ⟨hE, by omega⟩
  ·obtain ⟨v, ps, rfl, hq, hs, hl, hE, sv⟩ := h
   exact ⟨us, us[m]'(by omega), sv.seq (Qd hd6), gE (by omega)⟩
  ·obtain ⟨v, ps, rfl, hq, hs, hl, hE, sv⟩ := h
   exact ⟨us, sv.seq (Qd hd6), by omega⟩
  ·rintro m τ ys H1 x H2 hm ⟨v, ps, rfl, hq, hs, hl, hE, sv⟩ ⟨rfl, e1⟩
   obtain ⟨r, lr, er, rfl, hr⟩ := (hB6.same sv).get (e1 _ (sv.seq (Qd hd6)))
   refine ⟨_, rfl, lr, r, rfl, hr, fun b1 H3 s3 fb1 hb1 => ?_⟩
   refine ⟨_, rfl, _, rfl, lr, r, rfl, s3 _ _ hr, fun b2 H4 s4 fb2 hb2 => ?_⟩
   refine ⟨b2, _, rfl, .inr (Xb hb2), _, rfl, lr, _, rfl, Qd (s4 _ _ (s3 _ _ hr)), fun p5 hp5 => ?_⟩
   rw [Qkl]
   have s5 := Qc hp5 (.lst (r.nums.map V.int))
   refine ⟨p5, _, rfl, .inl ⟨Qd Qb, fun t6 ht6 => ?_⟩⟩
   have s6 := Qc ht6 (.tup (r.nums.map V.int))
   have s46 := (s4.trans s5).trans s6
   have ht66 : upd (upd H4 p5 (.lst (r.nums.map V.int))) t6 (.tup (r.nums.map V.int)) t6 = some (.tup (r.nums.map V.int)) := Qb
   generalize upd (upd H4 p5 (.lst (r.nums.map V.int))) t6 (.tup (r.nums.map V.int)) = Hx at s46 ht66 ⊢
   refine ⟨by show 2 ≤ sizeLine; decide, fun t7 ht7 => ?_⟩
   have s7 := Qc ht7 (.tup [.ref b1, .ref t6])
   have s37 := s3.trans (s46.trans s7)
   have hE7 := s37 _ _ hE
   have ht77 : upd Hx t7 (.tup [.ref b1, .ref t6]) t7 = some (.tup [.ref b1, .ref t6]) := Qb
   have hb17 := (s46.trans s7) _ _ hb1
   have ht67 := s7 _ _ ht66
   generalize upd Hx t7 (.tup [.ref b1, .ref t6]) = Hy at s37 hE7 ht77 hb17 ht67 ⊢
   have cT : ∀ {a : Addr} {xs : List V}, SqT K H2 a xs → SqT K (upd Hy D (.lst (ys ++ [.ref t7]))) a xs := fun z => Yo hE7 (s37.tup z)
   refine ⟨hE7, _, ps ++ [(r.key, .ref t6)], rfl, ?_, ?_, by rw [jY]; exact zZ hl, Qb, fun b o e => ?_⟩
   ·refine Paired.snoc (Paired.mapP hq fun _ _ ⟨t, b, e, h1, h2⟩ => ⟨t, b, e, cT h1, ?_⟩) ⟨t7, b1, rfl, Yo hE7 (Xb ht77), ?_⟩
    ·rw [Qj (Yl (s37 _ _ h2) hE7 (by intro z; cases z))]; exact s37 _ _ h2
    ·rw [Qj (Yl hb17 hE7 (by intro z; cases z))]; exact hb17
   ·rw [Zt er]
    exact Paired.snoc (Paired.mapP hs fun _ _ ⟨e, t, e2, z⟩ => ⟨e, t, e2, cT z⟩) ⟨rfl, t6, rfl, Yo hE7 (Xb ht67)⟩
   ·rw [Qj (Qk e hD)]; exact s37 _ _ (sv _ _ e)
  rintro τ ys H1 ⟨v, ps, rfl, hq, hs, hl, hE, sv⟩
  rw [kX] at hs
  have lps := Paired.length hs
  refine ⟨D, ys, ps, rfl, Qd hE, hq, by omega, fun ds hds => ?_⟩
  have s8 := Qc hds (.dT (Xl ps))
  have sv8 := sv.trans s8
  have hds8 : upd H1 ds (.dT (Xl ps)) ds = some (.dT (Xl ps)) := Qb
  have hsd : SaidOk K (upd H1 ds (.dT (Xl ps))) (Xl ps) B := Qnn (Paired.mapP hs fun _ _ ⟨e, t, e2, z⟩ => ⟨e, t, e2, s8.tup z⟩) bk.wb
  generalize upd H1 ds (.dT (Xl ps)) = H8 at s8 sv8 hds8 hsd ⊢
  have hp8 := sv8 _ _ hp6
  have nds : ds ≠ p := Yl hds8 hp8 (by intro z; cases z)
  refine ⟨_, rfl, p, C, dx, _, rfl, hp8, T.cl, T.nI, by omega, ?_⟩
  have fin6 : ∀ fs7, FrP p H6 (upd H8 p (.ins C dx fs7)) := fun fs7 b o e hb => by rw [Qj hb]; exact sv8 _ _ e
  have f56 := fun fs7 => stp6.trans (fin6 fs7)
  have f46 := fun fs7 => stp5.trans (f56 fs7)
  have f36 := fun fs7 => stp4.trans (f46 fs7)
  refine q _ ⟨dx, lw, D3, D4, D5, D6, ds, putF "said" (.ref ds) fs6, Xl ps, ys4, ys5, ys6, ?_⟩ fun b o e hb => by rw [Qj hb]; exact sv8 _ _ (fr6 b o e hb)
  refine {
   hp := Qb
   fD := by
    rw [Qg, if_neg (by decide +kernel), efs6, Qg, if_neg (by decide +kernel), efs5, Qg, if_neg (by decide +kernel), efs4, Qg, if_neg (by decide +kernel), efs3, Qg, if_neg (by decide +kernel), efs2, Qg, if_neg (by decide +kernel), efs1, Qg, if_pos rfl]
   fW := by
    rw [Qg, if_neg (by decide +kernel), efs6, Qg, if_neg (by decide +kernel), efs5, Qg, if_neg (by decide +kernel), efs4, Qg, if_neg (by decide +kernel), efs3, Qg, if_neg (by decide +kernel), efs2, Qg, if_pos rfl]
   fB := by
    rw [Qg, if_neg (by decide +kernel), efs6, Qg, if_neg (by decide +kernel), efs5, Qg, if_neg (by decide +kernel), efs4, Qg, if_neg (by decide +kernel), efs3, Qg, if_pos rfl]
   fH := by
    rw [Qg, if_neg (by decide +kernel), efs6, Qg, if_neg (by decide +kernel), efs5, Qg, if_neg (by decide +kernel), efs4, Qg, if_pos rfl]
   fS := by
    rw [Qg, if_neg (by decide +kernel), efs6, Qg, if_neg (by decide +kernel), efs5, Qg, if_pos rfl]
   fA := by
    rw [Qg, if_neg (by decide +kernel), efs6, Qg, if_pos rfl]
   fI := by
    rw [Qg, if_pos rfl]
   nE := by
    rw [Qg, if_neg (by decide +kernel), efs6, Qg, if_neg (by decide +kernel), efs5, Qg, if_neg (by decide +kernel), efs4, Qg, if_neg (by decide +kernel), efs3, Qg, if_neg (by decide +kernel), efs2, Qg, if_neg (by decide +kernel), efs1, Qg, if_neg (by decide +kernel)]
    rfl
   nY := by
    rw [Qg, if_neg (by decide +kernel), efs6, Qg, if_neg (by decide +kernel), efs5, Qg, if_neg (by decide +kernel), efs4, Qg, if_neg (by decide +kernel), efs3, Qg, if_neg (by decide +kernel), efs2, Qg, if_neg (by decide +kernel), efs1, Qg, if_neg (by decide +kernel)]
    rfl
   nL := by
    rw [Qg, if_neg (by decide +kernel), efs6, Qg, if_neg (by decide +kernel), efs5, Qg, if_neg (by decide +kernel), efs4, Qg, if_neg (by decide +kernel), efs3, Qg, if_neg (by decide +kernel), efs2, Qg, if_neg (by decide +kernel), efs1, Qg, if_neg (by decide +kernel)]
    rfl
   nM := by
    rw [Qg, if_neg (by decide +kernel), efs6, Qg, if_neg (by decide +kernel), efs5, Qg, if_neg (by decide +kernel), efs4, Qg, if_neg (by decide +kernel), efs3, Qg, if_neg (by decide +kernel), efs2, Qg, if_neg (by decide +kernel), efs1, Qg, if_neg (by decide +kernel)]
    rfl
   nU := by
    rw [Qg, if_neg (by decide +kernel), efs6, Qg, if_neg (by decide +kernel), efs5, Qg, if_neg (by decide +kernel), efs4, Qg, if_neg (by decide +kernel), efs3, Qg, if_neg (by decide +kernel), efs2, Qg, if_neg (by decide +kernel), efs1, Qg, if_neg (by decide +kernel)]
    rfl
   nG := by
    rw [Qg, if_neg (by decide +kernel), efs6, Qg, if_neg (by decide +kernel), efs5, Qg, if_neg (by decide +kernel), efs4, Qg, if_neg (by decide +kernel), efs3, Qg, if_neg (by decide +kernel), efs2, Qg, if_neg (by decide +kernel), efs1, Qg, if_neg (by decide +kernel)]
    rfl
   nR := by
    rw [Qg, if_neg (by decide +kernel), efs6, Qg, if_neg (by decide +kernel), efs5, Qg, if_neg (by decide +kernel), efs4, Qg, if_neg (by decide +kernel), efs3, Qg, if_neg (by decide +kernel), efs2, Qg, if_neg (by decide +kernel), efs1, Qg, if_neg (by decide +kernel)]
    rfl
   hW := by rw [Qj nlw]; exact sv8 _ _ lw6
   hB := f36 _ _ _ con3 nD3
   hH := f46 _ _ _ con4 nD4
   hS := f56 _ _ _ con5 nD5
   hA := fin6 _ _ _ con6 nD6
   tH := tps4.frP (f46 _) hp4
   tS := tps5.frP (f56 _) hp5
   tA := tps6.frP (fin6 _) hp6
   hI := by rw [Qj nds]; exact hds8
   sd := ⟨fun r hr hsh => ?_, hsd.2⟩ }
  obtain ⟨t, e1, e2⟩ := hsd.1 r hr hsh
  exact ⟨t, e1, Vc hp8 e2⟩
end
abbrev Kj : Stmt := inClass (top 8) 1
abbrev Wf : Stmt := inClass (top 8) 2
abbrev Wg : Stmt := inClass (top 8) 6
theorem cut2 (a b c : V) : cutV [a, b, c] none (some 2) = [a, b] := by
 unfold cutV
 rw [HT.sIx_none, show (2 : Int) = ((2 : Nat) : Int) from rfl, HT.sIx_nat]
 rfl
theorem Qdp {K : Fg} {H : Hp} {kvs : List (List Key × V)} {B : List BR} (hs : SaidOk K H kvs B) {w v : Str} {l c : Int} (h : BR.way w v l c ∈ B) {ds t3 : Addr} (hd : H ds = some (.dT kvs)) (h3 : H t3 = some (.tup [.str "way", .str w, .str v])) : ∃ t, DGet H ds (.ref t3) (some (.ref t)) ∧ SqT K H t [.int l, .int c] := by
 obtain ⟨t, e, hT⟩ := hs.1 _ h (by show ¬ (("way" : Str) = "shut"); decide +kernel)
 have hg := DGet.t (k := (BR.way w v l c).key) hd h3
 rw [e] at hg
 exact ⟨t, hg, hT⟩
theorem Qnq {n : Int} {B : List BR} (wb : WB n B) (k : Fin 3) (w v t : Str) : (B.filterMap (Wb k w v t)).Pairwise fun _ _ => False := by
 rw [List.pairwise_filterMap]
 refine wb.nd.imp fun {r q} ha x hx y hy => ?_
 have e1 := manyOf_some.mp hx
 have e2 := manyOf_some.mp hy
 subst e1 e2
 have ns : ¬ useW k = "shut" := by
  match k with
  | 0 => decide +kernel
  | 1 => decide +kernel
  | 2 => decide +kernel
 rcases ha with z | z | z
 ·exact ns z
 ·exact ns z
 ·exact z rfl
theorem Qkm {n : Int} {B : List BR} (wb : WB n B) {k : Fin 3} {w v t : Str} {m : Int} (h : BR.use k w v t m ∈ B) : Ze B k w v t = m := by
 have hm : m ∈ B.filterMap (Wb k w v t) := jQc.mpr ⟨_, h, manyOf_some.mpr rfl⟩
 have hp := Qnq wb k w v t
 unfold Ze
 revert hm hp
 generalize B.filterMap (Wb k w v t) = L
 intro hm hp
 match L, hm, hp with
 | [x], hm, _ =>
  rw [kQ.mp hm]
  show x + 0 = x
  omega
 | x :: y :: L, _, hp => exact absurd ((jXa.mp hp).1 y jK) (fun z => z)
theorem Qkn {B : List BR} {k : Fin 3} {w v t : Str} (h : ∀ m, BR.use k w v t m ∉ B) : Ze B k w v t = 0 := by
 unfold Ze
 cases e : B.filterMap (Wb k w v t) with
 | nil => rfl
 | cons x L =>
  have hx : x ∈ B.filterMap (Wb k w v t) := by rw [e]; exact jK
  obtain ⟨r, hr, e2⟩ := jQc.mp hx
  rw [manyOf_some.mp e2] at hr
  exact absurd hr (h _)
theorem Qko {K : Fg} {H : Hp} {kvs : List (List Key × V)} {n : Int} {B : List BR} (wb : WB n B) (hs : SaidOk K H kvs B) {k : Fin 3} {w v t : Str} {t2 : Addr} (h2 : SqT K H t2 [.int 0]) : ∃ tl, (valV kvs [Sum.inr (useW k), Sum.inr w, Sum.inr v, Sum.inr t]).getD (.ref t2) = .ref tl ∧ SqT K H tl [.int (Ze B k w v t)] := by
 by_cases hl : ∃ m, BR.use k w v t m ∈ B
 ·obtain ⟨m, hl⟩ := hl
  have ns : ¬ useW k = "shut" := by
   match k with
   | 0 => decide +kernel
   | 1 => decide +kernel
   | 2 => decide +kernel
  obtain ⟨tt, e, hT⟩ := hs.1 _ hl ns
  have e' : valV kvs [Sum.inr (useW k), Sum.inr w, Sum.inr v, Sum.inr t] = some (.ref tt) := e
  rw [e', Qkm wb hl]
  exact ⟨tt, rfl, hT⟩
 ·have hno : ∀ m, BR.use k w v t m ∉ B := fun m h => hl ⟨m, h⟩
  have e : valV kvs [Sum.inr (useW k), Sum.inr w, Sum.inr v, Sum.inr t] = none := hs.2 _ fun r hr z => by
   have z' : ((Sum.inr r.word : Key) :: r.names.map Sum.inr) = [Sum.inr (useW k), Sum.inr w, Sum.inr v, Sum.inr t] := z
   have hw : r.word = useW k := by
    injection z' with z1
    exact Sum.inr.inj z1
   obtain ⟨w', v', t', m, rfl⟩ := Qkh hw
   have z2 : [(Sum.inr (useW k) : Key), Sum.inr w', Sum.inr v', Sum.inr t'] = [Sum.inr (useW k), Sum.inr w, Sum.inr v, Sum.inr t] := z
   injection z2 with _ z3
   injection z3 with z4 z5
   injection z5 with z6 z7
   injection z7 with z8
   cases z4
   cases z6
   cases z8
   exact hno _ hr
  rw [e, Qkn hno]
  exact ⟨t2, rfl, h2⟩
def Qet (K : Fg) (C : Addr) : Sp := fun vs H Q _ => ∃ (p ch : Addr) (n : Int) (B : List BR) (w v : Str) (b l c : Int), vs = [.ref p, .ref ch] ∧ FcAt K C H p n B ∧ SqT K H ch [.str w, .str v, .int b] ∧ .way w v l c ∈ B ∧ ∀ H', Same H H' → Q (.int (b + l)) H'
def Qhx (K : Fg) (C : Addr) : Sp := fun vs H Q _ => ∃ (p : Addr) (n : Int) (B : List BR) (w v : Str) (l c : Int), vs = [.ref p, .str w, .str v] ∧ FcAt K C H p n B ∧ .way w v l c ∈ B ∧ ∀ H', Same H H' → Q (.int (n - l)) H'
def Qdq (K : Fg) (C : Addr) : Sp := fun vs H Q _ => ∃ (p ch : Addr) (n : Int) (B : List BR) (k : Fin 3) (w v t : Str) (b : Int), vs = [.ref p, .str (useW k), .ref ch, .str t] ∧ FcAt K C H p n B ∧ WB n B ∧ SqT K H ch [.str w, .str v, .int b] ∧ ∀ H', Same H H' → Q (.int (Ze B k w v t)) H'
section
variable {P : Program} {w : World} {K : Fg} {mg : Str → Option Value} {base : Heap}
theorem scFcE : FnScope ["self", "choice"] ["self", "choice"] (Qi Qcn) := ⟨rfl, rfl, rfl, by decide +kernel, rfl, by decide +kernel, by decide +kernel⟩
theorem Qnr {f C : Addr} {fd : FuncData} (F : Fun K "end_of" "Facts.end_of" Qcn f fd) (T : FcTxt K mg C) : FnOk P w K mg base CX0 1 f fd ["self", "choice"] (Qet K C) := by
 refine F.ok scFcE (fun vs H Q E h => ?_) (fun cdv A outer s H vs Q E hr h => ?_)
 ·obtain ⟨p, ch, n, B, w, v, b, l, c, rfl, _⟩ := h
  rfl
 ·obtain ⟨p, ch, n, B, w, v, b, l, c, rfl, ⟨dx, lw, lb, lh, ls, la, ds, fs, kvs, yh, ysS, ya, hF⟩, hch, hway, q⟩ := h
  have hu := Qgr hr
  refine ⟨_, (Ql (Xe (Qm Qz (Qu Yr (pv 1) Qe (fun _ _ => rfl)) (Qu Yr (Zz hu (Zh (pv 0) rfl) (Qm Qah (Xh (Qa Qx Qf)) (Yc Qlh (pv 1) Zd (Yf Qe))) (fun _ _ => rfl)) Qe (fun _ _ => rfl))))), ?_⟩
  refine ⟨_, rfl, ch, _, _, _, rfl, rfl, hch, (show atI [V.str w, V.str v, V.int b] 2 = some (.int b) from rfl), ?_⟩
  refine ⟨_, rfl, p, C, dx, fs, _, rfl, hF.hp, T.cl, T.nI, hF.fI, by show 1 ≤ sizeLine; decide, fun t1 ht1 => ?_⟩
  have s1 := Qc ht1 (.tup [.str "way"])
  refine ⟨_, rfl, _, rfl, ch, _, rfl, s1.tup hch, (by show ¬ (HT.sIx 3 0 none = 0 ∧ HT.sIx 3 3 (some 2) = 3); decide), fun t2 ht2 => ?_⟩
  rw [cut2]
  have s2 := s1.trans (Qc ht2 (.tup [.str w, .str v]))
  refine ⟨t1, t2, _, _, rfl, rfl, (Qc ht2 _).tup (Xb Qb), Xb Qb, by simp, by show 3 ≤ sizeLine; decide, fun z => absurd z (by simp), fun _ t3 ht3 => ?_⟩
  have s3 := s2.trans (Qc ht3 (.tup ([.str "way"] ++ [.str w, .str v])))
  obtain ⟨t, dg, hT⟩ := Qdp (hF.sd.same s3) hway (s3 _ _ hF.hI) Qb
  exact ⟨ds, _, rfl, dg, t, _, _, _, rfl, rfl, hT, at0, _, _, rfl, rfl, q _ s3⟩
theorem scFcY : FnScope ["self", "work", "way"] ["self", "work", "way"] (Qi Kj) := ⟨rfl, rfl, rfl, by decide +kernel, rfl, by decide +kernel, by decide +kernel⟩
theorem scFcL : FnScope ["self", "work", "way"] ["self", "work", "way"] (Qi Wf) := ⟨rfl, rfl, rfl, by decide +kernel, rfl, by decide +kernel, by decide +kernel⟩
theorem okFcL {f C : Addr} {fd : FuncData} (F : Fun K "last_begin" "Facts.last_begin" Wf f fd) (T : FcTxt K mg C) : FnOk P w K mg base CX0 1 f fd ["self", "work", "way"] (Qhx K C) := by
 refine F.ok scFcL (fun vs H Q E h => ?_) (fun cdv A outer s H vs Q E hr h => ?_)
 ·obtain ⟨p, n, B, w, v, l, c, rfl, _⟩ := h
  rfl
 ·obtain ⟨p, n, B, w, v, l, c, rfl, ⟨dx, lw, lb, lh, ls, la, ds, fs, kvs, yh, ysS, ya, hF⟩, hway, q⟩ := h
  have hu := Qgr hr
  refine ⟨_, (Ql (Xe (Qm Vi (Zh (pv 0) rfl) (Qu Yr (Zz hu (Zh (pv 0) rfl) (Xh (Qa Qx (Qa (pv 1) (Qa (pv 2) Qf)))) (fun _ _ => rfl)) Qe (fun _ _ => rfl))))), ?_⟩
  refine ⟨_, rfl, p, C, dx, fs, _, rfl, hF.hp, T.cl, T.nD, hF.fD, _, rfl, p, C, dx, fs, _, rfl, hF.hp, T.cl, T.nI, hF.fI, _, rfl, _, rfl, by show 3 ≤ sizeLine; decide, fun t1 ht1 => ?_⟩
  have s1 := Qc ht1 (.tup [.str "way", .str w, .str v])
  obtain ⟨t, dg, hT⟩ := Qdp (hF.sd.same s1) hway (s1 _ _ hF.hI) Qb
  exact ⟨ds, _, rfl, dg, t, _, _, _, rfl, rfl, hT, at0, _, _, rfl, rfl, q _ s1⟩
theorem scFcM : FnScope ["self", "word", "choice", "name"] ["self", "word", "choice", "name"] (Qi Wg) := ⟨rfl, rfl, rfl, by decide +kernel, rfl, by decide +kernel, by decide +kernel⟩
theorem okFcM {f C : Addr} {fd : FuncData} (F : Fun K "many" "Facts.many" Wg f fd) (T : FcTxt K mg C) : FnOk P w K mg base CX0 1 f fd ["self", "word", "choice", "name"] (Qdq K C) := by
 refine F.ok scFcM (fun vs H Q E h => ?_) (fun cdv A outer s H vs Q E hr h => ?_)
 ·obtain ⟨p, ch, n, B, k, w, v, t, b, rfl, _⟩ := h
  rfl
 ·obtain ⟨p, ch, n, B, k, w, v, t, b, rfl, ⟨dx, lw, lb, lh, ls, la, ds, fs, kvs, yh, ysS, ya, hF⟩, wb, hch, q⟩ := h
  have hu := Qgr hr
  refine ⟨_, (Ql (Xe (Qu Yr (Qem hu (Zh (pv 0) rfl) (Qm Qah (Qm Qah (Xh (Qa (pv 1) Qf)) (Yc Qlh (pv 2) Zd (Yf Qe))) (Xh (Qa (pv 3) Qf))) (Xh (Qa Qe Qf)) ⟨rfl, rfl, rfl, rfl⟩) Qe (fun _ _ => rfl)))), ?_⟩
  refine ⟨_, rfl, p, C, dx, fs, _, rfl, hF.hp, T.cl, T.nI, hF.fI, ds, rfl, .inr ⟨kvs, .inl hF.hI⟩, _, rfl, by show 1 ≤ sizeLine; decide, fun t1 ht1 => ?_⟩
  have s1 := Qc ht1 (.tup [.str (useW k)])
  refine ⟨_, rfl, _, rfl, ch, _, rfl, s1.tup hch, (by show ¬ (HT.sIx 3 0 none = 0 ∧ HT.sIx 3 3 (some 2) = 3); decide), fun t2 ht2 => ?_⟩
  rw [cut2]
  have s12 := Qc ht2 (.tup [.str w, .str v])
  have s2 := s1.trans s12
  refine ⟨t1, t2, _, _, rfl, rfl, s12.tup (Xb Qb), Xb Qb, by simp, by show 3 ≤ sizeLine; decide, fun z => absurd z (by simp), fun _ t3 ht3 => ?_⟩
  have s23 := Qc ht3 (.tup ([.str (useW k)] ++ [.str w, .str v]))
  have s3 := s2.trans s23
  refine ⟨_, rfl, by show 1 ≤ sizeLine; decide, fun t4 ht4 => ?_⟩
  have s34 := Qc ht4 (.tup [.str t])
  have s4 := s3.trans s34
  refine ⟨t3, t4, _, _, rfl, rfl, s34.tup (Xb Qb), Xb Qb, by simp, by show 4 ≤ sizeLine; decide, fun z => absurd z (by simp), fun _ t5 ht5 => ?_⟩
  have s45 := Qc ht5 (.tup (([.str (useW k)] ++ [.str w, .str v]) ++ [.str t]))
  have s5 := s4.trans s45
  refine ⟨by show 1 ≤ sizeLine; decide, fun t6 ht6 => ?_⟩
  have s56 := Qc ht6 (.tup [.int 0])
  have s6 := s5.trans s56
  have ht56 := s56 _ _ (Qb (o := .tup (([.str (useW k)] ++ [.str w, .str v]) ++ [.str t])))
  obtain ⟨tl, etl, hTl⟩ := Qko (k := k) (w := w) (v := v) (t := t) wb (hF.sd.same s6) (Xb Qb)
  refine ⟨_, DGet.t (k := [Sum.inr (useW k), Sum.inr w, Sum.inr v, Sum.inr t]) (s6 _ _ hF.hI) ht56, ?_⟩
  rw [etl]
  exact ⟨tl, _, _, _, rfl, rfl, hTl, (show atI [V.int (Ze B k w v t)] 0 = some _ from rfl), q _ s6⟩
end
abbrev Wh : Stmt := inClass (top 8) 7
abbrev Wi : Stmt := inClass (top 8) 8
def Wo (B : List BR) (st : Str) (day : Int) (p : Str × Str × Int) : Int := (if p.2.2 + lenB B p.1 p.2.1 ≤ day then Ze B 2 p.1 p.2.1 st else 0) - (if p.2.2 ≤ day then Ze B 1 p.1 p.2.1 st else 0)
def Qhy (K : Fg) (C : Addr) : Sp := fun vs H Q _ => ∃ (p ch : Addr) (n : Int) (B : List BR) (w v bn : Str) (b l c day : Int), vs = [.ref p, .ref ch, .str bn, .int day] ∧ FcAt K C H p n B ∧ WB n B ∧ SqT K H ch [.str w, .str v, .int b] ∧ .way w v l c ∈ B ∧ ∀ H', Same H H' → Q (.int (useR B bn day (w, v, b))) H'
def Qhz (K : Fg) (C : Addr) : Sp := fun vs H Q _ => ∃ (p ch : Addr) (n : Int) (B : List BR) (w v bn : Str) (b l c day : Int), vs = [.ref p, .ref ch, .str bn, .int day] ∧ FcAt K C H p n B ∧ WB n B ∧ SqT K H ch [.str w, .str v, .int b] ∧ .way w v l c ∈ B ∧ ∀ H', Same H H' → Q (.int (Wo B bn day (w, v, b))) H'
section
variable {P : Program} {w : World} {K : Fg} {mg : Str → Option Value} {base : Heap}
theorem scFcU : FnScope ["self", "choice", "bench", "day"] ["self", "choice", "bench", "day"] (Qi Wh) := ⟨rfl, rfl, rfl, by decide +kernel, rfl, by decide +kernel, by decide +kernel⟩
theorem okFcU {f fE fM C : Addr} {fd fdE fdM : FuncData} (F : Fun K "used_by" "Facts.used_by" Wh f fd) (T : FcTxt K mg C) (GE : FnOk P w K mg base CX0 1 fE fdE ["self", "choice"] (Qet K C)) (bE : Binds K fdE ["self", "choice"] []) (mE : Meth K C "end_of" fE) (GM : FnOk P w K mg base CX0 1 fM fdM ["self", "word", "choice", "name"] (Qdq K C)) (bM : Binds K fdM ["self", "word", "choice", "name"] []) (mM : Meth K C "many" fM) : FnOk P w K mg base CX0 2 f fd ["self", "choice", "bench", "day"] (Qhy K C) := by
 refine F.ok scFcU (fun vs H Q E h => ?_) (fun cdv A outer s H vs Q E hr h => ?_)
 ·obtain ⟨p, ch, n, B, w, v, bn, b, l, c, day, rfl, _⟩ := h
  rfl
 ·obtain ⟨p, ch, n, B, w, v, bn, b, l, c, day, rfl, hFc, wb, hch, hway, q⟩ := h
  obtain ⟨dx, lw, lb, lh, ls, la, ds, fs, kvs, yh, ysS, ya, hF⟩ := id hFc
  have hr1 : Room 1 _ := hr.mono (by decide)
  have eU : useR B bn day (w, v, b) = if b ≤ day ∧ day < b + l then Ze B 0 w v bn else 0 := by
   show (if b ≤ day ∧ day < b + lenB B w v then Ze B 0 w v bn else 0) = _
   rw [Jt wb hway]
  rw [eU] at q
  refine ⟨_, (Qh (Xx (Qec Qae Qgj (Qu Yr (pv 1) Qe (fun _ _ => rfl)) (pv 3) (Zi (pv 0) T.cl mE GE hr1 bE .nil Kk (Qa (pv 1) Qf))) (Ql (Xe (Zi (pv 0) T.cl mM GM hr1 bM .nil Kk (Qa Qx (Qa (pv 1) (Qa (pv 2) Qf)))))) Xa) (Ql (Xe Qe))), ?_⟩
  refine ⟨_, rfl, ch, _, _, _, rfl, rfl, hch, (show atI [V.str w, V.str v, V.int b] 2 = some (.int b) from rfl), _, rfl, _, _, rfl, rfl, _, rfl, ite2 (fun y => ?_) (fun y => ⟨_, rfl, iteF ?_⟩)⟩
  ·refine ⟨_, rfl, p, dx, fs, rfl, hF.hp, hF.nE, _, rfl, p, ch, n, B, w, v, b, l, c, rfl, hFc, hch, hway, fun H1 s1 => ⟨_, _, rfl, rfl, _, rfl, ite2 (fun y2 => ?_) (fun y2 => ?_)⟩⟩
   ·rw [if_pos ⟨kY y, kY y2⟩] at q
    exact ⟨_, rfl, p, dx, fs, rfl, s1 _ _ hF.hp, hF.nM, _, rfl, _, rfl, p, ch, n, B, 0, w, v, bn, b, rfl, hFc.same s1, wb, s1.tup hch, fun H2 s2 => q _ (s1.trans s2)⟩
   ·rw [if_neg (fun z => y2 (kZ z.2))] at q
    exact q _ s1
  ·rw [if_neg (fun z => y (kZ z.1))] at q
   exact q _ (Same.refl _)
theorem scFcG : FnScope ["self", "choice", "store", "day", "gain"] ["self", "choice", "store", "day"] (Qi Wi) := ⟨rfl, rfl, rfl, by decide +kernel, rfl, by decide +kernel, by decide +kernel⟩
theorem okFcG {f fE fM C : Addr} {fd fdE fdM : FuncData} (F : Fun K "gain_by" "Facts.gain_by" Wi f fd) (T : FcTxt K mg C) (GE : FnOk P w K mg base CX0 1 fE fdE ["self", "choice"] (Qet K C)) (bE : Binds K fdE ["self", "choice"] []) (mE : Meth K C "end_of" fE) (GM : FnOk P w K mg base CX0 1 fM fdM ["self", "word", "choice", "name"] (Qdq K C)) (bM : Binds K fdM ["self", "word", "choice", "name"] []) (mM : Meth K C "many" fM) : FnOk P w K mg base CX0 2 f fd ["self", "choice", "store", "day"] (Qhz K C) := by
 refine F.ok scFcG (fun vs H Q E h => ?_) (fun cdv A outer s H vs Q E hr h => ?_)
 ·obtain ⟨p, ch, n, B, w, v, bn, b, l, c, day, rfl, _⟩ := h
  rfl
 ·obtain ⟨p, ch, n, B, w, v, bn, b, l, c, day, rfl, hFc, wb, hch, hway, q⟩ := h
  obtain ⟨dx, lw, lb, lh, ls, la, ds, fs, kvs, yh, ysS, ya, hF⟩ := id hFc
  have hr1 : Room 1 _ := hr.mono (by decide)
  refine ⟨_, (Qh (Qr (i := 4) scFcG.nd rfl (Or.inl rfl) Qe) (Qh (Xx (Qp Qae (Qu Yr (pv 1) Qe (fun _ _ => rfl)) (pv 3) (Qw _)) (Ql (Qlc (i := 4) scFcG.nd rfl (Or.inl rfl) (Zi (pv 0) T.cl mM GM hr1 bM .nil Kk (Qa Qx (Qa (pv 1) (Qa (pv 2) Qf)))) ip_sub)) Xa) (Qh (Xx (Qp Qae (Zi (pv 0) T.cl mE GE hr1 bE .nil Kk (Qa (pv 1) Qf)) (pv 3) (Qw _)) (Ql (Qlc (i := 4) scFcG.nd rfl (Or.inl rfl) (Zi (pv 0) T.cl mM GM hr1 bM .nil Kk (Qa Qx (Qa (pv 1) (Qa (pv 2) Qf)))) ip_add)) Xa) (Ql (Xe (pv 4)))))), ?_⟩
  refine ⟨_, rfl, ch, _, _, _, rfl, rfl, hch, (show atI [V.str w, V.str v, V.int b] 2 = some (.int b) from rfl), _, rfl, _, _, rfl, rfl, _, rfl, ite2 (fun y => ?_) (fun y => ?_)⟩
  ·refine ⟨_, rfl, _, rfl, p, dx, fs, rfl, hF.hp, hF.nM, _, rfl, _, rfl, p, ch, n, B, 1, w, v, bn, b, rfl, hFc, wb, hch, fun H2 s2 => ⟨_, _, rfl, rfl, ?_⟩⟩
   refine ⟨_, rfl, p, dx, fs, rfl, s2 _ _ hF.hp, hF.nE, _, rfl, p, ch, n, B, w, v, b, l, c, rfl, hFc.same s2, s2.tup hch, hway, fun H3 s3 => ⟨_, rfl, _, _, rfl, rfl, _, rfl, ite2 (fun y2 => ?_) (fun y2 => ?_)⟩⟩
   ·have s4 := s2.trans s3
    refine ⟨_, rfl, _, rfl, p, dx, fs, rfl, s4 _ _ hF.hp, hF.nM, _, rfl, _, rfl, p, ch, n, B, 2, w, v, bn, b, rfl, hFc.same s4, wb, s4.tup hch, fun H5 s5 => ⟨_, _, rfl, rfl, ?_⟩⟩
    refine ⟨_, rfl, ?_⟩
    have e := q _ (s4.trans s5)
    unfold Wo at e
    rw [Jt wb hway, if_pos (kY y2), if_pos (kY y)] at e
    have e3 : 0 - Ze B 1 w v bn + Ze B 2 w v bn = Ze B 2 w v bn - Ze B 1 w v bn := by omega
    dsimp only
    rw [e3]
    exact e
   ·refine ⟨_, rfl, ?_⟩
    have e := q _ (s2.trans s3)
    unfold Wo at e
    rw [Jt wb hway, if_neg (fun z => y2 (kZ z)), if_pos (kY y)] at e
    have e3 : 0 - Ze B 1 w v bn = 0 - Ze B 1 w v bn := by omega
    first | exact e | (rw [e3]; exact e)
  ·have s2 := Same.refl H
   refine ⟨_, rfl, p, dx, fs, rfl, s2 _ _ hF.hp, hF.nE, _, rfl, p, ch, n, B, w, v, b, l, c, rfl, hFc.same s2, s2.tup hch, hway, fun H3 s3 => ⟨_, rfl, _, _, rfl, rfl, _, rfl, ite2 (fun y2 => ?_) (fun y2 => ?_)⟩⟩
   ·have s4 := s2.trans s3
    refine ⟨_, rfl, _, rfl, p, dx, fs, rfl, s4 _ _ hF.hp, hF.nM, _, rfl, _, rfl, p, ch, n, B, 2, w, v, bn, b, rfl, hFc.same s4, wb, s4.tup hch, fun H5 s5 => ⟨_, _, rfl, rfl, ?_⟩⟩
    refine ⟨_, rfl, ?_⟩
    have e := q _ (s4.trans s5)
    unfold Wo at e
    rw [Jt wb hway, if_pos (kY y2), if_neg (fun z => y (kZ z))] at e
    have e3 : 0 + Ze B 2 w v bn = Ze B 2 w v bn - 0 := by omega
    dsimp only
    rw [e3]
    exact e
   ·refine ⟨_, rfl, ?_⟩
    have e := q _ (s2.trans s3)
    unfold Wo at e
    rw [Jt wb hway, if_neg (fun z => y2 (kZ z)), if_neg (fun z => y (kZ z))] at e
    have e3 : 0 = 0 - 0 := by omega
    first | exact e | (rw [e3]; exact e)
end
abbrev Wj : Stmt := inClass (top 8) 9
theorem Qia {K : Fg} {H : Hp} {kvs : List (List Key × V)} {B : List BR} (hs : SaidOk K H kvs B) {b : Str} {r : Int} (h : BR.bench b r ∈ B) {ds t3 : Addr} (hd : H ds = some (.dT kvs)) (h3 : H t3 = some (.tup [.str "bench", .str b])) : ∃ t, DGet H ds (.ref t3) (some (.ref t)) ∧ SqT K H t [.int r] := by
 obtain ⟨t, e, hT⟩ := hs.1 _ h (by show ¬ (("bench" : Str) = "shut"); decide +kernel)
 have hg := DGet.t (k := (BR.bench b r).key) hd h3
 rw [e] at hg
 exact ⟨t, hg, hT⟩
theorem Qkp {B : List BR} {b : Str} {day r : Int} : Qfu B b r day = if ((B.filter (selW "shut")).map (Jj b day)).any id = true then 0 else r := by
 unfold Qfu
 by_cases h : ((B.filter (selW "shut")).map (Jj b day)).any id = true
 ·rw [if_pos h, if_neg]
  intro z
  obtain ⟨x, hx, e⟩ := jYa.mp h
  obtain ⟨q, hq, e2⟩ := zV.mp hx
  have hm : q ∈ B.filter (Jj b day) := xK.mpr ⟨(xK.mp hq).1, by rw [e2]; exact e⟩
  rw [jKc z] at hm
  exact nomatch hm
 ·rw [if_neg h, if_pos]
  cases e : B.filter (Jj b day) with
  | nil => rfl
  | cons q L =>
   exfalso
   have hm : q ∈ B.filter (Jj b day) := by rw [e]; exact jK
   obtain ⟨h1, h2⟩ := xK.mp hm
   refine h (jYa.mpr ⟨true, zV.mpr ⟨q, xK.mpr ⟨h1, ?_⟩, h2⟩, rfl⟩)
   refine kZ ?_
   cases q with
   | shut b' f t => rfl
   | _ => cases h2
def Qib (K : Fg) (C : Addr) : Sp := fun vs H Q _ => ∃ (p : Addr) (n : Int) (B : List BR) (bn : Str) (r day : Int), vs = [.ref p, .str bn, .int day] ∧ FcAt K C H p n B ∧ WB n B ∧ .bench bn r ∈ B ∧ ∀ H', Same H H' → Q (.int (Qfu B bn r day)) H'
section
variable {P : Program} {w : World} {K : Fg} {mg : Str → Option Value} {base : Heap}
theorem scFcR : FnScope ["self", "bench", "day"] ["self", "bench", "day"] (Qi Wj) := ⟨rfl, rfl, rfl, by decide +kernel, rfl, by decide +kernel, by decide +kernel⟩
theorem okFcR {f C : Addr} {fd : FuncData} (F : Fun K "room_of" "Facts.room_of" Wj f fd) (M : Mg mg) (T : FcTxt K mg C) : FnOk P w K mg base CX0 1 f fd ["self", "bench", "day"] (Qib K C) := by
 refine F.ok scFcR (fun vs H Q E h => ?_) (fun cdv A outer s H vs Q E hr h => ?_)
 ·obtain ⟨p, n, B, bn, r, day, rfl, _⟩ := h
  rfl
 ·obtain ⟨p, n, B, bn, r, day, rfl, hFc, wb, hben, q⟩ := h
  obtain ⟨dx, lw, lb, lh, ls, la, ds, fs, kvs, yh, ysS, ya, hF⟩ := id hFc
  have hz : (20000 : Nat) < sizeLine := by decide
  have hu := Qgr hr
  have bl := wb.len
  have lt := Paired.length hF.tH
  have lf : (B.filter (selW "shut")).length ≤ B.length := xY _ _
  refine ⟨_, (Qh (Xx (Jv (Qs (Qgu rfl) rfl M.any bt_any (Qa (Zs ["name", "begin", "end", "bench", "day"] [none, none, none, some 1, some 2] rfl (Xk (Zh (pv 0) rfl)) (fun _ _ _ => (Qhd (K := K) (i := 0) (j := 1) (l := 2) rfl rfl (show (["name", "begin", "end", "bench", "day"] : List Str).Nodup by decide +kernel) rfl rfl rfl rfl rfl rfl)) (fun _ _ _ => Kb) (fun _ _ _ => (Vh (Qag Ym (pv 0) (pv 3) (Qw _)) (Wq (Qeb Qae Qgj (pv 1) (pv 4) (pv 2)))))) Qf))) (Ql (Xe Qe)) Xa) (Ql (Xe (Qu Yr (Zz hu (Zh (pv 0) rfl) (Xh (Qa Qx (Qa (pv 1) Qf))) (fun _ _ => rfl)) Qe (fun _ _ => rfl))))), ?_⟩
  refine ⟨_, rfl, p, C, dx, fs, _, rfl, hF.hp, T.cl, T.nH, hF.fH, lh, rfl, ⟨_, Qd hF.hH⟩, fun D hD => ?_⟩
  let Pv20 : Nat → St → List V → Hp → Prop := fun m τ ys H1 => ∃ v1 v2 v3 : Option V, τ = [v1, v2, v3, some (.str bn), some (.int day)] ∧ ys = (((B.filter (selW "shut")).take m).map (Jj bn day)).map V.bl ∧ H1 D = some (.lst ys) ∧ Same H H1
  refine Yd (n := yh.length) Pv20 ?_ (fun m τ ys H1 hm h => ?_) (fun m τ ys H1 hm h => ?_) (fun τ ys H1 h => ?_) ?_ ?_
  ·exact ⟨none, none, none, rfl, rfl, Qb, Qc hD _⟩
  ·obtain ⟨v1, v2, v3, rfl, ey, hE, s1⟩ := h
   exact ⟨hE, by rw [ey, jZ, jZ, xZ]; omega⟩
  ·obtain ⟨v1, v2, v3, rfl, ey, hE, s1⟩ := h
   exact ⟨yh, yh[m]'hm, s1.seq (Qd hF.hH), gE hm⟩
  ·obtain ⟨v1, v2, v3, rfl, ey, hE, s1⟩ := h
   exact ⟨yh, s1.seq (Qd hF.hH), jX _⟩
  ·rintro m τ ys H1 x H2 hm ⟨v1, v2, v3, rfl, ey, hE, s1⟩ ⟨rfl, e1⟩
   obtain ⟨r', er', t, rfl, hT⟩ := Xg hF.tH (e1 _ (s1.seq (Qd hF.hH)))
   obtain ⟨b', f', t', rfl⟩ := Qht (kY (xK.mp (yV er')).2)
   have hT' : SqT K H2 t [.str b', .int f', .int t'] := s1.tup hT
   have fin : ∀ bb : Bool, bb = Jj bn day (.shut b' f' t') → H2 D = some (.lst ys) ∧ ∃ v1 v2 v3 : Option V, ([some (.str b'), some (.int f'), some (.int t'), some (.str bn), some (.int day)] : St) = [v1, v2, v3, some (.str bn), some (.int day)] ∧ ys ++ [V.bl bb] = (((B.filter (selW "shut")).take (m + 1)).map (Jj bn day)).map V.bl ∧ upd H2 D (.lst (ys ++ [V.bl bb])) D = some (.lst (ys ++ [V.bl bb])) ∧ Same H (upd H2 D (.lst (ys ++ [V.bl bb]))) := fun bb hb => by
    refine ⟨hE, _, _, _, rfl, ?_, Qb, fun c o e => ?_⟩
    ·rw [Zt er', yQ, yQ, ey, hb]; rfl
    ·rw [Qj (Qk e hD)]; exact s1 _ _ e
   have eS : Jj bn day (.shut b' f' t') = decide (b' = bn ∧ f' ≤ day ∧ day < t') := rfl
   refine ⟨t, _, rfl, hT', rfl, _, _, rfl, _, _, rfl, _, _, rfl, rfl, ?_⟩
   refine ⟨_, rfl, _, rfl, rfl, _, rfl, ite2 (fun y => ?_) (fun y => ?_)⟩
   ·refine ⟨_, rfl, _, rfl, _, _, rfl, rfl, _, rfl, ite2 (fun y2 => ⟨_, rfl, _, _, rfl, rfl, ?_⟩) (fun y2 => ?_)⟩
    ·refine fin _ ?_
     rw [eS]
     by_cases e : day < t'
     ·rw [kZ e, kZ ⟨eqS y, kY y2, e⟩]
     ·rw [zW e, zW (fun z => e z.2.2)]
    ·exact fin _ (by rw [eS, zW (fun z => y2 (kZ z.2.1))])
   ·exact fin _ (by rw [eS, zW (fun z => y (by rw [z.1]; exact yesS _))])
  ·rintro τ ys H1 ⟨v1, v2, v3, rfl, ey, hE, s1⟩
   rw [show yh.length = (B.filter (selW "shut")).length from lt, kX] at ey
   subst ey
   rw [Qkp] at q
   refine ⟨D, _, rfl, Qd hE, _, rfl, ite2 (fun y => ?_) (fun y => ?_)⟩
   ·rw [if_pos y] at q
    exact q _ s1
   ·rw [if_neg y] at q
    refine ⟨_, rfl, p, C, dx, fs, _, rfl, s1 _ _ hF.hp, T.cl, T.nI, hF.fI, _, rfl, by show 2 ≤ sizeLine; decide, fun t1 ht1 => ?_⟩
    have s2 := s1.trans (Qc ht1 (.tup [.str "bench", .str bn]))
    obtain ⟨t, dg, hT⟩ := Qia (hF.sd.same s2) hben (s2 _ _ hF.hI) Qb
    exact ⟨ds, _, rfl, dg, t, _, _, _, rfl, rfl, hT, (show atI [V.int r] 0 = some _ from rfl), q _ s2⟩
end
abbrev Qcq : Stmt := top 10
def Zw (K : Fg) (H : Hp) (pl : List (Str × Str × Int)) : List V → List Str → Prop := Paired fun v w => ∃ t, v = .ref t ∧ SqT K H t [.str w, .str (look pl w).1, .int (look pl w).2]
def Qic (K : Fg) (C : Addr) : Sp := fun vs H Q _ => ∃ (p P : Addr) (n : Int) (B : List BR) (pl : List (Str × Str × Int)), vs = [.ref p, .ref P] ∧ FcAt K C H p n B ∧ BookOk n B ∧ PlanAt K H P pl ∧ PlanFor n B pl ∧ B.flatMap (gW pl) = [] ∧ ∀ (D : Addr) (ys : List V) (H' : Hp), Same H H' → H' D = some (.lst ys) → Zw K H' pl ys (wks B) → Q (.ref D) H'
theorem pl_all {n : Int} {B : List BR} {pl : List (Str × Str × Int)} (hpf : PlanFor n B pl) (wb : WB n B) (hW : B.flatMap (gW pl) = []) : pl.Perm ((wks B).map fun w => (w, look pl w)) := by
 have nd := hpf.nd wb
 have e1 : (wks B).filter (hasW B) = wks B := List.filter_eq_self.mpr fun w hw => by
  have hk := hasK_iff.mp (Zu hW (wks_mem.mp hw))
  exact (xK.mp (hpf.keys.mem_iff.mp hk)).2
 have e2 : pl = (pl.map (·.1)).map fun w => (w, look pl w) := by
  rw [jJe]
  refine (List.map_id pl).symm.trans (kYf fun p hp => ?_)
  obtain ⟨w, v, b⟩ := p
  show (w, v, b) = (w, look pl w)
  rw [Qhu nd hp]
 have e3 := hpf.keys
 rw [e1] at e3
 have h4 := e3.map fun w => (w, look pl w)
 rwa [← e2] at h4
theorem Qns {a b : List Int} (h : a.Perm b) : a.sum = b.sum := by
 induction h with
 | nil => rfl
 | cons x _ ih => rw [jJb, jJb, ih]
 | swap x y l => rw [jJb, jJb, jJb, jJb]; omega
 | trans _ _ i j => exact i.trans j
theorem Qid {n : Int} {B : List BR} {pl : List (Str × Str × Int)} (hpf : PlanFor n B pl) (wb : WB n B) (hW : B.flatMap (gW pl) = []) (f : Str × Str × Int → Int) : (pl.map f).sum = ((wks B).map fun w => f (w, look pl w)).sum := by
 have h := Qns ((pl_all hpf wb hW).map f)
 rw [jJe] at h
 exact h
section
variable {P : Program} {w : World} {K : Fg} {mg : Str → Option Value} {base : Heap}
theorem Qnt : FnScope ["facts", "plan"] ["facts", "plan"] (Qi Qcq) := ⟨rfl, rfl, rfl, by decide +kernel, rfl, by decide +kernel, by decide +kernel⟩
theorem Qnu {C : Addr} (F : Fn K mg "choices_taken" Qcq) (T : FcTxt K mg C) : Cal P w K mg base 1 "choices_taken" ["facts", "plan"] (Qic K C) := by
 refine Ya F Qnt (fun _ _ _ _ _ _ => Kx (fun _ _ => rfl)) (fun vs H Q E h => ?_) (fun f cdv A outer s H vs Q E hr h => ?_)
 ·obtain ⟨p, P, n, B, pl, rfl, _⟩ := h
  rfl
 obtain ⟨p, P, n, B, pl, rfl, hFc, bk, hP, hpf, hW, q⟩ := h
 obtain ⟨dx, lw, lb, lh, ls, la, ds, fs, kvs, yh, ysS, ya, hF⟩ := id hFc
 have hp := hF.hp
 have lkW := hF.fW
 have hlw := hF.hW
 have hz : (20000 : Nat) < sizeLine := by decide
 have hu : (A.deeper (PyProof.Rows.envOfC "choices_taken" (Qi Qcq) s.heap.objs.size f cdv)).units + 1 < cLine := xQ (xV (by decide) _) hr.un
 have bl := bk.wb.len
 have wl : (wks B).length ≤ B.length := wY _ _
 have nd := hpf.nd bk.wb
 refine ⟨_, (Ql (Xe (Zs ["work", "plan"] [none, some 1] rfl (Xk (Zh (pv 0) rfl)) (fun _ _ _ => (Qt (i := 0) (show (["work", "plan"] : List Str).Nodup by decide +kernel) rfl (Or.inl rfl) (Or.inr rfl))) (fun _ _ _ => Kb) (fun _ _ _ => (Qm (Qjv (K := K) rfl) (Xh (Qa (pv 0) Qf)) (Zz hu (pv 1) (pv 0) (fun _ _ => rfl))))))), ?_⟩
 refine ⟨_, rfl, p, C, dx, fs, _, rfl, hp, T.cl, T.nW, lkW, lw, rfl, ⟨_, Qd hlw⟩, fun D hD => ?_⟩
 let Pv21 : Nat → St → List V → Hp → Prop := fun m τ ys H1 => ∃ v : Option V, τ = [v, some (.ref P)] ∧ Zw K H1 pl ys ((wks B).take m) ∧ ys.length ≤ m ∧ H1 D = some (.lst ys) ∧ Same H H1
 refine Yd (n := (wks B).length) Pv21 ?_ (fun m τ ys H1 hm h => ?_) (fun m τ ys H1 hm h => ?_) (fun τ ys H1 h => ?_) ?_ ?_
 ·exact ⟨none, rfl, .nil, jX _, Qb, Qc hD _⟩
 ·obtain ⟨v, rfl, hY, hl, hE, s1⟩ := h
  exact ⟨hE, by omega⟩
 ·obtain ⟨v, rfl, hY, hl, hE, s1⟩ := h
  exact ⟨_, .str (wks B)[m], s1.seq (Qd hlw), by rw [yY, gE hm]; rfl⟩
 ·obtain ⟨v, rfl, hY, hl, hE, s1⟩ := h
  exact ⟨_, s1.seq (Qd hlw), by rw [jZ]; exact jX _⟩
 ·rintro m τ ys H1 x H2 hm ⟨v, rfl, hY, hl, hE, s1⟩ ⟨rfl, e1⟩
  have ew : (wks B)[m]? = some (wks B)[m] := gE hm
  have ex := e1 _ (s1.seq (Qd hlw))
  rw [yY, ew] at ex
  cases ex
  generalize (wks B)[m] = wk at ew
  obtain ⟨l, c, hmem, _⟩ := hpf.get bk.wb (Zu hW (wks_mem.mp (yV ew)))
  refine ⟨_, rfl, by show 1 ≤ sizeLine; decide, fun t1 ht1 => ?_⟩
  have s2 := Qc ht1 (.tup [.str wk])
  obtain ⟨t, dg, hT⟩ := Qkj (PlanAt.same hP (s1.trans s2)) nd hmem
  refine ⟨_, rfl, _, rfl, P, _, rfl, dg, t1, t, _, _, rfl, rfl, Xb Qb, hT, by simp, by show 3 ≤ sizeLine; decide, fun p3 H3 s3 hT3 => ?_⟩
  have s23 := s2.trans s3
  have hE3 := s23 _ _ hE
  refine ⟨hE3, _, rfl, ?_, by rw [jY]; exact zZ hl, Qb, fun b o e => ?_⟩
  ·rw [Zt ew]
   exact Paired.snoc (Paired.mapP hY fun _ _ ⟨t, e, z⟩ => ⟨t, e, Yo hE3 (s23.tup z)⟩) ⟨p3, rfl, Yo hE3 hT3⟩
  ·rw [Qj (Qk e hD)]; exact s23 _ _ (s1 _ _ e)
 ·rintro τ ys H1 ⟨v, rfl, hY, hl, hE, s1⟩
  rw [kX] at hY
  exact q D ys H1 s1 hE hY
end
abbrev sWR : Stmt := top 13
def TupK (H : Hp) : List V → List (List Key) → Prop := Paired fun v ks => ∃ t, v = .ref t ∧ H t = some (.tup (ks.map kV))
theorem TupK.same {H H' : Hp} {vs : List V} {kss : List (List Key)} (h : TupK H vs kss) (s : Same H H') : TupK H' vs kss := Paired.mapP h fun _ _ ⟨t, e, z⟩ => ⟨t, e, s _ _ z⟩
theorem TupK.updL {H : Hp} {W : Addr} {xs zs : List V} {vs : List V} {kss : List (List Key)} (h : TupK H vs kss) (hW : H W = some (.lst xs)) : TupK (upd H W (.lst zs)) vs kss := Paired.mapP h fun _ _ ⟨t, e, z⟩ => ⟨t, e, by rw [Qj (Yl z hW (by intro q; cases q))]; exact z⟩
def benchP : BR → Option (Str × Int)
 | .bench b r => some (b, r)
 | _ => none
def bnP (B : List BR) : List (Str × Int) := B.filterMap benchP
theorem bns_eq (B : List BR) : bns B = (bnP B).map (·.1) := by
 unfold bns bnP
 rw [List.map_filterMap]
 congr 1
 funext r
 cases r <;> rfl
theorem Qnv {B : List BR} {b : Str} {r : Int} (h : (b, r) ∈ bnP B) : BR.bench b r ∈ B := by
 obtain ⟨q, hq, e⟩ := jQc.mp h
 cases q with
 | bench b' r' => cases e; exact hq
 | _ => cases e
theorem fm_fm {α β γ : Type} {g : α → List γ} {f : α → Option β} {h : β → List γ} (e : ∀ a, g a = match f a with | none => [] | some b => h b) : ∀ L : List α, L.flatMap g = (L.filterMap f).flatMap h
 | [] => rfl
 | a :: L => by
  rw [kXa, fm_fm e L, e a, jKd]
  cases f a with
  | none => rfl
  | some b => rw [kXa]
def hR (n : Int) (B : List BR) (pl : List (Str × Str × Int)) (q : Str × Int) : List (List Key) := (Jk (fun day => Qcm B pl q.1 q.2 day < 0) n.toNat).map fun d : Nat => [Sum.inr ("room" : Str), Sum.inr q.1, Sum.inl (d : Int)]
theorem gR_eq (n : Int) (B : List BR) (pl : List (Str × Str × Int)) : B.flatMap (gR n B pl) = (bnP B).flatMap (hR n B pl) := fm_fm (fun a => by cases a <;> rfl) B
theorem Jb {f : Int → Prop} [DecidablePred f] (j : Nat) : Jk f (j + 1) = Jk f j ++ (if f j then [j] else []) := by
 unfold Jk
 rw [List.range_succ, jQd]
 congr 1
 by_cases e : f j
 ·rw [if_pos e]; simp [kXd, e]
 ·rw [if_neg e]; simp [kXd, e]
def spWR (K : Fg) (C : Addr) : Sp := fun vs H Q _ => ∃ (p tk : Addr) (n : Int) (B : List BR) (pl : List (Str × Str × Int)) (ys : List V), vs = [.ref p, .ref tk] ∧ FcAt K C H p n B ∧ BookOk n B ∧ PlanFor n B pl ∧ B.flatMap (gW pl) = [] ∧ H tk = some (.lst ys) ∧ Zw K H pl ys (wks B) ∧ ∀ (D : Addr) (xs : List V) (H' : Hp), Same H H' → H' D = some (.lst xs) → xs.length ≤ 5000 → TupK H' xs (B.flatMap (gR n B pl)) → Q (.ref D) H'
section
variable {P : Program} {w : World} {K : Fg} {mg : Str → Option Value} {base : Heap}
theorem scWR : FnScope ["facts", "taken", "wrong", "bench", "day"] ["facts", "taken"] (Qi sWR) := ⟨rfl, rfl, rfl, by decide +kernel, rfl, by decide +kernel, by decide +kernel⟩
theorem okWR {C fU fR : Addr} {fdU fdR : FuncData} (F : Fn K mg "wrong_rooms" sWR) (M : Mg mg) (T : FcTxt K mg C) (GU : FnOk P w K mg base CX0 2 fU fdU ["self", "choice", "bench", "day"] (Qhy K C)) (bU : Binds K fdU ["self", "choice", "bench", "day"] []) (mU : Meth K C "used_by" fU) (GR : FnOk P w K mg base CX0 1 fR fdR ["self", "bench", "day"] (Qib K C)) (bR : Binds K fdR ["self", "bench", "day"] []) (mR : Meth K C "room_of" fR) : Cal P w K mg base 4 "wrong_rooms" ["facts", "taken"] (spWR K C) := by
 refine Ya F scWR (fun _ _ _ _ _ _ => Kx (fun _ _ => rfl)) (fun vs H Q E h => ?_) (fun f cdv A outer s H vs Q E hr h => ?_)
 ·obtain ⟨p, tk, n, B, pl, ys, rfl, _⟩ := h
  rfl
 obtain ⟨p, tk, n, B, pl, ys, rfl, hFc, bk, hpf, hW, htk, hTk, q⟩ := h
 obtain ⟨dx, lw, lb, lh, ls, la, ds, fs, kvs, yh, ysS, ya, hF⟩ := id hFc
 have hz : (20000 : Nat) < sizeLine := by decide
 have bl := bk.wb.len
 have n1 := bk.n1
 have n12 := bk.n12
 have lT := Paired.length hTk
 have wl : (wks B).length ≤ B.length := wY _ _
 have pl1 : (bnP B).length ≤ B.length := wY _ _
 have hlb : H lb = some (.lst (((bnP B).map (·.1)).map V.str)) := by rw [← bns_eq]; exact hF.hB
 refine ⟨_, (Qh (Qr (i := 2) scWR.nd rfl (Or.inl rfl) (Xf Qf))
  (Qh (Yq PassesOwn.never rfl (Xk (Zh (pv 0) rfl)) (Qt (i := 3) scWR.nd rfl (Or.inr rfl) (Or.inl rfl)) (Ql (Yq PassesOwn.never rfl (Xy rfl M.range_ (Qa (Zh (pv 0) rfl) Qf)) (Qt (i := 4) scWR.nd rfl (Or.inr rfl) (Or.inl rfl))
   (Ql (Xx (Qp Qaf (Qs (Qcc rfl) rfl M.sum Qll (Qa (Zs ["choice", "facts", "bench", "day"] [none, some 0, some 3, some 4] rfl (Xk (pv 1)) (fun _ _ _ => (Qt (i := 0) (show (["choice", "facts", "bench", "day"] : List Str).Nodup by decide +kernel) rfl (Or.inl rfl) (Or.inr rfl))) (fun _ _ _ => Kb) (fun _ _ _ => (Zi (pv 1) T.cl mU GU (hr.mono (by decide)) bU .nil Kk (Qa (pv 0) (Qa (pv 2) (Qa (pv 3) Qf)))))) Qf)) (Zi (pv 0) T.cl mR GR (hr.mono (by decide)) bR .nil Kk (Qa (pv 3) (Qa (pv 4) Qf))) (Qw _)) (Ql (Yn (Kw PySem.F.plainAttrs_list PySem.F.slot_list_append PySem.F.type_list_append Xw (pv 2) (Qa (Xh (Qa Qx (Qa (pv 3) (Qa (pv 4) Qf)))) Qf)))) Xa)))))
  (Ql (Xe (pv 2))))), ?_⟩
 refine ⟨by show 0 ≤ sizeLine; decide, fun W hW0 => ?_⟩
 have s0 := Qc hW0 (.lst [])
 let Pv22 : Nat → St → Hp → Prop := fun i σ H1 => ∃ (v3 v4 : Option V) (xs : List V), σ = [some (.ref p), some (.ref tk), some (.ref W), v3, v4] ∧ H1 W = some (.lst xs) ∧ xs.length ≤ 12 * i ∧ TupK H1 xs (((bnP B).take i).flatMap (hR n B pl)) ∧ Same H H1
 refine ⟨_, rfl, p, C, dx, fs, _, rfl, s0 _ _ hF.hp, T.cl, T.nB, hF.fB, lb, rfl, ⟨_, Qd (s0 _ _ hlb)⟩, Kz (K := K) (a := lb) (xs := ((bnP B).map (·.1)).map V.str) Pv22 ⟨none, none, [], rfl, Qb, jX _, .nil, s0⟩ (fun i σ H1 _ h => ?_) ?_ ?_⟩
 ·obtain ⟨v3, v4, xs, rfl, hx, lx, tx, s1⟩ := h
  exact s1.seq (Qd hlb)
 ·rintro i x σ H1 e1 ⟨v3, v4, xs, rfl, hx, lx, tx, s1⟩
  rw [yY, yY] at e1
  obtain ⟨⟨bn, r⟩, eb⟩ : ∃ q, (bnP B)[i]? = some q := by
   cases e : (bnP B)[i]? with
   | none => rw [e] at e1; cases e1
   | some q => exact ⟨q, rfl⟩
  rw [eb] at e1
  cases e1
  have hben := Qnv (yV eb)
  have il := (kJ.mp eb).1
  let Pv23 : Nat → St → Hp → Prop := fun j σ H2 => ∃ (v4 : Option V) (xs : List V), σ = [some (.ref p), some (.ref tk), some (.ref W), some (.str bn), v4] ∧ H2 W = some (.lst xs) ∧ xs.length ≤ 12 * i + j ∧ TupK H2 xs (((bnP B).take i).flatMap (hR n B pl) ++ (Jk (fun day => Qcm B pl bn r day < 0) j).map fun d : Nat => [Sum.inr ("room" : Str), Sum.inr bn, Sum.inl (d : Int)]) ∧ Same H H2
  refine ⟨_, rfl, p, C, dx, fs, _, rfl, s1 _ _ hF.hp, T.cl, T.nD, hF.fD, n, rfl, by omega, by omega, Xv (lo := 0) (n := n.toNat) Pv23 ⟨_, _, rfl, hx, lx, by rw [show Jk (fun day => Qcm B pl bn r day < 0) 0 = [] from rfl, jKe, jQe]; exact tx, s1⟩ ?_ ?_⟩
  ·rintro j σ H2 hj ⟨v4, xs, rfl, hx, lx, tx, s2⟩
   rw [Int.zero_add]
   have htk2 := s2 _ _ htk
   refine ⟨_, rfl, tk, rfl, ⟨_, Qd htk2⟩, fun D hD => ?_⟩
   let Pv24 : Nat → St → List V → Hp → Prop := fun m τ zs H3 => ∃ v : Option V, τ = [v, some (.ref p), some (.str bn), some (.int j)] ∧ zs = (((wks B).take m).map fun w => useR B bn j (w, look pl w)).map V.int ∧ H3 D = some (.lst zs) ∧ Same H2 H3
   refine Yd (n := (wks B).length) Pv24 ?_ (fun m τ zs H3 hm h => ?_) (fun m τ zs H3 hm h => ?_) (fun τ zs H3 h => ?_) ?_ ?_
   ·exact ⟨none, rfl, rfl, Qb, Qc hD _⟩
   ·obtain ⟨v, rfl, rfl, hE, s3⟩ := h
    exact ⟨hE, by rw [jZ, jZ, xZ]; omega⟩
   ·obtain ⟨v, rfl, rfl, hE, s3⟩ := h
    exact ⟨ys, ys[m]'(by omega), s3.seq (Qd htk2), gE (by omega)⟩
   ·obtain ⟨v, rfl, rfl, hE, s3⟩ := h
    exact ⟨ys, s3.seq (Qd htk2), by omega⟩
   ·rintro m τ zs H3 x H4 hm ⟨v, rfl, rfl, hE, s3⟩ ⟨rfl, e2⟩
    obtain ⟨wk, ewk, t, rfl, hT⟩ := Xg hTk (e2 _ (s3.seq (Qd htk2)))
    obtain ⟨l, c, hmem, hway, b0, b1⟩ := hpf.get bk.wb (Zu hW (wks_mem.mp (yV ewk)))
    have s23 := s2.trans s3
    refine ⟨_, rfl, p, dx, fs, rfl, s23 _ _ hF.hp, hF.nU, _, rfl, _, rfl, _, rfl, p, t, n, B, wk, _, bn, _, l, c, j, rfl, hFc.same s23, bk.wb, s23.tup hT, hway, fun H5 s5 => ?_⟩
    refine ⟨s5 _ _ hE, _, rfl, ?_, Qb, fun b o e => ?_⟩
    ·rw [Zt ewk, yQ, yQ]; rfl
    ·rw [Qj (Qk e hD)]; exact s5 _ _ (s3 _ _ e)
   ·rintro τ zs H3 ⟨v, rfl, rfl, hE, s3⟩
    rw [kX] at hE
    have s23 := s2.trans s3
    refine ⟨D, _, rfl, Qd hE, _, rfl, p, dx, fs, rfl, s23 _ _ hF.hp, hF.nR, _, rfl, _, rfl, p, n, B, bn, r, j, rfl, hFc.same s23, bk.wb, hben, fun H4 s4 => ?_⟩
    have s24 := s3.trans s4
    have hx4 := s24 _ _ hx
    have tx4 := tx.same s24
    rw [← Qid hpf bk.wb hW (useR B bn j)]
    refine ⟨_, _, rfl, rfl, _, rfl, ite2 (fun y => ?_) (fun y => ?_)⟩
    ·have hneg : Qcm B pl bn r j < 0 := by
      have z : (pl.map (useR B bn j)).sum > Qfu B bn r j := kY y
      unfold Qcm
      omega
     refine ⟨_, rfl, .inl ⟨rfl, _, Qd hx4⟩, _, rfl, _, rfl, by show 3 ≤ sizeLine; decide, fun t ht => ?_⟩
     have s5 := Qc ht (.tup [.str "room", .str bn, .int j])
     have hx5 := s5 _ _ hx4
     refine ⟨W, _, _, rfl, rfl, hx5, by omega, _, _, rfl, Qb, by rw [jY]; exact zZ lx, ?_, fun b o e => ?_⟩
     ·rw [Jb, if_pos hneg, yQ, ← kK]
      exact Paired.snoc ((tx4.same s5).updL hx5) ⟨t, rfl, by rw [Qj (Yl Qb hx5 (by intro z; cases z))]; exact Qb⟩
     ·rw [Qj (Qk e hW0)]; exact s5 _ _ (s24 _ _ (s2 _ _ e))
    ·have hpos : ¬ Qcm B pl bn r j < 0 := fun z => y (kZ (by
      unfold Qcm at z
      show (pl.map (useR B bn j)).sum > Qfu B bn r j
      omega))
     refine ⟨_, _, rfl, hx4, by omega, ?_, s2.trans s24⟩
     rw [Jb, if_neg hpos, jQe]
     exact tx4
  ·rintro σ H2 ⟨v4, xs, rfl, hx, lx, tx, s2⟩
   refine ⟨_, _, _, rfl, hx, by omega, ?_, s2⟩
   rw [Qba _ eb]
   exact tx
 ·rintro σ H1 ⟨v3, v4, xs, rfl, hx, lx, tx, s1⟩
  rw [jZ, jZ] at lx tx
  rw [kX, ← gR_eq] at tx
  exact ⟨_, rfl, q W xs H1 s1 hx (by omega) tx⟩
end
abbrev sWS : Stmt := top 14
theorem Qdr (c m : Int) : ∀ N : Nat, ((List.range N).map fun dd : Nat => if c = (dd : Int) then m else 0).sum = if 0 ≤ c ∧ c < N then m else 0
 | 0 => by rw [if_neg (by omega)]; rfl
 | N + 1 => by
  rw [Yk (fun dd : Nat => if c = (dd : Int) then m else 0), Qdr c m N]
  by_cases e : c = (N : Int)
  ·rw [if_pos e, if_neg (by omega), if_pos (by omega)]; omega
  ·rw [if_neg e]
   by_cases e2 : 0 ≤ c ∧ c < N
   ·rw [if_pos e2, if_pos (by omega)]; omega
   ·rw [if_neg e2, if_neg (by omega)]; omega
theorem Qie (f g : Nat → Int) : ∀ N : Nat, ((List.range N).map fun dd : Nat => f dd - g dd).sum = ((List.range N).map f).sum - ((List.range N).map g).sum
 | 0 => rfl
 | N + 1 => by rw [Yk (fun dd => f dd - g dd), Yk f, Yk g, Qie f g N]; omega
theorem Qeu {α : Type} (f : Nat → α → Int) (N : Nat) : ∀ L : List α, ((List.range N).map fun dd : Nat => (L.map (f dd)).sum).sum = (L.map fun a => ((List.range N).map fun dd : Nat => f dd a).sum).sum
 | [] => by
  show ((List.range N).map fun _ : Nat => (0 : Int)).sum = 0
  induction N with
  | zero => rfl
  | succ N ih => rw [Yk (fun _ => (0 : Int)), ih]; rfl
 | a :: L => by
  have h := Qeu f N L
  have e : ∀ M : Nat, ((List.range M).map fun dd : Nat => ((a :: L).map (f dd)).sum).sum = ((List.range M).map fun dd : Nat => f dd a).sum + ((List.range M).map fun dd : Nat => (L.map (f dd)).sum).sum := by
   intro M
   induction M with
   | zero => rfl
   | succ M ih =>
    rw [Yk (fun dd => ((a :: L).map (f dd)).sum), Yk (fun dd => f dd a), Yk (fun dd => (L.map (f dd)).sum), ih, zJ, jJb]
    omega
  rw [e N, h, zJ, jJb]
theorem Qnw {n : Int} {B : List BR} {pl : List (Str × Str × Int)} (wb : WB n B) (hg : Qes n B pl) {p : Str × Str × Int} (hp : p ∈ pl) (st : Str) (day : Nat) : ((List.range (day + 1)).map fun dd : Nat => chP B st dd p).sum = Wo B st day p := by
 obtain ⟨l, c, hway, b0, b1⟩ := hg p hp
 have hok := wb.ok _ hway
 have l1 : 1 ≤ l := hok.1
 have hl := Jt wb hway
 unfold Wo
 have e : (fun dd : Nat => chP B st dd p) = fun dd : Nat => (if p.2.2 + lenB B p.1 p.2.1 = (dd : Int) then Ze B 2 p.1 p.2.1 st else 0) - (if p.2.2 = (dd : Int) then Ze B 1 p.1 p.2.1 st else 0) := rfl
 rw [e, Qie (fun dd : Nat => if p.2.2 + lenB B p.1 p.2.1 = (dd : Int) then Ze B 2 p.1 p.2.1 st else 0), Qdr, Qdr, hl]
 congr 1
 ·by_cases e : p.2.2 + l ≤ day
  ·rw [if_pos e, if_pos (by omega)]
  ·rw [if_neg e, if_neg (by omega)]
 ·by_cases e : p.2.2 ≤ day
  ·rw [if_pos e, if_pos (by omega)]
  ·rw [if_neg e, if_neg (by omega)]
theorem Qif {n : Int} {B : List BR} {pl : List (Str × Str × Int)} (wb : WB n B) (hg : Qes n B pl) (st : Str) (fi : Int) (day : Nat) : Zm B pl st fi day = fi + (pl.map (Wo B st day)).sum := by
 unfold Zm
 congr 1
 have h := Qeu (fun dd p => chP B st (dd : Nat) p) (day + 1) pl
 refine h.trans ?_
 congr 1
 exact kYf fun p hp => Qnw wb hg hp st day
theorem Wk {α β : Type} {g : α → List β} {f : α → Bool} (e : ∀ a, f a = false → g a = []) : ∀ L : List α, L.flatMap g = (L.filter f).flatMap g
 | [] => rfl
 | a :: L => by
  rw [kXa, Wk e L]
  cases h : f a with
  | true => rw [wZ h, kXa]
  | false => rw [wJ (by rw [h]; decide), e a h]; rfl
def spWS (K : Fg) (C : Addr) : Sp := fun vs H Q _ => ∃ (p tk : Addr) (n : Int) (B : List BR) (pl : List (Str × Str × Int)) (ys : List V), vs = [.ref p, .ref tk] ∧ FcAt K C H p n B ∧ BookOk n B ∧ PlanFor n B pl ∧ B.flatMap (gW pl) = [] ∧ H tk = some (.lst ys) ∧ Zw K H pl ys (wks B) ∧ ∀ (D : Addr) (xs : List V) (H' : Hp), Same H H' → H' D = some (.lst xs) → xs.length ≤ 5200 → TupK H' xs (B.flatMap (gS n B pl)) → Q (.ref D) H'
section
variable {P : Program} {w : World} {K : Fg} {mg : Str → Option Value} {base : Heap}
theorem scWS : FnScope ["facts", "taken", "wrong", "store", "most", "first", "day"] ["facts", "taken"] (Qi sWS) := ⟨rfl, rfl, rfl, by decide +kernel, rfl, by decide +kernel, by decide +kernel⟩
theorem okWS {C fG : Addr} {fdG : FuncData} (F : Fn K mg "wrong_stores" sWS) (M : Mg mg) (T : FcTxt K mg C) (GG : FnOk P w K mg base CX0 2 fG fdG ["self", "choice", "store", "day"] (Qhz K C)) (bG : Binds K fdG ["self", "choice", "store", "day"] []) (mG : Meth K C "gain_by" fG) : Cal P w K mg base 4 "wrong_stores" ["facts", "taken"] (spWS K C) := by
 refine Ya F scWS (fun _ _ _ _ _ _ => Kx (fun _ _ => rfl)) (fun vs H Q E h => ?_) (fun f cdv A outer s H vs Q E hr h => ?_)
 ·obtain ⟨p, tk, n, B, pl, ys, rfl, _⟩ := h
  rfl
 obtain ⟨p, tk, n, B, pl, ys, rfl, hFc, bk, hpf, hW, htk, hTk, q⟩ := h
 obtain ⟨dx, lw, lb, lh, ls, la, ds, fs, kvs, yh, ysS, ya, hF⟩ := id hFc
 have hz : (20000 : Nat) < sizeLine := by decide
 have bl := bk.wb.len
 have n1 := bk.n1
 have n12 := bk.n12
 have lT := Paired.length hTk
 have wl : (wks B).length ≤ B.length := wY _ _
 have sl1 : (B.filter (selW "store")).length ≤ B.length := xY _ _
 have lS := Paired.length hF.tS
 have egS : B.flatMap (gS n B pl) = (B.filter (selW "store")).flatMap (gS n B pl) := Wk (fun a h => gS_no (of_decide_eq_false h)) B
 rw [egS] at q
 refine ⟨_, (Qh (Qr (i := 2) scWS.nd rfl (Or.inl rfl) (Xf Qf))
  (Qh (Yq PassesOwn.never rfl (Xk (Zh (pv 0) rfl)) (Qdz rfl (Yy (Qt (i := 3) scWS.nd rfl (Or.inr rfl) (Or.inl rfl)) (Yy (Qt (i := 4) scWS.nd rfl (Or.inl rfl) (Or.inl rfl)) (Yy (Qt (i := 5) scWS.nd rfl (Or.inl rfl) (Or.inl rfl)) Qad)))) (Ql (Yq PassesOwn.never rfl (Xy rfl M.range_ (Qa (Qm Qz (Zh (pv 0) rfl) Qe) Qf)) (Qt (i := 6) scWS.nd rfl (Or.inr rfl) (Or.inl rfl))
   (Ql (Xx (Ks (Qec Qae Qae Qe (Qm Qz (pv 5) (Qs (Qcc rfl) rfl M.sum Qll (Qa (Zs ["choice", "facts", "store", "day"] [none, some 0, some 3, some 6] rfl (Xk (pv 1)) (fun _ _ _ => (Qt (i := 0) (show (["choice", "facts", "store", "day"] : List Str).Nodup by decide +kernel) rfl (Or.inl rfl) (Or.inr rfl))) (fun _ _ _ => Kb) (fun _ _ _ => (Zi (pv 1) T.cl mG GG (hr.mono (by decide)) bG .nil Kk (Qa (pv 0) (Qa (pv 2) (Qa (pv 3) Qf)))))) Qf))) (pv 4))) (Ql (Yn (Kw PySem.F.plainAttrs_list PySem.F.slot_list_append PySem.F.type_list_append Xw (pv 2) (Qa (Xh (Qa Qx (Qa (pv 3) (Qa (pv 6) Qf)))) Qf)))) Xa)))))
  (Ql (Xe (pv 2))))), ?_⟩
 refine ⟨by show 0 ≤ sizeLine; decide, fun W hW0 => ?_⟩
 have s0 := Qc hW0 (.lst [])
 let Pv25 : Nat → St → Hp → Prop := fun i σ H1 => ∃ (v3 v4 v5 v6 : Option V) (xs : List V), σ = [some (.ref p), some (.ref tk), some (.ref W), v3, v4, v5, v6] ∧ H1 W = some (.lst xs) ∧ xs.length ≤ 13 * i ∧ TupK H1 xs (((B.filter (selW "store")).take i).flatMap (gS n B pl)) ∧ Same H H1
 refine ⟨_, rfl, p, C, dx, fs, _, rfl, s0 _ _ hF.hp, T.cl, T.nS, hF.fS, ls, rfl, ⟨_, Qd (s0 _ _ hF.hS)⟩, Kz (K := K) (a := ls) (xs := ysS) Pv25 ⟨none, none, none, none, [], rfl, Qb, jX _, .nil, s0⟩ (fun i σ H1 _ h => ?_) ?_ ?_⟩
 ·obtain ⟨v3, v4, v5, v6, xs, rfl, hx, lx, tx, s1⟩ := h
  exact s1.seq (Qd hF.hS)
 ·rintro i x σ H1 e1 ⟨v3, v4, v5, v6, xs, rfl, hx, lx, tx, s1⟩
  obtain ⟨r', er', t, rfl, hT⟩ := Xg hF.tS e1
  obtain ⟨st, mo, fi, rfl⟩ := Qfw (kY (xK.mp (yV er')).2)
  have hT' : SqT K H1 t [.str st, .int mo, .int fi] := s1.tup hT
  have il := (kJ.mp er').1
  refine ⟨t, _, rfl, hT', rfl, _, _, rfl, _, _, rfl, _, _, rfl, rfl, ?_⟩
  have eN : (n + 1).toNat = n.toNat + 1 := by omega
  refine ⟨_, rfl, p, C, dx, fs, _, rfl, s1 _ _ hF.hp, T.cl, T.nD, hF.fD, _, _, rfl, rfl, n + 1, rfl, by omega, by omega, ?_⟩
  rw [eN]
  let Pv26 : Nat → St → Hp → Prop := fun j σ H2 => ∃ (v6 : Option V) (xs : List V), σ = [some (.ref p), some (.ref tk), some (.ref W), some (.str st), some (.int mo), some (.int fi), v6] ∧ H2 W = some (.lst xs) ∧ xs.length ≤ 13 * i + j ∧ TupK H2 xs (((B.filter (selW "store")).take i).flatMap (gS n B pl) ++ (Jk (fun day => Zm B pl st fi day.toNat < 0 ∨ mo < Zm B pl st fi day.toNat) j).map fun d : Nat => [Sum.inr ("store" : Str), Sum.inr st, Sum.inl (d : Int)]) ∧ Same H H2
  refine Xv (lo := 0) (n := n.toNat + 1) Pv26 ⟨_, _, rfl, hx, lx, by rw [show Jk (fun day => Zm B pl st fi day.toNat < 0 ∨ mo < Zm B pl st fi day.toNat) 0 = [] from rfl, jKe, jQe]; exact tx, s1⟩ ?_ ?_
  ·rintro j σ H2 hj ⟨v6, xs, rfl, hx, lx, tx, s2⟩
   rw [Int.zero_add]
   have htk2 := s2 _ _ htk
   refine ⟨_, rfl, _, rfl, tk, rfl, ⟨_, Qd htk2⟩, fun D hD => ?_⟩
   let Pv27 : Nat → St → List V → Hp → Prop := fun m τ zs H3 => ∃ v : Option V, τ = [v, some (.ref p), some (.str st), some (.int j)] ∧ zs = (((wks B).take m).map fun w => Wo B st j (w, look pl w)).map V.int ∧ H3 D = some (.lst zs) ∧ Same H2 H3
   refine Yd (n := (wks B).length) Pv27 ?_ (fun m τ zs H3 hm h => ?_) (fun m τ zs H3 hm h => ?_) (fun τ zs H3 h => ?_) ?_ ?_
   ·exact ⟨none, rfl, rfl, Qb, Qc hD _⟩
   ·obtain ⟨v, rfl, rfl, hE, s3⟩ := h
    exact ⟨hE, by rw [jZ, jZ, xZ]; omega⟩
   ·obtain ⟨v, rfl, rfl, hE, s3⟩ := h
    exact ⟨ys, ys[m]'(by omega), s3.seq (Qd htk2), gE (by omega)⟩
   ·obtain ⟨v, rfl, rfl, hE, s3⟩ := h
    exact ⟨ys, s3.seq (Qd htk2), by omega⟩
   ·rintro m τ zs H3 x H4 hm ⟨v, rfl, rfl, hE, s3⟩ ⟨rfl, e2⟩
    obtain ⟨wk, ewk, t', rfl, hT2⟩ := Xg hTk (e2 _ (s3.seq (Qd htk2)))
    obtain ⟨l, c, hmem, hway, b0, b1⟩ := hpf.get bk.wb (Zu hW (wks_mem.mp (yV ewk)))
    have s23 := s2.trans s3
    refine ⟨_, rfl, p, dx, fs, rfl, s23 _ _ hF.hp, hF.nG, _, rfl, _, rfl, _, rfl, p, t', n, B, wk, _, st, _, l, c, j, rfl, hFc.same s23, bk.wb, s23.tup hT2, hway, fun H5 s5 => ?_⟩
    refine ⟨s5 _ _ hE, _, rfl, ?_, Qb, fun b o e => ?_⟩
    ·rw [Zt ewk, yQ, yQ]; rfl
    ·rw [Qj (Qk e hD)]; exact s5 _ _ (s3 _ _ e)
   ·rintro τ zs H3 ⟨v, rfl, rfl, hE, s3⟩
    rw [kX] at hE
    have hx4 := s3 _ _ hx
    have tx4 := tx.same s3
    have eS := Qif bk.wb hpf.good st fi j
    rw [Qid hpf bk.wb hW (Wo B st j)] at eS
    refine ⟨D, _, rfl, Qd hE, _, _, rfl, rfl, _, _, rfl, rfl, _, rfl, ?_⟩
    dsimp only
    rw [← eS]
    refine ite2 (fun y => ⟨_, rfl, _, _, rfl, rfl, _, rfl, ite2 (fun y2 => ?_) (fun y2 => ?_)⟩) (fun y => ⟨_, rfl, ite2 (fun y2 => ?_) (fun y2 => absurd rfl y2)⟩)
    ·have hneg : Zm B pl st fi ((j : Nat) : Int).toNat < 0 ∨ mo < Zm B pl st fi ((j : Nat) : Int).toNat := by
      rw [jYe]
      refine .inr (Int.not_le.mp fun z => ?_)
      rw [kZ z] at y2
      cases y2
     refine ⟨_, rfl, .inl ⟨rfl, _, Qd hx4⟩, _, rfl, _, rfl, by show 3 ≤ sizeLine; decide, fun t ht => ?_⟩
     have s5 := Qc ht (.tup [.str "store", .str st, .int j])
     have hx5 := s5 _ _ hx4
     refine ⟨W, _, _, rfl, rfl, hx5, by omega, _, _, rfl, Qb, by rw [jY]; exact zZ lx, ?_, fun b o e => ?_⟩
     ·rw [Jb, if_pos hneg, yQ, ← kK]
      exact Paired.snoc ((tx4.same s5).updL hx5) ⟨t, rfl, by rw [Qj (Yl Qb hx5 (by intro z; cases z))]; exact Qb⟩
     ·rw [Qj (Qk e hW0)]; exact s5 _ _ (s3 _ _ (s2 _ _ e))
    ·have hpos : ¬ (Zm B pl st fi ((j : Nat) : Int).toNat < 0 ∨ mo < Zm B pl st fi ((j : Nat) : Int).toNat) := by
      rw [jYe]
      have z1 : 0 ≤ Zm B pl st fi j := kY y
      intro z
      rcases z with z | z
      ·omega
      ·refine y2 ?_
       rw [zW (by omega)]
       rfl
     refine ⟨_, _, rfl, hx4, by omega, ?_, s2.trans s3⟩
     rw [Jb, if_neg hpos, jQe]
     exact tx4
    ·have hneg : Zm B pl st fi ((j : Nat) : Int).toNat < 0 ∨ mo < Zm B pl st fi ((j : Nat) : Int).toNat := by
      rw [jYe]
      exact .inl (Int.not_le.mp fun z => y (kZ z))
     refine ⟨_, rfl, .inl ⟨rfl, _, Qd hx4⟩, _, rfl, _, rfl, by show 3 ≤ sizeLine; decide, fun t ht => ?_⟩
     have s5 := Qc ht (.tup [.str "store", .str st, .int j])
     have hx5 := s5 _ _ hx4
     refine ⟨W, _, _, rfl, rfl, hx5, by omega, _, _, rfl, Qb, by rw [jY]; exact zZ lx, ?_, fun b o e => ?_⟩
     ·rw [Jb, if_pos hneg, yQ, ← kK]
      exact Paired.snoc ((tx4.same s5).updL hx5) ⟨t, rfl, by rw [Qj (Yl Qb hx5 (by intro z; cases z))]; exact Qb⟩
     ·rw [Qj (Qk e hW0)]; exact s5 _ _ (s3 _ _ (s2 _ _ e))
  ·rintro σ H2 ⟨v6, xs, rfl, hx, lx, tx, s2⟩
   refine ⟨_, _, _, _, _, rfl, hx, by omega, ?_, s2⟩
   rw [Qba _ er']
   exact tx
 ·rintro σ H1 ⟨v3, v4, v5, v6, xs, rfl, hx, lx, tx, s1⟩
  rw [show ysS.length = (B.filter (selW "store")).length from lS] at lx tx
  rw [kX] at tx
  exact ⟨_, rfl, q W xs H1 s1 hx (by omega) tx⟩
end
end Nb
namespace L2
open PySem PySem.Spec PyProof.Rows
section
variable {X : Cx}
def PairsK (K : Fg) (H : Hp) : List V → List (Key × V) → Prop := Paired fun v p => ∃ t, v = .ref t ∧ SqT K H t [kV p.1, p.2]
theorem PairsK.get {K : Fg} {H : Hp} {vs : List V} {ps : List (Key × V)} (h : PairsK K H vs ps) : ∀ {i : Nat} {v : V}, vs[i]? = some v → ∃ t p, v = .ref t ∧ ps[i]? = some p ∧ SqT K H t [kV p.1, p.2] := by
 induction h with
 | nil => intro i v e; simp at e
 | cons q t ih =>
  intro i v e
  cases i with
  | zero => obtain ⟨a, e1, z⟩ := q; simp at e; subst e; exact ⟨a, _, e1, rfl, z⟩
  | succ i => obtain ⟨a, r, e1, e2, z⟩ := ih (i := i) (v := v) (by simpa using e); exact ⟨a, r, e1, by simpa using e2, z⟩
theorem PairsK.imp {K : Fg} {H H' : Hp} {vs : List V} {ps : List (Key × V)} (f : ∀ t xs, SqT K H t xs → SqT K H' t xs) (h : PairsK K H vs ps) : PairsK K H' vs ps := by
 induction h with
 | nil => exact .nil
 | cons r t ih => obtain ⟨a, e, z⟩ := r; exact .cons ⟨a, e, f _ _ z⟩ ih
theorem PairsK.length {K : Fg} {H : Hp} {vs : List V} {ps : List (Key × V)} (h : PairsK K H vs ps) : vs.length = ps.length := Paired.length h
def Xn (ps : List (Key × V)) : List (Key × V) := ps.foldl (fun d p => putK d p.1 p.2) []
theorem Qcr {ps : List (Key × V)} {i : Nat} {p : Key × V} (h : ps[i]? = some p) : Xn (ps.take (i + 1)) = putK (Xn (ps.take i)) p.1 p.2 := by
 unfold Xn
 rw [List.take_succ, h, List.foldl_append]
 rfl
theorem Qds (ps : List (Key × V)) : (Xn ps).length ≤ ps.length := by
 have : ∀ (l : List (Key × V)) (d : List (Key × V)), (l.foldl (fun d p => putK d p.1 p.2) d).length ≤ d.length + l.length := by
  intro l
  induction l with
  | nil => intro d; simp
  | cons p r ih => intro d; have := ih (putK d p.1 p.2); have h2 := Yv d p.1 p.2; simp only [kYb, yW] at *; omega
 exact jQa (this ps []) (by simp)
theorem Qig {pins : List (Addr × Obj)} {σ : St} {H : Hp} {d it l : Addr} {vs : List V} {ps : List (Key × V)} {A : Around} {R : Result → Shared → Prop} (hh : A.handled = none) (hd : H d = none) (hl : SqL X.K H l vs) (hp : PairsK X.K H vs ps) (hz : ps.length < sizeLine)
  (hR : ∀ s', Inv X pins σ (upd H d (.dK (Xn ps))) s' → R (.ok (.ret .none)) s') :
  ∀ (k i : Nat) (s : Shared), ps.length - i = k → i ≤ ps.length → Inv X pins σ (upd H d (.dK (Xn (ps.take i)))) s → s.heap.IsListIter it l i → FpOk X pins (upd H d (.dK (Xn (ps.take i)))) it →
   codeAny (model X.prog X.w) A (.builtin "dict.update.loop" ⟨[.ref d, .ref it, rawInt i, .none], []⟩) R s := by
 intro k
 induction k with
 | zero =>
  intro i s hk hi I st f
  have ei : i = ps.length := by omega
  subst ei
  rw [kX] at I f
  have sm : Same H (upd H d (.dK (Xn ps))) := Qc hd _
  obtain ⟨its, r, p, _⟩ := I.list (sm.seq hl)
  have lv := hp.length
  have lr := r.length
  refine codeAny_builtin Ke ?_
  rw [Around.under_plainId Zb _]
  show wpAny _ A.in1 (pyNext (.ref it) >>= _) _ _ s
  refine jQ (wpAny_pyNext_list_end (A := A.in1) hh st p.isList (by simp; omega) fun h' eb => ?_)
  refine jQ (jW (jW ?_))
  exact hR _ (I.turned (t' := s.toks) (fun b o hb e => eb b o hb e) f.1 f.2.1 f.2.2.2.1 f.2.2.2.2.1 f.2.2.2.2.2)
 | succ k ih =>
  intro i s hk hi I st f
  have sm : Same H (upd H d (.dK (Xn (ps.take i)))) := Qc hd _
  obtain ⟨its, r, p, _⟩ := I.list (sm.seq hl)
  have lv := hp.length
  have hlt : i < vs.length := by omega
  obtain ⟨t, pr, ev, ep, hT⟩ := hp.get (gE hlt)
  obtain ⟨u, hu, ru⟩ := r.get (gE hlt)
  rw [ev] at ru
  cases ru
  refine codeAny_builtin Ke ?_
  rw [Around.under_plainId Zb _]
  show wpAny _ A.in1 (pyNext (.ref it) >>= _) _ _ s
  refine jQ (wpAny_pyNext_list_item st p.isList (x := .ref t) (by simpa using hu) fun h' st' sb => ?_)
  have I1 : Inv X pins σ (upd H d (.dK (Xn (ps.take i)))) { s with heap := h' } := I.turned (t' := s.toks) (fun b o hb e => (sb.2 b hb).trans e) f.1 f.2.1 f.2.2.2.1 f.2.2.2.2.1 f.2.2.2.2.2
  obtain ⟨its2, r2, ⟨ot, gt, ct, nt, dt⟩, _⟩ := I1.tuple (sm.tup hT)
  obtain ⟨u1, u2, rfl, ru1, ru2⟩ := r2.two
  refine jQ (wpAny_holding ?_)
  refine jQ (wpAny_tryCatch ?_)
  unfold Builtin.Dict.pairItems
  refine jQ (wpAny_typeOf (T := "tuple") ⟨ot, gt, ct⟩ ?_)
  rw [if_pos (by simp)]
  refine jQ (wpAny_seqItems gt dt (jW ?_))
  show wpAny _ _ (holding [u1, u2] (dictSet d u1 u2)) _ _ _
  obtain ⟨z, hdS, kv, rel, dd⟩ := Vv I1.hok (Qb (H := H) (a := d) (o := .dK (Xn (ps.take i))))
  have l1 := Qds (ps.take i)
  rw [xZ] at l1
  have hz2 : kv.length ≤ sizeLine := by rw [← rel.length]; exact z
  refine wpAny_holding (wpAny_dictSet_pairs (hsz := hz2) (knd := Xi X.prog X.w) (k := pr.1) (Qao ru1) dd fun h2 dd' hs2 => ?_)
  have he2 : ∃ q, h2.get? d = some q := let ⟨q, _, _, hq, _⟩ := dd'; ⟨q, hq⟩
  have l2 := Yv (Xn (ps.take i)) pr.1 pr.2
  have I2 : Inv X pins σ (upd (upd H d (.dK (Xn (ps.take i)))) d (.dK (putK (Xn (ps.take i)) pr.1 pr.2))) { s with heap := h2, toks := s.toks + 1 } :=
   Jo (s := { s with heap := h' }) I1 (by rw [Qb]; exact True.intro) hs2 he2 (Qek (by omega) hdS (rel.put _ ru2) dd')
  rw [Qda, ← Qcr ep] at I2
  have nit : it ≠ d := fun e => by have := f.1; rw [e, Qb] at this; cases this
  refine jW ⟨jKa Zb _, ?_⟩
  have ei : rawInt ((i : Int) + 1) = rawInt ((i + 1 : Nat) : Int) := by push_cast; rfl
  rw [ei]
  refine ih (i + 1) _ (by omega) (by omega) I2 (st'.at fun o e => hs2.extBut _ _ nit e) ⟨?_, f.2⟩
  have := f.1
  rw [Qj nit] at this ⊢
  exact this
theorem Jc (hc : X.calm = true) : Zq X (.type "dict") (fun xs H Q => ∃ (l : Addr) (vs : List V) (ps : List (Key × V)), xs = [.ref l] ∧ SqL X.K H l vs ∧ PairsK X.K H vs ps ∧ ps.length < sizeLine ∧ ∀ d, H d = none → Q (.ref d) (upd H d (.dK (Xn ps)))) := by
 intro pins s σ H xs us Q I rv h
 obtain ⟨l, vs, ps, rfl, hl, hp, hz, q⟩ := h
 obtain ⟨u, rfl, ru⟩ := rv.one
 cases ru
 refine callType_codes (Q₁ := fun obj s1 => obj = .ref s.heap.objs.size ∧ s1 = { s with heap := s.heap.push { cls := .type "dict", data := .dict #[] } }) F.kt_called_dict (F.kt_typeCall_dict_1 _) F.entry_dict_init (kt_code_dict_new _ ⟨rfl, rfl⟩) ?_
 rintro obj s1 ⟨rfl, rfl⟩
 have hd : H s.heap.objs.size = none := I.hok.fresh (jX _)
 have I1 : Inv X pins σ (upd H s.heap.objs.size (.dK [])) { s with heap := s.heap.push { cls := .type "dict", data := .dict #[] } } := I.laid (t' := s.toks) (fun _ _ q => jJ _ q) (jX _) (Qap s.heap I.big)
 have sm : Same H (upd H s.heap.objs.size (.dK [])) := Qc hd _
 obtain ⟨z, hdS, kv, rel, dd⟩ := Vv I1.hok (Qb (H := H) (a := s.heap.objs.size) (o := .dK []))
 refine ⟨dd.typeIs, F.args_dict_init_2 _ _, ?_⟩
 unfold Builtin.«dict.__init__»
 refine jQ ?_
 unfold Builtin.Dict.selfAndRest
 refine jQ (wpAny_notOrdered_dict dd.typeIs ?_)
 show wpAny _ _ (pure (s.heap.objs.size, [Value.ref l])) _ _ _
 refine jW ?_
 show wpAny _ _ (Builtin.Dict.updateFrom "dict.__init__" s.heap.objs.size (.ref l) [] .none) _ _ _
 unfold Builtin.Dict.updateFrom
 obtain ⟨its, r, ⟨o, n, e, c, dn, sl⟩, _⟩ := I1.list (sm.seq hl)
 obtain ⟨cls, dct, dat, sls⟩ := o
 simp only at c dn sl
 subst c dn sl
 refine jQ (wpAny_typeOf (T := "list") ⟨_, e, rfl⟩ ?_)
 rw [if_pos (by decide)]
 refine jQ (Kd (s := { s with heap := s.heap.push { cls := .type "dict", data := .dict #[] } }) e (by exact I.ok.hd hc) fun h2 tk2 hk2 => ?_)
 have I2 : Inv X pins σ (upd H s.heap.objs.size (.dK [])) { s with heap := h2, toks := tk2 } := I1.kept hk2
 rw [if_pos (by rfl)]
 refine jQ (wpAny_rule (jQ ?_))
 obtain ⟨its2, r2, p2, _⟩ := I2.list (sm.seq hl)
 refine wpAny_pyIter_list (s := { s with heap := h2, toks := tk2 }) p2.isList ?_
 refine jW ⟨jKa Zb _, ?_⟩
 have I3 : Inv X pins σ (upd H s.heap.objs.size (.dK [])) { s with heap := h2.push { cls := .type "list_iterator", data := .fields #[.ref l, .int 0 0] }, toks := tk2 } := I2.kept (t' := tk2) fun b o e => jJ _ e
 have hfr := I2.hok.fresh (a := h2.objs.size) (jX _)
 refine Qig (X := X) (pins := pins) (σ := σ) (H := H) (vs := vs) (ps := ps) (A := X.A.in1) (by exact I.ok.hd hc) hd hl hp hz (fun s' I' => ⟨rfl, .ref s.heap.objs.size, _, I', rfl, q _ hd⟩) ps.length 0 _ (by omega) (wK _) I3 ⟨_, yX _ rfl, rfl, rfl⟩ (I2.fpOk (jX _) hfr)
end
theorem Wx : ∀ {us : List Value} {ss : List Str}, us.length = ss.length → (∀ (j : Nat) (u : Value), us[j]? = some u → ∃ x t, ss[j]? = some x ∧ u = .str x t) → StrsAre us ss
 | [], [], _, _ => .nil
 | [], _ :: _, e, _ => nomatch e
 | _ :: _, [], e, _ => nomatch e
 | u :: us, x :: ss, e, h => by
  obtain ⟨y, t, e1, rfl⟩ := h 0 u rfl
  obtain rfl : x = y := Option.some.inj e1
  exact .cons x t (Wx (Nat.succ.inj e) fun j v ev => h (j + 1) v ev)
theorem Jd : ∀ {ss : List Str} {us : List Value}, StrsAre us ss → Vals (ss.map V.str) us := by
 intro ss us h
 induction h with
 | nil => exact .nil
 | cons => rename_i ih; exact .cons ⟨_, rfl⟩ ih
section
variable {X : Cx}
open PySem.W in
theorem Qcs (hc : X.calm = true) : Zq X (.builtin "sorted") (fun xs H Q => ∃ (d : Addr) (kvs : List (Key × V)) (ss : List Str), xs = [.ref d] ∧ H d = some (.dK kvs) ∧ kvs.map (·.1) = ss.map Sum.inr ∧ kvs.length < 64 ∧
  ∀ (D : Addr) (qs : List Str), H D = none → qs.Perm ss → sortedS qs = true → Q (.ref D) (upd H D (.lst (qs.map V.str)))) := by
 intro pins s σ H xs us Q I rv h
 obtain ⟨d, kvs, ss, rfl, hd, hk, h64, q⟩ := h
 obtain ⟨u, rfl, ru⟩ := rv.one
 cases ru
 obtain ⟨z, lo, vs, rel, dd⟩ := Vv I.hok hd
 obtain ⟨o, es, ep, h1, h2, h3, h4⟩ := id dd
 have da : s.heap.DictAt (Xi X.prog X.w) d vs ep := ⟨o, es, h1, h2, h3, h4⟩
 have lr := rel.length
 have lo' : (d == sysModules) = false := lo
 have hz64 : (64 : Nat) < sizeLine := by decide
 refine Calls.call_function_entry kind_sorted plain_sorted entry_sorted (args_sorted1 _) ?_
 unfold Builtin.«sorted»
 refine jQ (m := checkCount "sorted" 1 1 _) (jW ?_)
 refine jQ (kdu_collect (A := X.A.in1) (kdl_dict (knd := Xi X.prog X.w) (kvs := vs) (ep := ep) lo') (I.ok.hd hc) da (by omega) fun h' tk acc hkp hacc => ?_)
 have hl : acc.toList.length = vs.length := by rw [jJf]; exact hacc.1
 refine jQ (wpAny_newList ?_ (by rw [hl]; omega))
 have lk : kvs.length = ss.length := by
  have := congrArg List.length hk
  rwa [jZ, jZ] at this
 have hS : StrsAre acc.toList ss := by
  refine Wx (by omega) fun j u eu => ?_
  obtain ⟨k, x, ek, hkx⟩ := hacc.2 j u (by rw [← jJd]; exact eu)
  have e5 : (vs.map (·.1))[j]? = some k := by rw [yY, ek]; rfl
  rw [← Qhj rel, hk, yY] at e5
  cases e6 : ss[j]? with
  | none => rw [e6] at e5; cases e5
  | some y =>
   rw [e6] at e5
   cases e5
   obtain ⟨t, rfl⟩ := (show ∃ t, u = Value.str y t from is_kV hkx)
   exact ⟨y, t, rfl, rfl⟩
 have hoL : (h'.push (seqObj "list" acc.toList.toArray 0)).get? h'.objs.size = some (seqObj "list" acc.toList.toArray 0) := yX _ rfl
 show wpAny _ _ _ _ _ { s with heap := h'.push (seqObj "list" acc.toList.toArray 0), toks := tk }
 refine jQ (wpAny_holding (wpAny_call_entry slot_list_sort ⟨_, hoL, rfl⟩ entry_list_sort (list_sort_treeK strKind_oneLt hoL hS.keysOf (fun v₁ v₂ rest e => keyKind_strs (by rw [← e]; exact hS)) (by omega) fun st' a1 a2 => ⟨_, rfl, ?_⟩) (args_list_sort _)))
 refine jW ⟨_, rfl, ?_⟩
 obtain ⟨ss', b1, b2, b3⟩ := sorted_out_str hS a1 a2
 obtain ⟨e, he⟩ := sortedHeap_at (h := h'.push (seqObj "list" acc.toList.toArray 0)) (vs := acc.toList) (out := (arrOf st').map (·.2)) hoL
 have l5 : ss'.length = ss.length := b2.length_eq
 have I2 : Inv X pins σ H { s with heap := h', toks := tk } := I.kept hkp
 refine ⟨.ref h'.objs.size, _, I2.laid (t' := tk) (o := .lst (ss'.map V.str)) (fun b ob z5 => ?_) (jX _) ⟨by rw [jZ]; omega, ((arrOf st').map (·.2)).toList, e, Jd b1, by rw [Array.toArray_toList]; exact he⟩, rfl, q _ ss' (I2.hok.fresh (jX _)) b2 b3⟩
 have hb : h'.get? b = some ob := z5
 have lb := yK hb
 rw [sortedHeap_old (zK lb) (by rw [size_push']; exact kQe lb), Heap.get?_push_ne _ _ _ (zK lb)]
 exact hb
theorem Qnx {K : Fg} {e : Expr} {f : Str} {pos : Pos} {ta : TE} (hK : X.K = K) (he : PE X e ta) (hb : attributeBase e f X.env (eval e X.env) = eval e X.env) : PE X (.Attribute e f pos) (tFld K ta f) := by subst hK; exact Zh he hb
end
end L2
namespace Nb
open PySem L2
abbrev sWA : Stmt := top 15
theorem Qbc {f : Str → V} {w : Str} : ∀ (ws : List Str) (acc : List (Key × V)), (w ∈ ws ∨ valV acc (Sum.inr w : Key) = some (f w)) → valV ((ws.map fun w => ((Sum.inr w : Key), f w)).foldl (fun d p => putK d p.1 p.2) acc) (Sum.inr w : Key) = some (f w)
 | [], acc, h => h.resolve_left (fun z => nomatch z)
 | a :: ws, acc, h => by
  rw [zJ, kYb]
  refine Qbc ws _ ?_
  by_cases e : a = w
  ·exact .inr (by rw [Va, e, if_pos rfl])
  ·rcases h with h | h
   ·exact .inl ((yJ.mp h).resolve_left fun z => e z.symm)
   ·exact .inr (by rw [Va, if_neg (fun z => e (Sum.inr.inj z).symm)]; exact h)
def endE (B : List BR) (pl : List (Str × Str × Int)) (w : Str) : V := .int ((look pl w).2 + lenB B w (look pl w).1)
def begE (pl : List (Str × Str × Int)) (w : Str) : V := .int (look pl w).2
theorem Wy {K : Fg} {H H' : Hp} {vs : List V} {ps : List (Key × V)} (h : PairsK K H vs ps) (s : Same H H') : PairsK K H' vs ps := h.imp fun _ _ z => s.tup z
theorem Wz {K : Fg} {H : Hp} {W : Addr} {xs zs : List V} {vs : List V} {ps : List (Key × V)} (h : PairsK K H vs ps) (hW : H W = some (.lst xs)) : PairsK K (upd H W (.lst zs)) vs ps := h.imp fun _ _ z => Yo hW z
def spWA (K : Fg) (C : Addr) : Sp := fun vs H Q _ => ∃ (p tk : Addr) (n : Int) (B : List BR) (pl : List (Str × Str × Int)) (ys : List V), vs = [.ref p, .ref tk] ∧ FcAt K C H p n B ∧ BookOk n B ∧ PlanFor n B pl ∧ B.flatMap (gW pl) = [] ∧ H tk = some (.lst ys) ∧ Zw K H pl ys (wks B) ∧ ∀ (D : Addr) (xs : List V) (H' : Hp), Same H H' → H' D = some (.lst xs) → xs.length ≤ 5200 → TupK H' xs (B.flatMap (gA B pl)) → Q (.ref D) H'
section
variable {P : Program} {w : World} {K : Fg} {mg : Str → Option Value} {base : Heap}
theorem scWA : FnScope ["facts", "taken", "ends", "begins"] ["facts", "taken"] (Qi sWA) := ⟨rfl, rfl, rfl, by decide +kernel, rfl, by decide +kernel, by decide +kernel⟩
theorem okWA {C fE : Addr} {fdE : FuncData} (F : Fn K mg "wrong_afters" sWA) (M : Mg mg) (T : FcTxt K mg C) (GE : FnOk P w K mg base CX0 1 fE fdE ["self", "choice"] (Qet K C)) (bE : Binds K fdE ["self", "choice"] []) (mE : Meth K C "end_of" fE) : Cal P w K mg base 4 "wrong_afters" ["facts", "taken"] (spWA K C) := by
 refine Ya F scWA (fun _ _ _ _ _ _ => Kx (fun _ _ => rfl)) (fun vs H Q E h => ?_) (fun f cdv A outer s H vs Q E hr h => ?_)
 ·obtain ⟨p, tk, n, B, pl, ys, rfl, _⟩ := h
  rfl
 obtain ⟨p, tk, n, B, pl, ys, rfl, hFc, bk, hpf, hW, htk, hTk, q⟩ := h
 obtain ⟨dx, lw, lb, lh, ls, la, ds, fs, kvs, yh, ysS, ya, hF⟩ := id hFc
 have hz : (20000 : Nat) < sizeLine := by decide
 have hu : (A.deeper (PyProof.Rows.envOfC "wrong_afters" (Qi sWA) s.heap.objs.size f cdv)).units + 1 < cLine := xQ (xV (by decide) _) hr.un
 have bl := bk.wb.len
 have lT := Paired.length hTk
 have wl : (wks B).length ≤ B.length := wY _ _
 have sl1 : (B.filter (selW "after")).length ≤ B.length := xY _ _
 have lA := Paired.length hF.tA
 have egA : B.flatMap (gA B pl) = (B.filter (selW "after")).flatMap (gA B pl) := Wk (fun a h => gA_no (of_decide_eq_false h)) B
 rw [egA] at q
 refine ⟨_, (Qh (Qr (i := 2) scWA.nd rfl (Or.inr rfl) (Xz (Jc rfl) rfl M.dict_ Vu (Qa (Zs ["choice", "facts"] [none, some 0] rfl (Xk (pv 1)) (fun _ _ _ => (Qt (i := 0) (show (["choice", "facts"] : List Str).Nodup by decide +kernel) rfl (Or.inl rfl) (Or.inr rfl))) (fun _ _ _ => Kb) (fun _ _ _ => (Xh (Qa (Qu (Qdg (K := K) rfl) (pv 0) Qe (fun _ _ => rfl)) (Qa (Zi (pv 1) T.cl mE GE (hr.mono (by decide)) bE .nil Kk (Qa (pv 0) Qf)) Qf))))) Qf)))
  (Qh (Qr (i := 3) scWA.nd rfl (Or.inr rfl) (Xz (Jc rfl) rfl M.dict_ Vu (Qa (Zs ["choice"] [none] rfl (Xk (pv 1)) (fun _ _ _ => (Qt (i := 0) (show (["choice"] : List Str).Nodup by decide +kernel) rfl (Or.inl rfl) (Or.inr rfl))) (fun _ _ _ => Kb) (fun _ _ _ => (Xh (Qa (Qu (Qdg (K := K) rfl) (pv 0) Qe (fun _ _ => rfl)) (Qa (Qu (Qdg (K := K) rfl) (pv 0) Qe (fun _ _ => rfl)) Qf))))) Qf)))
  (Ql (Xe (Zs ["work", "other", "gap", "ends", "begins"] [none, none, none, some 2, some 3] rfl (Xk (Zh (pv 0) rfl)) (fun _ _ _ => (Qhd (K := K) (i := 0) (j := 1) (l := 2) rfl rfl (show (["work", "other", "gap", "ends", "begins"] : List Str).Nodup by decide +kernel) rfl rfl rfl rfl rfl rfl)) (fun _ _ _ => (Zk (Qp Qgj (Zz hu (pv 4) (pv 1) (fun _ _ => rfl)) (Qm Qz (Zz hu (pv 3) (pv 0) (fun _ _ => rfl)) (pv 2)) (Qw _)))) (fun _ _ _ => (Xh (Qa Qx (Qa (pv 0) (Qa (pv 1) Qf)))))))))), ?_⟩
 refine ⟨_, rfl, tk, rfl, ⟨_, Qd htk⟩, fun D hD => ?_⟩
 let Pv28 : Nat → St → List V → Hp → Prop := fun m τ zs H1 => ∃ v : Option V, τ = [v, some (.ref p)] ∧ PairsK K H1 zs (((wks B).take m).map fun w => ((Sum.inr w : Key), endE B pl w)) ∧ zs.length ≤ m ∧ H1 D = some (.lst zs) ∧ Same H H1
 refine Yd (n := (wks B).length) Pv28 ?_ (fun m τ zs H1 hm h => ?_) (fun m τ zs H1 hm h => ?_) (fun τ zs H1 h => ?_) ?_ ?_
 ·exact ⟨none, rfl, .nil, jX _, Qb, Qc hD _⟩
 ·obtain ⟨v, rfl, hY, hl, hE, s1⟩ := h
  exact ⟨hE, by omega⟩
 ·obtain ⟨v, rfl, hY, hl, hE, s1⟩ := h
  exact ⟨ys, ys[m]'(by omega), s1.seq (Qd htk), gE (by omega)⟩
 ·obtain ⟨v, rfl, hY, hl, hE, s1⟩ := h
  exact ⟨ys, s1.seq (Qd htk), by omega⟩
 ·rintro m τ zs H1 x H2 hm ⟨v, rfl, hY, hl, hE, s1⟩ ⟨rfl, e1⟩
  obtain ⟨wk, ewk, t, rfl, hT⟩ := Xg hTk (e1 _ (s1.seq (Qd htk)))
  obtain ⟨l, c, hmem, hway, b0, b1⟩ := hpf.get bk.wb (Zu hW (wks_mem.mp (yV ewk)))
  have hT1 := s1.tup hT
  refine ⟨_, rfl, t, _, _, _, rfl, rfl, hT1, (show atI [V.str wk, V.str (look pl wk).1, V.int (look pl wk).2] 0 = some (.str wk) from rfl), ?_⟩
  refine ⟨_, rfl, p, dx, fs, rfl, s1 _ _ hF.hp, hF.nE, _, rfl, p, t, n, B, wk, _, _, l, c, rfl, hFc.same s1, hT1, hway, fun H3 s3 => ?_⟩
  refine ⟨by show 2 ≤ sizeLine; decide, fun t2 ht2 => ?_⟩
  have s4 := s3.trans (Qc ht2 (.tup [.str wk, .int ((look pl wk).2 + l)]))
  have hE4 := s4 _ _ hE
  refine ⟨hE4, _, rfl, ?_, by rw [jY]; exact zZ hl, Qb, fun b o e => ?_⟩
  ·rw [Zt ewk, yQ]
   refine Paired.snoc (Wz (Wy hY s4) hE4) ⟨t2, rfl, Yo hE4 ?_⟩
   show SqT K _ t2 [.str wk, endE B pl wk]
   rw [show endE B pl wk = .int ((look pl wk).2 + l) by unfold endE; rw [Jt bk.wb hway]]
   exact Xb Qb
  ·rw [Qj (Qk e hD)]; exact s4 _ _ (s1 _ _ e)
 rintro τ zs H1 ⟨v, rfl, hY, hl, hE, s1⟩
 rw [kX] at hY
 refine ⟨D, zs, _, rfl, Qd hE, hY, by rw [jZ]; omega, fun d1 hd1 => ?_⟩
 have s2 := Qc hd1 (.dK (Xn ((wks B).map fun w => ((Sum.inr w : Key), endE B pl w))))
 have s12 := s1.trans s2
 have htk2 := s12 _ _ htk
 refine ⟨_, rfl, tk, rfl, ⟨_, Qd htk2⟩, fun D2 hD2 => ?_⟩
 let Pv29 : Nat → St → List V → Hp → Prop := fun m τ zs H3 => ∃ v : Option V, τ = [v] ∧ PairsK K H3 zs (((wks B).take m).map fun w => ((Sum.inr w : Key), begE pl w)) ∧ zs.length ≤ m ∧ H3 D2 = some (.lst zs) ∧ Same (upd H1 d1 (.dK (Xn ((wks B).map fun w => ((Sum.inr w : Key), endE B pl w))))) H3
 refine Yd (n := (wks B).length) Pv29 ?_ (fun m τ zs H3 hm h => ?_) (fun m τ zs H3 hm h => ?_) (fun τ zs H3 h => ?_) ?_ ?_
 ·exact ⟨none, rfl, .nil, jX _, Qb, Qc hD2 _⟩
 ·obtain ⟨v, rfl, hY, hl, hE, s3⟩ := h
  exact ⟨hE, by omega⟩
 ·obtain ⟨v, rfl, hY, hl, hE, s3⟩ := h
  exact ⟨ys, ys[m]'(by omega), s3.seq (Qd htk2), gE (by omega)⟩
 ·obtain ⟨v, rfl, hY, hl, hE, s3⟩ := h
  exact ⟨ys, s3.seq (Qd htk2), by omega⟩
 ·rintro m τ zs H3 x H4 hm ⟨v, rfl, hY, hl, hE, s3⟩ ⟨rfl, e1⟩
  obtain ⟨wk, ewk, t, rfl, hT⟩ := Xg hTk (e1 _ (s3.seq (Qd htk2)))
  have hT1 := s3.tup (s12.tup hT)
  refine ⟨_, rfl, t, _, _, _, rfl, rfl, hT1, (show atI [V.str wk, V.str (look pl wk).1, V.int (look pl wk).2] 0 = some (.str wk) from rfl), ?_⟩
  refine ⟨_, rfl, t, _, _, _, rfl, rfl, hT1, (show atI [V.str wk, V.str (look pl wk).1, V.int (look pl wk).2] 2 = some (.int (look pl wk).2) from rfl), ?_⟩
  refine ⟨by show 2 ≤ sizeLine; decide, fun t2 ht2 => ?_⟩
  have s4 := Qc ht2 (.tup [.str wk, .int (look pl wk).2])
  have hE4 := s4 _ _ hE
  refine ⟨hE4, _, rfl, ?_, by rw [jY]; exact zZ hl, Qb, fun b o e => ?_⟩
  ·rw [Zt ewk, yQ]
   exact Paired.snoc (Wz (Wy hY s4) hE4) ⟨t2, rfl, Yo hE4 (Xb Qb)⟩
  ·rw [Qj (Qk e hD2)]; exact s4 _ _ (s3 _ _ e)
 rintro τ zs2 H3 ⟨v, rfl, hY2, hl2, hE2, s3⟩
 rw [kX] at hY2
 refine ⟨D2, zs2, _, rfl, Qd hE2, hY2, by rw [jZ]; omega, fun d2 hd2 => ?_⟩
 have s4 := Qc hd2 (.dK (Xn ((wks B).map fun w => ((Sum.inr w : Key), begE pl w))))
 have sA := (s12.trans s3).trans s4
 have h1 := s4 _ _ (s3 _ _ (Qb (H := H1) (a := d1) (o := .dK (Xn ((wks B).map fun w => ((Sum.inr w : Key), endE B pl w))))))
 have h2 : (upd H3 d2 (.dK (Xn ((wks B).map fun w => ((Sum.inr w : Key), begE pl w))))) d2 = some (.dK (Xn ((wks B).map fun w => ((Sum.inr w : Key), begE pl w)))) := Qb
 generalize upd H3 d2 (.dK (Xn ((wks B).map fun w => ((Sum.inr w : Key), begE pl w)))) = H5 at s4 sA h1 h2
 refine ⟨_, rfl, p, C, dx, fs, _, rfl, sA _ _ hF.hp, T.cl, T.nA, hF.fA, la, rfl, ⟨_, Qd (sA _ _ hF.hA)⟩, fun D3 hD3 => ?_⟩
 let Pv30 : Nat → St → List V → Hp → Prop := fun m τ xs H6 => ∃ v0 v1 v2 : Option V, τ = [v0, v1, v2, some (.ref d1), some (.ref d2)] ∧ TupK H6 xs (((B.filter (selW "after")).take m).flatMap (gA B pl)) ∧ xs.length ≤ m ∧ H6 D3 = some (.lst xs) ∧ Same H5 H6
 refine Yd (n := (B.filter (selW "after")).length) Pv30 ?_ (fun m τ xs H6 hm h => ?_) (fun m τ xs H6 hm h => ?_) (fun τ xs H6 h => ?_) ?_ ?_
 ·exact ⟨none, none, none, rfl, .nil, jX _, Qb, Qc hD3 _⟩
 ·obtain ⟨v0, v1, v2, rfl, hX, hl, hE, s6⟩ := h
  exact ⟨hE, by omega⟩
 ·obtain ⟨v0, v1, v2, rfl, hX, hl, hE, s6⟩ := h
  exact ⟨ya, ya[m]'(by omega), (sA.trans s6).seq (Qd hF.hA), gE (by omega)⟩
 ·obtain ⟨v0, v1, v2, rfl, hX, hl, hE, s6⟩ := h
  exact ⟨ya, (sA.trans s6).seq (Qd hF.hA), by omega⟩
 ·rintro m τ xs H6 x H7 hm ⟨v0, v1, v2, rfl, hX, hl, hE, s6⟩ ⟨rfl, e1⟩
  obtain ⟨r', er', t, rfl, hT⟩ := Xg hF.tA (e1 _ ((sA.trans s6).seq (Qd hF.hA)))
  have hr' := xK.mp (yV er')
  obtain ⟨wk, ot, g, rfl⟩ := Qfp (kY hr'.2)
  have hT' : SqT K _ t [.str wk, .str ot, .int g] := (sA.trans s6).tup hT
  have hw1 : wk ∈ wks B := wks_mem.mpr (bk.wb.ref _ hr'.1 wk (by show wk ∈ [wk, ot]; exact jK))
  have hw2 : ot ∈ wks B := wks_mem.mpr (bk.wb.ref _ hr'.1 ot (by show ot ∈ [wk, ot]; exact zQ _ jK))
  have g1 := DGet.k (k := Sum.inr ot) (s6 _ _ h2)
  have g2 := DGet.k (k := Sum.inr wk) (s6 _ _ h1)
  rw [show valV (Xn ((wks B).map fun w => ((Sum.inr w : Key), begE pl w))) (Sum.inr ot) = some (begE pl ot) from Qbc (f := begE pl) (wks B) [] (.inl hw2)] at g1
  rw [show valV (Xn ((wks B).map fun w => ((Sum.inr w : Key), endE B pl w))) (Sum.inr wk) = some (endE B pl wk) from Qbc (f := endE B pl) (wks B) [] (.inl hw1)] at g2
  refine ⟨t, _, rfl, hT', rfl, _, _, rfl, _, _, rfl, _, _, rfl, rfl, ?_⟩
  refine ⟨_, rfl, _, rfl, d2, _, rfl, g1, _, rfl, _, rfl, d1, _, rfl, g2, _, rfl, _, _, rfl, rfl, _, _, rfl, rfl, _, rfl, ?_⟩
  have eg : gA B pl (.after wk ot g) = if (look pl ot).2 - (look pl wk).2 - lenB B wk (look pl wk).1 < g then [[Sum.inr ("after" : Str), Sum.inr wk, Sum.inr ot]] else [] := rfl
  refine ite2 (fun y => ?_) (fun y => ?_)
  ·have y' : (look pl ot).2 < (look pl wk).2 + lenB B wk (look pl wk).1 + g := kY y
   refine ⟨_, rfl, _, rfl, by show 3 ≤ sizeLine; decide, fun t2 ht2 => ?_⟩
   have s7 := Qc ht2 (.tup [.str "after", .str wk, .str ot])
   have hE7 := s7 _ _ hE
   refine ⟨hE7, _, _, _, rfl, ?_, by rw [jY]; exact zZ hl, Qb, fun b o e => ?_⟩
   ·rw [Qba _ er', eg, if_pos (by omega)]
    exact Paired.snoc ((hX.same s7).updL hE7) ⟨t2, rfl, by rw [Qj (Yl Qb hE7 (by intro z; cases z))]; exact Qb⟩
   ·rw [Qj (Qk e hD3)]; exact s7 _ _ (s6 _ _ e)
  ·have y' : ¬ (look pl ot).2 < (look pl wk).2 + lenB B wk (look pl wk).1 + g := fun z => y (kZ z)
   refine ⟨_, _, _, rfl, ?_, by omega, hE, s6⟩
   rw [Qba _ er', eg, if_neg (by omega), jQe]
   exact hX
 ·rintro τ xs H6 ⟨v0, v1, v2, rfl, hX, hl, hE, s6⟩
  rw [kX] at hX
  exact q D3 xs H6 (sA.trans s6) hE (by omega) hX
end
end Nb
namespace L2
open PySem PySem.Spec PyProof.Rows PySem.SeqAt
section
variable {X : Cx}
theorem Qny {n : Nat} (hu : X.A.units + n < cLine) : OpR X (compareOp .NotEq) (fun x y H Q => ∃ (a b : Addr) (ks : List Key), x = .ref a ∧ y = .ref b ∧ SqT X.K H a (ks.map kV) ∧ SqT X.K H b (ks.map kV) ∧ Q (.bl false) H) := by
 intro pins s σ H x y v u Q I rx ry h
 obtain ⟨a, b, ks, rfl, rfl, h1, h2, q⟩ := h
 cases rx
 cases ry
 obtain ⟨its, r, pt, _⟩ := I.tuple h1
 obtain ⟨its', r', pt', _⟩ := I.tuple h2
 have l1 := r.length
 have l2 := r'.length
 have key := Qhg (A := X.A.in1) (s := s) r r'
 have := RcNeAt.tuples pt pt' (by omega) key
 have e : ((List.range (min its.toArray.size its'.toArray.size)).all (fun j => decide (ks[j]? = ks[j]?)) && its.toArray.size == its'.toArray.size) = true := by
  rw [wX, Qak, jV, jV, beq_iff_eq]
  exact ⟨fun i _ => kZ rfl, by omega⟩
 rw [e] at this
 exact this _ _ _ _ ⟨.bl false, H, I, rfl, q⟩
end
def Qdt : Bool → Keyed → Array Keyed → Nat → Nat → Nat → StateT SortSt Sem (Option Nat) := sortPriv% PySem.Builtin.gallop
def Qkq : Array Keyed → Array Keyed → StateT SortSt Sem (Array Keyed) := sortPriv% PySem.Builtin.mergeLo
def Qkr : Array Keyed → Array Keyed → StateT SortSt Sem (Array Keyed) := sortPriv% PySem.Builtin.mergeHi
section
variable {prog : Program} {w : World} {A : Around} {E : Value → Shared → Prop} {s : Shared} {κ : KeyKind}
def HasK (κ : KeyKind) (x : Keyed) : Prop := ∃ a, κ.keyOf x.1 = some a
theorem Je (hO : κ.OneLt) {st : SortSt} {x y : Keyed} {Q : Option Bool → SortSt → Prop} (hk : kindOf st = oneType') (hx : HasK κ x) (hy : HasK κ y)
  (h : ∀ b, Q (some b) st) : wpS (model prog w) A E s (lt' x y) Q st := by
 obtain ⟨a, ha⟩ := hx
 obtain ⟨b, hb⟩ := hy
 rw [lt'_eq]
 refine wpS_bind (wpS_get ?_)
 rw [hk, keyLt'_oneType]
 refine wpS_bind (wpS_lift (wpAny_attempt (hO prog w A _ s x.1 y.1 a b ha hb ⟨rfl, ?_⟩)))
 exact wpS_pure (h _)
theorem Qo {st : SortSt} {arr : Array Keyed} {i : Nat} {Q : Keyed → SortSt → Prop} (hi : i < arr.size) (h : Q arr[i] st) : wpS (model prog w) A E s (elem' arr i) Q st := by
 rw [elem'_eq, getElem?_pos arr i hi]
 exact wpS_pure h
theorem Jh (hO : κ.OneLt) {st : SortSt} {left : Bool} {key : Keyed} {arr : Array Keyed} {i : Nat} {Q : Option Bool → SortSt → Prop} (hk : kindOf st = oneType')
  (hkey : HasK κ key) (harr : ∀ x ∈ arr, HasK κ x) (hi : i < arr.size) (h : ∀ b, Q (some b) st) :
  wpS (model prog w) A E s (elem' arr i >>= fun x => if left = true then lt' x key else lt' key x >>= fun r => pure (r.map fun x => !x)) Q st := by
 refine wpS_bind (Qo hi ?_)
 have hx := harr _ (xJ hi)
 split
 ·exact Je hO hk hx hkey h
 ·exact wpS_bind (Je hO hk hkey hx fun b => wpS_pure (h _))
theorem Yx (hO : κ.OneLt) {st : SortSt} {left : Bool} {key : Keyed} {arr : Array Keyed} {base n hint : Nat} {Q : Option Nat → SortSt → Prop} (hk : kindOf st = oneType')
  (hkey : HasK κ key) (harr : ∀ x ∈ arr, HasK κ x) (hb : base + n ≤ arr.size) (hh : hint < n) (h : ∀ k, k ≤ n → Q (some k) st) :
  wpS (model prog w) A E s (Qdt left key arr base n hint) Q st := by
 refine wpS_bind (Jh hO hk hkey harr (by omega) fun right => ?_)
 dsimp only
 have fin : ∀ lo hi : Nat, hi ≤ n → wpS (model prog w) A E s (forIn [:n] ((none, lo, hi) : Option (Option Nat) × Nat × Nat) fun x t =>
   if t.2.1 ≥ t.2.2 then pure (ForInStep.done (none, t.2.1, t.2.2)) else
    (elem' arr (base + (t.2.1 + (t.2.2 - t.2.1) / 2)) >>= fun x => if left = true then lt' x key else lt' key x >>= fun r => pure (r.map fun x => !x)) >>= fun m => match m with
     | some more => if more = true then pure (ForInStep.yield (none, t.2.1 + (t.2.2 - t.2.1) / 2 + 1, t.2.2)) else pure (ForInStep.yield (none, t.2.1, t.2.1 + (t.2.2 - t.2.1) / 2))
     | x => pure (ForInStep.done (some none, t.2.1, t.2.2))) (fun t st' => st' = st ∧ t.1 = none ∧ t.2.2 ≤ n) st := by
  intro lo hi hn
  refine wpS_forRange (I := fun _ (c : Option (Option Nat) × Nat × Nat) st' => st' = st ∧ c.1 = none ∧ c.2.2 ≤ n) ?_ (fun c st' hc => hc) ⟨rfl, rfl, hn⟩
  rintro x ⟨r, l, k⟩ st' _ _ ⟨rfl, hr, hk'⟩
  simp only at hr hk' ⊢
  subst hr
  split
  ·exact wpS_pure ⟨rfl, rfl, hk'⟩
  ·refine wpS_bind (Jh hO hk hkey harr (by omega) fun more => ?_)
   cases more
   ·exact wpS_pure ⟨rfl, rfl, by show l + (k - l) / 2 ≤ n; omega⟩
   ·exact wpS_pure ⟨rfl, rfl, hk'⟩
 have fin2 : ∀ (f : Option (Option Nat) × Nat × Nat → StateT SortSt Sem (Option Nat)) (lo hi : Nat), hi ≤ n → (∀ t, t.1 = none → f t = pure (some t.2.2)) → wpS (model prog w) A E s (forIn [:n] ((none, lo, hi) : Option (Option Nat) × Nat × Nat) (fun x t =>
   if t.2.1 ≥ t.2.2 then pure (ForInStep.done (none, t.2.1, t.2.2)) else
    (elem' arr (base + (t.2.1 + (t.2.2 - t.2.1) / 2)) >>= fun x => if left = true then lt' x key else lt' key x >>= fun r => pure (r.map fun x => !x)) >>= fun m => match m with
     | some more => if more = true then pure (ForInStep.yield (none, t.2.1 + (t.2.2 - t.2.1) / 2 + 1, t.2.2)) else pure (ForInStep.yield (none, t.2.1, t.2.1 + (t.2.2 - t.2.1) / 2))
     | x => pure (ForInStep.done (some none, t.2.1, t.2.2))) >>= f) Q st := by
  intro f lo hi hn hf
  refine wpS_bind (wpS_mono (fin lo hi hn) ?_)
  rintro ⟨r, l, k⟩ st' ⟨rfl, hr, hk'⟩
  rw [hf _ hr]
  exact wpS_pure (h _ hk')
 cases right
 ·refine wpS_bind (wpS_mono (wpS_forRange (I := fun _ (c : Option (Option Nat) × Nat × Nat) st' => st' = st ∧ c.1 = none ∧ 1 ≤ c.2.2) (Q := fun (c : Option (Option Nat) × Nat × Nat) st' => st' = st ∧ c.1 = none) ?_ (fun c st' hc => ⟨hc.1, hc.2.1⟩) ⟨rfl, rfl, jX 1⟩) ?_)
  ·rintro x ⟨r, l, k⟩ st' _ _ ⟨rfl, hr, hk'⟩
   simp only at hr hk' ⊢
   subst hr
   split
   ·exact wpS_pure ⟨rfl, rfl⟩
   ·refine wpS_bind (Jh hO hk hkey harr (by omega) fun more => ?_)
    cases more
    ·exact wpS_pure ⟨rfl, rfl, by show 1 ≤ 2 * k + 1; omega⟩
    ·exact wpS_pure ⟨rfl, rfl⟩
  ·rintro ⟨r, l, k⟩ st' ⟨rfl, hr⟩
   simp only at hr
   subst hr
   exact fin2 _ _ _ (by omega) fun t ht => by obtain ⟨a, b, c⟩ := t; simp only at ht; subst ht; rfl
 ·refine wpS_bind (wpS_mono (wpS_forRange (I := fun _ (c : Option (Option Nat) × Nat × Nat) st' => st' = st ∧ c.1 = none ∧ 1 ≤ c.2.2) (Q := fun (c : Option (Option Nat) × Nat × Nat) st' => st' = st ∧ c.1 = none) ?_ (fun c st' hc => ⟨hc.1, hc.2.1⟩) ⟨rfl, rfl, jX 1⟩) ?_)
  ·rintro x ⟨r, l, k⟩ st' _ _ ⟨rfl, hr, hk'⟩
   simp only at hr hk' ⊢
   subst hr
   split
   ·exact wpS_pure ⟨rfl, rfl⟩
   ·refine wpS_bind (Jh hO hk hkey harr (by omega) fun more => ?_)
    cases more
    ·exact wpS_pure ⟨rfl, rfl⟩
    ·exact wpS_pure ⟨rfl, rfl, by show 1 ≤ 2 * k + 1; omega⟩
  ·rintro ⟨r, l, k⟩ st' ⟨rfl, hr⟩
   simp only at hr
   subst hr
   exact fin2 _ _ _ (by show hint + min _ (n - hint) ≤ n; omega) fun t ht => by obtain ⟨a, b, c⟩ := t; simp only at ht; subst ht; rfl
end
def LoP (a b out : Array Keyed) (ia ib : Nat) : Prop := out.toList.Perm (a.toList.take ia ++ b.toList.take ib)
abbrev setG (st : SortSt) (g : Nat) : SortSt := SortSt.mk' (kindOf st) (arrOf st) (pendingOf st) g (failedOf st)
theorem take_snoc {α : Type} (xs : Array α) {i : Nat} (hi : i < xs.size) : xs.toList.take (i + 1) = xs.toList.take i ++ [xs[i]] := by
 rw [List.take_add_one, jJd, getElem?_pos xs i hi]; rfl
theorem Vd {α : Type} (xs : Array α) (i k : Nat) : xs.toList.take (i + k) = xs.toList.take i ++ (xs.extract i (i + k)).toList := by
 rw [kYc, kQc, show i + k - i = k by omega, List.take_add]
section
variable {a b out : Array Keyed} {ia ib k : Nat}
theorem LoP.pushB (h : LoP a b out ia ib) (hi : ib < b.size) : LoP a b (out.push b[ib]) ia (ib + 1) := by
 unfold LoP at *
 rw [jKb, take_snoc b hi, ← kK]
 exact h.append_right _
theorem LoP.pushA (h : LoP a b out ia ib) (hi : ia < a.size) : LoP a b (out.push a[ia]) (ia + 1) ib := by
 unfold LoP at *
 rw [jKb, take_snoc a hi, kK]
 refine (h.append_right _).trans ?_
 rw [kK]
 exact List.Perm.append_left _ wQ
theorem LoP.addB (h : LoP a b out ia ib) (k : Nat) : LoP a b (out ++ b.extract ib (ib + k)) ia (ib + k) := by
 unfold LoP at *
 rw [wV, Vd b, ← kK]
 exact h.append_right _
theorem LoP.addA (h : LoP a b out ia ib) (k : Nat) : LoP a b (out ++ a.extract ia (ia + k)) (ia + k) ib := by
 unfold LoP at *
 rw [wV, Vd a, kK]
 refine (h.append_right _).trans ?_
 rw [kK]
 exact List.Perm.append_left _ wQ
theorem LoP.done (h : LoP a b out ia ib) : (out ++ a.extract ia ++ b.extract ib).toList.Perm (a.toList ++ b.toList) := by
 unfold LoP at *
 have e : ∀ (xs : Array Keyed) (i : Nat), xs.toList.take i ++ (xs.extract i).toList = xs.toList := by
  intro xs i
  rw [kYc, kQc, show xs.size - i = (xs.toList.drop i).length by rw [jZb]; rfl, kX, jJc]
 rw [wV, wV]
 refine ((h.append_right _).append_right _).trans ?_
 conv => rhs; rw [← e a ia, ← e b ib]
 rw [kK, kK, kK]
 refine List.Perm.append_left _ ?_
 rw [← kK, ← kK]
 exact List.Perm.append_right _ wQ
theorem LoP.last (h : LoP a b out ia ib) : (out ++ b.extract ib ++ a.extract ia).toList.Perm (a.toList ++ b.toList) := by
 refine List.Perm.trans ?_ h.done
 simp only [wV]
 rw [kK, kK]
 exact List.Perm.append_left _ wQ
end
section
variable {prog : Program} {w : World} {A : Around} {E : Value → Shared → Prop} {s : Shared} {κ : KeyKind}
theorem Qn {σ α : Type} {M : Model} {c : Prop} [Decidable c] {m₁ m₂ : StateT σ Sem α} {Q : α → σ → Prop} {st : σ} (h₁ : c → wpS M A E s m₁ Q st) (h₂ : ¬ c → wpS M A E s m₂ Q st) : wpS M A E s (if c then m₁ else m₂) Q st := by
 by_cases h : c
 ·rw [if_pos h]; exact h₁ h
 ·rw [if_neg h]; exact h₂ h
theorem Qdu (hO : κ.OneLt) {st : SortSt} {a b : Array Keyed} {Q : Array Keyed → SortSt → Prop} (hk : kindOf st = oneType')
  (ha : ∀ x ∈ a, HasK κ x) (hb : ∀ x ∈ b, HasK κ x) (na : 1 ≤ a.size) (nb : 1 ≤ b.size) (h : ∀ out g, out.toList.Perm (a.toList ++ b.toList) → Q out (setG st g)) :
  wpS (model prog w) A E s (Qkq a b) Q st := by
 refine wpS_bind (wpS_lift (wpAny_rule ⟨rfl, ?_⟩))
 refine wpS_bind (Qo (by omega) ?_)
 have l0 : LoP a b #[b[0]] 0 1 := by
  unfold LoP
  rw [take_snoc b (by omega)]
  exact List.Perm.refl _
 dsimp only
 refine Qn (fun _ => wpS_pure (h _ (gallopOf st) l0.done)) fun e1 => ?_
 refine Qn (fun _ => wpS_pure (h _ (gallopOf st) l0.last)) fun e2 => ?_
 rw [beq_iff_eq] at e1 e2
 refine wpS_bind (wpS_get ?_)
 refine wpS_bind (wpS_mono (wpS_forRange (I := fun x (c : Option (Array Keyed) × Array Keyed × Nat × Nat × Nat) st' => (∃ g, st' = setG st g) ∧ c.1 = none ∧ LoP a b c.2.1 c.2.2.1 c.2.2.2.1 ∧ c.2.2.1 + 1 < a.size ∧ c.2.2.2.1 < b.size ∧ x ≤ c.2.2.1 + c.2.2.2.1)
  (Q := fun c st' => (∃ g, st' = setG st g) ∧ ∃ r, c.1 = some r ∧ r.toList.Perm (a.toList ++ b.toList)) ?step ?fin ⟨⟨gallopOf st, rfl⟩, rfl, l0, by show 0 + 1 < _; omega, by show 1 < _; omega, wK _⟩) ?post)
 case post =>
  rintro ⟨r, c⟩ st' ⟨⟨g, rfl⟩, r', hr, hp⟩
  simp only at hr
  subst hr
  exact wpS_pure (h _ _ hp)
 case fin =>
  rintro ⟨r, out, ia, ib, mg⟩ st' ⟨_, _, _, h1, h2, h3⟩
  simp only at h1 h2 h3
  omega
 case step =>
  rintro x ⟨r, out, ia, ib, mg⟩ st' _ _ ⟨⟨g, rfl⟩, hr, hl, h1, h2, h3⟩
  simp only at hr hl h1 h2 h3 ⊢
  subst hr
  refine wpS_bind (wpS_mono (wpS_forRange (I := fun y (c : Option (Array Keyed) × Array Keyed × Nat × Nat × Nat × Nat) st' => st' = setG st g ∧ c.1 = none ∧ LoP a b c.2.1 c.2.2.1 c.2.2.2.1 ∧ c.2.2.1 + 1 < a.size ∧ c.2.2.2.1 < b.size ∧ x + y ≤ c.2.2.1 + c.2.2.2.1)
   (Q := fun c st' => st' = setG st g ∧ ((∃ r, c.1 = some r ∧ r.toList.Perm (a.toList ++ b.toList)) ∨ c.1 = none ∧ LoP a b c.2.1 c.2.2.1 c.2.2.2.1 ∧ c.2.2.1 + 1 < a.size ∧ c.2.2.2.1 < b.size ∧ x + 1 ≤ c.2.2.1 + c.2.2.2.1)) ?s1 ?f1 ⟨rfl, rfl, hl, h1, h2, h3⟩) ?p1)
  case f1 =>
   rintro ⟨r, out, ia, ib, ac, bc⟩ st' ⟨rfl, hr, hl, h1, h2, h3⟩
   simp only at h1 h2 h3
   exact ⟨rfl, .inr ⟨hr, hl, h1, h2, by show x + 1 ≤ ia + ib; omega⟩⟩
  case s1 =>
   rintro y ⟨r, out, ia, ib, ac, bc⟩ st' _ _ ⟨rfl, hr, hl, h1, h2, h3⟩
   simp only at hr hl h1 h2 h3 ⊢
   subst hr
   refine wpS_bind (Qo h2 ?_)
   refine wpS_bind (Qo (by omega) ?_)
   refine wpS_bind (Je hO hk (hb _ (xJ _)) (ha _ (xJ _)) fun wins => ?_)
   cases wins
   ·refine wpS_bind (Qo (i := ia) (by omega) ?_)
    have hl' := hl.pushA (show ia < a.size by omega)
    refine Qn (fun _ => wpS_pure ⟨rfl, .inl ⟨_, rfl, hl'.last⟩⟩) fun e => ?_
    ·rw [beq_iff_eq] at e
     refine Qn (fun _ => ?_) fun _ => ?_
     ·exact wpS_pure ⟨rfl, .inr ⟨rfl, hl', by show ia + 1 + 1 < _; omega, h2, by show x + 1 ≤ ia + 1 + ib; omega⟩⟩
     ·exact wpS_pure ⟨rfl, rfl, hl', by show ia + 1 + 1 < _; omega, h2, by show x + (y + 1) ≤ ia + 1 + ib; omega⟩
   ·refine wpS_bind (Qo h2 ?_)
    have hl' := hl.pushB h2
    refine Qn (fun _ => wpS_pure ⟨rfl, .inl ⟨_, rfl, hl'.done⟩⟩) fun e => ?_
    ·rw [beq_iff_eq] at e
     refine Qn (fun _ => ?_) fun _ => ?_
     ·exact wpS_pure ⟨rfl, .inr ⟨rfl, hl', h1, by show ib + 1 < _; omega, by show x + 1 ≤ ia + (ib + 1); omega⟩⟩
     ·exact wpS_pure ⟨rfl, rfl, hl', h1, by show ib + 1 < _; omega, by show x + (y + 1) ≤ ia + (ib + 1); omega⟩
  case p1 =>
   rintro ⟨r, out, ia, ib, ac, bc⟩ st' ⟨rfl, hr | ⟨hr, hl, h1, h2, h3⟩⟩
   ·obtain ⟨r', hr, hp⟩ := hr
    simp only at hr
    subst hr
    exact wpS_pure ⟨⟨_, rfl⟩, _, rfl, hp⟩
   simp only at hr hl h1 h2 h3 ⊢
   subst hr
   refine wpS_bind (wpS_lift (wpAny_rule ⟨rfl, ?_⟩))
   refine wpS_bind (wpS_mono (wpS_forRange (I := fun y (c : Option (Array Keyed) × Array Keyed × Nat × Nat × Nat × Nat × Nat) st' => (∃ g, st' = setG st g) ∧ c.1 = none ∧ LoP a b c.2.1 c.2.2.1 c.2.2.2.1 ∧ c.2.2.1 + 1 < a.size ∧ c.2.2.2.1 < b.size ∧ x + 1 ≤ c.2.2.1 + c.2.2.2.1)
    (Q := fun c st' => (∃ g, st' = setG st g) ∧ ((∃ r, c.1 = some r ∧ r.toList.Perm (a.toList ++ b.toList)) ∨ c.1 = none ∧ LoP a b c.2.1 c.2.2.1 c.2.2.2.1 ∧ c.2.2.1 + 1 < a.size ∧ c.2.2.2.1 < b.size ∧ x + 1 ≤ c.2.2.1 + c.2.2.2.1)) ?s2 ?f2 ⟨⟨_, rfl⟩, rfl, hl, h1, h2, h3⟩) ?p2)
   case f2 =>
    rintro ⟨r, out, ia, ib, mg, ac, bc⟩ st' ⟨hg, hr, hl, h1, h2, h3⟩
    exact ⟨hg, .inr ⟨hr, hl, h1, h2, h3⟩⟩
   case p2 =>
    rintro ⟨r, out, ia, ib, mg, ac, bc⟩ st' ⟨⟨g, rfl⟩, hr | ⟨hr, hl, h1, h2, h3⟩⟩
    ·obtain ⟨r', hr, hp⟩ := hr
     simp only at hr
     subst hr
     exact wpS_pure ⟨⟨_, rfl⟩, _, rfl, hp⟩
    ·simp only at hr hl h1 h2 h3 ⊢
     subst hr
     exact wpS_bind (wpS_modify (wpS_pure ⟨⟨_, rfl⟩, rfl, hl, h1, h2, h3⟩))
   case s2 =>
    rintro y ⟨r, out, ia, ib, mg, ac, bc⟩ st' _ _ ⟨⟨g, rfl⟩, hr, hl, h1, h2, h3⟩
    simp only at hr hl h1 h2 h3 ⊢
    subst hr
    have G1 : ∀ {st' : SortSt} {Q' : Option Nat → SortSt → Prop}, kindOf st' = oneType' → (∀ k, ia + k ≤ a.size → Q' (some k) st') → wpS (model prog w) A E s (Qdt false b[ib] a ia (a.size - ia) 0) Q' st' := fun hk' hq =>
     Yx hO hk' (hb _ (xJ _)) ha (by omega) (by omega) fun k hk2 => hq k (by omega)
    have G2 : ∀ {st' : SortSt} {Q' : Option Nat → SortSt → Prop} (i : Nat) (hi : i < a.size), ib + 1 < b.size → kindOf st' = oneType' → (∀ k, ib + 1 + k ≤ b.size → Q' (some k) st') → wpS (model prog w) A E s (Qdt true a[i] b (ib + 1) (b.size - (ib + 1)) 0) Q' st' := fun i hi hlt hk' hq =>
     Yx hO hk' (ha _ (xJ _)) hb (by omega) (by omega) fun k hk2 => hq k (by omega)
    refine Qn (fun _ => ?_) (fun _ => ?_)
    all_goals
     refine wpS_bind (wpS_modify ?_)
     refine wpS_bind (Qo h2 ?_)
     refine wpS_bind (G1 (by exact hk) fun k hk1 => ?_)
     dsimp only
     refine Qn (fun k0 => ?_) (fun k0 => ?_)
     ·have hl1 := hl.addA k
      refine Qn (fun _ => wpS_pure ⟨⟨_, rfl⟩, .inl ⟨_, rfl, hl1.last⟩⟩) fun e1 => ?_
      refine Qn (fun _ => wpS_pure ⟨⟨_, rfl⟩, .inl ⟨_, rfl, hl1.done⟩⟩) fun e2 => ?_
      rw [beq_iff_eq] at e1 e2
      refine wpS_bind (Qo h2 ?_)
      have hl2 := hl1.pushB h2
      have hj : ia + k + 1 < a.size := by omega
      refine Qn (fun _ => wpS_pure ⟨⟨_, rfl⟩, .inl ⟨_, rfl, hl2.done⟩⟩) fun e3 => ?_
      rw [beq_iff_eq] at e3
      refine wpS_bind (Qo (jQb hj) ?_)
      refine wpS_bind (G2 _ _ (by omega) (by exact hk) fun k2 hk2 => ?_)
      dsimp only
      refine Qn (fun k0' => ?_) (fun k0' => ?_)
      ·have hl3 := hl2.addB k2
       refine Qn (fun _ => wpS_pure ⟨⟨_, rfl⟩, .inl ⟨_, rfl, hl3.done⟩⟩) fun e4 => ?_
       rw [beq_iff_eq] at e4
       refine wpS_bind (Qo (jQb hj) ?_)
       have hl4 := hl3.pushA (jQb hj)
       refine Qn (fun _ => wpS_pure ⟨⟨_, rfl⟩, .inl ⟨_, rfl, hl4.last⟩⟩) fun e5 => ?_
       rw [beq_iff_eq] at e5
       refine Qn (fun _ => wpS_pure ⟨⟨_, rfl⟩, .inr ⟨rfl, hl4, ?_, ?_, ?_⟩⟩) fun _ => wpS_pure ⟨⟨_, rfl⟩, rfl, hl4, ?_, ?_, ?_⟩ <;> dsimp only <;> omega
      ·refine wpS_bind (Qo (jQb hj) ?_)
       have hl4 := hl2.pushA (jQb hj)
       refine Qn (fun _ => wpS_pure ⟨⟨_, rfl⟩, .inl ⟨_, rfl, hl4.last⟩⟩) fun e5 => ?_
       rw [beq_iff_eq] at e5
       refine Qn (fun _ => wpS_pure ⟨⟨_, rfl⟩, .inr ⟨rfl, hl4, ?_, ?_, ?_⟩⟩) fun _ => wpS_pure ⟨⟨_, rfl⟩, rfl, hl4, ?_, ?_, ?_⟩ <;> dsimp only <;> omega
     ·have hl2 := hl.pushB h2
      have hj : ia + 1 < a.size := h1
      refine wpS_bind (Qo h2 ?_)
      refine Qn (fun _ => wpS_pure ⟨⟨_, rfl⟩, .inl ⟨_, rfl, hl2.done⟩⟩) fun e3 => ?_
      rw [beq_iff_eq] at e3
      refine wpS_bind (Qo (jQb hj) ?_)
      refine wpS_bind (G2 _ _ (by omega) (by exact hk) fun k2 hk2 => ?_)
      dsimp only
      refine Qn (fun k0' => ?_) (fun k0' => ?_)
      ·have hl3 := hl2.addB k2
       refine Qn (fun _ => wpS_pure ⟨⟨_, rfl⟩, .inl ⟨_, rfl, hl3.done⟩⟩) fun e4 => ?_
       rw [beq_iff_eq] at e4
       refine wpS_bind (Qo (jQb hj) ?_)
       have hl4 := hl3.pushA (jQb hj)
       refine Qn (fun _ => wpS_pure ⟨⟨_, rfl⟩, .inl ⟨_, rfl, hl4.last⟩⟩) fun e5 => ?_
       rw [beq_iff_eq] at e5
       refine Qn (fun _ => wpS_pure ⟨⟨_, rfl⟩, .inr ⟨rfl, hl4, ?_, ?_, ?_⟩⟩) fun _ => wpS_pure ⟨⟨_, rfl⟩, rfl, hl4, ?_, ?_, ?_⟩ <;> dsimp only <;> omega
      ·refine wpS_bind (Qo (jQb hj) ?_)
       have hl4 := hl2.pushA (jQb hj)
       refine Qn (fun _ => wpS_pure ⟨⟨_, rfl⟩, .inl ⟨_, rfl, hl4.last⟩⟩) fun e5 => ?_
       rw [beq_iff_eq] at e5
       refine Qn (fun _ => wpS_pure ⟨⟨_, rfl⟩, .inr ⟨rfl, hl4, ?_, ?_, ?_⟩⟩) fun _ => wpS_pure ⟨⟨_, rfl⟩, rfl, hl4, ?_, ?_, ?_⟩ <;> dsimp only <;> omega
end
def HiP (a b out : Array Keyed) (na nb : Nat) : Prop := (a.toList.take na ++ (b.toList.take nb ++ out.toList)).Perm (a.toList ++ b.toList)
theorem Qbd {α : Type} (xs : Array α) {i n : Nat} (h : i ≤ n) : xs.toList.take n = xs.toList.take i ++ (xs.extract i n).toList := by
 have := Vd xs i (n - i)
 rwa [show i + (n - i) = n by omega] at this
section
variable {a b out : Array Keyed} {na nb k : Nat}
theorem HiP.popB (h : HiP a b out na (nb + 1)) (hi : nb < b.size) : HiP a b (out.push b[nb]) na nb := by
 unfold HiP at *
 refine List.Perm.trans (List.Perm.append_left _ ?_) h
 rw [jKb, take_snoc b hi, kK]
 exact List.Perm.append_left _ wQ
theorem HiP.popA (h : HiP a b out (na + 1) nb) (hi : na < a.size) : HiP a b (out.push a[na]) na nb := by
 unfold HiP at *
 refine List.Perm.trans ?_ h
 rw [jKb, take_snoc a hi, kK]
 refine List.Perm.append_left _ ?_
 rw [← kK]
 exact wQ
theorem HiP.lessA (h : HiP a b out na nb) (h1 : 1 ≤ na) (hi : na - 1 < a.size) : HiP a b (out.push a[na - 1]) (na - 1) nb := by
 refine HiP.popA ?_ hi
 rwa [Nat.sub_add_cancel h1]
theorem HiP.lessB (h : HiP a b out na nb) (h1 : 1 ≤ nb) (hi : nb - 1 < b.size) : HiP a b (out.push b[nb - 1]) na (nb - 1) := by
 refine HiP.popB ?_ hi
 rwa [Nat.sub_add_cancel h1]
theorem HiP.cutB (h : HiP a b out na nb) (hk : k ≤ nb) : HiP a b (out ++ (b.extract k nb).reverse) na k := by
 unfold HiP at *
 refine List.Perm.trans (List.Perm.append_left _ ?_) h
 rw [wV, kYd, Qbd b hk, kK]
 exact List.Perm.append_left _ (wQ.trans (List.Perm.append_right _ (kQf _)))
theorem HiP.cutA (h : HiP a b out na nb) (hk : k ≤ na) : HiP a b (out ++ (a.extract k na).reverse) k nb := by
 unfold HiP at *
 refine List.Perm.trans ?_ h
 rw [wV, kYd, Qbd a hk, kK]
 refine List.Perm.append_left _ ?_
 rw [← kK]
 exact wQ.trans (List.Perm.append_right _ (kQf _))
theorem ext0 {α : Type} (xs : Array α) (n : Nat) : (xs.extract 0 n).toList = xs.toList.take n := by
 rw [kYc, kQc]; rfl
theorem HiP.done (h : HiP a b out na nb) : (a.extract 0 na ++ b.extract 0 nb ++ out.reverse).toList.Perm (a.toList ++ b.toList) := by
 unfold HiP at *
 refine List.Perm.trans ?_ h
 rw [wV, wV, ext0, ext0, kYd, kK]
 exact List.Perm.append_left _ (List.Perm.append_left _ (kQf _))
theorem HiP.first (h : HiP a b out na nb) : (b.extract 0 nb ++ a.extract 0 na ++ out.reverse).toList.Perm (a.toList ++ b.toList) := by
 refine List.Perm.trans ?_ h.done
 simp only [wV]
 exact List.Perm.append_right _ wQ
end
section
variable {prog : Program} {w : World} {A : Around} {E : Value → Shared → Prop} {s : Shared} {κ : KeyKind}
theorem Qdv (hO : κ.OneLt) {st : SortSt} {a b : Array Keyed} {Q : Array Keyed → SortSt → Prop} (hk : kindOf st = oneType')
  (ha : ∀ x ∈ a, HasK κ x) (hb : ∀ x ∈ b, HasK κ x) (na : 1 ≤ a.size) (nb : 1 ≤ b.size) (h : ∀ out g, out.toList.Perm (a.toList ++ b.toList) → Q out (setG st g)) :
  wpS (model prog w) A E s (Qkr a b) Q st := by
 refine wpS_bind (wpS_lift (wpAny_rule ⟨rfl, ?_⟩))
 refine wpS_bind (Qo (by omega) ?_)
 have l0 : HiP a b #[a[a.size - 1]] (a.size - 1) b.size := by
  have : HiP a b #[] (a.size - 1 + 1) b.size := by
   unfold HiP
   rw [show a.size - 1 + 1 = a.toList.length by show _ = a.size; omega, show b.size = b.toList.length from rfl, kX, kX]
   simp
  exact this.popA (by omega)
 dsimp only
 refine Qn (fun _ => wpS_pure (h _ (gallopOf st) l0.done)) fun e1 => ?_
 refine Qn (fun _ => wpS_pure (h _ (gallopOf st) l0.first)) fun e2 => ?_
 rw [beq_iff_eq] at e1 e2
 refine wpS_bind (wpS_get ?_)
 refine wpS_bind (wpS_mono (wpS_forRange (I := fun x (c : Option (Array Keyed) × Nat × Nat × Array Keyed × Nat) st' => (∃ g, st' = setG st g) ∧ c.1 = none ∧ HiP a b c.2.2.2.1 c.2.1 c.2.2.1 ∧ 1 ≤ c.2.1 ∧ c.2.1 ≤ a.size ∧ 2 ≤ c.2.2.1 ∧ c.2.2.1 ≤ b.size ∧ x + c.2.1 + c.2.2.1 ≤ a.size + b.size)
  (Q := fun c st' => (∃ g, st' = setG st g) ∧ ∃ r, c.1 = some r ∧ r.toList.Perm (a.toList ++ b.toList)) ?step ?fin ⟨⟨gallopOf st, rfl⟩, rfl, l0, ?_, ?_, ?_, ?_, ?_⟩) ?post)
 case post =>
  rintro ⟨r, c⟩ st' ⟨⟨g, rfl⟩, r', hr, hp⟩
  simp only at hr
  subst hr
  exact wpS_pure (h _ _ hp)
 case fin =>
  rintro ⟨r, na, nb, out, mg⟩ st' ⟨_, _, _, h1, h2, h3, h4, h5⟩
  simp only at h1 h2 h3 h5
  omega
 case step =>
  rintro x ⟨r, na, nb, out, mg⟩ st' _ _ ⟨⟨g, rfl⟩, hr, hl, h1, h2, h3, h4, h5⟩
  simp only at hr hl h1 h2 h3 h4 h5 ⊢
  subst hr
  refine wpS_bind (wpS_mono (wpS_forRange (I := fun y (c : Option (Array Keyed) × Nat × Nat × Array Keyed × Nat × Nat) st' => st' = setG st g ∧ c.1 = none ∧ HiP a b c.2.2.2.1 c.2.1 c.2.2.1 ∧ 1 ≤ c.2.1 ∧ c.2.1 ≤ a.size ∧ 2 ≤ c.2.2.1 ∧ c.2.2.1 ≤ b.size ∧ x + y + c.2.1 + c.2.2.1 ≤ a.size + b.size)
   (Q := fun c st' => st' = setG st g ∧ ((∃ r, c.1 = some r ∧ r.toList.Perm (a.toList ++ b.toList)) ∨ c.1 = none ∧ HiP a b c.2.2.2.1 c.2.1 c.2.2.1 ∧ 1 ≤ c.2.1 ∧ c.2.1 ≤ a.size ∧ 2 ≤ c.2.2.1 ∧ c.2.2.1 ≤ b.size ∧ x + 1 + c.2.1 + c.2.2.1 ≤ a.size + b.size)) ?s1 ?f1 ⟨rfl, rfl, hl, h1, h2, h3, h4, h5⟩) ?p1)
  case f1 =>
   rintro ⟨r, na, nb, out, ac, bc⟩ st' ⟨rfl, hr, hl, h1, h2, h3, h4, h5⟩
   simp only at h1 h2 h3 h4 h5
   exact ⟨rfl, .inr ⟨hr, hl, h1, h2, h3, h4, by show x + 1 + na + nb ≤ _; omega⟩⟩
  case s1 =>
   rintro y ⟨r, na, nb, out, ac, bc⟩ st' _ _ ⟨rfl, hr, hl, h1, h2, h3, h4, h5⟩
   simp only at hr hl h1 h2 h3 h4 h5 ⊢
   subst hr
   refine wpS_bind (Qo (by omega) ?_)
   refine wpS_bind (Qo (by omega) ?_)
   refine wpS_bind (Je hO hk (hb _ (xJ _)) (ha _ (xJ _)) fun wins => ?_)
   cases wins
   ·refine wpS_bind (Qo (i := nb - 1) (by omega) ?_)
    have hl' := hl.lessB (by omega) (show nb - 1 < b.size by omega)
    refine Qn (fun _ => wpS_pure ⟨rfl, .inl ⟨_, rfl, hl'.first⟩⟩) fun e => ?_
    rw [beq_iff_eq] at e
    refine Qn (fun _ => wpS_pure ⟨rfl, .inr ⟨rfl, hl', ?_, ?_, ?_, ?_, ?_⟩⟩) fun _ => wpS_pure ⟨rfl, rfl, hl', ?_, ?_, ?_, ?_, ?_⟩ <;> dsimp only <;> omega
   ·refine wpS_bind (Qo (i := na - 1) (by omega) ?_)
    have hl' := hl.lessA (by omega) (show na - 1 < a.size by omega)
    refine Qn (fun _ => wpS_pure ⟨rfl, .inl ⟨_, rfl, hl'.done⟩⟩) fun e => ?_
    rw [beq_iff_eq] at e
    refine Qn (fun _ => wpS_pure ⟨rfl, .inr ⟨rfl, hl', ?_, ?_, ?_, ?_, ?_⟩⟩) fun _ => wpS_pure ⟨rfl, rfl, hl', ?_, ?_, ?_, ?_, ?_⟩ <;> dsimp only <;> omega
  case p1 =>
   rintro ⟨r, na, nb, out, ac, bc⟩ st' ⟨rfl, hr | ⟨hr, hl, h1, h2, h3, h4, h5⟩⟩
   ·obtain ⟨r', hr, hp⟩ := hr
    simp only at hr
    subst hr
    exact wpS_pure ⟨⟨_, rfl⟩, _, rfl, hp⟩
   simp only at hr hl h1 h2 h3 h4 h5 ⊢
   subst hr
   refine wpS_bind (wpS_lift (wpAny_rule ⟨rfl, ?_⟩))
   refine wpS_bind (wpS_mono (wpS_forRange (I := fun y (c : Option (Array Keyed) × Nat × Nat × Array Keyed × Nat × Nat × Nat) st' => (∃ g, st' = setG st g) ∧ c.1 = none ∧ HiP a b c.2.2.2.1 c.2.1 c.2.2.1 ∧ 1 ≤ c.2.1 ∧ c.2.1 ≤ a.size ∧ 2 ≤ c.2.2.1 ∧ c.2.2.1 ≤ b.size ∧ x + 1 + c.2.1 + c.2.2.1 ≤ a.size + b.size)
    (Q := fun c st' => (∃ g, st' = setG st g) ∧ ((∃ r, c.1 = some r ∧ r.toList.Perm (a.toList ++ b.toList)) ∨ c.1 = none ∧ HiP a b c.2.2.2.1 c.2.1 c.2.2.1 ∧ 1 ≤ c.2.1 ∧ c.2.1 ≤ a.size ∧ 2 ≤ c.2.2.1 ∧ c.2.2.1 ≤ b.size ∧ x + 1 + c.2.1 + c.2.2.1 ≤ a.size + b.size)) ?s2 ?f2 ⟨⟨_, rfl⟩, rfl, hl, h1, h2, h3, h4, h5⟩) ?p2)
   case f2 =>
    rintro ⟨r, na, nb, out, mg, ac, bc⟩ st' ⟨hg, hr, hl, hh⟩
    exact ⟨hg, .inr ⟨hr, hl, hh⟩⟩
   case p2 =>
    rintro ⟨r, na, nb, out, mg, ac, bc⟩ st' ⟨⟨g, rfl⟩, hr | ⟨hr, hl, hh⟩⟩
    ·obtain ⟨r', hr, hp⟩ := hr
     simp only at hr
     subst hr
     exact wpS_pure ⟨⟨_, rfl⟩, _, rfl, hp⟩
    ·simp only at hr hl hh ⊢
     subst hr
     exact wpS_bind (wpS_modify (wpS_pure ⟨⟨_, rfl⟩, rfl, hl, hh⟩))
   case s2 =>
    rintro y ⟨r, na, nb, out, mg, ac, bc⟩ st' _ _ ⟨⟨g, rfl⟩, hr, hl, h1, h2, h3, h4, h5⟩
    simp only at hr hl h1 h2 h3 h4 h5 ⊢
    subst hr
    refine Qn (fun _ => ?_) (fun _ => ?_)
    all_goals
     refine wpS_bind (wpS_modify ?_)
     refine wpS_bind (Qo (by omega) ?_)
     refine wpS_bind (Yx hO (by exact hk) (hb _ (xJ _)) ha (by omega) (by omega) fun k hk1 => ?_)
     dsimp only
     refine Qn (fun k0 => ?_) (fun k0 => ?_)
     ·have hl1 := hl.cutA hk1
      refine Qn (fun _ => wpS_pure ⟨⟨_, rfl⟩, .inl ⟨_, rfl, hl1.done⟩⟩) fun e1 => ?_
      rw [beq_iff_eq] at e1
      refine wpS_bind (Qo (by omega) ?_)
      have hl2 := hl1.lessB (by omega) (show nb - 1 < b.size by omega)
      refine Qn (fun _ => wpS_pure ⟨⟨_, rfl⟩, .inl ⟨_, rfl, hl2.first⟩⟩) fun e3 => ?_
      rw [beq_iff_eq] at e3
      refine wpS_bind (Qo (by omega) ?_)
      refine wpS_bind (Yx hO (by exact hk) (ha _ (xJ _)) hb (by omega) (by omega) fun k2 hk2 => ?_)
      dsimp only
      refine Qn (fun k0' => ?_) (fun k0' => ?_)
      ·have hl3 := hl2.cutB hk2
       refine Qn (fun _ => wpS_pure ⟨⟨_, rfl⟩, .inl ⟨_, rfl, hl3.first⟩⟩) fun e4 => ?_
       refine Qn (fun _ => wpS_pure ⟨⟨_, rfl⟩, .inl ⟨_, rfl, hl3.done⟩⟩) fun e6 => ?_
       rw [beq_iff_eq] at e4 e6
       refine wpS_bind (Qo (by omega) ?_)
       have hl4 := hl3.lessA (by omega) (show k - 1 < a.size by omega)
       refine Qn (fun _ => wpS_pure ⟨⟨_, rfl⟩, .inl ⟨_, rfl, hl4.done⟩⟩) fun e5 => ?_
       rw [beq_iff_eq] at e5
       refine Qn (fun _ => wpS_pure ⟨⟨_, rfl⟩, .inr ⟨rfl, hl4, ?_, ?_, ?_, ?_, ?_⟩⟩) fun _ => wpS_pure ⟨⟨_, rfl⟩, rfl, hl4, ?_, ?_, ?_, ?_, ?_⟩ <;> dsimp only <;> omega
      ·refine wpS_bind (Qo (by omega) ?_)
       have hl4 := hl2.lessA (by omega) (show k - 1 < a.size by omega)
       refine Qn (fun _ => wpS_pure ⟨⟨_, rfl⟩, .inl ⟨_, rfl, hl4.done⟩⟩) fun e5 => ?_
       rw [beq_iff_eq] at e5
       refine Qn (fun _ => wpS_pure ⟨⟨_, rfl⟩, .inr ⟨rfl, hl4, ?_, ?_, ?_, ?_, ?_⟩⟩) fun _ => wpS_pure ⟨⟨_, rfl⟩, rfl, hl4, ?_, ?_, ?_, ?_, ?_⟩ <;> dsimp only <;> omega
     ·skip
      refine wpS_bind (Qo (by omega) ?_)
      have hl2 := hl.lessB (by omega) (show nb - 1 < b.size by omega)
      refine Qn (fun _ => wpS_pure ⟨⟨_, rfl⟩, .inl ⟨_, rfl, hl2.first⟩⟩) fun e3 => ?_
      rw [beq_iff_eq] at e3
      refine wpS_bind (Qo (by omega) ?_)
      refine wpS_bind (Yx hO (by exact hk) (ha _ (xJ _)) hb (by omega) (by omega) fun k2 hk2 => ?_)
      dsimp only
      refine Qn (fun k0' => ?_) (fun k0' => ?_)
      ·have hl3 := hl2.cutB hk2
       refine Qn (fun _ => wpS_pure ⟨⟨_, rfl⟩, .inl ⟨_, rfl, hl3.first⟩⟩) fun e4 => ?_
       refine Qn (fun _ => wpS_pure ⟨⟨_, rfl⟩, .inl ⟨_, rfl, hl3.done⟩⟩) fun e6 => ?_
       rw [beq_iff_eq] at e4 e6
       refine wpS_bind (Qo (by omega) ?_)
       have hl4 := hl3.lessA (by omega) (show na - 1 < a.size by omega)
       refine Qn (fun _ => wpS_pure ⟨⟨_, rfl⟩, .inl ⟨_, rfl, hl4.done⟩⟩) fun e5 => ?_
       rw [beq_iff_eq] at e5
       refine Qn (fun _ => wpS_pure ⟨⟨_, rfl⟩, .inr ⟨rfl, hl4, ?_, ?_, ?_, ?_, ?_⟩⟩) fun _ => wpS_pure ⟨⟨_, rfl⟩, rfl, hl4, ?_, ?_, ?_, ?_, ?_⟩ <;> dsimp only <;> omega
      ·refine wpS_bind (Qo (by omega) ?_)
       have hl4 := hl2.lessA (by omega) (show na - 1 < a.size by omega)
       refine Qn (fun _ => wpS_pure ⟨⟨_, rfl⟩, .inl ⟨_, rfl, hl4.done⟩⟩) fun e5 => ?_
       rw [beq_iff_eq] at e5
       refine Qn (fun _ => wpS_pure ⟨⟨_, rfl⟩, .inr ⟨rfl, hl4, ?_, ?_, ?_, ?_, ?_⟩⟩) fun _ => wpS_pure ⟨⟨_, rfl⟩, rfl, hl4, ?_, ?_, ?_, ?_, ?_⟩ <;> dsimp only <;> omega
 all_goals dsimp only <;> omega
end
theorem Qlx {α : Type} {base : Nat} : ∀ (l : List α) (k : Nat) (arr : Array α), base + k + l.length ≤ arr.size →
  ((l.zipIdx k).foldl (fun a (pj : α × Nat) => a.setIfInBounds (base + pj.2) pj.1) arr).toList = arr.toList.take (base + k) ++ (l ++ arr.toList.drop (base + k + l.length))
 | [], k, arr, _ => by simp
 | p :: t, k, arr, h => by
  rw [yW] at h
  rw [List.zipIdx_cons, kYb, Qlx t (k + 1) _ (by rw [Array.size_setIfInBounds]; omega), Array.toList_setIfInBounds]
  have hlt : base + k < arr.toList.length := by show _ < arr.size; omega
  have hlen : (arr.toList.take (base + k)).length = base + k := by rw [xZ]; omega
  have e1 : (arr.toList.set (base + k) p).take (base + (k + 1)) = arr.toList.take (base + k) ++ [p] := by
   rw [List.set_eq_take_append_cons_drop, if_pos hlt]
   conv => lhs; rw [show base + (k + 1) = (arr.toList.take (base + k)).length + 1 by omega, List.take_length_add_append]
   rfl
  have e2 : (arr.toList.set (base + k) p).drop (base + (k + 1) + t.length) = arr.toList.drop (base + k + (t.length + 1)) := by
   rw [List.drop_set_of_lt (by omega), show base + (k + 1) + t.length = base + k + (t.length + 1) by omega]
  show (arr.toList.set (base + k) p).take (base + (k + 1)) ++ (t ++ (arr.toList.set (base + k) p).drop (base + (k + 1) + t.length)) = _
  rw [e1, e2, yW]
  simp
def Runs : Nat → List (Nat × Nat × Nat) → Nat → Prop
 | a, [], b => a = b
 | a, r :: t, b => r.1 = a ∧ 1 ≤ r.2.1 ∧ Runs (a + r.2.1) t b
theorem Runs.le : ∀ {a b : Nat} {l : List (Nat × Nat × Nat)}, Runs a l b → a ≤ b
 | a, b, [], h => Nat.le_of_eq h
 | a, b, r :: t, h => by have := Runs.le h.2.2; omega
theorem Zn : ∀ {a b : Nat} (l l' : List (Nat × Nat × Nat)), Runs a (l ++ l') b ↔ ∃ m, Runs a l m ∧ Runs m l' b
 | a, b, [], l' => ⟨fun h => ⟨a, rfl, h⟩, fun ⟨m, h1, h2⟩ => by cases h1; exact h2⟩
 | a, b, r :: t, l' => by
  constructor
  ·rintro ⟨h1, h2, h3⟩
   obtain ⟨m, h4, h5⟩ := (Zn t l').mp h3
   exact ⟨m, ⟨h1, h2, h4⟩, h5⟩
  ·rintro ⟨m, ⟨h1, h2, h4⟩, h5⟩
   exact ⟨h1, h2, (Zn t l').mpr ⟨m, h4, h5⟩⟩
structure PB (a₀ : Array Keyed) (lo : Nat) (st : SortSt) : Prop where
 perm : (arrOf st).Perm a₀
 kind : kindOf st = oneType'
 failed : failedOf st = none
 pend : Runs 0 (pendingOf st).toList lo
 room : lo ≤ a₀.size
theorem PB.size {a₀ : Array Keyed} {lo : Nat} {st : SortSt} (h : PB a₀ lo st) : (arrOf st).size = a₀.size := h.perm.size_eq
theorem PB.hasK {κ : KeyKind} {a₀ : Array Keyed} {lo : Nat} {st : SortSt} (h : PB a₀ lo st) (h0 : KeysOf κ a₀) : ∀ x ∈ arrOf st, HasK κ x := fun x hx =>
 h0 x ((kQb.mp h.perm).mem_iff.mp (Array.mem_def.mp hx))
section
variable {prog : Program} {w : World} {A : Around} {E : Value → Shared → Prop} {s : Shared} {κ : KeyKind} {a₀ : Array Keyed}
theorem Ju (hO : κ.OneLt) (h0 : KeysOf κ a₀) {st : SortSt} {lo i : Nat} {Q : Bool → SortSt → Prop} (hB : PB a₀ lo st) (hi : i + 1 < (pendingOf st).size)
  (h : ∀ st', PB a₀ lo st' → Q true st') : wpS (model prog w) A E s (mergeAt' i) Q st := by
 have hK := hB.hasK h0
 refine wpS_bind (wpS_get ?_)
 obtain ⟨⟨sa, na, pw⟩, hx⟩ : ∃ r, (pendingOf st)[i]? = some r := ⟨_, getElem?_pos _ i (by omega)⟩
 obtain ⟨⟨sb, nb, qw⟩, hy⟩ : ∃ r, (pendingOf st)[i + 1]? = some r := ⟨_, getElem?_pos _ (i + 1) hi⟩
 obtain ⟨l1, l2, hl, hl1⟩ : ∃ l1 l2, (pendingOf st).toList = l1 ++ (sa, na, pw) :: (sb, nb, qw) :: l2 ∧ l1.length = i := by
  refine ⟨(pendingOf st).toList.take i, (pendingOf st).toList.drop (i + 2), ?_, by rw [xZ]; show min i (pendingOf st).size = i; omega⟩
  rw [← jJd] at hx hy
  obtain ⟨u, hu⟩ := kJ.mp hx
  obtain ⟨v, hv⟩ := kJ.mp hy
  rw [← hu, ← hv, ← jYd, ← jYd, jJc]
 have hr := hB.pend
 rw [hl, Zn] at hr
 obtain ⟨m, r1, e1, n1, e2, n2, r2⟩ := hr
 dsimp only at e1 n1 e2 n2 r2
 have hle := r2.le
 have hrm := hB.room
 have hsz := hB.size
 have hnew : Runs 0 (((pendingOf st).setIfInBounds i (sa, na + nb, pw)).eraseIdxIfInBounds (i + 1)).toList lo := by
  have : (((pendingOf st).setIfInBounds i (sa, na + nb, pw)).eraseIdxIfInBounds (i + 1)).toList = l1 ++ (sa, na + nb, pw) :: l2 := by
   rw [Array.eraseIdxIfInBounds_eq, dif_pos (by rw [Array.size_setIfInBounds]; exact hi), Array.toList_eraseIdx, Array.toList_setIfInBounds, hl]
   rw [← hl1, List.set_append_right _ _ (jX _), Nat.sub_self, List.set_cons_zero, List.eraseIdx_append_of_length_le (kQd _)]
   simp
  rw [this, Zn]
  exact ⟨m, r1, e1, by show 1 ≤ na + nb; omega, by show Runs (m + (na + nb)) l2 lo; rwa [← Nat.add_assoc]⟩
 show wpS _ _ _ _ (match ((pendingOf st)[i]?, (pendingOf st)[i + 1]?) with | (some (sa, na, power), some (sb, nb, _)) => _ | x => _) _ _
 rw [hx, hy]
 dsimp only
 refine wpS_bind (wpS_modify ?_)
 refine wpS_bind (Qo (by show _ < (arrOf st).size; omega) ?_)
 refine wpS_bind (Yx hO (by exact hB.kind) (hK _ (xJ _)) hK (by show _ ≤ (arrOf st).size; omega) (by omega) fun k hk1 => ?_)
 dsimp only
 refine Qn (fun _ => wpS_pure (h _ ⟨hB.perm, hB.kind, hB.failed, hnew, hB.room⟩)) fun e3 => ?_
 rw [beq_iff_eq] at e3
 refine wpS_bind (Qo (by show _ < (arrOf st).size; omega) ?_)
 refine wpS_bind (Yx hO (by exact hB.kind) (hK _ (xJ _)) hK (by show _ ≤ (arrOf st).size; omega) (by omega) fun nb' hk2 => ?_)
 dsimp only
 refine Qn (fun _ => wpS_pure (h _ ⟨hB.perm, hB.kind, hB.failed, hnew, hB.room⟩)) fun e4 => ?_
 rw [beq_iff_eq] at e4
 have kx : ∀ p q, ∀ x ∈ (arrOf st).extract p q, HasK κ x := fun p q x hx => by
  refine hK x ?_
  obtain ⟨i, hi, rfl⟩ := Array.mem_iff_getElem.mp hx
  rw [Array.getElem_extract]
  exact xJ _
 have sx : ((arrOf st).extract (sa + k) sb).size = sb - (sa + k) := by rw [Array.size_extract]; omega
 have sy : ((arrOf st).extract sb (sb + nb')).size = nb' := by rw [Array.size_extract]; omega
 have fin : ∀ (merged : Array Keyed), merged.toList.Perm (((arrOf st).extract (sa + k) sb).toList ++ ((arrOf st).extract sb (sb + nb')).toList) →
   (merged.toList.zipIdx.foldl (fun a (x : Keyed × Nat) => a.setIfInBounds (sa + k + x.2) x.1) (arrOf st)).Perm a₀ := by
  intro merged hm
  have hlen : merged.toList.length = sb - (sa + k) + nb' := by
   have := hm.length_eq
   rw [jY] at this
   rw [this]
   exact congr (congrArg _ sx) sy
  refine Array.Perm.trans ?_ hB.perm
  rw [kQb, Qlx merged.toList 0 (arrOf st) (by omega)]
  refine (List.Perm.append_left _ (List.Perm.append_right _ hm)).trans ?_
  rw [hlen, Nat.add_zero, ← kK, ← kK, ← Qbd (arrOf st) (by omega), ← Vd, show sa + k + (sb - (sa + k) + nb') = sb + nb' by omega, jJc]
 refine Qn (fun _ => ?_) fun _ => ?_
 ·refine wpS_bind (Qdu hO (by exact hB.kind) (kx _ _) (kx _ _) (by show 1 ≤ ((arrOf st).extract (sa + k) sb).size; omega) (by show 1 ≤ ((arrOf st).extract sb (sb + nb')).size; omega) fun out g hp => ?_)
  refine wpS_bind (wpS_modify (wpS_bind (wpS_get (wpS_pure ?_))))
  have : (failedOf st).isNone = true := by rw [hB.failed]; rfl
  show Q (failedOf st).isNone _
  rw [this]
  exact h _ ⟨fin out hp, hB.kind, hB.failed, hnew, hB.room⟩
 ·refine wpS_bind (Qdv hO (by exact hB.kind) (kx _ _) (kx _ _) (by show 1 ≤ ((arrOf st).extract (sa + k) sb).size; omega) (by show 1 ≤ ((arrOf st).extract sb (sb + nb')).size; omega) fun out g hp => ?_)
  refine wpS_bind (wpS_modify (wpS_bind (wpS_get (wpS_pure ?_))))
  have : (failedOf st).isNone = true := by rw [hB.failed]; rfl
  show Q (failedOf st).isNone _
  rw [this]
  exact h _ ⟨fin out hp, hB.kind, hB.failed, hnew, hB.room⟩
end
section
variable {prog : Program} {w : World} {A : Around} {E : Value → Shared → Prop} {s : Shared} {κ : KeyKind} {a₀ : Array Keyed}
theorem PB.setArr {lo : Nat} {st : SortSt} (h : PB a₀ lo st) {xs : Array Keyed} (hp : xs.Perm (arrOf st)) : PB a₀ lo (PyProof.Rows.setArr st xs) :=
 ⟨hp.trans h.perm, h.kind, h.failed, h.pend, h.room⟩
theorem Zo (hO : κ.OneLt) (h0 : KeysOf κ a₀) {st : SortSt} {lo i j : Nat} {Q : Option Bool → SortSt → Prop} (hB : PB a₀ lo st) (hi : i < a₀.size) (hj : j < a₀.size)
  (h : ∀ b, Q (some b) st) : wpS (model prog w) A E s (ltAt' i j) Q st := by
 have hsz := hB.size
 rw [ltAt'_eq]
 refine wpS_bind (wpS_get ?_)
 refine wpS_bind (Qo (by show i < (arrOf st).size; omega) ?_)
 refine wpS_bind (Qo (by show j < (arrOf st).size; omega) ?_)
 exact Je hO hB.kind (hB.hasK h0 _ (xJ _)) (hB.hasK h0 _ (xJ _)) h
theorem Wl {st : SortSt} {lo i j : Nat} {Q : Unit → SortSt → Prop} (hB : PB a₀ lo st) (h : ∀ st', PB a₀ lo st' → Q () st') : wpS (model prog w) A E s (reverseSlice' i j) Q st :=
 wpS_reverse (h _ (hB.setArr (mirror_perm _ _ _ _)))
theorem Qct (hO : κ.OneLt) (h0 : KeysOf κ a₀) {st : SortSt} {lo nrem : Nat} {Q : Option Nat → SortSt → Prop} (hB : PB a₀ lo st) (hn : lo + nrem ≤ a₀.size) (h1 : 1 ≤ nrem)
  (h : ∀ n st', PB a₀ lo st' → 1 ≤ n → n ≤ nrem → Q (some n) st') : wpS (model prog w) A E s (countRun' lo nrem) Q st := by
 have asc : ∀ {st : SortSt} (n₀ : Nat), PB a₀ lo st → 1 ≤ n₀ → n₀ ≤ nrem → ∀ {Q' : Option (Option Nat) × Nat → SortSt → Prop}, (∀ n, 1 ≤ n → n ≤ nrem → Q' (none, n) st) →
   wpS (model prog w) A E s (forIn [n₀:nrem] ((none, n₀) : Option (Option Nat) × Nat) fun _ c => ltAt' (lo + c.2) (lo + c.2 - 1) >>= fun x => match x with
    | some smaller => if smaller = true then pure (ForInStep.done (none, c.2)) else pure (ForInStep.yield (none, c.2 + 1))
    | _ => pure (ForInStep.done (some none, c.2))) Q' st := by
  intro st n₀ hB hn1 hn2 Q' hq
  refine wpS_forRange (I := fun x (c : Option (Option Nat) × Nat) st' => st' = st ∧ c.1 = none ∧ 1 ≤ c.2 ∧ c.2 ≤ x) ?_ ?_ ⟨rfl, rfl, hn1, jX _⟩
  ·rintro x ⟨r, n⟩ st' _ _ ⟨rfl, hr, h3, h4⟩
   simp only at hr h3 h4 ⊢
   subst hr
   refine wpS_bind (Zo hO h0 hB (by omega) (by omega) fun b => ?_)
   cases b
   ·exact wpS_pure ⟨rfl, rfl, by show 1 ≤ n + 1; omega, by show n + 1 ≤ x + 1; omega⟩
   ·exact wpS_pure (hq n h3 (by omega))
  ·rintro ⟨r, n⟩ st' ⟨rfl, hr, h3, h4⟩
   simp only at hr h3 h4 ⊢
   subst hr
   exact hq n h3 (by omega)
 have tail : ∀ {st : SortSt} (n : Nat) (f : Option (Option Nat) × Nat → StateT SortSt Sem (Option Nat)), PB a₀ lo st → 1 ≤ n → n ≤ nrem → (∀ n, f (none, n) = pure (some n)) →
   wpS (model prog w) A E s (reverseSlice' lo (lo + n) >>= fun _ => (forIn [n:nrem] ((none, n) : Option (Option Nat) × Nat) fun _ c => ltAt' (lo + c.2) (lo + c.2 - 1) >>= fun x => match x with
    | some smaller => if smaller = true then pure (ForInStep.done (none, c.2)) else pure (ForInStep.yield (none, c.2 + 1))
    | _ => pure (ForInStep.done (some none, c.2))) >>= f) Q st := by
  intro st n f hB hn1 hn2 hf
  refine wpS_bind (Wl hB fun st' hB' => ?_)
  refine wpS_bind (asc n hB' hn1 hn2 fun m hm1 hm2 => ?_)
  rw [hf]
  exact wpS_pure (h _ _ hB' hm1 hm2)
 refine wpS_bind (asc 1 hB (jX 1) h1 fun n hn1 hn2 => ?_)
 dsimp only
 refine Qn (fun _ => wpS_pure (h _ _ hB hn1 hn2)) fun e1 => ?_
 rw [beq_iff_eq] at e1
 have desc : ∀ {st : SortSt} {Q' : Option (Option Nat) × Nat × Nat → SortSt → Prop}, PB a₀ lo st → (∀ m q st', PB a₀ lo st' → 1 ≤ m → m ≤ nrem → Q' (none, m, q) st') →
   wpS (model prog w) A E s (forIn [n + 1:nrem] ((none, n + 1, 0) : Option (Option Nat) × Nat × Nat) fun _ c => ltAt' (lo + c.2.1) (lo + c.2.1 - 1) >>= fun x => match x with
    | some smaller => if smaller = true then if c.2.2 > 0 then reverseSlice' (lo + c.2.1 - (c.2.2 + 1)) (lo + c.2.1) >>= fun _ => pure (ForInStep.yield (none, c.2.1 + 1, 0)) else pure (ForInStep.yield (none, c.2.1 + 1, 0))
     else ltAt' (lo + c.2.1 - 1) (lo + c.2.1) >>= fun x => match x with
      | some larger => if larger = true then pure (ForInStep.done (none, c.2.1, c.2.2)) else pure (ForInStep.yield (none, c.2.1 + 1, c.2.2 + 1))
      | _ => pure (ForInStep.done (some none, c.2.1, c.2.2))
    | _ => pure (ForInStep.done (some none, c.2.1, c.2.2))) Q' st := by
  intro st Q' hB hq
  refine wpS_forRange (I := fun x (c : Option (Option Nat) × Nat × Nat) st' => PB a₀ lo st' ∧ c.1 = none ∧ 1 ≤ c.2.1 ∧ c.2.1 ≤ x) ?_ ?_ ⟨hB, rfl, by show 1 ≤ n + 1; omega, jX _⟩
  ·rintro x ⟨r, m, q⟩ st' _ _ ⟨hB', hr, h3, h4⟩
   simp only at hr h3 h4 ⊢
   subst hr
   refine wpS_bind (Zo hO h0 hB' (by omega) (by omega) fun b => ?_)
   cases b
   ·refine wpS_bind (Zo hO h0 hB' (by omega) (by omega) fun b => ?_)
    cases b
    ·exact wpS_pure ⟨hB', rfl, by show 1 ≤ m + 1; omega, by show m + 1 ≤ x + 1; omega⟩
    ·exact wpS_pure (hq m q st' hB' h3 (by omega))
   ·refine Qn (fun _ => ?_) fun hh => absurd rfl hh
    refine Qn (fun _ => wpS_bind (Wl hB' fun st2 hB2 => wpS_pure ⟨hB2, rfl, ?_, ?_⟩)) fun _ => wpS_pure ⟨hB', rfl, ?_, ?_⟩ <;> dsimp only <;> omega
  ·rintro ⟨r, m, q⟩ st' ⟨hB', hr, h3, h4⟩
   simp only at hr h3 h4 ⊢
   subst hr
   exact hq m q st' hB' h3 (by omega)
 refine Qn (fun _ => ?_) fun _ => ?_
 ·refine wpS_bind (Zo hO h0 hB (by omega) (by omega) fun rose => ?_)
  refine Qn (fun _ => wpS_pure (h _ _ hB hn1 hn2)) fun _ => ?_
  refine wpS_bind (Wl hB fun st' hB' => ?_)
  refine wpS_bind (wpS_lift (wpAny_rule ⟨rfl, ?_⟩))
  refine wpS_bind (desc hB' fun m q st2 hB2 hm1 hm2 => ?_)
  dsimp only
  refine Qn (fun _ => wpS_bind (Wl hB2 fun st3 hB3 => tail m _ hB3 hm1 hm2 fun _ => rfl)) fun _ => tail m _ hB2 hm1 hm2 fun _ => rfl
 ·refine wpS_bind (wpS_lift (wpAny_rule ⟨rfl, ?_⟩))
  refine wpS_bind (desc hB fun m q st2 hB2 hm1 hm2 => ?_)
  dsimp only
  refine Qn (fun _ => wpS_bind (Wl hB2 fun st3 hB3 => tail m _ hB3 hm1 hm2 fun _ => rfl)) fun _ => tail m _ hB2 hm1 hm2 fun _ => rfl
theorem Qbe (hO : κ.OneLt) (h0 : KeysOf κ a₀) {st : SortSt} {lo n ok : Nat} {Q : Bool → SortSt → Prop} (hB : PB a₀ lo st) (hn : lo + n ≤ a₀.size)
  (h : ∀ st', PB a₀ lo st' → Q true st') : wpS (model prog w) A E s (binarySort' lo n ok) Q st := by
 rw [binarySort'_eq]
 refine wpS_bind (wpS_mono (wpS_forRange (I := fun k c st' => c = (none, ()) ∧ PB a₀ lo st') (Q := fun c st' => c = (none, ()) ∧ PB a₀ lo st') ?step (fun c st' hc => hc) ⟨rfl, hB⟩) ?post)
 case post =>
  rintro c st' ⟨rfl, hB'⟩
  exact wpS_pure (h st' hB')
 case step =>
  rintro k c st' hak hkn ⟨rfl, hB'⟩
  refine wpS_bind (wpS_mono (wpS_forRange (I := fun x c st'' => st'' = st' ∧ ∃ l r, c = (none, l, r) ∧ r ≤ k) (Q := fun c st'' => st'' = st' ∧ ∃ l r, c = (none, l, r)) ?istep ?ifin ⟨rfl, 0, k, rfl, jX _⟩) ?ipost)
  case ifin =>
   rintro c st'' ⟨rfl, l, r, rfl, hrk⟩
   exact ⟨rfl, l, r, rfl⟩
  case istep =>
   rintro x c st'' _ hxk ⟨rfl, l, r, rfl, hrk⟩
   refine Qn (fun _ => wpS_pure ⟨rfl, l, r, rfl⟩) fun hge => ?_
   refine wpS_bind (Zo hO h0 hB' (by omega) (by dsimp only at hge ⊢; omega) fun b => ?_)
   cases b
   ·exact wpS_pure ⟨rfl, (l + r) / 2 + 1, r, rfl, hrk⟩
   ·exact wpS_pure ⟨rfl, l, (l + r) / 2, rfl, by dsimp only at hge; omega⟩
  case ipost =>
   rintro c st'' ⟨rfl, l, r, rfl⟩
   show wpS _ _ _ _ (do moveDown' (lo + k) (lo + l); pure (ForInStep.yield (none, ()))) _ _
   rw [moveDown'_eq]
   exact wpS_bind (wpS_modify (wpS_pure ⟨rfl, hB'.setArr (bubble_perm _ _ _)⟩))
end
section
variable {prog : Program} {w : World} {A : Around} {E : Value → Shared → Prop} {s : Shared} {κ : KeyKind} {a₀ : Array Keyed}
theorem Runs.third : ∀ {a b : Nat} {l l' : List (Nat × Nat × Nat)}, l.map (fun r => (r.1, r.2.1)) = l'.map (fun r => (r.1, r.2.1)) → Runs a l b → Runs a l' b
 | a, b, [], [], _, h => h
 | a, b, [], _ :: _, e, _ => by simp at e
 | a, b, _ :: _, [], e, _ => by simp at e
 | a, b, r :: t, r' :: t', e, h => by
  simp only [zJ, List.cons.injEq, Prod.mk.injEq] at e
  obtain ⟨⟨e1, e2⟩, e3⟩ := e
  obtain ⟨h1, h2, h3⟩ := h
  refine ⟨e1 ▸ h1, e2 ▸ h2, ?_⟩
  rw [← e2]
  exact Runs.third e3 h3
theorem Wm (hO : κ.OneLt) (h0 : KeysOf κ a₀) {st : SortSt} {Q : Unit → SortSt → Prop} (hB : SBase a₀ st)
  (h : ∀ st', (arrOf st').Perm a₀ → failedOf st' = none → Q () st') : wpS (model prog w) A E s sortRuns' Q st := by
 rw [sortRuns'_eq]
 refine wpS_bind (wpS_get ?_)
 dsimp only
 simp only [hB.size]
 have hB0 : PB a₀ 0 st := ⟨hB.perm, hB.kind, hB.failed, by rw [hB.pend]; rfl, wK _⟩
 refine wpS_bind (wpS_mono (wpS_forRange (I := fun x (c : Option Unit × Nat) st' => c.1 = none ∧ PB a₀ c.2 st') (Q := fun (c : Option Unit × Nat) st' => c.1 = none ∧ PB a₀ c.2 st') ?step (fun c st' hc => hc) ⟨rfl, hB0⟩) ?post)
 case step =>
  rintro x ⟨r, lo⟩ st' _ hx ⟨hr, hB'⟩
  simp only at hr hB' ⊢
  subst hr
  have hrm := hB'.room
  refine Qn (fun _ => wpS_pure ⟨rfl, hB'⟩) fun hlo => ?_
  refine wpS_bind (Qct hO h0 hB' (by omega) (by omega) fun n st2 hB2 hn1 hn2 => ?_)
  dsimp only
  have push : ∀ (n : Nat) (st3 : SortSt), PB a₀ lo st3 → 1 ≤ n → lo + n ≤ a₀.size → PB a₀ (lo + n) (setPending st3 ((pendingOf st3).push (lo, n, 0))) := by
   intro n st3 hB3 h1 h2
   refine ⟨hB3.perm, hB3.kind, hB3.failed, ?_, h2⟩
   show Runs 0 ((pendingOf st3).push (lo, n, 0)).toList (lo + n)
   rw [jKb, Zn]
   exact ⟨lo, hB3.pend, rfl, h1, rfl⟩
  have third : ∀ (st4 : SortSt) (pw : Nat), PB a₀ lo st4 → PB a₀ lo (setPending st4 ((pendingOf st4).modify ((pendingOf st4).size - 1) fun x => (x.1, x.2.1, pw))) := by
   intro st4 pw hB4
   refine ⟨hB4.perm, hB4.kind, hB4.failed, Runs.third ?_ hB4.pend, hB4.room⟩
   show List.map _ (pendingOf st4).toList = List.map _ ((pendingOf st4).modify _ _).toList
   refine List.ext_getElem? fun i => ?_
   rw [yY, yY, jJd, jJd, Array.getElem?_modify]
   split
   ·rw [Option.map_map]; rfl
   ·rfl
  refine Qn (fun hlt => ?_) fun _ => ?_
  ·refine wpS_bind (wpS_lift (wpAny_rule ⟨rfl, ?_⟩))
   have hf1 : 1 ≤ min (a₀.size - lo) (minRun' a₀.size a₀.size 0) := by omega
   have hf2 : lo + min (a₀.size - lo) (minRun' a₀.size a₀.size 0) ≤ a₀.size := by omega
   refine wpS_bind (Qbe hO h0 hB2 hf2 fun st3 hB3 => ?_)
   refine Qn (fun e => by simp at e) fun _ => ?_
   refine wpS_bind (wpS_get ?_)
   rcases hb : (pendingOf st3).back? with _ | ⟨s1, n1, q⟩
   ·exact wpS_bind (wpS_modify (wpS_pure ⟨rfl, push _ st3 hB3 hf1 hf2⟩))
   ·dsimp only
    refine wpS_bind (wpS_mono (wpS_forRange (I := fun _ (c : Option Unit × Unit) st'' => c.1 = none ∧ PB a₀ lo st'') (Q := fun (c : Option Unit × Unit) st'' => c.1 = none ∧ PB a₀ lo st'') ?_ (fun _ _ hh => hh) ⟨rfl, hB3⟩) ?_)
    ·rintro x ⟨r, ⟨⟩⟩ st'' _ _ ⟨hr, hB4⟩
     refine wpS_bind (wpS_get ?_)
     by_cases hp : (pendingOf st'').size > 1
     ·rw [if_pos hp, getElem?_pos (pendingOf st'') _ (by omega)]
      dsimp only
      refine Qn (fun _ => wpS_pure ⟨rfl, hB4⟩) fun _ => ?_
      refine wpS_bind (Ju hO h0 hB4 (by omega) fun st5 hB5 => ?_)
      exact Qn (fun e => by simp at e) fun _ => wpS_pure ⟨rfl, hB5⟩
     ·rw [if_neg hp]
      exact wpS_pure ⟨rfl, hB4⟩
    ·rintro ⟨r, ⟨⟩⟩ st4 ⟨hr, hB4⟩
     simp only at hr
     subst hr
     refine wpS_bind (wpS_modify (wpS_bind (wpS_modify (wpS_pure ⟨rfl, push _ _ ?_ hf1 hf2⟩))))
     exact third st4 _ hB4
  ·have hf1 := hn1
   have hf2 : lo + n ≤ a₀.size := by omega
   refine wpS_bind (wpS_get ?_)
   rcases hb : (pendingOf st2).back? with _ | ⟨s1, n1, q⟩
   ·exact wpS_bind (wpS_modify (wpS_pure ⟨rfl, push _ st2 hB2 hf1 hf2⟩))
   ·dsimp only
    refine wpS_bind (wpS_mono (wpS_forRange (I := fun _ (c : Option Unit × Unit) st'' => c.1 = none ∧ PB a₀ lo st'') (Q := fun (c : Option Unit × Unit) st'' => c.1 = none ∧ PB a₀ lo st'') ?_ (fun _ _ hh => hh) ⟨rfl, hB2⟩) ?_)
    ·rintro x ⟨r, ⟨⟩⟩ st'' _ _ ⟨hr, hB4⟩
     refine wpS_bind (wpS_get ?_)
     by_cases hp : (pendingOf st'').size > 1
     ·rw [if_pos hp, getElem?_pos (pendingOf st'') _ (by omega)]
      dsimp only
      refine Qn (fun _ => wpS_pure ⟨rfl, hB4⟩) fun _ => ?_
      refine wpS_bind (Ju hO h0 hB4 (by omega) fun st5 hB5 => ?_)
      exact Qn (fun e => by simp at e) fun _ => wpS_pure ⟨rfl, hB5⟩
     ·rw [if_neg hp]
      exact wpS_pure ⟨rfl, hB4⟩
    ·rintro ⟨r, ⟨⟩⟩ st4 ⟨hr, hB4⟩
     simp only at hr
     subst hr
     refine wpS_bind (wpS_modify (wpS_bind (wpS_modify (wpS_pure ⟨rfl, push _ _ ?_ hf1 hf2⟩))))
     exact third st4 _ hB4
 case post =>
  rintro ⟨r, lo⟩ st' ⟨hr, hB'⟩
  simp only at hr hB' ⊢
  subst hr
  refine wpS_bind (wpS_mono (wpS_forRange (I := fun _ (c : Option Unit × Unit) st'' => c.1 = none ∧ PB a₀ lo st'') (Q := fun (c : Option Unit × Unit) st'' => c.1 = none ∧ PB a₀ lo st'') ?_ (fun _ _ hh => hh) ⟨rfl, hB'⟩) ?_)
  ·rintro x ⟨r, ⟨⟩⟩ st'' _ _ ⟨hr, hB2⟩
   simp only at hr ⊢
   subst hr
   refine wpS_bind (wpS_get ?_)
   refine Qn (fun _ => wpS_pure ⟨rfl, hB2⟩) fun hp => ?_
   refine wpS_bind (Ju hO h0 hB2 ?_ fun st3 hB3 => ?_)
   ·have hle : ∀ (c : Prop) [Decidable c] (n : Nat), (if c then n - 1 else n) ≤ n := fun c _ n => by split <;> omega
    exact xQ (Nat.add_le_add_right (hle _ _) 1) (by omega)
   ·exact Qn (fun e => by simp at e) fun _ => wpS_pure ⟨rfl, hB3⟩
  ·rintro ⟨r, ⟨⟩⟩ st'' ⟨hr, hB2⟩
   simp only at hr ⊢
   subst hr
   exact wpS_pure (h _ hB2.perm hB2.failed)
theorem Qbf (hO : κ.OneLt) {a : Addr} {vs : List Value} {n : Nat} {P : PySem.Fin → Shared → Prop} (ho : s.heap.get? a = some (seqObj "list" vs.toArray n))
  (h0 : KeysOf κ (pairsOf vs)) (hkk : ∀ v₁ v₂ rest, vs = v₁ :: v₂ :: rest → keyKind' (v₁ :: v₂ :: rest).toArray = pure oneType') (hlen : vs.length < 1000000)
  (h : ∀ st' : SortSt, (arrOf st').Perm (pairsOf vs) → P (.done (.ret .none)) { s with heap := sortedHeap s.heap a vs ((arrOf st').map (·.2)) }) :
  wpAny (model prog w) A (Builtin.«list.sort» ⟨[.ref a], []⟩) P E s := by
 rw [list_sort_plain]
 have ha : a < s.heap.objs.size := yK ho
 refine jQ (listItems_at ho rfl ?_)
 refine jQ (listUpdate_at ho rfl ?_)
 obtain ⟨e1, ho1⟩ : ∃ e1, (s.heap.update a (Obj.mapSeq fun _ => #[])).get? a = some (seqObj "list" #[] e1) := ⟨_, get?_update_seq ho (fun _ => #[])⟩
 refine jQ (seqEpoch_at ho1 rfl ?_)
 refine jQ (wpAny_newTuple ?_)
 refine jQ (wpAny_newList ?_)
 refine wpAny_holding ?_
 have ho6 : (((s.heap.update a (Obj.mapSeq fun _ => #[])).push (seqObj "tuple" vs.toArray 0)).push (seqObj "list" #[] 0)).get? a = some (seqObj "list" #[] e1) := by
  rw [Heap.get?_push_ne _ _ _ (by rw [size_push', Heap.size_update]; exact zK (kQe ha)), Heap.get?_push_ne _ _ _ (by rw [Heap.size_update]; exact zK ha)]
  exact ho1
 show wpAny (model prog w) A _ P E { s with heap := ((s.heap.update a (Obj.mapSeq fun _ => #[])).push (seqObj "tuple" vs.toArray 0)).push (seqObj "list" #[] 0) }
 dsimp only
 have hsz : vs.toArray.size = vs.length := by simp
 by_cases h2 : vs.toArray.size < 2
 ·rw [if_pos h2, if_pos h2]
  refine jQ (jW ?_)
  rw [StateT.run_pure]
  refine jQ (jW ?_)
  dsimp only
  refine jQ (seqEpoch_at ho6 rfl ?_)
  refine jQ (listUpdate_at ho6 rfl ?_ (hsz2 := by rw [Array.size_map]; show (pairsOf vs).size ≤ _; rw [pairsOf_size, sizeLine_eq]; omega))
  simp only [bne_self_eq_false, jZd, if_false]
  exact jW (h (SortSt.mk' general' (vs.toArray.zip vs.toArray) #[] 7 none) (Array.Perm.refl _))
 ·rw [if_neg h2, if_neg h2]
  obtain ⟨v₁, v₂, rest, rfl⟩ : ∃ v₁ v₂ rest, vs = v₁ :: v₂ :: rest := by
   match vs, hsz, h2 with
   | [], _, h2 => simp at h2
   | [_], _, h2 => simp at h2
   | v₁ :: v₂ :: rest, _, _ => exact ⟨v₁, v₂, rest, rfl⟩
  rw [hkk _ _ _ rfl]
  refine jQ (jW ?_)
  refine jQ (wpAny_mono (Wm (κ := κ) hO (a₀ := pairsOf (v₁ :: v₂ :: rest)) h0 (st := SortSt.mk' oneType' ((v₁ :: v₂ :: rest).toArray.zip (v₁ :: v₂ :: rest).toArray) #[] 7 none)
   (Q := fun _ st' => (arrOf st').Perm (pairsOf (v₁ :: v₂ :: rest)) ∧ failedOf st' = none) ⟨Array.Perm.refl _, rfl, rfl, rfl⟩ fun st' a1 a2 => ⟨a1, a2⟩) ?_ fun _ _ e => e)
  rintro ⟨⟨⟩, st'⟩ s' ⟨rfl, hp, hf⟩
  dsimp only
  refine jQ (seqEpoch_at ho6 rfl ?_)
  refine jQ (listUpdate_at ho6 rfl ?_ (hsz2 := by refine jQa (Nat.le_of_eq ((Array.size_map ..).trans (hp.size_eq.trans (pairsOf_size _)))) ?_; rw [sizeLine_eq]; omega))
  rw [hf]
  simp only [bne_self_eq_false, jZd, if_false]
  exact jW (h st' hp)
end
section
variable {prog : Program} {w : World} {A : Around} {E : Value → Shared → Prop} {s : Shared}
theorem Qks {vs : List Value} {ss : List Str} (hS : StrsAre vs ss) {xs : Array Keyed} (hp : xs.Perm (pairsOf vs)) : ∃ ss', StrsAre (xs.map (·.2)).toList ss' ∧ ss'.Perm ss := by
 have hl : xs.toList.Perm (vs.zip vs) := by rw [← pairsOf_toList]; exact kQb.mp hp
 have hmem : ∀ p, p ∈ xs.toList → p.1 = p.2 ∧ p.1 ∈ vs := fun p hp' => mem_zip_self (hl.mem_iff.mp hp')
 refine ⟨(xs.map (·.2)).toList.map strOf, strsAre_map _ fun v hv => ?_, ?_⟩
 ·rw [Array.toList_map] at hv
  obtain ⟨p, hp', rfl⟩ := zV.mp hv
  rw [← (hmem p hp').1]
  exact hS.all _ (hmem p hp').2
 ·rw [Array.toList_map, jJe]
  have h1 := hl.map (strOf ∘ fun p => p.2)
  have e2 : (vs.zip vs).map (strOf ∘ fun p => p.2) = ss := by
   rw [← jJe, List.map_snd_zip (jX _), hS.strs]
  rwa [e2] at h1
theorem Wp {l : Addr} {vs : List Value} {ss : List Str} {Q : Value → Shared → Prop} (hl : s.heap.IsList l vs.toArray) (hS : StrsAre vs ss) (hlen : vs.length < 1000000)
  (h : ∀ (out : Array Value) (ss' : List Str), StrsAre out.toList ss' → ss'.Perm ss → Q (.ref (s.heap.objs.size + 1)) { s with heap := sortedAll s.heap vs out }) :
  wpAny (model prog w) A (call (.builtin "sorted") [.ref l]) Q E s := by
 refine Calls.call_function_entry kind_sorted plain_sorted entry_sorted (args_sorted1 _) ?_
 unfold Builtin.«sorted»
 refine jQ (m := checkCount "sorted" 1 1 _) (jW ?_)
 refine jQ (collect_list hl ?_)
 refine jQ (wpAny_newList ?_)
 have hsz : ((s.heap.push (seqObj "list" #[] 0)).update s.heap.objs.size (Obj.mapSeq (· ++ vs.toArray))).objs.size = s.heap.objs.size + 1 := by
  rw [Heap.size_update, size_push']
 have hoL : (((s.heap.push (seqObj "list" #[] 0)).update s.heap.objs.size (Obj.mapSeq (· ++ vs.toArray))).push (seqObj "list" vs.toArray 0)).get? (s.heap.objs.size + 1) = some (seqObj "list" vs.toArray 0) := by
  rw [← hsz]; exact yX _ rfl
 show wpAny _ _ _ _ _ { s with heap := ((s.heap.push (seqObj "list" #[] 0)).update s.heap.objs.size (Obj.mapSeq (· ++ vs.toArray))).push (seqObj "list" vs.toArray 0) }
 rw [hsz]
 refine jQ (wpAny_holding (wpAny_call_entry slot_list_sort ⟨_, hoL, rfl⟩ entry_list_sort (Qbf strKind_oneLt hoL hS.keysOf (fun v₁ v₂ rest e => keyKind_strs (by rw [← e]; exact hS)) hlen fun st' a1 => ⟨_, rfl, ?_⟩) (args_list_sort _)))
 refine jW ⟨_, rfl, ?_⟩
 obtain ⟨ss', b1, b2⟩ := Qks hS a1
 exact h _ ss' b1 b2
end
section
variable {X : Cx}
theorem Ku {ss : List Str} : ∀ {us : List Value}, Vals (ss.map V.str) us → StrsAre us ss := by
 induction ss with
 | nil => intro us r; rw [jKe] at r; cases r; exact .nil
 | cons n ns ih =>
  intro us r
  rw [zJ] at r
  cases r with
  | cons r1 r2 =>
   obtain ⟨t, e⟩ := r1
   subst e
   exact .cons n t (ih r2)
open PySem.W in
theorem Qcu {K : Frag} (hK : X.K = K) : Zq X (.builtin "sorted") (fun xs H Q => ∃ (l : Addr) (ss : List Str), xs = [.ref l] ∧ SqL K H l (ss.map V.str) ∧ ss.length < 1000000 ∧
  ∀ (D : Addr) (qs : List Str), H D = none → qs.Perm ss → Q (.ref D) (upd H D (.lst (qs.map V.str)))) := by
 subst hK
 intro pins s σ H xs us Q I rv h
 obtain ⟨l, ss, rfl, hq, h64, q⟩ := h
 obtain ⟨u, rfl, ru⟩ := rv.one
 cases ru
 obtain ⟨its, r, p, hz⟩ := I.list hq
 have lv := r.length
 rw [jZ] at lv
 have hS : StrsAre its ss := Ku r
 refine Wp p.isList hS (by omega) fun out ns' h1 h2 => ?_
 obtain ⟨e, he⟩ := sortedAll_at s.heap its out
 have hv := Jd h1
 have lo : ns'.length = ss.length := h2.length_eq
 have hlen : (ns'.map V.str).length ≤ sizeLine := by rw [jZ, sizeLine_eq]; omega
 exact ⟨.ref (s.heap.objs.size + 1), _, I.laid (t' := s.toks) (o := .lst (ns'.map V.str)) (fun b ob z => sortedAll_old z) (kQd _) ⟨hlen, out.toList, e, hv, by simpa using he⟩, rfl, q _ ns' (I.hok.fresh (kQd _)) h2⟩
end
end L2
namespace L2
open PySem PySem.Spec PyProof.Rows PySem.SeqAt
section
variable {X : Cx} {pins : List (Addr × Obj)} {σ : St} {H : Hp} {s : Shared}
theorem Qkt {A : Around} {xs ys : List V} {its its' : List Value} (r : Vals xs its) (r' : Vals ys its') (f : ∀ x ∈ xs, Yt x = true) (f' : ∀ x ∈ ys, Yt x = true) :
  ∀ j (h1 : j < its.toArray.size) (h2 : j < its'.toArray.size), EqAt A s its.toArray[j] its'.toArray[j] (eqV (xs.getD j .non) (ys.getD j .non)) := fun j h1 h2 => by
 have l1 := r.length
 have l2 := r'.length
 rw [jV] at h1 h2
 have j1 : j < xs.length := by omega
 have j2 : j < ys.length := by omega
 obtain ⟨u1, e1, ru1⟩ := r.get (i := j) (x := xs[j]) (gE j1)
 obtain ⟨u2, e2, ru2⟩ := r'.get (i := j) (x := ys[j]) (gE j2)
 have z1 : its.toArray[j] = u1 := by rw [gE (by omega)] at e1; simpa using e1
 have z2 : its'.toArray[j] = u2 := by rw [gE (by omega)] at e2; simpa using e2
 rw [z1, z2, List.getD_eq_getElem?_getD, List.getD_eq_getElem?_getD, gE j1, gE j2]
 exact Qef ru1 ru2 (f _ (kXc j1)) (f' _ (kXc j2))
theorem op_eqF {K : Fg} {n : Nat} (hK : X.K = K) (hu : X.A.units + n < cLine) : OpR X (compareOp .Eq) (fun x y H Q => ∃ (a b : Addr) (xs ys : List V), x = .ref a ∧ y = .ref b ∧ SqL K H a xs ∧ SqL K H b ys ∧ (∀ x ∈ xs, Yt x = true) ∧ (∀ x ∈ ys, Yt x = true) ∧
  ∀ c : Bool, (c = true ↔ xs.length = ys.length ∧ ∀ j, j < xs.length → eqV (xs.getD j .non) (ys.getD j .non) = true) → Q (.bl c) H) := by
 subst hK
 intro pins s σ H x y v u Q I rx ry h
 obtain ⟨a, b, xs, ys, rfl, rfl, h1, h2, f1, f2, q⟩ := h
 cases rx
 cases ry
 obtain ⟨its, r, pt, _⟩ := I.list h1
 obtain ⟨its', r', pt', _⟩ := I.list h2
 have l1 := r.length
 have l2 := r'.length
 have key := Qkt (A := X.A.in1) (s := s) r r' f1 f2
 by_cases hsz : its.toArray.size = its'.toArray.size
 ·refine RcAt.lists pt.isList pt'.isList hsz (by omega) key _ _ _ _ ⟨.bl _, H, I, rfl, q _ ?_⟩
  rw [Qak, jV]
  rw [jV, jV] at hsz
  exact ⟨fun z => ⟨by omega, fun j hj => z j (by omega)⟩, fun z j hj => z.2 j (by omega)⟩
 ·have hne : (its.toArray.size != its'.toArray.size) = true := by simpa using hsz
  refine RcAt.lists_lengths pt.isList pt'.isList hne (by omega) _ _ _ _ ⟨.bl false, H, I, rfl, q _ ⟨fun z => (nomatch z), fun z => ?_⟩⟩
  rw [jV, jV] at hsz
  omega
theorem Qku {v : V} (h : Yt v = true) : eqV v v = true := by
 cases v with
 | non => rfl
 | bl b => exact beq_self_eq_true b
 | int i => exact beq_self_eq_true i
 | str x => exact beq_self_eq_true x
 | _ => exact nomatch h
theorem Qfy {A : Around} {a b : Addr} {kvs : List (Key × V)} (hu : A.units + 1 < cLine) (I : Inv X pins σ H s) (e1 : H a = some (.dK kvs)) (e2 : H b = some (.dK kvs)) (hf : ∀ p ∈ kvs, Yt p.2 = true ∨ ∃ t, p.2 = .ref t) : EqW X.prog X.w A s (.ref a) (.ref b) true := by
 by_cases hpq : a = b
 ·subst hpq
  exact fun E Q hq => EqAt.same _ _ _ _ _ hq
 obtain ⟨z1, hd1, vs1, rel1, dd1⟩ := Vv I.hok e1
 obtain ⟨z2, hd2, vs2, rel2, dd2⟩ := Vv I.hok e2
 have nd2 : (kvs.map (·.1)).Nodup := by
  obtain ⟨_, _, _, _, _, _, _, _, n⟩ := id dd2
  rw [Qhj rel2]; exact n
 have l3 := rel1.length
 have l4 := rel2.length
 have hits : ∀ i, i ≤ vs1.length → PySem.W.KeqHits A.in1 s vs2 (vs1.drop i) true := by
  intro i hi
  obtain ⟨n, hn⟩ : ∃ n, vs1.length - i = n := ⟨_, rfl⟩
  induction n generalizing i with
  | zero => rw [List.drop_of_length_le (by omega)]; exact .nil
  | succ n ih =>
   have j1 : i < vs1.length := by omega
   rw [jYd j1]
   obtain ⟨⟨k, v⟩, ekv⟩ : ∃ p, kvs[i]? = some p := ⟨_, gE (by omega)⟩
   obtain ⟨⟨qk, qv⟩, eq, hq1, hq2⟩ := Xg rel1 ekv
   have eq' : vs1[i] = (qk, qv) := by rw [gE j1] at eq; exact Option.some.inj eq
   have ev : valV kvs k = some v := Qhi (i := i) nd2 ekv
   obtain ⟨y, hy, ry⟩ := RelO.some_of (v := v) (o := valueAt vs2 k) (by rw [← ev]; exact rel2.val _)
   rw [eq']
   have ek : k = qk := hq1
   subst ek
   have er : RelV v qv := hq2
   have hE : EqAt A.in1 s qv y true := by
    rcases hf _ (yV ekv) with f | ⟨t, et⟩
    ·have h5 := Qef (A := A.in1) (s := s) er ry f f
     rwa [Qku f] at h5
    ·have et' : v = .ref t := et
     subst et'
     cases er
     cases ry
     exact EqAt.same _
   exact PySem.W.KeqHits.hit (e := true) (b := true) hy hE (ih (i + 1) (by omega) (by omega))
 have h0 := hits 0 (wK _)
 rw [kQa] at h0
 intro E Q hq
 show wpAny _ _ (eqBool (.ref a) (.ref b)) _ _ _
 exact Qjr hpq (fun E Q hq => PySem.W.keq_eq (knd := Xi X.prog X.w) hd1 hd2 dd1 dd2 (by omega) (fun _ => h0) (by
  have e5 : (vs1.length == vs2.length && true) = true := by rw [Bool.and_true, beq_iff_eq]; omega
  rw [e5]
  exact hq)) E Q hq
theorem Qnz {n : Nat} (hn : 3 ≤ n) (hu : X.A.units + n < cLine) : OpR X (compareOp .NotEq) (fun x y H Q => ∃ (a b l1 l2 d1 d2 : Addr) (us vs : List V) (bk : List (List Key)) (kvs : List (Key × V)), x = .ref a ∧ y = .ref b ∧ SqL X.K H a [.ref l1, .ref d1] ∧ SqL X.K H b [.ref l2, .ref d2] ∧ SqL X.K H l1 us ∧ Qhf H us bk ∧ SqL X.K H l2 vs ∧ Qhf H vs bk ∧ H d1 = some (.dK kvs) ∧ H d2 = some (.dK kvs) ∧ (∀ p ∈ kvs, Yt p.2 = true ∨ ∃ t, p.2 = .ref t) ∧ Q (.bl false) H) := by
 intro pins s σ H x y v u Q I rx ry h
 obtain ⟨a, b, l1, l2, d1, d2, us, vs, bk, kvs, rfl, rfl, h1, h2, h3, h4, h5, h6, h7, h8, hf, q⟩ := h
 cases rx
 cases ry
 obtain ⟨its, r, pt, _⟩ := I.list h1
 obtain ⟨its', r', pt', _⟩ := I.list h2
 obtain ⟨u1, u2, rfl, ru1, ru2⟩ := r.two
 obtain ⟨w1, w2, rfl, rw1, rw2⟩ := r'.two
 cases ru1
 cases ru2
 cases rw1
 cases rw2
 have k0 : EqAt X.A.in1 s (.ref l1) (.ref l2) true := Qhh (A := X.A.in1) (by show X.A.units + 1 + 1 < cLine; omega) I h3 h5 h4 h6
 have k1 : EqW X.prog X.w X.A.in1 s (.ref d1) (.ref d2) true := Qfy (A := X.A.in1) (by show X.A.units + 1 + 1 < cLine; omega) I h7 h8 hf
 have key : ∀ j (h1 : j < [Value.ref l1, .ref d1].toArray.size) (h2 : j < [Value.ref l2, .ref d2].toArray.size), EqW X.prog X.w X.A.in1 s [Value.ref l1, .ref d1].toArray[j] [Value.ref l2, .ref d2].toArray[j] true := fun j h1 h2 => by
  match j, h1 with
  | 0, _ => exact fun E Q hq => k0 _ _ E Q hq
  | 1, _ => exact k1
  | j + 2, h1 => exact absurd h1 (by simp)
 obtain ⟨⟨cls, dd, data, sl⟩, ho, hc, m1, hd⟩ := id pt.isList
 obtain ⟨⟨cls2, dd2, data2, sl2⟩, ho2, hc2, m2, hd2⟩ := id pt'.isList
 simp only at hc hd hc2 hd2
 subst hc hd hc2 hd2
 exact wpAny_richCompare_same_room (op := .NotEq) ⟨_, ho, rfl⟩ ⟨_, ho2, rfl⟩ F.slot_list_ne (call_meetsIn F.slot_list_ne ⟨_, ho, rfl⟩ F.entry_list_ne (F.args_list_ne_2 _ _) (Qjt a b [Value.ref l1, .ref d1].toArray [Value.ref l2, .ref d2].toArray m1 m2 dd dd2 sl sl2 rfl)
  ⟨ho, ho2, key, ⟨(fun x => nomatch x), ⟨.bl false, H, I, rfl, q⟩⟩⟩) (by omega)
open PySem.W in
theorem Qcv {K : Frag} (hK : X.K = K) : Zq X (.builtin "sorted") (fun xs H Q => ∃ (l : Addr) (ss : List Str), xs = [.ref l] ∧ SqL K H l (ss.map V.str) ∧ ss.length < 64 ∧
  ∀ (D : Addr) (qs : List Str), H D = none → qs.Perm ss → sortedS qs = true → Q (.ref D) (upd H D (.lst (qs.map V.str)))) := by
 subst hK
 intro pins s σ H xs us Q I rv h
 obtain ⟨l, ss, rfl, hq, h64, q⟩ := h
 obtain ⟨u, rfl, ru⟩ := rv.one
 cases ru
 obtain ⟨its, r, p, hz⟩ := I.list hq
 have lv := r.length
 rw [jZ] at lv
 have hS : StrsAre its ss := Ku r
 refine sorted_strs p.isList hS (by omega) fun out ns' h1 h2 h3 => ?_
 obtain ⟨e, he⟩ := sortedAll_at s.heap its out
 have hv := Jd h1
 have lo : ns'.length = ss.length := h2.length_eq
 have hz64 : (64 : Nat) < sizeLine := by decide
 have hlen : (ns'.map V.str).length ≤ sizeLine := by rw [jZ]; omega
 exact ⟨.ref (s.heap.objs.size + 1), _, I.laid (t' := s.toks) (o := .lst (ns'.map V.str)) (fun b ob z => sortedAll_old z) (kQd _) ⟨hlen, out.toList, e, hv, by simpa using he⟩, rfl, q _ ns' (I.hok.fresh (kQd _)) h2 h3⟩
theorem sl_str : SlR X (fun x lo hi H Q => ∃ z : Str, x = .str z ∧ z.length ≤ sizeLine ∧ ∀ y : Str, y.length ≤ z.length → Q (.str y) H) := by
 intro pins s σ H x v vl vu lo hi sl Q I rx hs pl pu h
 obtain ⟨z, rfl, hz, q⟩ := h
 obtain ⟨t, rfl⟩ := rx
 have hp : ∀ {u : Value} {o : Option Int}, IsPart u o → ∃ p : Option (Int × Tok), partValue p = u := fun {u o} h => by
  cases h with
  | none => exact ⟨none, rfl⟩
  | int => exact ⟨some (_, _), rfl⟩
 obtain ⟨p1, e1⟩ := hp pl
 obtain ⟨p2, e2⟩ := hp pu
 refine ⟨"str", _, slot_str_getitem.lookup, typeIs_str s z t, ?_⟩
 obtain ⟨o, ho, hc, hd⟩ := hs
 refine wpAny_getItem_str_slice (l := p1) (u := p2) (st := none) ⟨o, ho, hc, by rw [hd, ← e1, ← e2]; rfl⟩ rfl ?_
 unfold sliceMade
 split
 ·exact ⟨.str z, H, I, ⟨_, rfl⟩, q z (jX _)⟩
 ·have hl : (⟨(List.filterMap (fun x => z.cps[x]?) (slicePicked z p1 p2 none)).toArray⟩ : Str).length ≤ z.length := by
   show (List.filterMap (fun x => z.cps[x]?) (slicePicked z p1 p2 none)).toArray.size ≤ _
   rw [jV]
   exact jQa (wY _ _) (sliceIndices_le _ _ _)
  exact ⟨jQa hl hz, .str _, H, I.tok _, ⟨_, rfl⟩, q _ hl⟩
end
def Itk (d : Addr) (o : Obj) (kvs : List (Key × V)) : It :=
  ⟨fun i H => H d = some (.frz o (.dK kvs)) ∧ i < kvs.length,
   fun i H v H' => ∃ k x, v = kV k ∧ H' = H ∧ kvs[i]? = some (k, x),
   fun i H => H d = some (.frz o (.dK kvs)) ∧ kvs.length ≤ i⟩
def kTn (it d : Addr) (o : Obj) (n i : Nat) (h : Heap) : Prop := ∃ es ep, o.data = .dict es ep ∧ h.IsKeyIter it d i n ep
theorem Qih {P : Program} {w : World} {K : Fg} {tg : Expr} {it d : Addr} {o : Obj} {kvs : List (Key × V)} :
  Turn P w K tg (Itk d o kvs) [it] it (kTn it d o kvs.length) where
 mem := by simp
 obj := fun i h st c hc => by
  obtain ⟨_, _, _, q, e, c1, d1⟩ := st
  have e5 : c = it := by simpa using hc
  subst e5
  exact ⟨q, e, fun v z => by rw [d1] at z; cases z⟩
 keep := fun i h h' st k => by
  obtain ⟨e1, e2, e3, h1⟩ := st
  exact ⟨e1, e2, e3, h1.at fun o e => k it (by simp) o e⟩
 item := by
  intro X hP hw hK hc i pins s σ H E I hf st hg
  subst hP hw hK
  obtain ⟨q1, hi⟩ := hg
  obtain ⟨e1, ep, e3, h1⟩ := st
  obtain ⟨vs, rel, da⟩ := Qhr I.hok q1 e3
  have lr := rel.length
  obtain ⟨⟨k, x⟩, ek⟩ : ∃ kx, kvs[i]? = some kx := ⟨_, gE hi⟩
  obtain ⟨⟨k', v⟩, ev, e4, rv⟩ := Xg rel ek
  have e4' : k = k' := e4
  subst e4'
  rw [lr] at h1
  obtain ⟨f0, f1, f2, f3, f4, f5⟩ := hf it (by simp)
  refine wpAny_pyNext_dict_item h1 da ev fun key h' hk st' sb => ?_
  have I1 : Inv X pins σ H { s with heap := h' } := I.turned (t' := s.toks) (fun b o hb e => (sb.2 b hb).trans e) f0 f1 f3 f4 f5
  obtain ⟨q, e, c, d1⟩ := id st'
  exact ⟨key, rfl, Qis (s := { s with heap := h' }) e c d1 (by decide) ⟨kV k, H, I1, is_kV hk, ⟨k, x, rfl, rfl, ek⟩, ⟨e1, ep, e3, by rw [lr]; exact st'⟩, fun b hb => (hf b hb).1⟩⟩
 done := by
  intro X hP hw hK hc i pins s σ H E I hf st hg
  subst hP hw hK
  obtain ⟨q1, hi⟩ := hg
  obtain ⟨e1, ep, e3, h1⟩ := st
  obtain ⟨vs, rel, da⟩ := Qhr I.hok q1 e3
  have lr := rel.length
  rw [lr] at h1
  obtain ⟨f0, f1, f2, f3, f4, f5⟩ := hf it (by simp)
  exact wpAny_pyNext_dict_end (I.ok.hd hc) h1 da (List.getElem?_eq_none_iff.mpr (by omega)) fun h' eb => ⟨rfl, I.turned (t' := s.toks) (fun b o hb z => eb b o hb z) f0 f1 f3 f4 f5⟩
 self := fun _ _ _ _ _ st h => by
  obtain ⟨_, _, _, h1⟩ := st
  exact wpAny_pyIter_keyiter h1 h
section
variable {X : Cx}
def iKeys (F : Addr → Prop) (td : TE) : TI := fun σ H R => td σ H fun v H1 => ∃ d kvs, v = .ref d ∧ H1 d = some (.dK kvs) ∧ (F d → ∀ o, R (Itk d o kvs) (upd H1 d (.frz o (.dK kvs))))
theorem Qoa {tg a : Expr} {td : TE} {apos cpos : Pos} (ha : PE X a td) (hbase : autoParam (attributeBase a "keys" X.env (eval a X.env) = eval a X.env) L2.aRfl._auto_1) (hline : autoParam ((apos.endLine == cpos.line) = true) L2.aRfl._auto_1) :
  PI X tg (.Call (.Attribute a "keys" apos) [] [] cpos) (iKeys (NF X) td) := by
 intro pins s σ H R I h
 refine wpAny_Call_method0_late hbase hline (thn (ha pins s σ H _ I h) fun v s1 hqP => ?_)
 obtain ⟨x, H1, I1, r1, q1⟩ := hqP
 obtain ⟨d, kvs, e, hd, q⟩ := q1
 subst e
 obtain rfl : v = Value.ref d := r1
 obtain ⟨t1, t2, t3⟩ := Qel I1 (.inl ⟨kvs, .inl hd⟩)
 refine ⟨"dict", "dict.keys", PySem.F.plainAttrs_dict, PySem.F.slot_dict_keys, PySem.F.type_dict_keys, t1, t2, Calls.callWith_builtin rfl (PySem.evalArgs_none ?_)⟩
 have nf := I1.nf hd
 obtain ⟨o, ho, I2⟩ := I1.freeze hd
 obtain ⟨z, hd', vs, rel, dd⟩ := Vv I1.hok hd
 obtain ⟨o', es', ep, h1, h2, h3, h4⟩ := id dd
 rw [ho] at h1
 cases h1
 refine call_meetsIn PySem.F.slot_dict_keys t1 PySem.F.entry_dict_keys (PySem.F.args_dict_keys_1 _) (PySem.W.kdl_meets_keys (Xi X.prog X.w) d t3) ⟨⟨vs, dd⟩, ?_⟩
 have z1 : (s1.heap.push { cls := .type "dict_keys", data := .fields #[.ref d] }).objs.size = s1.heap.objs.size + 1 := jKf ..
 have g1 : (s1.heap.push { cls := .type "dict_keys", data := .fields #[.ref d] }).get? s1.heap.objs.size = some { cls := .type "dict_keys", data := .fields #[.ref d] } := yX _ rfl
 have kp : ∀ b o, s1.heap.get? b = some o → (s1.heap.push { cls := .type "dict_keys", data := .fields #[.ref d] }).get? b = some o := fun b o z => jJ _ z
 generalize s1.heap.push { cls := .type "dict_keys", data := .fields #[.ref d] } = h' at z1 g1 kp
 have I3 : Inv X pins σ (upd H1 d (.frz o (.dK kvs))) { s1 with heap := h' } := I2.kept (t' := s1.toks) kp
 obtain ⟨vs', rel', da⟩ := Qhr I3.hok Qb h3
 have lr := rel'.length
 refine PySem.W.kdl_pyIter_keys (s := { s1 with heap := h' }) ⟨_, g1, rfl, rfl⟩ da ?_
 have I4 : Inv X pins σ (upd H1 d (.frz o (.dK kvs))) { s1 with heap := h'.push { cls := .type "dict_keyiterator", data := .fields #[.ref d, .int 0 0, .int vs'.length 0, .int ep 0] } } := I3.kept (t' := s1.toks) fun b o z => jJ _ z
 refine ⟨h'.objs.size, [h'.objs.size], _, Itk d o kvs, _, rfl, I4, Qih, ⟨es', ep, h3, ?_⟩, fun c hc => ?_, q nf o⟩
 ·rw [lr]
  exact ⟨_, yX _ rfl, rfl, rfl⟩
 ·simp only [yJ, jYb, or_false] at hc
  subst hc
  exact I3.fpOk (jX _) (I3.hok.fresh (jX _))
end
end L2
namespace Nb
open PySem L2
def Mild (H H' : Hp) : Prop := ∀ b o, H b = some o → (∀ kvs, o ≠ .dK kvs) → H' b = some o
theorem Same.mild {H H' : Hp} (s : Same H H') : Mild H H' := fun b o e _ => s b o e
theorem Ve {H : Hp} {P : Addr} {kvs : List (Key × V)} (h : H P = some (.dK kvs)) (o' : L2.HO) : Mild H (upd H P o') := fun b o e n => by
 rw [Qj (fun z => by subst z; rw [h] at e; cases e; exact n kvs rfl)]; exact e
theorem Mild.tup {K : Fg} {H H' : Hp} {a : Addr} {xs : List V} (e : Mild H H') (h : SqT K H a xs) : SqT K H' a xs := by
 rcases h with (h | ⟨o, h⟩) | h
 ·exact .inl (.inl (e _ _ h (fun _ z => nomatch z)))
 ·exact .inl (.inr ⟨o, e _ _ h (fun _ z => nomatch z)⟩)
 ·exact .inr h
theorem Mild.seq {K : Fg} {H H' : Hp} {a : Addr} {xs : List V} (e : Mild H H') (h : SqL K H a xs) : SqL K H' a xs := by
 rcases h with (h | ⟨o, h⟩) | h
 ·exact .inl (.inl (e _ _ h (fun _ z => nomatch z)))
 ·exact .inl (.inr ⟨o, e _ _ h (fun _ z => nomatch z)⟩)
 ·exact .inr h
def fb (v : V) : Prop := Yt v = true ∧ ∀ i, v = .int i → i.natAbs ≤ 10 ^ 20
theorem Qii (x : Str) : fb (.str x) := ⟨rfl, fun _ z => nomatch z⟩
theorem Qaa {i : Int} (h : i.natAbs ≤ 10 ^ 20) : fb (.int i) := ⟨rfl, fun _ z => by cases z; exact h⟩
def Odd (K : Fg) (H : Hp) (v : V) : Prop :=
 Yt v = true ∨ (∃ l xs, v = .ref l ∧ SqL K H l xs) ∨ (∃ t xs, v = .ref t ∧ SqT K H t xs ∧ xs.length ≠ 2) ∨
 ∃ t a b, v = .ref t ∧ SqT K H t [a, b] ∧ fb a ∧ ((fb b ∧ ∀ x i, ¬ (a = .str x ∧ b = .int i)) ∨ ∃ t' ys, b = .ref t' ∧ SqT K H t' ys)
def PvIs (K : Fg) (H : Hp) (v : V) : Option (Str × Int) → Prop
 | some q => ∃ t, v = .ref t ∧ SqT K H t [.str q.1, .int q.2] ∧ q.2.natAbs ≤ 10 ^ 20
 | none => Odd K H v
theorem PvIs.mild {K : Fg} {H H' : Hp} {v : V} {o : Option (Str × Int)} (h : PvIs K H v o) (e : Mild H H') : PvIs K H' v o := by
 cases o with
 | some q => obtain ⟨t, e1, z, b⟩ := h; exact ⟨t, e1, e.tup z, b⟩
 | none =>
  rcases h with h | ⟨l, xs, e1, z⟩ | ⟨t, xs, e1, z, n⟩ | ⟨t, a, b, e1, z, fa, hb⟩
  ·exact .inl h
  ·exact .inr (.inl ⟨l, xs, e1, e.seq z⟩)
  ·exact .inr (.inr (.inl ⟨t, xs, e1, e.tup z, n⟩))
  ·refine .inr (.inr (.inr ⟨t, a, b, e1, e.tup z, fa, ?_⟩))
   rcases hb with hb | ⟨t', ys, e2, z2⟩
   ·exact .inl hb
   ·exact .inr ⟨t', ys, e2, e.tup z2⟩
theorem PvIs.flatRef {K : Fg} {H : Hp} {v : V} {o : Option (Str × Int)} (h : PvIs K H v o) : Yt v = true ∨ ∃ t, v = .ref t := by
 cases o with
 | some q => obtain ⟨t, e1, z⟩ := h; exact .inr ⟨t, e1⟩
 | none =>
  rcases h with h | ⟨l, xs, e1, z⟩ | ⟨t, xs, e1, z, n⟩ | ⟨t, a, b, e1, z⟩
  ·exact .inl h
  ·exact .inr ⟨l, e1⟩
  ·exact .inr ⟨t, e1⟩
  ·exact .inr ⟨t, e1⟩
theorem Qdw {K : Fg} {H : Hp} {t : Addr} {a : V} {i : Int} (h : SqT K H t [a, .int i]) (f : fb a) (hi : i.natAbs ≤ 10 ^ 20) : ∃ o, PvIs K H (.ref t) o := by
 cases a with
 | str x => exact ⟨some (x, i), t, rfl, h, hi⟩
 | non => exact ⟨none, .inr (.inr (.inr ⟨t, _, _, rfl, h, f, .inl ⟨Qaa hi, fun x i z => nomatch z.1⟩⟩))⟩
 | bl b => exact ⟨none, .inr (.inr (.inr ⟨t, _, _, rfl, h, f, .inl ⟨Qaa hi, fun x i z => nomatch z.1⟩⟩))⟩
 | int b => exact ⟨none, .inr (.inr (.inr ⟨t, _, _, rfl, h, f, .inl ⟨Qaa hi, fun x i z => nomatch z.1⟩⟩))⟩
 | _ => exact nomatch f.1
abbrev PD := List (Str × Option (Str × Int))
def PdR (K : Fg) (H : Hp) : List (Key × V) → PD → Prop := Paired fun p q => p.1 = Sum.inr q.1 ∧ PvIs K H p.2 q.2
structure PdAt (K : Fg) (H : Hp) (kvs : List (Key × V)) (pd : PD) : Prop where
 rel : PdR K H kvs pd
 nd : (pd.map (·.1)).Nodup
theorem PdAt.mild {K : Fg} {H H' : Hp} {kvs : List (Key × V)} {pd : PD} (h : PdAt K H kvs pd) (e : Mild H H') : PdAt K H' kvs pd := ⟨Paired.mapP h.rel fun _ _ ⟨e1, z⟩ => ⟨e1, z.mild e⟩, h.nd⟩
theorem PdAt.len {K : Fg} {H : Hp} {kvs : List (Key × V)} {pd : PD} (h : PdAt K H kvs pd) : kvs.length = pd.length := Paired.length h.rel
theorem PdAt.keys {K : Fg} {H : Hp} {kvs : List (Key × V)} {pd : PD} (h : PdAt K H kvs pd) : kvs.map (·.1) = (pd.map (·.1)).map Sum.inr := by
 have h1 := h.rel
 clear h
 unfold PdR at h1
 induction h1 with
 | nil => rfl
 | cons z _ ih => rw [zJ, zJ, zJ, ih, z.1]
theorem PdAt.flatRef {K : Fg} {H : Hp} {kvs : List (Key × V)} {pd : PD} (h : PdAt K H kvs pd) : ∀ p ∈ kvs, Yt p.2 = true ∨ ∃ t, p.2 = .ref t := fun p hp => by
 obtain ⟨i, ei⟩ := wW.mp hp
 obtain ⟨q, eq, e1, z⟩ := L2.Xg h.rel ei
 exact z.flatRef
def lk (pd : PD) (w : Str) : Option (Option (Str × Int)) := (pd.find? fun p => decide (p.1 = w)).map (·.2)
theorem Qij {p : Str × Option (Str × Int)} {r : PD} {w : Str} (e : p.1 = w) : lk (p :: r) w = some p.2 := by simp [lk, jXe, e]
theorem Qik {p : Str × Option (Str × Int)} {r : PD} {w : Str} (e : ¬ p.1 = w) : lk (p :: r) w = lk r w := by simp [lk, jXe, e]
theorem lk_of {pd : PD} (nd : (pd.map (·.1)).Nodup) {p : Str × Option (Str × Int)} (h : p ∈ pd) : lk pd p.1 = some p.2 := by
 induction pd with
 | nil => exact nomatch h
 | cons q r ih =>
  obtain ⟨n1, n2⟩ := jXd.mp (show ((q.1 :: r.map (·.1)).Nodup) from nd)
  rcases yJ.mp h with e | e
  ·subst e; exact Qij rfl
  ·rw [Qik (fun z => n1 (by rw [z]; exact zV.mpr ⟨p, e, rfl⟩))]
   exact ih n2 e
theorem lk_mem {pd : PD} {w : Str} {o : Option (Str × Int)} (h : lk pd w = some o) : (w, o) ∈ pd := by
 induction pd with
 | nil => exact nomatch h
 | cons q r ih =>
  by_cases e : q.1 = w
  ·rw [Qij e] at h
   cases h
   subst e
   exact jK
  ·rw [Qik e] at h
   exact zQ _ (ih h)
theorem Qev {K : Fg} {H : Hp} {kvs : List (Key × V)} {pd : PD} (h : PdR K H kvs pd) (w : Str) : (valV kvs (Sum.inr w) = none ∧ lk pd w = none) ∨ ∃ v o, valV kvs (Sum.inr w) = some v ∧ lk pd w = some o ∧ PvIs K H v o := by
 unfold PdR at h
 induction h with
 | nil => exact .inl ⟨rfl, rfl⟩
 | @cons p q _ _ z _ ih =>
  by_cases e : q.1 = w
  ·exact .inr ⟨_, _, Yh (by rw [z.1, e]), Qij e, z.2⟩
  ·rw [Yi (by rw [z.1]; exact fun z5 => e (Sum.inr.inj z5)), Qik e]
   exact ih
theorem pd_put {K : Fg} {H : Hp} {kvs : List (Key × V)} {pd : PD} (h : PdAt K H kvs pd) {w : Str} {v : V} {o : Option (Str × Int)} (hv : PvIs K H v o) : ∃ pd', PdAt K H (putK kvs (Sum.inr w) v) pd' ∧ pd'.length ≤ pd.length + 1 := by
 have hk := h.keys
 obtain ⟨h, nd⟩ := h
 unfold putK
 by_cases a : (kvs.any fun kv => decide (kv.1 = Sum.inr w)) = true
 ·rw [if_pos a]
  refine ⟨pd.map fun p => if p.1 = w then (p.1, o) else p, ⟨?_, ?_⟩, by rw [jZ]; omega⟩
  ·clear a hk nd
   unfold PdR at h ⊢
   induction h with
   | nil => exact .nil
   | @cons p q _ _ z _ ih =>
    refine .cons ?_ ih
    dsimp only
    by_cases e : q.1 = w
    ·rw [if_pos e, if_pos (by rw [z.1, e])]
     exact ⟨z.1, hv⟩
    ·rw [if_neg e, if_neg (by rw [z.1]; exact fun z5 => e (Sum.inr.inj z5))]
     exact z
  ·rw [jJe]
   have : pd.map ((fun x => x.1) ∘ fun p => if p.1 = w then (p.1, o) else p) = pd.map (·.1) := kYf fun p _ => by
    show (if p.1 = w then (p.1, o) else p).1 = p.1
    split <;> rfl
   rw [this]; exact nd
 ·rw [if_neg a]
  refine ⟨pd ++ [(w, o)], ⟨Paired.snoc h ⟨rfl, hv⟩, ?_⟩, by rw [jY]; exact jX _⟩
  rw [yQ]
  refine List.nodup_append.mpr ⟨nd, jXd.mpr ⟨fun z => (nomatch z), List.nodup_nil⟩, fun x hx y hy e => a ?_⟩
  have e6 : x = w := e.trans (kQ.mp hy)
  have h5 : Sum.inr w ∈ kvs.map (·.1) := by rw [hk]; exact zV.mpr ⟨_, hx, by rw [e6]⟩
  obtain ⟨p, hp, ep⟩ := zV.mp h5
  exact jYa.mpr ⟨p, hp, kZ ep⟩
theorem Qob {K : Fg} {H : Hp} {kvs : List (Key × V)} {pd : PD} (h : PdAt K H kvs pd) (w : Str) : ∃ pd', PdAt K H (Qan kvs (Sum.inr w)) pd' ∧ pd'.length ≤ pd.length := by
 obtain ⟨h, nd⟩ := h
 refine ⟨pd.filter fun p => decide (p.1 ≠ w), ⟨?_, ?_⟩, xY _ _⟩
 ·clear nd
  unfold PdR Qan at *
  induction h with
  | nil => exact .nil
  | @cons p q _ _ z _ ih =>
   by_cases e : q.1 = w
   ·rw [wJ (by rw [z.1, e]; simp), wJ (by simp [e])]
    exact ih
   ·have e7 : ¬ p.1 = Sum.inr w := by rw [z.1]; exact fun z5 => e (Sum.inr.inj z5)
    rw [wZ (by simpa using e7), wZ (by simpa using e)]
    exact .cons z ih
 ·exact nd.sublist (List.Sublist.map _ List.filter_sublist)
def okV (n : Int) (B : List BR) (w : Str) : Option (Option (Str × Int)) → Bool
 | some (some q) => match B.filterMap (lenOf w q.1) with
  | [] => false
  | l :: _ => decide (0 ≤ q.2) && decide (q.2 + l ≤ n)
 | _ => false
def badW (n : Int) (B : List BR) (pd : PD) : List Str := (wks B).filter fun w => !okV n B w (lk pd w)
def othW (B : List BR) (qs : List Str) : List Str := qs.filter fun w => decide (w ∉ wks B)
abbrev wkT (w : Str) : List Key := [Sum.inr ("work" : Str), Sum.inr w]
theorem Qbg {n : Int} {B : List BR} (wb : WB n B) {w : Str} {q : Str × Int} : okV n B w (some (some q)) = true ↔ ∃ l c, BR.way w q.1 l c ∈ B ∧ 0 ≤ q.2 ∧ q.2 + l ≤ n := by
 unfold okV
 dsimp only
 cases e : B.filterMap (lenOf w q.1) with
 | nil =>
  refine ⟨fun z => (nomatch z), fun hqP => ?_⟩
  obtain ⟨l, c, h, _⟩ := hqP
  have hm : l ∈ B.filterMap (lenOf w q.1) := jQc.mpr ⟨_, h, lenOf_some.mpr ⟨c, rfl⟩⟩
  rw [e] at hm
  exact nomatch hm
 | cons a r =>
  have ha : a ∈ B.filterMap (lenOf w q.1) := by rw [e]; exact jK
  obtain ⟨rr, hr, e5⟩ := jQc.mp ha
  obtain ⟨c', rfl⟩ := lenOf_some.mp e5
  dsimp only
  rw [wX, decide_eq_true_iff, decide_eq_true_iff]
  refine ⟨fun z => ⟨a, c', hr, z.1, z.2⟩, fun ⟨l, c, h, z1, z2⟩ => ⟨z1, ?_⟩⟩
  rw [(wb.way1 hr h).1]; exact z2
def leS (a b : Str) : Prop := Spec.ltCps b.cps.toList a.cps.toList = false
theorem Qil {a b : Str} : leS a b ↔ ¬ b.cps.toList < a.cps.toList := by
 unfold leS
 rw [PyProof.Rows.ltCps_eq, decide_eq_false_iff_not]
theorem Qab : ∀ {l : List Str}, PyProof.Rows.sortedS l = true → l.Pairwise leS := by
 have key : ∀ (l : List Str) (x : Str), PyProof.Rows.risingS x l = true → (x :: l).Pairwise leS := by
  intro l
  induction l with
  | nil => intro x _; exact jXc _ _
  | cons y r ih =>
   intro x h
   rw [PyProof.Rows.risingS.eq_2, wX, Bool.not_eq_true'] at h
   have h2 := ih y h.2
   refine jXa.mpr ⟨fun z hz => ?_, h2⟩
   have hxy : leS x y := h.1
   rcases yJ.mp hz with e | e
   ·rw [e]; exact hxy
   ·have hyz := (jXa.mp h2).1 z e
    rw [Qil] at *
    exact kYe.mpr (List.le_trans (kYe.mp hxy) (kYe.mp hyz))
 intro l h
 cases l with
 | nil => exact .nil
 | cons x r => exact key r x h
theorem oth_eq {B : List BR} {qs os ks : List Str} (h1 : qs.Perm ks) (h2 : PyProof.Rows.sortedS qs = true) (h3 : os.Perm (othW B ks)) (h4 : PyProof.Rows.sortedS os = true) : othW B qs = os := by
 refine List.Perm.eq_of_pairwise (le := leS) (fun a b _ _ z1 z2 => ?_) ((Qab h2).sublist List.filter_sublist) (Qab h4) ((h1.filter _).trans h3.symm)
 rw [Qil] at z1 z2
 have e := List.le_antisymm (kYe.mp z1) (kYe.mp z2)
 cases a with
 | mk a => cases b with
  | mk b => exact congrArg Str.mk (Array.toList_inj.mp e)
abbrev sIW : Stmt := top 2
abbrev sIP : Stmt := top 3
abbrev Qkv : Stmt := top 11
abbrev sWW : Stmt := top 12
theorem Qew (ws : List Str) : (ws.map V.str).all Yt = true := jZc.mpr fun v hv => by
 obtain ⟨w, _, rfl⟩ := zV.mp hv
 rfl
theorem Qdx {w : Str} {ws : List Str} (h : w ∈ ws) : inV (.str w) (ws.map V.str) = true := jYa.mpr ⟨.str w, zV.mpr ⟨w, h, rfl⟩, by
 show (w == w) = true
 exact beq_self_eq_true w⟩
theorem inV_str_iff {w : Str} {ws : List Str} : inV (.str w) (ws.map V.str) = true ↔ w ∈ ws := by
 refine ⟨fun h => ?_, Qdx⟩
 obtain ⟨v, hv, e⟩ := jYa.mp h
 obtain ⟨x, hx, rfl⟩ := zV.mp hv
 have e' : (x == w) = true := e
 rw [← beq_iff_eq.mp e']; exact hx
def Qex (K : Fg) (H : Hp) (v : V) : Prop := Yt v = true ∨ ∃ t ys, v = .ref t ∧ SqT K H t ys
def isInt : V → Bool
 | .int _ => true
 | _ => false
def spIW (K : Fg) : Sp := fun vs H Q _ => ∃ v : V, vs = [v] ∧ Qex K H v ∧ Q (.bl (isInt v)) H
def spIP (K : Fg) : Sp := fun vs H Q _ => ∃ v : V, vs = [v] ∧ ((Yt v = true ∧ Q (.bl false) H) ∨ (∃ l xs, v = .ref l ∧ SqL K H l xs ∧ Q (.bl false) H) ∨ ∃ t xs, v = .ref t ∧ SqT K H t xs ∧ ∀ c : Bool, (c = true ↔ xs.length = 2) → Q (.bl c) H)
def Qcw (K : Fg) (C : Addr) : Sp := fun vs H Q _ => ∃ (p : Addr) (n : Int) (B : List BR) (w v : Str), vs = [.ref p, .str w, .str v] ∧ FcAt K C H p n B ∧ ∀ (c : Bool) H', (c = true ↔ ∃ l k, BR.way w v l k ∈ B) → Same H H' → Q (.bl c) H'
def Qly (K : Fg) (C : Addr) : Sp := fun vs H Q _ => ∃ (p : Addr) (n : Int) (B : List BR) (w : Str) (v : V) (o : Option (Str × Int)), vs = [.ref p, .str w, v] ∧ FcAt K C H p n B ∧ WB n B ∧ PvIs K H v o ∧ ∀ H', Same H H' → Q (.bl (okV n B w (some o))) H'
def spWW (K : Fg) (C : Addr) : Sp := fun vs H Q _ => ∃ (p P : Addr) (n : Int) (B : List BR) (kvs : List (Key × V)) (pd : PD), vs = [.ref p, .ref P] ∧ FcAt K C H p n B ∧ BookOk n B ∧ H P = some (.dK kvs) ∧ PdAt K H kvs pd ∧ pd.length < 64 ∧ ∀ (D : Addr) (xs : List V) (H' : Hp) (qs : List Str), Same H H' → H' D = some (.lst xs) → xs.length ≤ 5200 → qs.Perm (pd.map (·.1)) → PyProof.Rows.sortedS qs = true → TupK H' xs ((badW n B pd ++ othW B qs).map wkT) → Q (.ref D) H'
theorem Qoc {r : BR} {w v : Str} (h : r.key = [Sum.inr ("way" : Str), Sum.inr w, Sum.inr v]) : ∃ l c, r = .way w v l c := by
 have h' : ((Sum.inr r.word : Key) :: r.names.map Sum.inr) = [Sum.inr ("way" : Str), Sum.inr w, Sum.inr v] := h
 have hw : r.word = "way" := by
  injection h' with z1
  exact Sum.inr.inj z1
 obtain ⟨w', v', l, c, rfl⟩ := Qav hw
 have z2 : [(Sum.inr ("way" : Str) : Key), Sum.inr w', Sum.inr v'] = [Sum.inr ("way" : Str), Sum.inr w, Sum.inr v] := h
 injection z2 with _ z3
 injection z3 with z4 z5
 injection z5 with z6
 cases z4
 cases z6
 exact ⟨l, c, rfl⟩
section
variable {P : Program} {w : World} {K : Fg} {mg : Str → Option Value} {base : Heap}
theorem okFcY2 {f C : Addr} {fd : FuncData} (F : Fun K "is_way" "Facts.is_way" Kj f fd) (T : FcTxt K mg C) : FnOk P w K mg base CX0 1 f fd ["self", "work", "way"] (Qcw K C) := by
 refine F.ok scFcY (fun vs H Q E h => ?_) (fun cdv A outer s H vs Q E hr h => ?_)
 ·obtain ⟨p, n, B, w, v, rfl, _⟩ := h
  rfl
 ·obtain ⟨p, n, B, w, v, rfl, ⟨dx, lw, lb, lh, ls, la, ds, fs, kvs, yh, ysS, ya, hF⟩, q⟩ := h
  have hu := Qgr hr
  refine ⟨_, (Ql (Xe (pe_cmp (Qlo hu (Xh (Qa Qx (Qa (pv 1) (Qa (pv 2) Qf)))) (Zh (pv 0) rfl))))), ?_⟩
  refine ⟨_, rfl, _, rfl, by show 3 ≤ sizeLine; decide, fun t1 ht1 => ?_⟩
  have s1 := Qc ht1 (.tup [.str "way", .str w, .str v])
  by_cases hl : ∃ l c, BR.way w v l c ∈ B
  ·obtain ⟨l, c, hway⟩ := hl
   obtain ⟨t, dg, hT⟩ := Qdp (hF.sd.same s1) hway (s1 _ _ hF.hI) Qb
   exact ⟨_, rfl, p, C, dx, fs, _, rfl, s1 _ _ hF.hp, T.cl, T.nI, hF.fI, ds, _, rfl, dg, q _ _ ⟨fun _ => ⟨l, c, hway⟩, fun _ => rfl⟩ s1⟩
  ·have hg := DGet.t (k := [Sum.inr ("way" : Str), Sum.inr w, Sum.inr v]) (s1 _ _ hF.hI) (show upd H t1 (.tup [.str "way", .str w, .str v]) t1 = some (.tup _) from Qb)
   rw [(hF.sd.same s1).2 _ fun r hr z => hl (by obtain ⟨l, c, rfl⟩ := Qoc z; exact ⟨l, c, hr⟩)] at hg
   exact ⟨_, rfl, p, C, dx, fs, _, rfl, s1 _ _ hF.hp, T.cl, T.nI, hF.fI, ds, _, rfl, hg, q _ _ ⟨fun z => (nomatch z), fun z => absurd z hl⟩ s1⟩
theorem scIW : FnScope ["thing"] ["thing"] (Qi sIW) := ⟨rfl, rfl, rfl, by decide +kernel, rfl, by decide +kernel, by decide +kernel⟩
theorem okIW (F : Fn K mg "is_whole" sIW) (M : Mg mg) : Cal P w K mg base 1 "is_whole" ["thing"] (spIW K) := by
 refine Ya F scIW (fun _ _ _ _ _ _ => bind1 (fun _ => rfl)) (fun vs H Q E h => ?_) (fun f cdv A outer s H vs Q E hr h => ?_)
 ·obtain ⟨v, rfl, _⟩ := h
  rfl
 obtain ⟨v, rfl, hv, q⟩ := h
 refine ⟨_, (Ql (Xe (Vh (Qs Zl rfl M.isinstance Xs (Qa (pv 0) (Qa (Qcd M.int_ Qln) Qf))) (Wq (Qla (Qs Zl rfl M.isinstance Xs (Qa (pv 0) (Qa (Qcd M.bool_ Qgx) Qf)))))))), ?_⟩
 rcases hv with hv | ⟨t, ys, rfl, hT⟩
 ·cases v with
  | int i => exact ⟨_, rfl, _, _, _, rfl, .int, rfl, _, rfl, _, rfl, _, _, _, rfl, .bool, rfl, _, rfl, q⟩
  | bl b => exact ⟨_, rfl, _, _, _, rfl, .int, rfl, _, rfl, _, rfl, _, _, _, rfl, .bool, rfl, _, rfl, q⟩
  | non => exact ⟨_, rfl, _, _, _, rfl, .int, rfl, _, rfl, q⟩
  | str x => exact ⟨_, rfl, _, _, _, rfl, .int, rfl, _, rfl, q⟩
  | _ => exact nomatch hv
 ·exact ⟨_, rfl, _, _, _, rfl, .int, .inl ⟨⟨_, hT⟩, rfl⟩, _, rfl, q⟩
theorem scIP : FnScope ["thing"] ["thing"] (Qi sIP) := ⟨rfl, rfl, rfl, by decide +kernel, rfl, by decide +kernel, by decide +kernel⟩
theorem okIP (F : Fn K mg "is_pair" sIP) (M : Mg mg) : Cal P w K mg base 1 "is_pair" ["thing"] (spIP K) := by
 refine Ya F scIP (fun _ _ _ _ _ _ => bind1 (fun _ => rfl)) (fun vs H Q E h => ?_) (fun f cdv A outer s H vs Q E hr h => ?_)
 ·obtain ⟨v, rfl, _⟩ := h
  rfl
 refine ⟨_, (Ql (Xe (Vh (Qs Zl rfl M.isinstance Xs (Qa (pv 0) (Qa (Qcd M.tuple_ Zp) Qf))) (Wq (Qag Ym (Qs Qv rfl M.len Yj (Qa (pv 0) Qf)) Qe (Qw _)))))), ?_⟩
 obtain ⟨v, rfl, ⟨hv, q⟩ | ⟨l, xs, rfl, hL, q⟩ | ⟨t, xs, rfl, hT, q⟩⟩ := h
 ·cases v with
  | int i => exact ⟨_, rfl, _, _, _, rfl, .tuple, rfl, _, rfl, q⟩
  | bl b => exact ⟨_, rfl, _, _, _, rfl, .tuple, rfl, _, rfl, q⟩
  | non => exact ⟨_, rfl, _, _, _, rfl, .tuple, rfl, _, rfl, q⟩
  | str x => exact ⟨_, rfl, _, _, _, rfl, .tuple, rfl, _, rfl, q⟩
  | _ => exact nomatch hv
 ·exact ⟨_, rfl, _, _, _, rfl, .tuple, .inr ⟨⟨_, hL⟩, rfl⟩, _, rfl, q⟩
 ·exact ⟨_, rfl, _, _, _, rfl, .tuple, .inl ⟨⟨_, hT⟩, rfl⟩, _, rfl, _, rfl, _, _, rfl, .inr hT, rfl, q _ (by
   rw [decide_eq_true_iff]
   exact ⟨fun z => (by injection z with z; omega), fun z => (by rw [z]; rfl)⟩)⟩
theorem scTold : FnScope ["facts", "work", "thing"] ["facts", "work", "thing"] (Qi Qkv) := ⟨rfl, rfl, rfl, by decide +kernel, rfl, by decide +kernel, by decide +kernel⟩
theorem okTold {C fY fL : Addr} {fdY fdL : FuncData} (F : Fn K mg "is_as_told" Qkv) (M : Mg mg) (T : FcTxt K mg C) (GY : FnOk P w K mg base CX0 1 fY fdY ["self", "work", "way"] (Qcw K C)) (bY : Binds K fdY ["self", "work", "way"] []) (mY : Meth K C "is_way" fY) (GL : FnOk P w K mg base CX0 1 fL fdL ["self", "work", "way"] (Qhx K C)) (bL : Binds K fdL ["self", "work", "way"] []) (mL : Meth K C "last_begin" fL) (c_is_whole : Cal P w K mg base 1 "is_whole" ["thing"] (spIW K)) (c_is_pair : Cal P w K mg base 1 "is_pair" ["thing"] (spIP K)) : Cal P w K mg base 2 "is_as_told" ["facts", "work", "thing"] (Qly K C) := by
 refine Ya F scTold (fun _ _ _ _ _ _ => Qfn (fun _ _ _ => rfl)) (fun vs H Q E h => ?_) (fun f cdv A outer s H vs Q E hr h => ?_)
 ·obtain ⟨p, n, B, w, v, o, rfl, _⟩ := h
  rfl
 refine ⟨_, (Qh (Xx (PW.pt (Qgd (Ks (Jv (Xp c_is_pair (hr.mono (by decide)) (Qa (pv 2) Qf)))) (Qgd (Ks (Jv (Qs Zl rfl M.isinstance Xs (Qa (Qu Yr (pv 2) Qe (fun _ _ => rfl)) (Qa (Qcd M.str_ Qlq) Qf))))) (Qgc (Ks (Jv (Zi (pv 0) T.cl mY GY (hr.mono (by decide)) bY .nil Kk (Qa (pv 1) (Qa (Qu Yr (pv 2) Qe (fun _ _ => rfl)) Qf))))))))) (Ql (Xe Qbl)) Xa)
  (Ql (Xe (Vh (Xp c_is_whole (hr.mono (by decide)) (Qa (Qu Yr (pv 2) Qe (fun _ _ => rfl)) Qf)) (Wq (Qeb Qae Qae Qe (Qu Yr (pv 2) Qe (fun _ _ => rfl)) (Zi (pv 0) T.cl mL GL (hr.mono (by decide)) bL .nil Kk (Qa (pv 1) (Qa (Qu Yr (pv 2) Qe (fun _ _ => rfl)) Qf))))))))), ?_⟩
 obtain ⟨p, n, B, w, v, o, rfl, hFc, wb, hv, q⟩ := h
 obtain ⟨dx, lw, lb, lh, ls, la, ds, fs, kvs, yh, ysS, ya, hF⟩ := id hFc
 have hcase : (o = none ∧ (Yt v = true ∨ (∃ l xs, v = .ref l ∧ SqL K H l xs) ∨ ∃ t xs, v = .ref t ∧ SqT K H t xs ∧ xs.length ≠ 2)) ∨ ∃ t a b, v = .ref t ∧ SqT K H t [a, b] ∧ Yt a = true ∧ Qex K H b ∧ ((∀ x i, ¬ (a = .str x ∧ b = .int i)) ∧ o = none ∨ ∃ x i, a = .str x ∧ b = .int i ∧ o = some (x, i)) := by
  cases o with
  | some r =>
   obtain ⟨t, e, hT, _⟩ := hv
   exact .inr ⟨t, _, _, e, hT, rfl, .inl rfl, .inr ⟨r.1, r.2, rfl, rfl, rfl⟩⟩
  | none =>
   rcases hv with h5 | ⟨l, xs, e, hL⟩ | ⟨t, xs, e, hT, hn⟩ | ⟨t, a, b, e, hT, fa, hb⟩
   ·exact .inl ⟨rfl, .inl h5⟩
   ·exact .inl ⟨rfl, .inr (.inl ⟨l, xs, e, hL⟩)⟩
   ·exact .inl ⟨rfl, .inr (.inr ⟨t, xs, e, hT, hn⟩)⟩
   ·rcases hb with ⟨fb, h6⟩ | ⟨t', ys, e2, hT'⟩
    ·exact .inr ⟨t, a, b, e, hT, fa.1, .inl fb.1, .inl ⟨h6, rfl⟩⟩
    ·exact .inr ⟨t, a, b, e, hT, fa.1, .inr ⟨t', ys, e2, hT'⟩, .inl ⟨fun x i z => (by rw [e2] at z; exact nomatch z.2), rfl⟩⟩
 clear hv
 rcases hcase with ⟨rfl, h5⟩ | ⟨t, a, b, rfl, hT, fa, hb, ho⟩
 ·have q0 := q H (Same.refl _)
  rcases h5 with h5 | ⟨l, xs, rfl, hL⟩ | ⟨t, xs, rfl, hT, hn⟩
  ·exact ⟨_, rfl, _, rfl, .inl ⟨h5, _, rfl, ite2 (fun _ => ite2 (fun _ => q0) (fun y => absurd rfl y)) (fun y => absurd rfl y)⟩⟩
  ·exact ⟨_, rfl, _, rfl, .inr (.inl ⟨l, xs, rfl, hL, _, rfl, ite2 (fun _ => ite2 (fun _ => q0) (fun y => absurd rfl y)) (fun y => absurd rfl y)⟩)⟩
  ·refine ⟨_, rfl, _, rfl, .inr (.inr ⟨t, xs, rfl, hT, fun c hc => ?_⟩)⟩
   have : c = false := by
    cases c with
    | false => rfl
    | true => exact absurd (hc.mp rfl) hn
   subst this
   exact ⟨_, rfl, ite2 (fun _ => ite2 (fun _ => q0) (fun y => absurd rfl y)) (fun y => absurd rfl y)⟩
 ·-- a pair whose first is flat
  refine ⟨_, rfl, _, rfl, .inr (.inr ⟨t, _, rfl, hT, fun c hc => ?_⟩)⟩
  obtain rfl : c = true := hc.mpr rfl
  refine ⟨_, rfl, ite2 (fun y => nomatch y) (fun _ => ?_)⟩
  refine ⟨_, rfl, t, _, _, _, rfl, rfl, hT, (show atI [a, b] 0 = some a from rfl), ?_⟩
  have no : (∀ x, a ≠ .str x) → okV n B w (some o) = false := fun ne => by
   rcases ho with ⟨_, rfl⟩ | ⟨x, i, e1, _⟩
   ·rfl
   ·exact absurd e1 (ne x)
  cases a with
  | non => exact ⟨_, _, _, rfl, .str, rfl, _, rfl, ite2 (fun _ => ite2 (fun _ => by have := q H (Same.refl _); rwa [no (fun x z => nomatch z)] at this) (fun y => absurd rfl y)) (fun y => absurd rfl y)⟩
  | bl b' => exact ⟨_, _, _, rfl, .str, rfl, _, rfl, ite2 (fun _ => ite2 (fun _ => by have := q H (Same.refl _); rwa [no (fun x z => nomatch z)] at this) (fun y => absurd rfl y)) (fun y => absurd rfl y)⟩
  | int b' => exact ⟨_, _, _, rfl, .str, rfl, _, rfl, ite2 (fun _ => ite2 (fun _ => by have := q H (Same.refl _); rwa [no (fun x z => nomatch z)] at this) (fun y => absurd rfl y)) (fun y => absurd rfl y)⟩
  | str x =>
   refine ⟨_, _, _, rfl, .str, rfl, _, rfl, ite2 (fun y => nomatch y) (fun _ => ?_)⟩
   refine ⟨_, rfl, p, dx, fs, rfl, hF.hp, hF.nY, _, rfl, _, rfl, t, _, _, _, rfl, rfl, hT, (show atI [V.str x, b] 0 = some (.str x) from rfl), ?_⟩
   refine ⟨p, n, B, w, x, rfl, hFc, fun c H1 hc s1 => ?_⟩
   have hT1 := s1.tup hT
   cases c with
   | false =>
    have hn : okV n B w (some o) = false := by
     rcases ho with ⟨_, rfl⟩ | ⟨x', i, e1, _, rfl⟩
     ·rfl
     ·cases e1
      cases e5 : okV n B w (some (some (x, i))) with
      | false => rfl
      | true =>
       obtain ⟨l, k, h5, _⟩ := (Qbg wb).mp e5
       exact absurd (hc.mpr ⟨l, k, h5⟩) (by decide)
    rw [hn] at q
    exact ⟨_, rfl, ite2 (fun _ => q H1 s1) (fun y => absurd rfl y)⟩
   | true =>
    obtain ⟨l, k, hway⟩ := hc.mp rfl
    refine ⟨_, rfl, ite2 (fun y => nomatch y) (fun _ => ?_)⟩
    have hb1 : Qex K H1 b := hb.imp id fun ⟨t', ys, e, z⟩ => ⟨t', ys, e, s1.tup z⟩
    refine ⟨_, rfl, t, _, _, _, rfl, rfl, hT1, (show atI [V.str x, b] 1 = some b from rfl), b, rfl, hb1, ?_⟩
    rcases ho with ⟨h6, rfl⟩ | ⟨x', i, e1, rfl, rfl⟩
    ·have hi : isInt b = false := by
      cases b with
      | int i => exact absurd ⟨rfl, rfl⟩ (h6 x i)
      | _ => rfl
     rw [hi]
     exact ⟨_, rfl, ite2 (fun y => nomatch y) (fun _ => q H1 s1)⟩
    ·cases e1
     refine ⟨_, rfl, ite2 (fun _ => ?_) (fun y => absurd rfl y)⟩
     refine ⟨_, rfl, t, _, _, _, rfl, rfl, hT1, (show atI [V.str x, V.int i] 1 = some (.int i) from rfl), ?_⟩
     refine ⟨_, _, rfl, rfl, _, rfl, ite2 (fun y => ?_) (fun y => ?_)⟩
     ·refine ⟨_, rfl, p, dx, fs, rfl, s1 _ _ hF.hp, hF.nL, _, rfl, _, rfl, t, _, _, _, rfl, rfl, hT1, (show atI [V.str x, V.int i] 0 = some (.str x) from rfl), p, n, B, w, x, l, k, rfl, hFc.same s1, hway, fun H2 s2 => ⟨_, _, rfl, rfl, ?_⟩⟩
      have y' : 0 ≤ i := kY y
      have e7 : okV n B w (some (some (x, i))) = decide (i ≤ n - l) := by
       rw [jZf, Qbg wb, decide_eq_true_iff]
       refine ⟨fun hqP => ?_, fun z => ⟨l, k, hway, y', by show i + l ≤ n; omega⟩⟩
       obtain ⟨l', k', h1, h2, h3⟩ := hqP
       have h3' : i + l' ≤ n := h3
       have := (wb.way1 hway h1).1
       omega
      have := q _ (s1.trans s2)
      rwa [e7] at this
     ·have e7 : okV n B w (some (some (x, i))) = false := by
       cases e5 : okV n B w (some (some (x, i))) with
       | false => rfl
       | true =>
        obtain ⟨_, _, _, h5, _⟩ := (Qbg wb).mp e5
        exact absurd (kZ h5) y
      have := q _ s1
      rw [e7] at this
      exact this
  | _ => exact nomatch fa
theorem scWW : FnScope ["facts", "plan", "wrong"] ["facts", "plan"] (Qi sWW) := ⟨rfl, rfl, rfl, by decide +kernel, rfl, by decide +kernel, by decide +kernel⟩
theorem okWW {C : Addr} (F : Fn K mg "wrong_works" sWW) (M : Mg mg) (T : FcTxt K mg C) (c_is_as_told : Cal P w K mg base 2 "is_as_told" ["facts", "work", "thing"] (Qly K C)) : Cal P w K mg base 4 "wrong_works" ["facts", "plan"] (spWW K C) := by
 refine Ya F scWW (fun _ _ _ _ _ _ => Kx (fun _ _ => rfl)) (fun vs H Q E h => ?_) (fun f cdv A outer s H vs Q E hr h => ?_)
 ·obtain ⟨p, P, n, B, kvs, pd, rfl, _⟩ := h
  rfl
 obtain ⟨p, P, n, B, kvsP, pd, rfl, hFc, bk, hP, hpd, h64, q⟩ := h
 obtain ⟨dx, lw, lb, lh, ls, la, ds, fs, kvs, yh, ysS, ya, hF⟩ := id hFc
 have hz : (20000 : Nat) < sizeLine := by decide
 have hu : (A.deeper (PyProof.Rows.envOfC "wrong_works" (Qi sWW) s.heap.objs.size f cdv)).units + 1 < cLine := xQ (xV (by decide) _) hr.un
 have bl := bk.wb.len
 have wl : (wks B).length ≤ B.length := wY _ _
 have fl : (badW n B pd).length ≤ (wks B).length := xY _ _
 have lkk := hpd.len
 refine ⟨_, (Qh (Qaj (i := 2) ["work", "facts", "plan"] [none, some 0, some 1] rfl scWW.nd rfl (Or.inl rfl) (Xk (Zh (pv 0) rfl)) (fun _ _ _ => (Qt (i := 0) (show (["work", "facts", "plan"] : List Str).Nodup by decide +kernel) rfl (Or.inl rfl) (Or.inr rfl))) (fun _ _ _ => (Zk (Ks (Jv (Xp c_is_as_told (hr.mono (by decide)) (Qa (pv 1) (Qa (pv 0) (Qa (Qjn hu (pv 2) (pv 0) ⟨rfl, rfl, rfl, rfl⟩) Qf)))))))) (fun _ _ _ => (pv 0)))
  (Ql (Xe (Zs ["work"] [none] rfl (Xk (Qm Ji (pv 2) (Zs ["work", "facts"] [none, some 0] rfl (Xk (Qs (Qcs rfl) rfl M.sorted Vt (Qa (pv 1) Qf))) (fun _ _ _ => (Qt (i := 0) (show (["work", "facts"] : List Str).Nodup by decide +kernel) rfl (Or.inl rfl) (Or.inr rfl))) (fun _ _ _ => (Zk (Qp (Kc (K := K) rfl) (pv 0) (Qnx (K := K) rfl (pv 1) rfl) rfl))) (fun _ _ _ => (pv 0))))) (fun _ _ _ => (Qt (i := 0) (show (["work"] : List Str).Nodup by decide +kernel) rfl (Or.inl rfl) (Or.inr rfl))) (fun _ _ _ => Kb) (fun _ _ _ => (Xh (Qa Qx (Qa (pv 0) Qf)))))))), ?_⟩
 refine ⟨_, rfl, p, C, dx, fs, _, rfl, hF.hp, T.cl, T.nW, hF.fW, lw, rfl, ⟨_, Qd hF.hW⟩, fun D hD => ?_⟩
 let Pv31 : Nat → St → List V → Hp → Prop := fun m τ zs H1 => ∃ v : Option V, τ = [v, some (.ref p), some (.ref P)] ∧ zs = (((wks B).take m).filter fun w => !okV n B w (lk pd w)).map V.str ∧ H1 D = some (.lst zs) ∧ Same H H1
 refine Yd (n := (wks B).length) Pv31 ?_ (fun m τ zs H1 hm h => ?_) (fun m τ zs H1 hm h => ?_) (fun τ zs H1 h => ?_) ?_ ?_
 ·exact ⟨none, rfl, rfl, Qb, Qc hD _⟩
 ·obtain ⟨v, rfl, rfl, hE, s1⟩ := h
  have := xY (fun w => !okV n B w (lk pd w)) ((wks B).take m)
  rw [xZ] at this
  exact ⟨hE, by rw [jZ]; omega⟩
 ·obtain ⟨v, rfl, rfl, hE, s1⟩ := h
  exact ⟨_, .str (wks B)[m], s1.seq (Qd hF.hW), by rw [yY, gE hm]; rfl⟩
 ·obtain ⟨v, rfl, rfl, hE, s1⟩ := h
  exact ⟨_, s1.seq (Qd hF.hW), by rw [jZ]; exact jX _⟩
 ·rintro m τ zs H1 x H2 hm ⟨v, rfl, rfl, hE, s1⟩ ⟨rfl, e1⟩
  have ew : (wks B)[m]? = some (wks B)[m] := gE hm
  have ex := e1 _ (s1.seq (Qd hF.hW))
  rw [yY, ew] at ex
  cases ex
  generalize (wks B)[m] = wk at ew
  have hk1 := s1 _ _ hP
  refine ⟨_, rfl, _, rfl, _, rfl, P, rfl, .inl ⟨kvsP, .inl hk1⟩, _, rfl, _, DGet.k (k := Sum.inr wk) hk1, ?_⟩
  have hval : ∃ o, PvIs K H2 ((valV kvsP (Sum.inr wk)).getD .non) o ∧ okV n B wk (lk pd wk) = okV n B wk (some o) := by
   rcases Qev (hpd.mild (Same.mild s1)).rel wk with ⟨ev, el⟩ | ⟨v, o, ev, el, hv⟩
   ·rw [ev, el]; exact ⟨none, .inl rfl, rfl⟩
   ·rw [ev, el]; exact ⟨o, hv, rfl⟩
  obtain ⟨o, hv, eo⟩ := hval
  refine ⟨p, n, B, wk, _, o, rfl, hFc.same s1, bk.wb, hv, fun H3 s3 => ?_⟩
  rw [← eo]
  refine ⟨_, rfl, ite2 (fun y => ⟨_, rfl, s3 _ _ hE, _, rfl, ?_, Qb, fun b o e => ?_⟩) (fun y => ⟨_, rfl, ?_, s3 _ _ hE, s1.trans s3⟩)⟩
  ·rw [Zt ew, jQd, yQ, wZ (by exact y)]; rfl
  ·rw [Qj (Qk e hD)]; exact s3 _ _ (s1 _ _ e)
  ·rw [Zt ew, jQd, yQ, wJ (by exact y)]
   simp
 rintro τ zs H1 ⟨v, rfl, rfl, hE, s1⟩
 rw [kX] at hE
 refine ⟨_, rfl, _, rfl, P, kvsP, pd.map (·.1), rfl, s1 _ _ hP, hpd.keys, by omega, fun S qs hS hq hso => ?_⟩
 have s2 := Qc hS (.lst (qs.map V.str))
 have s12 := s1.trans s2
 have lq : qs.length = pd.length := by rw [hq.length_eq, jZ]
 have hqs : (upd H1 S (.lst (qs.map V.str))) S = some (.lst (qs.map V.str)) := Qb
 have hD2 : (upd H1 S (.lst (qs.map V.str))) D = some (.lst ((badW n B pd).map V.str)) := s2 _ _ hE
 generalize upd H1 S (.lst (qs.map V.str)) = H2 at s2 s12 hqs hD2
 refine ⟨S, rfl, ⟨_, Qd hqs⟩, fun D2 hD20 => ?_⟩
 let Pv32 : Nat → St → List V → Hp → Prop := fun m τ zs H3 => ∃ v : Option V, τ = [v, some (.ref p)] ∧ zs = (othW B (qs.take m)).map V.str ∧ H3 D2 = some (.lst zs) ∧ Same H2 H3
 refine Yd (n := qs.length) Pv32 ?_ (fun m τ zs H3 hm h => ?_) (fun m τ zs H3 hm h => ?_) (fun τ zs H3 h => ?_) ?_ ?_
 ·exact ⟨none, rfl, rfl, Qb, Qc hD20 _⟩
 ·obtain ⟨v, rfl, rfl, hE, s3⟩ := h
  have := xY (fun w => decide (w ∉ wks B)) (qs.take m)
  rw [xZ] at this
  exact ⟨hE, by rw [jZ]; unfold othW; omega⟩
 ·obtain ⟨v, rfl, rfl, hE, s3⟩ := h
  exact ⟨_, .str qs[m], s3.seq (Qd hqs), by rw [yY, gE hm]; rfl⟩
 ·obtain ⟨v, rfl, rfl, hE, s3⟩ := h
  exact ⟨_, s3.seq (Qd hqs), by rw [jZ]; exact jX _⟩
 ·rintro m τ zs H3 x H4 hm ⟨v, rfl, rfl, hE, s3⟩ ⟨rfl, e1⟩
  have ew : qs[m]? = some qs[m] := gE hm
  have ex := e1 _ (s3.seq (Qd hqs))
  rw [yY, ew] at ex
  cases ex
  generalize qs[m] = wk at ew
  have s13 := s12.trans s3
  refine ⟨_, rfl, _, rfl, p, C, dx, fs, _, rfl, s13 _ _ hF.hp, T.cl, T.nW, hF.fW, lw, _, rfl, .inl (s13.seq (Qd hF.hW)), rfl, Qew _, _, rfl, ite2 (fun y => ⟨_, rfl, hE, _, rfl, ?_, Qb, fun b o e => ?_⟩) (fun y => ⟨_, rfl, ?_, hE, s3⟩)⟩
  ·have hn : wk ∉ wks B := fun z => by
    have y' : (!inV (.str wk) ((wks B).map V.str)) = true := y
    rw [Qdx z] at y'
    exact nomatch y'
   unfold othW
   rw [Zt ew, jQd, yQ, wZ (p := fun w => decide (w ∉ wks B)) (kZ hn)]; rfl
  ·rw [Qj (Qk e hD20)]; exact s3 _ _ e
  ·have hn : ¬ (decide (wk ∉ wks B)) = true := fun z => y (by
    show (!inV (.str wk) ((wks B).map V.str)) = true
    cases e9 : inV (.str wk) ((wks B).map V.str) with
    | false => rfl
    | true => exact absurd (inV_str_iff.mp e9) (kY z))
   unfold othW
   rw [Zt ew, jQd, yQ, wJ (p := fun w => decide (w ∉ wks B)) hn]
   simp
 rintro τ zs H3 ⟨v, rfl, rfl, hE3, s3⟩
 rw [kX] at hE3
 have lo : (othW B qs).length ≤ qs.length := xY _ _
 refine ⟨D, D2, _, _, rfl, rfl, s3 _ _ hD2, hE3, ?_, fun W hW0 => ?_⟩
 ·rw [jZ, jZ]; omega
 rw [← yQ]
 generalize eL : badW n B pd ++ othW B qs = L at *
 have lL : L.length ≤ 5000 := by rw [← eL, jY]; omega
 have s4 := Qc hW0 (.lst (L.map V.str))
 have hWx : (upd H3 W (.lst (L.map V.str))) W = some (.lst (L.map V.str)) := Qb
 have sA := (s12.trans s3).trans s4
 generalize upd H3 W (.lst (L.map V.str)) = H4 at s4 hWx sA
 refine ⟨W, rfl, ⟨_, Qd hWx⟩, fun D3 hD3 => ?_⟩
 let Pv33 : Nat → St → List V → Hp → Prop := fun m τ xs H5 => ∃ v : Option V, τ = [v] ∧ TupK H5 xs ((L.take m).map wkT) ∧ xs.length ≤ m ∧ H5 D3 = some (.lst xs) ∧ Same H4 H5
 refine Yd (n := L.length) Pv33 ?_ (fun m τ xs H5 hm h => ?_) (fun m τ xs H5 hm h => ?_) (fun τ xs H5 h => ?_) ?_ ?_
 ·exact ⟨none, rfl, .nil, jX _, Qb, Qc hD3 _⟩
 ·obtain ⟨v, rfl, hX, hl, hE, s5⟩ := h
  exact ⟨hE, by omega⟩
 ·obtain ⟨v, rfl, hX, hl, hE, s5⟩ := h
  exact ⟨_, .str L[m], s5.seq (Qd hWx), by rw [yY, gE hm]; rfl⟩
 ·obtain ⟨v, rfl, hX, hl, hE, s5⟩ := h
  exact ⟨_, s5.seq (Qd hWx), by rw [jZ]; exact jX _⟩
 ·rintro m τ xs H5 x H6 hm ⟨v, rfl, hX, hl, hE, s5⟩ ⟨rfl, e1⟩
  have ew : L[m]? = some L[m] := gE hm
  have ex := e1 _ (s5.seq (Qd hWx))
  rw [yY, ew] at ex
  cases ex
  generalize L[m] = wk at ew
  refine ⟨_, rfl, by show 2 ≤ sizeLine; decide, fun t2 ht2 => ?_⟩
  have s7 := Qc ht2 (.tup [.str "work", .str wk])
  have hE7 := s7 _ _ hE
  refine ⟨hE7, _, rfl, ?_, by rw [jY]; exact zZ hl, Qb, fun b o e => ?_⟩
  ·rw [Zt ew, yQ]
   exact Paired.snoc ((hX.same s7).updL hE7) ⟨t2, rfl, by rw [Qj (Yl Qb hE7 (by intro z; cases z))]; exact Qb⟩
  ·rw [Qj (Qk e hD3)]; exact s7 _ _ (s5 _ _ e)
 ·rintro τ xs H5 ⟨v, rfl, hX, hl, hE, s5⟩
  rw [kX] at hX
  exact q D3 xs H5 qs (sA.trans s5) hE (by omega) hq hso (by rw [eL]; exact hX)
end
abbrev Qbh : Stmt := top 16
theorem TupK.app {H : Hp} {a b : List V} {ks ls : List (List Key)} (h1 : TupK H a ks) (h2 : TupK H b ls) : TupK H (a ++ b) (ks ++ ls) := by
 unfold TupK at h1 h2 ⊢
 induction h1 with
 | nil => exact h2
 | cons z _ ih => exact .cons z ih
theorem pd_pl : ∀ {pd : PD}, (∀ p ∈ pd, p.2.isSome = true) → ∃ pl : List (Str × Str × Int), pd = pl.map fun p => (p.1, some p.2)
 | [], _ => ⟨[], rfl⟩
 | p :: r, h => by
  obtain ⟨pl, e⟩ := pd_pl (pd := r) fun q hq => h q (zQ _ hq)
  have h1 := h p jK
  obtain ⟨w, o⟩ := p
  cases o with
  | none => exact nomatch h1
  | some q => exact ⟨(w, q) :: pl, by rw [e]; rfl⟩
theorem Qim {K : Fg} {H : Hp} : ∀ {pl : List (Str × Str × Int)} {kvs : List (Key × V)}, PdR K H kvs (pl.map fun p => (p.1, some p.2)) → Paired (fun (p : Key × V) (q : Str × Str × Int) => p.1 = Sum.inr q.1 ∧ ∃ t, p.2 = .ref t ∧ SqT K H t [.str q.2.1, .int q.2.2]) kvs pl
 | [], kvs, h => by cases h; exact .nil
 | p :: r, kvs, h => by
  cases h with
  | cons z t => exact .cons ⟨z.1, z.2.elim fun a h => ⟨a, h.1, h.2.1⟩⟩ (Qim t)
theorem gW_nil {B : List BR} {pl : List (Str × Str × Int)} (h : ∀ w, w ∈ wks B → hasK pl w = true) : B.flatMap (gW pl) = [] := by
 rw [List.flatMap_eq_nil_iff]
 intro r hr
 cases r with
 | work w =>
  show (if hasK pl w = true then [] else _) = _
  rw [if_pos (h w (wks_mem.mpr hr))]
 | _ => rfl
theorem Qod {K : Fg} {H : Hp} {P : Addr} {n : Int} {B : List BR} {kvs : List (Key × V)} {pd : PD} {qs : List Str} (wb : WB n B) (hP : H P = some (.dK kvs)) (hpd : PdAt K H kvs pd) (hq : qs.Perm (pd.map (·.1))) (h0 : badW n B pd ++ othW B qs = []) :
  ∃ pl, PlanAt K H P pl ∧ PlanFor n B pl ∧ B.flatMap (gW pl) = [] := by
 obtain ⟨hb, ho⟩ := List.append_eq_nil_iff.mp h0
 have hin : ∀ p ∈ pd, p.1 ∈ wks B := fun p hp => by
  have h1 : p.1 ∈ qs := hq.mem_iff.mpr (zV.mpr ⟨p, hp, rfl⟩)
  have h2 := List.filter_eq_nil_iff.mp ho p.1 h1
  exact Decidable.byContradiction fun z => h2 (kZ z)
 have hok : ∀ w ∈ wks B, okV n B w (lk pd w) = true := fun w hw => by
  have h2 := List.filter_eq_nil_iff.mp hb w hw
  cases e : okV n B w (lk pd w) with
  | true => rfl
  | false => rw [e] at h2; exact absurd rfl h2
 obtain ⟨pl, rfl⟩ := pd_pl (pd := pd) fun p hp => by
  have h1 := hok _ (hin p hp)
  rw [lk_of hpd.nd hp] at h1
  cases e : p.2 with
  | some q => rfl
  | none => rw [e] at h1; exact nomatch h1
 have ek : (pl.map fun p => (p.1, some p.2)).map (·.1) = pl.map (·.1) := by rw [jJe]; rfl
 have nd : (pl.map (·.1)).Nodup := by rw [← ek]; exact hpd.nd
 have good : ∀ p ∈ pl, ∃ l c, BR.way p.1 p.2.1 l c ∈ B ∧ 0 ≤ p.2.2 ∧ p.2.2 + l ≤ n := fun p hp => by
  have hm : (p.1, some p.2) ∈ pl.map fun p => (p.1, some p.2) := zV.mpr ⟨p, hp, rfl⟩
  have h1 := hok _ (hin _ hm)
  rw [lk_of hpd.nd hm] at h1
  exact (Qbg wb).mp h1
 have hall : ∀ w ∈ wks B, w ∈ pl.map (·.1) := fun w hw => by
  have h1 := hok w hw
  cases e : lk (pl.map fun p => (p.1, some p.2)) w with
  | none => rw [e] at h1; exact nomatch h1
  | some o =>
   rw [← ek]
   exact zV.mpr ⟨_, lk_mem e, rfl⟩
 refine ⟨pl, ⟨kvs, hP, Qim hpd.rel⟩, ⟨?_, good⟩, gW_nil fun w hw => hasK_iff.mpr (hall w hw)⟩
 refine (List.perm_ext_iff_of_nodup nd ((Qhs wb).filter _)).mpr fun w => ⟨fun hw => ?_, fun hw => hall w (xK.mp hw).1⟩
 obtain ⟨p, hp, rfl⟩ := zV.mp hw
 obtain ⟨l, c, h1, _⟩ := good p hp
 exact xK.mpr ⟨hin _ (zV.mpr ⟨p, hp, rfl⟩), hasW_iff.mpr ⟨_, l, c, h1⟩⟩
def Qlz (ks : List (List Key)) : Prop := ∀ k ∈ ks, ∃ x r, k = Sum.inr x :: r ∧ x ≠ ("work" : Str)
theorem noWork {n : Int} {B : List BR} {pl : List (Str × Str × Int)} : Qlz (B.flatMap (gR n B pl) ++ B.flatMap (gS n B pl) ++ B.flatMap (gA B pl)) := by
 intro k hk
 rcases kW.mp hk with hk | hk
 ·rcases kW.mp hk with hk | hk
  ·obtain ⟨r, hr, hk⟩ := List.mem_flatMap.mp hk
   cases r with
   | bench b c => obtain ⟨d, _, rfl⟩ := zV.mp hk; exact ⟨_, _, rfl, by decide +kernel⟩
   | _ => exact nomatch hk
  ·obtain ⟨r, hr, hk⟩ := List.mem_flatMap.mp hk
   cases r with
   | store b m f => obtain ⟨d, _, rfl⟩ := zV.mp hk; exact ⟨_, _, rfl, by decide +kernel⟩
   | _ => exact nomatch hk
 ·obtain ⟨r, hr, hk⟩ := List.mem_flatMap.mp hk
  cases r with
  | after w x g =>
   unfold gA at hk
   dsimp only at hk
   split at hk
   ·rw [kQ.mp hk]; exact ⟨_, _, rfl, by decide +kernel⟩
   ·exact nomatch hk
  | _ => exact nomatch hk
def Qma (H : Hp) : List Str → V → Prop
 | w :: _, v => Qhv H (some (wkT w)) v
 | [], v => v = .non ∨ ∃ t x r, v = .ref t ∧ H t = some (.tup (.str x :: r)) ∧ x ≠ ("work" : Str)
def Qey (K : Fg) : Sp := fun vs H Q _ => ∃ (d P : Addr) (n : Int) (us : List V) (B : List BR) (kvs : List (Key × V)) (pd : PD), vs = [.ref d, .ref P] ∧ H d = some (.lst us) ∧ RowsB H us B ∧ BookOk n B ∧ H P = some (.dK kvs) ∧ PdAt K H kvs pd ∧ pd.length < 64 ∧ ∀ (v : V) (H' : Hp) (qs : List Str), Same H H' → qs.Perm (pd.map (·.1)) → PyProof.Rows.sortedS qs = true → Qma H' (badW n B pd ++ othW B qs) v → Q v H'
section
variable {P : Program} {w : World} {K : Fg} {mg : Str → Option Value} {base : Heap}
theorem scBroken : FnScope ["book", "plan", "facts", "wrong", "taken"] ["book", "plan"] (Qi Qbh) := ⟨rfl, rfl, rfl, by decide +kernel, rfl, by decide +kernel, by decide +kernel⟩
theorem Qkw {C fI : Addr} {fdI : FuncData} (F : Fn K mg "broken" Qbh) (M : Mg mg) (T : FcTxt K mg C) (mkI : Mk K C fI) (GI : FnOk P w K mg base CX0 2 fI fdI ["self", "book"] (Qhw K C)) (bI : Binds K fdI ["self", "book"] []) (c_wrong_works : Cal P w K mg base 4 "wrong_works" ["facts", "plan"] (spWW K C)) (c_choices_taken : Cal P w K mg base 1 "choices_taken" ["facts", "plan"] (Qic K C)) (c_wrong_rooms : Cal P w K mg base 4 "wrong_rooms" ["facts", "taken"] (spWR K C)) (c_wrong_stores : Cal P w K mg base 4 "wrong_stores" ["facts", "taken"] (spWS K C)) (c_wrong_afters : Cal P w K mg base 4 "wrong_afters" ["facts", "taken"] (spWA K C)) : Cal P w K mg base 5 "broken" ["book", "plan"] (Qey K) := by
 refine Ya F scBroken (fun _ _ _ _ _ _ => Kx (fun _ _ => rfl)) (fun vs H Q E h => ?_) (fun f cdv A outer s H vs Q E hr h => ?_)
 ·obtain ⟨d, P, n, us, B, kvs, pd, rfl, _⟩ := h
  rfl
 obtain ⟨d, P, n, us, B, kvs, pd, rfl, hd, hB, bk, hP, hpd, h64, q⟩ := h
 have hz : (20000 : Nat) < sizeLine := by decide
 refine ⟨_, (Qh (Qr (i := 2) scBroken.nd rfl (Or.inl rfl) (Qmj mkI GI (hr.mono (by decide)) rfl T.mgC bI .nil Kk (Qa (pv 0) Qf)))
  (Qh (Qr (i := 3) scBroken.nd rfl (Or.inl rfl) (Xp c_wrong_works (hr.mono (by decide)) (Qa (pv 2) (Qa (pv 1) Qf))))
  (Qh (Xx (Qp Ym (Qs Qv rfl M.len Yj (Qa (pv 3) Qf)) Qe (Qw _)) (Qh (Qr (i := 4) scBroken.nd rfl (Or.inl rfl) (Xp c_choices_taken (hr.mono (by decide)) (Qa (pv 2) (Qa (pv 1) Qf))))
  (Ql (Qr (i := 3) scBroken.nd rfl (Or.inl rfl) (Qm Ji (Qm Ji (Xp c_wrong_rooms (hr.mono (by decide)) (Qa (pv 2) (Qa (pv 4) Qf))) (Xp c_wrong_stores (hr.mono (by decide)) (Qa (pv 2) (Qa (pv 4) Qf)))) (Xp c_wrong_afters (hr.mono (by decide)) (Qa (pv 2) (Qa (pv 4) Qf))))))) Xa)
  (Ql (Xe (Qir (Qp Qaf (Qs Qv rfl M.len Yj (Qa (pv 3) Qf)) Qe (Qw _)) (Qu Qq (pv 3) Qe (fun _ _ => rfl)) Kr)))))), ?_⟩
 refine ⟨_, rfl, fun p dx fp fdx ndx => ?_⟩
 dsimp only [tNil]
 have s1 : Same H (upd (upd H dx (.own p)) p (.ins C dx [])) := (Qc fdx _).trans (Qc (by rw [Qj ndx.symm]; exact fp) _)
 have hp1 : upd (upd H dx (.own p)) p (.ins C dx []) p = some (.ins C dx []) := Qb
 generalize upd (upd H dx (.own p)) p (.ins C dx []) = H1 at s1 hp1 ⊢
 refine ⟨p, d, dx, n, us, B, rfl, hp1, s1 _ _ hd, hB.same s1, bk, fun H2 hF fr => ⟨rfl, ?_⟩⟩
 have s2 : Same H H2 := fun b o e => fr b o (s1 _ _ e) (Qk e fp)
 refine ⟨_, rfl, _, rfl, p, P, n, B, kvs, pd, rfl, hF, bk, s2 _ _ hP, hpd.mild (Same.mild s2), h64, fun D xs H3 qs s3 hD hl hq hso hX => ?_⟩
 have s23 := s2.trans s3
 have q' := fun v H' sv => q v H' qs sv hq hso
 refine ⟨_, rfl, _, _, rfl, .inl (Qd hD), rfl, _, rfl, ite2 (fun y => ?_) (fun y => ?_)⟩
 rotate_left
 ·cases eL : badW n B pd ++ othW B qs with
  | nil =>
   rw [eL] at hX
   cases hX
   exact absurd rfl y
  | cons k r =>
   rw [eL] at hX q'
   cases hX with
   | cons z zs =>
    obtain ⟨t, rfl, ht⟩ := z
    refine ⟨_, rfl, _, _, rfl, .inl (Qd hD), _, _, rfl, rfl, _, rfl, ite2 (fun y => ?_) (fun y => absurd (kZ (by rw [yW]; omega)) y)⟩
    exact ⟨_, rfl, D, _, _, _, rfl, rfl, Qd hD, (show atI (V.ref t :: _) ((0 : Nat) : Int) = some (V.ref t) from Zj rfl), q' (.ref t) H3 s23 ⟨t, rfl, ht⟩⟩
 have eL : badW n B pd ++ othW B qs = [] := by
  cases e : badW n B pd ++ othW B qs with
  | nil => rfl
  | cons k r =>
   rw [e] at hX
   cases hX
   exact nomatch y
 rw [eL] at q'
 have hF3 := hF.same s3
 obtain ⟨pl, hPl, hpf, hW⟩ := Qod bk.wb (s23 _ _ hP) (hpd.mild (Same.mild s23)) hq eL
 refine ⟨_, rfl, _, rfl, p, P, n, B, pl, rfl, hF3, bk, hPl, hpf, hW, fun tk ys H4 s4 htk hTk => ?_⟩
 have hF4 := hF3.same s4
 refine ⟨_, rfl, _, rfl, p, tk, n, B, pl, ys, rfl, hF4, bk, hpf, hW, htk, hTk, fun D1 x1 H5 s5 h1 l1 t1 => ?_⟩
 have hTk5 : Zw K H5 pl ys (wks B) := Paired.mapP hTk fun _ _ ⟨t, e, z⟩ => ⟨t, e, s5.tup z⟩
 refine ⟨_, rfl, _, rfl, p, tk, n, B, pl, ys, rfl, hF4.same s5, bk, hpf, hW, s5 _ _ htk, hTk5, fun D2 x2 H6 s6 h2 l2 t2 => ?_⟩
 refine ⟨D1, D2, x1, x2, rfl, rfl, s6 _ _ h1, h2, by omega, fun W1 hW1 => ?_⟩
 have s7 := Qc hW1 (.lst (x1 ++ x2))
 have h7 : (upd H6 W1 (.lst (x1 ++ x2))) W1 = some (.lst (x1 ++ x2)) := Qb
 have t7 := (TupK.app (t1.same s6) t2).same s7
 generalize upd H6 W1 (.lst (x1 ++ x2)) = H7 at s7 h7 t7
 have s57 := s6.trans s7
 have hTk7 : Zw K H7 pl ys (wks B) := Paired.mapP hTk5 fun _ _ ⟨t, e, z⟩ => ⟨t, e, s57.tup z⟩
 refine ⟨_, rfl, _, rfl, p, tk, n, B, pl, ys, rfl, (hF4.same s5).same s57, bk, hpf, hW, s57 _ _ (s5 _ _ htk), hTk7, fun D3 x3 H8 s8 h3 l3 t3 => ?_⟩
 refine ⟨W1, D3, x1 ++ x2, x3, rfl, rfl, s8 _ _ h7, h3, by rw [jY]; omega, fun W2 hW2 => ?_⟩
 have s9 := Qc hW2 (.lst (x1 ++ x2 ++ x3))
 have h9 : (upd H8 W2 (.lst (x1 ++ x2 ++ x3))) W2 = some (.lst (x1 ++ x2 ++ x3)) := Qb
 have t9 := (TupK.app (t7.same s8) t3).same s9
 generalize upd H8 W2 (.lst (x1 ++ x2 ++ x3)) = H9 at s9 h9 t9
 have sA : Same H H9 := ((((s23.trans s4).trans s5).trans s57).trans s8).trans s9
 have nw : Qlz (B.flatMap (gR n B pl) ++ B.flatMap (gS n B pl) ++ B.flatMap (gA B pl)) := noWork
 generalize x1 ++ x2 ++ x3 = xs at h9 t9
 generalize B.flatMap (gR n B pl) ++ B.flatMap (gS n B pl) ++ B.flatMap (gA B pl) = ks at nw t9
 refine ⟨_, rfl, _, _, rfl, .inl (Qd h9), _, _, rfl, rfl, _, rfl, ite2 (fun y => ?_) (fun y => ?_)⟩
 ·cases t9 with
  | nil => exact nomatch y
  | cons z zs =>
   obtain ⟨t, rfl, ht⟩ := z
   obtain ⟨x, r, rfl, hx⟩ := nw _ jK
   exact ⟨_, rfl, W2, _, _, _, rfl, rfl, Qd h9, (show atI (V.ref t :: _) ((0 : Nat) : Int) = some (V.ref t) from Zj rfl), q' (.ref t) H9 sA (.inr ⟨t, x, _, rfl, ht, hx⟩)⟩
 ·cases t9 with
  | nil => exact q' .non H9 sA (.inl rfl)
  | cons z zs => exact absurd (kZ (by rw [yW]; omega)) y
end
abbrev sWhl : Stmt := top 19
abbrev sIsT : Stmt := top 32
theorem Qbi {xs : List V} {z : Int} (h : 0 < xs.length) : ∃ v, atI xs (z % ((xs.length : Nat) : Int)) = some v ∧ v ∈ xs := by
 have h1 := xW z (show ((xs.length : Nat) : Int) ≠ 0 by omega)
 have h2 := xX z (show (0 : Int) < ((xs.length : Nat) : Int) by omega)
 obtain ⟨k, hk⟩ : ∃ k : Nat, z % ((xs.length : Nat) : Int) = (k : Int) := ⟨(z % ((xs.length : Nat) : Int)).toNat, by omega⟩
 rw [hk]
 have hl : k < xs.length := by omega
 exact ⟨xs[k], Zj (gE hl), kXc hl⟩
theorem log2_small {n : Nat} (h : n ≤ 10 ^ 20) : n.log2 < 1920 := by
 by_cases e : n = 0
 ·subst e; decide
 ·rw [Nat.log2_lt e]
  exact xQ h (zY (show 10 ^ 20 < 2 ^ 67 by decide +kernel) (Nat.pow_le_pow_right (by decide) (by decide)))
def aW : V → Int → Option (Str × Int)
 | .str x, i => some (x, i)
 | _, _ => none
def Qoe (K : Fg) : Sp := fun vs H Q _ => ∃ (v : V) (o : Option (Str × Int)), vs = [v] ∧ PvIs K H v o ∧ (∀ t a i, v = .ref t → SqT K H t [a, .int i] → fb a → i.natAbs ≤ 10 ^ 20 → o = aW a i → Q (.bl true) H) ∧ (o = none → Q (.bl false) H)
def spStr (K : Fg) : Sp := fun vs H Q _ => ∃ (t : Addr) (a : V) (i z : Int), vs = [.ref t, .int z] ∧ SqT K H t [a, .int i] ∧ fb a ∧ i.natAbs ≤ 10 ^ 20 ∧ 0 ≤ z ∧ ∀ (v : V) (o : Option (Str × Int)) (H' : Hp), Same H H' → PvIs K H' v o → Q v H'
section
variable {P : Program} {w : World} {K : Fg} {mg : Str → Option Value} {base : Heap}
theorem scWhl : FnScope ["_law_found"] ["_law_found"] (Qi sWhl) := ⟨rfl, rfl, rfl, by decide +kernel, rfl, by decide +kernel, by decide +kernel⟩
theorem okWhl (F : Fn K mg "_law_whole" sWhl) (M : Mg mg) : Cal P w K mg base 1 "_law_whole" ["_law_found"] (spIW K) := by
 refine Ya F scWhl (fun _ _ _ _ _ _ => bind1 (fun _ => rfl)) (fun vs H Q E h => ?_) (fun f cdv A outer s H vs Q E hr h => ?_)
 ·obtain ⟨v, rfl, _⟩ := h
  rfl
 obtain ⟨v, rfl, hv, q⟩ := h
 refine ⟨_, (Ql (Xe (Vh (Qs Zl rfl M.isinstance Xs (Qa (pv 0) (Qa (Qcd M.int_ Qln) Qf))) (Wq (Qla (Qs Zl rfl M.isinstance Xs (Qa (pv 0) (Qa (Qcd M.bool_ Qgx) Qf)))))))), ?_⟩
 rcases hv with hv | ⟨t, ys, rfl, hT⟩
 ·cases v with
  | int i => exact ⟨_, rfl, _, _, _, rfl, .int, rfl, _, rfl, _, rfl, _, _, _, rfl, .bool, rfl, _, rfl, q⟩
  | bl b => exact ⟨_, rfl, _, _, _, rfl, .int, rfl, _, rfl, _, rfl, _, _, _, rfl, .bool, rfl, _, rfl, q⟩
  | non => exact ⟨_, rfl, _, _, _, rfl, .int, rfl, _, rfl, q⟩
  | str x => exact ⟨_, rfl, _, _, _, rfl, .int, rfl, _, rfl, q⟩
  | _ => exact nomatch hv
 ·exact ⟨_, rfl, _, _, _, rfl, .int, .inl ⟨⟨_, hT⟩, rfl⟩, _, rfl, q⟩
theorem scIsT : FnScope ["_law_done"] ["_law_done"] (Qi sIsT) := ⟨rfl, rfl, rfl, by decide +kernel, rfl, by decide +kernel, by decide +kernel⟩
theorem okIsT (F : Fn K mg "_law_is_tuple" sIsT) (M : Mg mg) (cl_whole : Cal P w K mg base 1 "_law_whole" ["_law_found"] (spIW K)) : Cal P w K mg base 2 "_law_is_tuple" ["_law_done"] (Qoe K) := by
 refine Ya F scIsT (fun _ _ _ _ _ _ => bind1 (fun _ => rfl)) (fun vs H Q E h => ?_) (fun f cdv A outer s H vs Q E hr h => ?_)
 ·obtain ⟨v, o, rfl, _⟩ := h
  rfl
 obtain ⟨v, o, rfl, hv, q1, q0⟩ := h
 refine ⟨_, (Ql (Xe (Vh (Qs Zl rfl M.isinstance Xs (Qa (pv 0) (Qa (Qcd M.tuple_ Zp) Qf))) (Vh (Qag Ym (Qs Qv rfl M.len Yj (Qa (pv 0) Qf)) Qe (Qw _)) (Wq (Xp cl_whole (hr.mono (by decide)) (Qa (Qu Yr (pv 0) Qe (fun _ _ => rfl)) Qf))))))), ?_⟩
 have hcase : (o = none ∧ (Yt v = true ∨ (∃ l xs, v = .ref l ∧ SqL K H l xs) ∨ ∃ t xs, v = .ref t ∧ SqT K H t xs ∧ xs.length ≠ 2)) ∨ ∃ t a b, v = .ref t ∧ SqT K H t [a, b] ∧ Qex K H b ∧ (isInt b = true → Q (.bl true) H) ∧ (isInt b = false → Q (.bl false) H) := by
  cases o with
  | some r =>
   obtain ⟨t, e, hT, hb⟩ := hv
   exact .inr ⟨t, _, _, e, hT, .inl rfl, fun _ => q1 t _ _ e hT (Qii _) hb rfl, fun z => nomatch z⟩
  | none =>
   rcases hv with h5 | ⟨l, xs, e, hL⟩ | ⟨t, xs, e, hT, hn⟩ | ⟨t, a, b, e, hT, fa, hb⟩
   ·exact .inl ⟨rfl, .inl h5⟩
   ·exact .inl ⟨rfl, .inr (.inl ⟨l, xs, e, hL⟩)⟩
   ·exact .inl ⟨rfl, .inr (.inr ⟨t, xs, e, hT, hn⟩)⟩
   ·rcases hb with ⟨fb', h6⟩ | ⟨t', ys, e2, hT'⟩
    ·refine .inr ⟨t, a, b, e, hT, .inl fb'.1, fun z => ?_, fun _ => q0 rfl⟩
     cases b with
     | int i =>
      refine q1 t a i e hT fa (fb'.2 i rfl) ?_
      cases a with
      | str x => exact absurd ⟨rfl, rfl⟩ (h6 x i)
      | _ => rfl
     | _ => exact nomatch z
    ·exact .inr ⟨t, a, b, e, hT, .inr ⟨t', ys, e2, hT'⟩, fun z => (by rw [e2] at z; exact nomatch z), fun _ => q0 rfl⟩
 clear hv q1
 rcases hcase with ⟨rfl, h5⟩ | ⟨t, a, b, rfl, hT, hb, p1, p0⟩
 ·have p0 := q0 rfl
  rcases h5 with h5 | ⟨l, xs, rfl, hL⟩ | ⟨t, xs, rfl, hT, hn⟩
  ·cases v with
   | int i => exact ⟨_, rfl, _, _, _, rfl, .tuple, rfl, _, rfl, p0⟩
   | bl b => exact ⟨_, rfl, _, _, _, rfl, .tuple, rfl, _, rfl, p0⟩
   | non => exact ⟨_, rfl, _, _, _, rfl, .tuple, rfl, _, rfl, p0⟩
   | str x => exact ⟨_, rfl, _, _, _, rfl, .tuple, rfl, _, rfl, p0⟩
   | _ => exact nomatch h5
  ·exact ⟨_, rfl, _, _, _, rfl, .tuple, .inr ⟨⟨_, hL⟩, rfl⟩, _, rfl, p0⟩
  ·have e9 : decide (V.int ((xs.length : Nat) : Int) = V.int 2) = false := zW fun z => hn (by injection z with z; omega)
   exact ⟨_, rfl, _, _, _, rfl, .tuple, .inl ⟨⟨_, hT⟩, rfl⟩, _, rfl, _, rfl, _, _, rfl, .inr hT, rfl, _, rfl, ite2 (fun y => absurd y (by rw [e9]; decide)) (fun _ => p0)⟩
 ·refine ⟨_, rfl, _, _, _, rfl, .tuple, .inl ⟨⟨_, hT⟩, rfl⟩, _, rfl, _, rfl, _, _, rfl, .inr hT, rfl, _, rfl, _, rfl, t, _, _, _, rfl, rfl, hT, (show atI [a, b] 1 = some b from rfl), b, rfl, hb, ?_⟩
  cases e : isInt b with
  | true => exact p1 e
  | false => exact p0 e
end
abbrev Vf : Stmt := top 33
section
variable {P : Program} {w : World} {K : Fg} {mg : Str → Option Value} {base : Heap}
theorem scStrange : FnScope ["_law_done", "_law_number", "_law_way_here", "_law_begin", "_law_things_here"] ["_law_done", "_law_number"] (Qi Vf) := ⟨rfl, rfl, rfl, by decide +kernel, rfl, by decide +kernel, by decide +kernel⟩
theorem Qin (F : Fn K mg "_law_strange" Vf) (M : Mg mg) : Cal P w K mg base 1 "_law_strange" ["_law_done", "_law_number"] (spStr K) := by
 refine Ya F scStrange (fun _ _ _ _ _ _ => Kx (fun _ _ => rfl)) (fun vs H Q E h => ?_) (fun f cdv A outer s H vs Q E hr h => ?_)
 ·obtain ⟨t, a, i, z, rfl, _⟩ := h
  rfl
 obtain ⟨t, a, i, z, rfl, hT, fa, hi, z0, q⟩ := h
 refine ⟨_, (Qh (Qlb (pv 0) (Qgw (K := K) (i := 2) (j := 3) rfl rfl scStrange.nd rfl rfl rfl rfl))
  (Qh (Qr (i := 4) scStrange.nd rfl (Or.inl rfl) (Xf (Qa Kr (Qa Qbl (Qa (Xf Qf) (Qa (Xf (Qa (pv 2) (Qa (pv 3) Qf))) (Qa (pv 2) (Qa (pv 3) (Qa (Xh (Qa (pv 2) Qf)) (Qa (Xh (Qa (pv 2) (Qa (pv 3) (Qa Qe Qf)))) (Qa (Xh Qf) (Qa (Xh (Qa Qe (Qa (pv 3) Qf))) (Qa (Xh (Qa Kr (Qa (pv 3) Qf))) Qf)))))))))))))
  (Qh (Qr (i := 4) scStrange.nd rfl (Or.inl rfl) (Qm Ji (pv 4) (Xf (Qa (Xh (Qa (pv 2) (Qa (Xz Qbp rfl M.str_ Qlq (Qa (pv 3) Qf)) Qf))) (Qa (Xh (Qa (pv 2) (Qa Kr Qf))) (Qa (Xh (Qa (pv 2) (Qa Qbl Qf))) (Qa (Xh (Qa (pv 2) (Qa (Xh (Qa (pv 3) Qf)) Qf))) (Qa (Xh (Qa (pv 2) (Qa Qbl Qf))) (Qa (Xh (Qa (pv 3) (Qa (pv 2) Qf))) Qf)))))))))
  (Ql (Xe (Qu Qq (pv 4) (Qm Qy (pv 1) (Qs Qv rfl M.len Yj (Qa (pv 4) Qf))) (fun _ _ => rfl))))))), ?_⟩
 refine Kf ?_
 intro rT4 rT3 rT2
 have hlog : i.natAbs.log2 < 1920 := log2_small hi
 have s0 : Same H H := Same.refl _
 refine ⟨_, rfl, t, _, rfl, hT, rfl, _, _, rfl, _, _, rfl, rfl, ?_⟩
 refine ⟨by show 0 ≤ sizeLine; decide, fun p1 hp1 => ?_⟩
 have s1 := s0.trans (Qc hp1 (.lst []))
 have b1 := Qc hp1 (.lst [])
 have h1 : upd H p1 (.lst []) p1 = some (.lst []) := Qb
 generalize upd H p1 (.lst []) = H1 at s1 b1 h1 ⊢
 refine ⟨_, rfl, _, rfl, by show 2 ≤ sizeLine; decide, fun p2 hp2 => ?_⟩
 have s2 := s1.trans (Qc hp2 (.lst [a, .int i]))
 have b2 := Qc hp2 (.lst [a, .int i])
 have h2 : upd H1 p2 (.lst [a, .int i]) p2 = some (.lst [a, .int i]) := Qb
 generalize upd H1 p2 (.lst [a, .int i]) = H2 at s2 b2 h2 ⊢
 refine ⟨_, rfl, _, rfl, _, rfl, by show 1 ≤ sizeLine; decide, fun p3 hp3 => ?_⟩
 have s3 := s2.trans (Qc hp3 (.tup [a]))
 have b3 := Qc hp3 (.tup [a])
 have h3 : upd H2 p3 (.tup [a]) p3 = some (.tup [a]) := Qb
 generalize upd H2 p3 (.tup [a]) = H3 at s3 b3 h3 ⊢
 refine ⟨_, rfl, _, rfl, by show 3 ≤ sizeLine; decide, fun p4 hp4 => ?_⟩
 have s4 := s3.trans (Qc hp4 (.tup [a, .int i, .int 0]))
 have b4 := Qc hp4 (.tup [a, .int i, .int 0])
 have h4 : upd H3 p4 (.tup [a, .int i, .int 0]) p4 = some (.tup [a, .int i, .int 0]) := Qb
 generalize upd H3 p4 (.tup [a, .int i, .int 0]) = H4 at s4 b4 h4 ⊢
 refine ⟨by show 0 ≤ sizeLine; decide, fun p5 hp5 => ?_⟩
 have s5 := s4.trans (Qc hp5 (.tup []))
 have b5 := Qc hp5 (.tup [])
 have h5 : upd H4 p5 (.tup []) p5 = some (.tup []) := Qb
 generalize upd H4 p5 (.tup []) = H5 at s5 b5 h5 ⊢
 refine ⟨_, rfl, by show 2 ≤ sizeLine; decide, fun p6 hp6 => ?_⟩
 have s6 := s5.trans (Qc hp6 (.tup [.int 7, .int i]))
 have b6 := Qc hp6 (.tup [.int 7, .int i])
 have h6 : upd H5 p6 (.tup [.int 7, .int i]) p6 = some (.tup [.int 7, .int i]) := Qb
 generalize upd H5 p6 (.tup [.int 7, .int i]) = H6 at s6 b6 h6 ⊢
 refine ⟨_, rfl, by show 2 ≤ sizeLine; decide, fun p7 hp7 => ?_⟩
 have s7 := s6.trans (Qc hp7 (.tup [.non, .int i]))
 have b7 := Qc hp7 (.tup [.non, .int i])
 have h7 : upd H6 p7 (.tup [.non, .int i]) p7 = some (.tup [.non, .int i]) := Qb
 generalize upd H6 p7 (.tup [.non, .int i]) = H7 at s7 b7 h7 ⊢
 refine ⟨by show 11 ≤ sizeLine; decide, fun p8 hp8 => ?_⟩
 have s8 := s7.trans (Qc hp8 (.lst [.non, .bl true, .ref p1, .ref p2, a, .int i, .ref p3, .ref p4, .ref p5, .ref p6, .ref p7]))
 have b8 := Qc hp8 (.lst [.non, .bl true, .ref p1, .ref p2, a, .int i, .ref p3, .ref p4, .ref p5, .ref p6, .ref p7])
 have h8 : upd H7 p8 (.lst [.non, .bl true, .ref p1, .ref p2, a, .int i, .ref p3, .ref p4, .ref p5, .ref p6, .ref p7]) p8 = some (.lst [.non, .bl true, .ref p1, .ref p2, a, .int i, .ref p3, .ref p4, .ref p5, .ref p6, .ref p7]) := Qb
 generalize upd H7 p8 (.lst [.non, .bl true, .ref p1, .ref p2, a, .int i, .ref p3, .ref p4, .ref p5, .ref p6, .ref p7]) = H8 at s8 b8 h8 ⊢
 refine ⟨_, rfl, _, rfl, _, rfl, i, rfl, hlog, by show 2 ≤ sizeLine; decide, fun p9 hp9 => ?_⟩
 have s9 := s8.trans (Qc hp9 (.tup [a, .str (toString i)]))
 have b9 := Qc hp9 (.tup [a, .str (toString i)])
 have h9 : upd H8 p9 (.tup [a, .str (toString i)]) p9 = some (.tup [a, .str (toString i)]) := Qb
 generalize upd H8 p9 (.tup [a, .str (toString i)]) = H9 at s9 b9 h9 ⊢
 refine ⟨_, rfl, by show 2 ≤ sizeLine; decide, fun p10 hp10 => ?_⟩
 have s10 := s9.trans (Qc hp10 (.tup [a, .non]))
 have b10 := Qc hp10 (.tup [a, .non])
 have h10 : upd H9 p10 (.tup [a, .non]) p10 = some (.tup [a, .non]) := Qb
 generalize upd H9 p10 (.tup [a, .non]) = H10 at s10 b10 h10 ⊢
 refine ⟨_, rfl, by show 2 ≤ sizeLine; decide, fun p11 hp11 => ?_⟩
 have s11 := s10.trans (Qc hp11 (.tup [a, .bl true]))
 have b11 := Qc hp11 (.tup [a, .bl true])
 have h11 : upd H10 p11 (.tup [a, .bl true]) p11 = some (.tup [a, .bl true]) := Qb
 generalize upd H10 p11 (.tup [a, .bl true]) = H11 at s11 b11 h11 ⊢
 refine ⟨_, rfl, _, rfl, by show 1 ≤ sizeLine; decide, fun p12 hp12 => ?_⟩
 have s12 := s11.trans (Qc hp12 (.tup [.int i]))
 have b12 := Qc hp12 (.tup [.int i])
 have h12 : upd H11 p12 (.tup [.int i]) p12 = some (.tup [.int i]) := Qb
 generalize upd H11 p12 (.tup [.int i]) = H12 at s12 b12 h12 ⊢
 refine ⟨by show 2 ≤ sizeLine; decide, fun p13 hp13 => ?_⟩
 have s13 := s12.trans (Qc hp13 (.tup [a, .ref p12]))
 have b13 := Qc hp13 (.tup [a, .ref p12])
 have h13 : upd H12 p13 (.tup [a, .ref p12]) p13 = some (.tup [a, .ref p12]) := Qb
 generalize upd H12 p13 (.tup [a, .ref p12]) = H13 at s13 b13 h13 ⊢
 refine ⟨_, rfl, by show 2 ≤ sizeLine; decide, fun p14 hp14 => ?_⟩
 have s14 := s13.trans (Qc hp14 (.tup [a, .bl false]))
 have b14 := Qc hp14 (.tup [a, .bl false])
 have h14 : upd H13 p14 (.tup [a, .bl false]) p14 = some (.tup [a, .bl false]) := Qb
 generalize upd H13 p14 (.tup [a, .bl false]) = H14 at s14 b14 h14 ⊢
 refine ⟨_, rfl, _, rfl, by show 2 ≤ sizeLine; decide, fun p15 hp15 => ?_⟩
 have s15 := s14.trans (Qc hp15 (.tup [.int i, a]))
 have b15 := Qc hp15 (.tup [.int i, a])
 have h15 : upd H14 p15 (.tup [.int i, a]) p15 = some (.tup [.int i, a]) := Qb
 generalize upd H14 p15 (.tup [.int i, a]) = H15 at s15 b15 h15 ⊢
 refine ⟨by show 6 ≤ sizeLine; decide, fun p16 hp16 => ?_⟩
 have s16 := s15.trans (Qc hp16 (.lst [.ref p9, .ref p10, .ref p11, .ref p13, .ref p14, .ref p15]))
 have b16 := Qc hp16 (.lst [.ref p9, .ref p10, .ref p11, .ref p13, .ref p14, .ref p15])
 have h16 : upd H15 p16 (.lst [.ref p9, .ref p10, .ref p11, .ref p13, .ref p14, .ref p15]) p16 = some (.lst [.ref p9, .ref p10, .ref p11, .ref p13, .ref p14, .ref p15]) := Qb
 generalize upd H15 p16 (.lst [.ref p9, .ref p10, .ref p11, .ref p13, .ref p14, .ref p15]) = H16 at s16 b16 h16 ⊢
 refine ⟨p8, p16, _, _, rfl, rfl, (((((((b9.trans b10).trans b11).trans b12).trans b13).trans b14).trans b15).trans b16) _ _ h8, h16, by show 17 ≤ sizeLine; decide, fun p17 hp17 => ?_⟩
 have b17 := Qc hp17 (.lst ([.non, .bl true, .ref p1, .ref p2, a, .int i, .ref p3, .ref p4, .ref p5, .ref p6, .ref p7] ++ [.ref p9, .ref p10, .ref p11, .ref p13, .ref p14, .ref p15]))
 have s17 := s16.trans b17
 have h17 : upd H16 p17 (.lst ([.non, .bl true, .ref p1, .ref p2, a, .int i, .ref p3, .ref p4, .ref p5, .ref p6, .ref p7] ++ [.ref p9, .ref p10, .ref p11, .ref p13, .ref p14, .ref p15])) p17 = some (.lst [.non, .bl true, .ref p1, .ref p2, a, .int i, .ref p3, .ref p4, .ref p5, .ref p6, .ref p7, .ref p9, .ref p10, .ref p11, .ref p13, .ref p14, .ref p15]) := Qb
 generalize upd H16 p17 (.lst ([.non, .bl true, .ref p1, .ref p2, a, .int i, .ref p3, .ref p4, .ref p5, .ref p6, .ref p7] ++ [.ref p9, .ref p10, .ref p11, .ref p13, .ref p14, .ref p15])) = H17 at b17 s17 h17 ⊢
 have g1 := (((((((((((((((b2.trans b3).trans b4).trans b5).trans b6).trans b7).trans b8).trans b9).trans b10).trans b11).trans b12).trans b13).trans b14).trans b15).trans b16).trans b17) _ _ h1
 have g2 := ((((((((((((((b3.trans b4).trans b5).trans b6).trans b7).trans b8).trans b9).trans b10).trans b11).trans b12).trans b13).trans b14).trans b15).trans b16).trans b17) _ _ h2
 have g3 := (((((((((((((b4.trans b5).trans b6).trans b7).trans b8).trans b9).trans b10).trans b11).trans b12).trans b13).trans b14).trans b15).trans b16).trans b17) _ _ h3
 have g4 := ((((((((((((b5.trans b6).trans b7).trans b8).trans b9).trans b10).trans b11).trans b12).trans b13).trans b14).trans b15).trans b16).trans b17) _ _ h4
 have g5 := (((((((((((b6.trans b7).trans b8).trans b9).trans b10).trans b11).trans b12).trans b13).trans b14).trans b15).trans b16).trans b17) _ _ h5
 have g6 := ((((((((((b7.trans b8).trans b9).trans b10).trans b11).trans b12).trans b13).trans b14).trans b15).trans b16).trans b17) _ _ h6
 have g7 := (((((((((b8.trans b9).trans b10).trans b11).trans b12).trans b13).trans b14).trans b15).trans b16).trans b17) _ _ h7
 have g9 := (((((((b10.trans b11).trans b12).trans b13).trans b14).trans b15).trans b16).trans b17) _ _ h9
 have g10 := ((((((b11.trans b12).trans b13).trans b14).trans b15).trans b16).trans b17) _ _ h10
 have g11 := (((((b12.trans b13).trans b14).trans b15).trans b16).trans b17) _ _ h11
 have g12 := ((((b13.trans b14).trans b15).trans b16).trans b17) _ _ h12
 have g13 := (((b14.trans b15).trans b16).trans b17) _ _ h13
 have g14 := ((b15.trans b16).trans b17) _ _ h14
 have g15 := (b16.trans b17) _ _ h15
 have hall : ∀ v ∈ [V.non, .bl true, .ref p1, .ref p2, a, .int i, .ref p3, .ref p4, .ref p5, .ref p6, .ref p7, .ref p9, .ref p10, .ref p11, .ref p13, .ref p14, .ref p15], ∃ o, PvIs K H17 v o := by
  have fi := Qaa hi
  have odd : ∀ (p : Addr) (x y : V), H17 p = some (.tup [x, y]) → fb x → fb y → (∀ i, y ≠ .int i) → ∃ o, PvIs K H17 (.ref p) o := fun p x y h fx fy n => ⟨none, .inr (.inr (.inr ⟨p, x, y, rfl, Xb h, fx, .inl ⟨fy, fun _ j z => n j z.2⟩⟩))⟩
  have fn : fb .non := ⟨rfl, fun _ z => nomatch z⟩
  have fbl : ∀ b, fb (.bl b) := fun b => ⟨rfl, fun _ z => nomatch z⟩
  have two : ∀ (p : Addr) (x y : V), H17 p = some (.tup [x, y]) → fb x → fb y → ∃ o, PvIs K H17 (.ref p) o := fun p x y h fx fy => by
   cases y with
   | int j => exact Qdw (Xb h) fx (fy.2 j rfl)
   | _ => exact odd p x _ h fx fy fun _ z => nomatch z
  simp only [List.forall_mem_cons]
  refine ⟨⟨none, .inl rfl⟩, ⟨none, .inl rfl⟩, ⟨none, .inr (.inl ⟨p1, _, rfl, Qd g1⟩)⟩, ⟨none, .inr (.inl ⟨p2, _, rfl, Qd g2⟩)⟩, ⟨none, .inl fa.1⟩, ⟨none, .inl rfl⟩, ⟨none, .inr (.inr (.inl ⟨p3, _, rfl, Xb g3, by show ¬ (1 = 2); decide⟩))⟩, ⟨none, .inr (.inr (.inl ⟨p4, _, rfl, Xb g4, by show ¬ (3 = 2); decide⟩))⟩, ⟨none, .inr (.inr (.inl ⟨p5, _, rfl, Xb g5, by decide⟩))⟩, two _ _ _ g6 (Qaa (by decide)) fi, two _ _ _ g7 fn fi, two _ _ _ g9 fa (Qii _), two _ _ _ g10 fa fn, two _ _ _ g11 fa (fbl _), ⟨none, .inr (.inr (.inr ⟨p13, a, _, rfl, Xb g13, fa, .inr ⟨p12, _, rfl, Xb g12⟩⟩))⟩, two _ _ _ g14 fa (fbl _), two _ _ _ g15 fi fa, fun _ h => nomatch h⟩
 obtain ⟨v, ev, hv⟩ := Qbi (z := z) (xs := [V.non, .bl true, .ref p1, .ref p2, a, .int i, .ref p3, .ref p4, .ref p5, .ref p6, .ref p7, .ref p9, .ref p10, .ref p11, .ref p13, .ref p14, .ref p15]) (by show 0 < 17; decide)
 obtain ⟨o, ho⟩ := hall v hv
 exact ⟨_, rfl, _, rfl, _, rfl, p17, _, rfl, .inl (Qd h17), z, 17, rfl, rfl, by show (0 : Int) < 17; decide, p17, _, _, v, rfl, rfl, Qd h17, ev, q v o H17 s17 ho⟩
end
abbrev sChg : Stmt := top 34
abbrev Qof (K : Fg) (H' : Hp) (P2 : Addr) (m : Nat) : Prop := ∃ kvs' pd', H' P2 = some (.dK kvs') ∧ PdAt K H' kvs' pd' ∧ pd'.length ≤ m
def spChg (K : Fg) : Sp := fun vs H Q _ => ∃ (P d : Addr) (z n : Int) (us : List V) (B : List BR) (kvs : List (Key × V)) (pd : PD), vs = [.ref P, .ref d, .int z] ∧ H P = some (.dK kvs) ∧ PdAt K H kvs pd ∧ pd.length ≤ 50 ∧ H d = some (.lst us) ∧ RowsB H us B ∧ BookOk n B ∧ 0 ≤ z ∧
 ∀ (P' : Addr) (H' : Hp), Same H H' → Qof K H' P' (pd.length + 6) → Q (.ref P') H'
structure Chg (K : Fg) (H H' : Hp) (P2 N W : Addr) (nms : List Str) (B : List BR) (m : Nat) : Prop where
 fd : Qof K H' P2 m
 hN : H' N = some (.lst (nms.map V.str))
 hW : H' W = some (.lst ((wks B).map V.str))
 same : Same H H'
theorem Chg.more {K : Fg} {H H1 H2 : Hp} {P2 N W : Addr} {nms : List Str} {B : List BR} {m : Nat} (c : Chg K H H1 P2 N W nms B m) (s : Same H1 H2) : Chg K H H2 P2 N W nms B m := by
 obtain ⟨⟨kvs, pd, h1, h2, h3⟩, hN, hW, hS⟩ := c
 exact ⟨⟨kvs, pd, s _ _ h1, h2.mild (Same.mild s), h3⟩, s _ _ hN, s _ _ hW, hS.trans s⟩
theorem Chg.le {K : Fg} {H H1 : Hp} {P2 N W : Addr} {nms : List Str} {B : List BR} {m m' : Nat} (c : Chg K H H1 P2 N W nms B m) (h : m ≤ m') : Chg K H H1 P2 N W nms B m' := by
 obtain ⟨⟨kvs, pd, h1, h2, h3⟩, hN, hW, hS⟩ := c
 exact ⟨⟨kvs, pd, h1, h2, jQa h3 h⟩, hN, hW, hS⟩
theorem Chg.put {K : Fg} {H H1 : Hp} {P2 N W : Addr} {nms : List Str} {B : List BR} {m : Nat} (c : Chg K H H1 P2 N W nms B m) (fP : H P2 = none) (hm : m < 100) (w : Str) {v : V} {o : Option (Str × Int)} (hv : PvIs K H1 v o) : ∃ H2, DPut H1 P2 (.str w) v H2 ∧ Mild H1 H2 ∧ Chg K H H2 P2 N W nms B (m + 1) := by
 obtain ⟨⟨kvs, pd, h1, h2, h3⟩, hN, hW, hS⟩ := c
 have hz : (20000 : Nat) < sizeLine := by decide
 have lk := h2.len
 obtain ⟨pd', h4, h5⟩ := pd_put h2 (w := w) hv
 have ml := Ve h1 (.dK (putK kvs (Sum.inr w) v))
 exact ⟨_, DPut.k (k := Sum.inr w) h1 (by omega), ml, ⟨_, pd', Qb, h4.mild ml, by omega⟩, ml _ _ hN (fun _ z => nomatch z), ml _ _ hW (fun _ z => nomatch z), fun b o e => by rw [Qj (Qk e fP)]; exact hS _ _ e⟩
theorem Chg.drop {K : Fg} {H H1 : Hp} {P2 N W : Addr} {nms : List Str} {B : List BR} {m : Nat} (c : Chg K H H1 P2 N W nms B m) (fP : H P2 = none) {kvs : List (Key × V)} (h1 : H1 P2 = some (.dK kvs)) (w : Str) : Chg K H (upd H1 P2 (.dK (Qan kvs (Sum.inr w)))) P2 N W nms B m := by
 obtain ⟨⟨kvs', pd, h1', h2, h3⟩, hN, hW, hS⟩ := c
 rw [h1] at h1'
 cases h1'
 obtain ⟨pd', h4, h5⟩ := Qob h2 w
 have ml := Ve h1 (.dK (Qan kvs (Sum.inr w)))
 exact ⟨⟨_, pd', Qb, h4.mild ml, by omega⟩, ml _ _ hN (fun _ z => nomatch z), ml _ _ hW (fun _ z => nomatch z), fun b o e => by rw [Qj (Qk e fP)]; exact hS _ _ e⟩
theorem name1 {r : BR} (h : r.word ≠ "days") : ∃ x, r.names.head? = some x ∧ atI (r.cells.map kV) 1 = some (.str x) := by
 cases r with
 | days n => exact absurd rfl h
 | bench b c => exact ⟨_, rfl, rfl⟩
 | shut b f t => exact ⟨_, rfl, rfl⟩
 | store b m f => exact ⟨_, rfl, rfl⟩
 | work w => exact ⟨_, rfl, rfl⟩
 | way w v l c => exact ⟨_, rfl, rfl⟩
 | use k w v t m => exact ⟨_, rfl, rfl⟩
 | after w x g => exact ⟨_, rfl, rfl⟩
 | late w d c => exact ⟨_, rfl, rfl⟩
theorem Qbj {ss : List Str} {z : Int} (h : 0 < ss.length) : ∃ x, atI (ss.map V.str) (z % (((ss.map V.str).length : Nat) : Int)) = some (.str x) ∧ x ∈ ss := by
 obtain ⟨v, e, hv⟩ := Qbi (xs := ss.map V.str) (z := z) (by rw [jZ]; exact h)
 obtain ⟨x, hx, rfl⟩ := zV.mp hv
 exact ⟨x, e, hx⟩
section
variable {P : Program} {w : World} {K : Fg} {mg : Str → Option Value} {base : Heap}
theorem scChg : FnScope ["_law_plan_here", "_law_book_here", "_law_number", "_law_found", "_law_names", "_law_works_here", "_law_way_here", "_law_work", "_law_done", "_law_last"] ["_law_plan_here", "_law_book_here", "_law_number"] (Qi sChg) := ⟨rfl, rfl, rfl, by decide +kernel, rfl, by decide +kernel, by decide +kernel⟩
theorem okChg (F : Fn K mg "_law_changed" sChg) (M : Mg mg) (cl_is_tuple : Cal P w K mg base 2 "_law_is_tuple" ["_law_done"] (Qoe K)) (cl_strange : Cal P w K mg base 1 "_law_strange" ["_law_done", "_law_number"] (spStr K)) : Cal P w K mg base 3 "_law_changed" ["_law_plan_here", "_law_book_here", "_law_number"] (spChg K) := by
 refine Ya F scChg (fun _ _ _ _ _ _ => Qfn (fun _ _ _ => rfl)) (fun vs H Q E h => ?_) (fun f cdv A outer s H vs Q E hr h => ?_)
 ·obtain ⟨P, d, z, n, us, B, kvs, pd, rfl, _⟩ := h
  rfl
 obtain ⟨P, d, z, n, us, B, kvs, pd, rfl, hP, hpd, h50, hd, hB, bk, z0, q⟩ := h
 have hu6 : (A.deeper (PyProof.Rows.envOfC "_law_changed" (Qi sChg) s.heap.objs.size f cdv)).units + 6 < cLine := xQ (xV (by decide) _) hr.un
 have hu : (A.deeper (PyProof.Rows.envOfC "_law_changed" (Qi sChg) s.heap.objs.size f cdv)).units + 1 < cLine := xQ (xV (by decide) _) hr.un
 refine ⟨_, (Qh (Qr (i := 3) scChg.nd rfl (Or.inl rfl) (Xz Wv rfl M.dict_ Vu (Qa (pv 0) Qf)))
  (Qh (Qr (i := 4) scChg.nd rfl (Or.inl rfl) (Qm Ji (Qs (Qcu (K := K) rfl) rfl M.sorted Vt (Qa (Zs ["_law_row"] [none] rfl (Xk (pv 1)) (fun _ _ _ => (Qt (i := 0) (show (["_law_row"] : List Str).Nodup by decide +kernel) rfl (Or.inl rfl) (Or.inr rfl))) (fun _ _ _ => (Zk (Qp Qmf (Qu (Xr (K := K) rfl) (pv 0) Qe (fun _ _ => rfl)) Qx (Qw _)))) (fun _ _ _ => (Qu (Xr (K := K) rfl) (pv 0) Qe (fun _ _ => rfl)))) Qf)) (Xf (Qa Qx (Qa Qx Qf)))))
  (Qh (Qaj (i := 5) ["_law_row"] [none] rfl scChg.nd rfl (Or.inl rfl) (Xk (pv 1)) (fun _ _ _ => (Qt (i := 0) (show (["_law_row"] : List Str).Nodup by decide +kernel) rfl (Or.inl rfl) (Or.inr rfl))) (fun _ _ _ => (Zk (Qp Ym (Qu (Xr (K := K) rfl) (pv 0) Qe (fun _ _ => rfl)) Qx (Qw _)))) (fun _ _ _ => (Qu (Xr (K := K) rfl) (pv 0) Qe (fun _ _ => rfl))))
  (Qh (Qr (i := 6) scChg.nd rfl (Or.inl rfl) (Qm Qy (pv 2) Qe))
  (Qh (Xx (Qp Ym (pv 6) Qe (Qw _)) (Ql (Kl hu (pv 3) (Qm Wr (Qu Qq (pv 4) (Qm Qy (Qm Xj (pv 2) Qe) (Qs Qv rfl M.len Yj (Qa (pv 4) Qf))) (fun _ _ => rfl)) (Yc sl_str Qx Zd (Yf (Qm Qy (Qm Xj (pv 2) Qe) Qe)))) (Xh (Qa Qx (Qa Qe Qf))) rfl)) Xa)
  (Qh (Xx (PW.pt (Zr (Qp (Qas (K := K) (n := 6) rfl hu6) (pv 5) (Xf Qf) (Qw _)) (Zc (Qp Qaf (pv 6) Qe (Qw _))))) (Qh (Qr (i := 7) scChg.nd rfl (Or.inl rfl) (Qu Qq (pv 5) (Qm Qy (Qm Xj (pv 2) Qe) (Qs Qv rfl M.len Yj (Qa (pv 5) Qf))) (fun _ _ => rfl)))
  (Qh (Qr (i := 8) scChg.nd rfl (Or.inl rfl) (Qem hu (pv 3) (pv 7) (Xh (Qa Qx (Qa Qe Qf))) ⟨rfl, rfl, rfl, rfl⟩))
  (Qh (Xx (Ks (Jv (Xp cl_is_tuple (hr.mono (by decide)) (Qa (pv 8) Qf)))) (Ql (Qr (i := 8) scChg.nd rfl (Or.inl rfl) (Xh (Qa Qx (Qa Qe Qf))))) Xa)
  (Qh (Qr (i := 9) scChg.nd rfl (Or.inl rfl) (Qu Qq (Qu Qq (pv 1) Qe (fun _ _ => rfl)) Qe (fun _ _ => rfl)))
  (Qh (Xx (PW.pt (Zr (Qp Ym (pv 6) Qe (Qw _)) (Zc (Qkz (Qlo hu (pv 7) (pv 3)))))) (Ql (Yn (Qjo (pv 3) (pv 7) ⟨rfl, rfl, rfl, rfl⟩))) Xa)
  (Qh (Xx (Qp Ym (pv 6) Qe (Qw _)) (Ql (Kl hu (pv 3) (pv 7) (Xh (Qa (Qu Qq (pv 4) (Qm Qy (Qm Xj (pv 2) Qe) (Qs Qv rfl M.len Yj (Qa (pv 4) Qf))) (fun _ _ => rfl)) (Qa (Qu Yr (pv 8) Qe (fun _ _ => rfl)) Qf))) rfl)) Xa)
  (Qh (Xx (Qp Ym (pv 6) Qe (Qw _)) (Ql (Kl hu (pv 3) (pv 7) (Xh (Qa (Qu Yr (pv 8) Qe (fun _ _ => rfl)) (Qa (Qu Qq (Xf (Qa (pe_un Qld Qe) (Qa (pv 9) (Qa (Qm Vi (pv 9) Qe) (Qa (Qm Qea Qe Qe) (Qa (pe_un Qld Qe) Qf)))))) (Qm Qy (Qm Xj (pv 2) Qe) Qe) (fun _ _ => rfl)) Qf))) rfl)) Xa)
  (Qh (Xx (Qp Ym (pv 6) Qe (Qw _)) (Ql (Kl hu (pv 3) (pv 7) (Xh (Qa (Qu Yr (pv 8) Qe (fun _ _ => rfl)) (Qa (Qs (Qbo rfl) rfl M.max Qlm (Qa Qe (Qa (Qm Vi (pv 9) (Qm Qy (Qm Xj (pv 2) Qe) Qe)) Qf))) Qf))) rfl)) Xa)
  (Ql (Xx (Qp Ym (pv 6) Qe (Qw _)) (Ql (Kl hu (pv 3) (pv 7) (Xp cl_strange (hr.mono (by decide)) (Qa (pv 8) (Qa (Qm Xj (pv 2) Qe) Qf))) rfl)) Xa)))))))))) Xa)
  (Ql (Xe (pv 3))))))))), ?_⟩
 have hz : (20000 : Nat) < sizeLine := by decide
 have lu := hB.length
 have bl := bk.wb.len
 have lkv := hpd.len
 refine ⟨_, rfl, P, kvs, rfl, hP, by omega, fun P2 fP2 => ?_⟩
 have s0 := Qc fP2 (.dK kvs)
 have hP0 : upd H P2 (.dK kvs) P2 = some (.dK kvs) := Qb
 generalize upd H P2 (.dK kvs) = H0 at s0 hP0 ⊢
 refine ⟨_, rfl, d, rfl, ⟨_, Qd (s0 _ _ hd)⟩, fun D hD => ?_⟩
 let Pv34 : Nat → St → List V → Hp → Prop := fun m τ ys H1 => ∃ (v : Option V) (ss : List Str), τ = [v] ∧ ys = ss.map V.str ∧ ss.length ≤ m ∧ (∀ x ∈ ss, x.length ≤ 12) ∧ H1 D = some (.lst ys) ∧ Same H0 H1
 refine Yd (n := B.length) Pv34 ?_ (fun m τ ys H1 hm h => ?_) (fun m τ ys H1 hm h => ?_) (fun τ ys H1 h => ?_) ?_ ?_
 ·exact ⟨none, [], rfl, rfl, jX _, fun _ h => (nomatch h), Qb, Qc hD _⟩
 ·obtain ⟨v, ss, rfl, rfl, hl, h12, hE, s1⟩ := h
  exact ⟨hE, by rw [jZ]; omega⟩
 ·obtain ⟨v, ss, rfl, rfl, hl, h12, hE, s1⟩ := h
  exact ⟨us, us[m]'(by omega), s1.seq (Qd (s0 _ _ hd)), gE (by omega)⟩
 ·obtain ⟨v, ss, rfl, rfl, hl, h12, hE, s1⟩ := h
  exact ⟨us, s1.seq (Qd (s0 _ _ hd)), by omega⟩
 ·rintro m τ ys H1 x H2 hm ⟨v, ss, rfl, rfl, hl, h12, hE, s1⟩ ⟨rfl, e1⟩
  obtain ⟨r, lr, er, rfl, hr⟩ := (hB.same (s0.trans s1)).get (e1 _ (s1.seq (Qd (s0 _ _ hd))))
  refine ⟨_, rfl, lr, _, _, _, rfl, rfl, Qd hr, Yp r, rfl, _, rfl, ite2 (fun y => ?_) (fun y => ?_)⟩
  ·obtain ⟨x, ex, ax⟩ := name1 (r := r) (fun e => by rw [e] at y; exact absurd y (by decide +kernel))
   refine ⟨_, rfl, lr, _, _, _, rfl, rfl, Qd hr, ax, hE, _, ss ++ [x], rfl, by rw [yQ]; rfl, by rw [jY]; exact zZ hl, fun x' hx' => ?_, Qb, fun b o e => ?_⟩
   ·rcases kW.mp hx' with h | h
    ·exact h12 _ h
    ·rw [kQ.mp h]; exact bk.nl r (yV er) x ex
   ·rw [Qj (Qk e hD)]; exact s1 _ _ e
  ·exact ⟨_, ss, rfl, rfl, by omega, h12, hE, s1⟩
 rintro τ ys H1 ⟨v, ss, rfl, rfl, hl, h12, hE, s1⟩
 refine ⟨D, ss, rfl, Qd hE, by omega, fun S qs hS hq => ?_⟩
 have lq := hq.length_eq
 have s2 := Qc hS (.lst (qs.map V.str))
 have hS2 : upd H1 S (.lst (qs.map V.str)) S = some (.lst (qs.map V.str)) := Qb
 generalize upd H1 S (.lst (qs.map V.str)) = H2 at s2 hS2 ⊢
 refine ⟨by show 2 ≤ sizeLine; decide, fun p3 hp3 => ?_⟩
 have s3 := Qc hp3 (.lst [.str "zebra", .str "b"])
 have h3 : upd H2 p3 (.lst [.str "zebra", .str "b"]) p3 = some (.lst [.str "zebra", .str "b"]) := Qb
 generalize upd H2 p3 (.lst [.str "zebra", .str "b"]) = H3 at s3 h3 ⊢
 refine ⟨S, p3, _, _, rfl, rfl, s3 _ _ hS2, h3, by rw [jZ]; show qs.length + 2 ≤ _; omega, fun N hN => ?_⟩
 obtain ⟨nms, en⟩ : ∃ nms : List Str, qs.map V.str ++ [.str "zebra", .str "b"] = nms.map V.str ∧ 0 < nms.length ∧ ∀ x ∈ nms, x.length ≤ 12 := ⟨qs ++ [("zebra" : Str), "b"], by rw [yQ]; rfl, by rw [jY]; exact zY (by decide) (Nat.le_add_left _ _), fun x hx => by
  rcases kW.mp hx with h | h
  ·exact h12 x (hq.mem_iff.mp h)
  ·rcases yJ.mp h with h | h
   ·rw [h]; decide +kernel
   ·rw [kQ.mp h]; decide +kernel⟩
 obtain ⟨en, nm0, nm12⟩ := en
 rw [en]
 have s4 := Qc hN (.lst (nms.map V.str))
 have hN4 : upd H3 N (.lst (nms.map V.str)) N = some (.lst (nms.map V.str)) := Qb
 generalize upd H3 N (.lst (nms.map V.str)) = H4 at s4 hN4 ⊢
 have s14 := (s1.trans s2).trans (s3.trans s4)
 have s04 := s0.trans s14
 have hP4 := s14 _ _ hP0
 clear hE h3 hS2 en
 refine ⟨_, rfl, d, rfl, ⟨_, Qd (s04 _ _ hd)⟩, fun W hW => ?_⟩
 let Pv35 : Nat → St → List V → Hp → Prop := fun m τ ys H1 => ∃ v : Option V, τ = [v] ∧ ys = ((B.take m).filterMap Ys).map V.str ∧ ys.length ≤ m ∧ H1 W = some (.lst ys) ∧ Same H4 H1
 refine Yd (n := B.length) Pv35 ?_ (fun m τ ys H1 hm h => ?_) (fun m τ ys H1 hm h => ?_) (fun τ ys H1 h => ?_) ?_ ?_
 ·exact ⟨none, rfl, rfl, jX _, Qb, Qc hW _⟩
 ·obtain ⟨v, rfl, ey, hl, hE, s1⟩ := h
  exact ⟨hE, by omega⟩
 ·obtain ⟨v, rfl, ey, hl, hE, s1⟩ := h
  exact ⟨us, us[m]'(by omega), s1.seq (Qd (s04 _ _ hd)), gE (by omega)⟩
 ·obtain ⟨v, rfl, ey, hl, hE, s1⟩ := h
  exact ⟨us, s1.seq (Qd (s04 _ _ hd)), by omega⟩
 ·rintro m τ ys H1 x H2 hm ⟨v, rfl, ey, hl, hE, s1⟩ ⟨rfl, e1⟩
  obtain ⟨r, lr, er, rfl, hr⟩ := (hB.same (s04.trans s1)).get (e1 _ (s1.seq (Qd (s04 _ _ hd))))
  refine ⟨_, rfl, lr, _, _, _, rfl, rfl, Qd hr, Yp r, rfl, _, rfl, ite2 (fun y => ?_) (fun y => ?_)⟩
  ·obtain ⟨w, rfl⟩ := Kg (eqS y)
   refine ⟨_, rfl, lr, _, _, _, rfl, rfl, Qd hr, (show atI ((BR.work w).cells.map kV) 1 = some (.str w) from rfl), hE, _, rfl, ?_, by rw [jY]; exact zZ hl, Qb, fun b o e => ?_⟩
   ·rw [Yb Ys er, show Ys (.work w) = some w from rfl, yQ, ey]
    rfl
   ·rw [Qj (Qk e hW)]; exact s1 _ _ e
  ·refine ⟨_, rfl, ?_, by omega, hE, s1⟩
   rw [Yb Ys er, Ki (fun e => y (by rw [e]; exact yesS _)), ey]
   simp
 rintro τ ys H5 ⟨v, rfl, ey, _, hE, s5⟩
 rw [kX] at ey
 have C0 : Chg K H H5 P2 N W nms B pd.length := ⟨⟨kvs, pd, s5 _ _ hP4, hpd.mild (Same.mild (s04.trans s5)), jX _⟩, s5 _ _ hN4, by rw [hE, ey]; rfl, s04.trans s5⟩
 have hl2 : (2 : Nat) < sizeLine := by decide
 refine ⟨_, rfl, z, 6, rfl, rfl, by show (0 : Int) < 6; decide, ?_⟩
 refine Vb (fun σ' H' => σ' = [some (.ref P), some (.ref d), some (.int z), some (.ref P2), some (.ref N), some (.ref W), some (.int (z % 6)), none, none, none] ∧ Chg K H H' P2 N W nms B (pd.length + 1)) ?_ fun REST => ?_
 rotate_left
 ·refine ⟨_, rfl, rfl, _, rfl, ite2 (fun _ => ?_) (fun _ => REST _ _ ⟨rfl, C0.le (by omega)⟩)⟩
  refine ⟨by show 2 ≤ sizeLine; decide, fun t1 ht1 => ?_⟩
  have C1 := C0.more (Qc ht1 (.tup [.str "a", .int 0]))
  have hv : PvIs K (upd H5 t1 (.tup [.str "a", .int 0])) (.ref t1) (some ("a", 0)) := ⟨t1, rfl, Xb Qb, by decide⟩
  generalize upd H5 t1 (.tup [.str "a", .int 0]) = H6 at C1 hv ⊢
  obtain ⟨x, ex, hx⟩ := Qbj (z := z / 5) nm0
  have x12 := nm12 x hx
  refine ⟨_, rfl, _, rfl, _, rfl, z, 5, rfl, rfl, ⟨by decide, by decide⟩, _, rfl, N, _, rfl, .inl (Qd C1.hN), _, _, rfl, rfl, by show (0 : Int) < _; rw [jZ]; omega, N, _, _, _, rfl, rfl, Qd C1.hN, ex, _, rfl, z, 1000, rfl, rfl, ⟨by decide, by decide⟩, _, 3, rfl, rfl, by show (0 : Int) < 3; decide, ?_⟩
  refine ⟨_, rfl, "qz", rfl, Nat.le_of_lt hl2, fun y hy => ?_⟩
  have hy2 : y.length ≤ 2 := hy
  obtain ⟨H7, hput, _, C2⟩ := C1.put fP2 (by omega) (x ++ y) hv
  exact ⟨x, y, rfl, rfl, by omega, P2, H7, rfl, hput, REST _ _ ⟨rfl, C2⟩⟩
 rintro σ' H6 ⟨rfl, C1⟩
 refine Ko (fun σ' H' => (∃ v7 v8 v9 : Option V, σ' = [some (.ref P), some (.ref d), some (.int z), some (.ref P2), some (.ref N), some (.ref W), some (.int (z % 6)), v7, v8, v9]) ∧ Chg K H H' P2 N W nms B (pd.length + 6)) ?_ fun REST => ?_
 ·rintro σ' H7 ⟨⟨v7, v8, v9, rfl⟩, C⟩
  exact ⟨_, rfl, q P2 H7 C.same C.fd⟩
 refine ⟨_, rfl, by show 0 ≤ sizeLine; decide, fun pn hpn => ?_⟩
 have C2 := C1.more (Qc hpn (.lst []))
 have hpn7 : upd H6 pn (.lst []) pn = some (.lst []) := Qb
 generalize upd H6 pn (.lst []) = H7 at C2 hpn7 ⊢
 refine ⟨W, pn, _, rfl, rfl, Qd C2.hW, Qd hpn7, _, rfl, ite2 (fun y => ?_) (fun _ => iteF (REST _ _ ⟨⟨_, _, _, rfl⟩, C2.le (by omega)⟩))⟩
 refine ⟨_, rfl, _, _, rfl, rfl, _, rfl, ite2 (fun _ => ?_) (fun _ => REST _ _ ⟨⟨_, _, _, rfl⟩, C2.le (by omega)⟩)⟩
 have w0 : 0 < (wks B).length := by
  cases e : wks B with
  | nil => rw [e] at y; exact nomatch y
  | cons a b => exact Nat.succ_pos _
 obtain ⟨wk, ewk, hwk⟩ := Qbj (z := z / 5) w0
 refine ⟨_, rfl, _, rfl, z, 5, rfl, rfl, ⟨by decide, by decide⟩, _, rfl, W, _, rfl, .inl (Qd C2.hW), _, _, rfl, rfl, by show (0 : Int) < _; rw [jZ]; omega, W, _, _, _, rfl, rfl, Qd C2.hW, ewk, ?_⟩
 obtain ⟨kvs7, pd7, hk7, hp7, hl7⟩ := id C2.fd
 refine ⟨_, rfl, P2, rfl, .inl ⟨kvs7, .inl hk7⟩, _, rfl, by show 2 ≤ sizeLine; decide, fun t8 ht8 => ?_⟩
 have s8 := Qc ht8 (.tup [.str "a", .int 0])
 have C3 := C2.more s8
 have hk8 := s8 _ _ hk7
 have ht : PvIs K (upd H7 t8 (.tup [.str "a", .int 0])) (.ref t8) (some ("a", 0)) := ⟨t8, rfl, Xb Qb, by decide⟩
 refine ⟨_, DGet.k (k := Sum.inr wk) hk8, ?_⟩
 have hval : ∃ o, PvIs K (upd H7 t8 (.tup [.str "a", .int 0])) ((valV kvs7 (Sum.inr wk)).getD (.ref t8)) o := by
  rcases Qev (hp7.mild (Same.mild s8)).rel wk with ⟨ev, _⟩ | ⟨v, o, ev, _, hv⟩
  ·rw [ev]; exact ⟨_, ht⟩
  ·rw [ev]; exact ⟨o, hv⟩
 generalize (valV kvs7 (Sum.inr wk)).getD (.ref t8) = v8 at hval ⊢
 generalize upd H7 t8 (.tup [.str "a", .int 0]) = H8 at C3 hval ⊢
 obtain ⟨o8, hv8⟩ := hval
 clear hk7 hp7 hk8 s8 ht ht8 ewk
 refine Vb (fun σ' H' => ∃ (t8 : Addr) (a : V) (i : Int), σ' = [some (.ref P), some (.ref d), some (.int z), some (.ref P2), some (.ref N), some (.ref W), some (.int (z % 6)), some (.str wk), some (.ref t8), none] ∧ SqT K H' t8 [a, .int i] ∧ fb a ∧ i.natAbs ≤ 10 ^ 20 ∧ Chg K H H' P2 N W nms B (pd.length + 1)) ?_ fun REST2 => ?_
 rotate_left
 ·refine ⟨_, rfl, v8, o8, rfl, hv8, fun t a i e hT fa hi _ => ?_, fun _ => ?_⟩
  ·subst e
   exact ⟨_, rfl, ite2 (fun y => nomatch y) (fun _ => REST2 _ _ ⟨t, a, i, rfl, hT, fa, hi, C3.le (by omega)⟩)⟩
  ·refine ⟨_, rfl, ite2 (fun _ => ?_) (fun y => absurd rfl y)⟩
   refine ⟨by show 2 ≤ sizeLine; decide, fun t9 ht9 => ?_⟩
   exact REST2 _ _ ⟨t9, .str "a", 0, rfl, Xb Qb, Qii _, by decide, (C3.more (Qc ht9 _)).le (by omega)⟩
 clear hv8 C3 C2 hpn7
 rintro σ' H9 ⟨t8, a, i, rfl, hT, fa, hi, C⟩
 obtain ⟨u0, e0⟩ : ∃ u0, us[0]? = some u0 := ⟨_, gE (by
  rw [lu]
  exact (kJ.mp bk.hd).1)⟩
 obtain ⟨r0, l0, er0, rfl, hl0⟩ := (hB.same C.same).get e0
 rw [bk.hd] at er0
 cases er0
 have n1 := bk.n1
 have n12 := bk.n12
 refine ⟨_, rfl, d, _, _, _, rfl, rfl, Qd (C.same _ _ hd), (show atI us ((0 : Nat) : Int) = some (.ref l0) from Zj e0), l0, _, _, _, rfl, rfl, Qd hl0, (show atI ((BR.days n).cells.map kV) 1 = some (.int n) from rfl), ?_⟩
 have fb3 := Qaa hi
 -- the five changes, one behind the other
 refine Vb (fun σ' H' => σ' = [some (.ref P), some (.ref d), some (.int z), some (.ref P2), some (.ref N), some (.ref W), some (.int (z % 6)), some (.str wk), some (.ref t8), some (.int n)] ∧ SqT K H' t8 [a, .int i] ∧ Chg K H H' P2 N W nms B (pd.length + 2)) ?_ fun R1 => ?_
 rotate_left
 ·refine ⟨_, rfl, rfl, _, rfl, ite2 (fun _ => ?_) (fun _ => iteF (R1 _ _ ⟨rfl, hT, C.le (by omega)⟩))⟩
  obtain ⟨kvs1, pd1, hk1, hp1, hl1⟩ := id C.fd
  refine ⟨_, rfl, _, rfl, P2, _, rfl, DGet.k (k := Sum.inr wk) hk1, _, rfl, ite2 (fun y => ?_) (fun _ => R1 _ _ ⟨rfl, hT, C.le (by omega)⟩)⟩
  obtain ⟨v, ev⟩ := jZa.mp y
  exact ⟨_, rfl, P2, rfl, .inl ⟨kvs1, .inl hk1⟩, _, rfl, kvs1, Sum.inr wk, v, hk1, rfl, ev, R1 _ _ ⟨rfl, (Ve hk1 _).tup hT, (C.drop fP2 hk1 wk).le (by omega)⟩⟩
 clear hT C hl0
 rintro σ' H9 ⟨rfl, hT, C⟩
 refine Ko (fun σ' H' => σ' = [some (.ref P), some (.ref d), some (.int z), some (.ref P2), some (.ref N), some (.ref W), some (.int (z % 6)), some (.str wk), some (.ref t8), some (.int n)] ∧ SqT K H' t8 [a, .int i] ∧ Chg K H H' P2 N W nms B (pd.length + 3)) ?_ fun R1 => ?_
 rotate_left
 ·refine ⟨_, rfl, rfl, _, rfl, ite2 (fun _ => ?_) (fun _ => R1 _ _ ⟨rfl, hT, C.le (by omega)⟩)⟩
  obtain ⟨x, ex, hx⟩ := Qbj (z := z / 40) nm0
  refine ⟨_, rfl, _, rfl, z, 40, rfl, rfl, ⟨by decide, by decide⟩, _, rfl, N, _, rfl, .inl (Qd C.hN), _, _, rfl, rfl, by show (0 : Int) < _; rw [jZ]; omega, N, _, _, _, rfl, rfl, Qd C.hN, ex, _, rfl, t8, _, _, _, rfl, rfl, hT, (show atI [a, V.int i] 1 = some (.int i) from rfl), by show 2 ≤ sizeLine; decide, fun t9 ht9 => ?_⟩
  have s9 := Qc ht9 (.tup [.str x, .int i])
  obtain ⟨H7, hput, ml, C2⟩ := (C.more s9).put fP2 (by omega) wk (o := some (x, i)) (v := .ref t9) ⟨t9, rfl, Xb Qb, hi⟩
  exact ⟨_, rfl, _, rfl, P2, H7, rfl, hput, R1 _ _ ⟨rfl, ml.tup (s9.tup hT), C2⟩⟩
 clear hT C
 rintro σ' H9 ⟨rfl, hT, C⟩
 refine Ko (fun σ' H' => σ' = [some (.ref P), some (.ref d), some (.int z), some (.ref P2), some (.ref N), some (.ref W), some (.int (z % 6)), some (.str wk), some (.ref t8), some (.int n)] ∧ SqT K H' t8 [a, .int i] ∧ Chg K H H' P2 N W nms B (pd.length + 4)) ?_ fun R1 => ?_
 rotate_left
 ·refine ⟨_, rfl, rfl, _, rfl, ite2 (fun _ => ?_) (fun _ => R1 _ _ ⟨rfl, hT, C.le (by omega)⟩)⟩
  refine ⟨_, rfl, t8, _, _, _, rfl, rfl, hT, (show atI [a, V.int i] 0 = some a from rfl), _, rfl, _, rfl, _, rfl, _, _, rfl, rfl, _, _, rfl, rfl, ⟨by decide, by decide, by decide⟩, _, rfl, by show 5 ≤ sizeLine; decide, fun p9 hp9 => ?_⟩
  have s8 := Qc hp9 (.lst [.int (-1), .int n, .int (n - 1), .int (10 ^ (20 : Int).toNat), .int (-3)])
  have h8 : upd H9 p9 (.lst [.int (-1), .int n, .int (n - 1), .int (10 ^ (20 : Int).toNat), .int (-3)]) p9 = some (.lst [.int (-1), .int n, .int (n - 1), .int (10 ^ (20 : Int).toNat), .int (-3)]) := Qb
  generalize upd H9 p9 (.lst [.int (-1), .int n, .int (n - 1), .int (10 ^ (20 : Int).toNat), .int (-3)]) = H10 at s8 h8 ⊢
  obtain ⟨v, ev, hv⟩ := Qbi (z := z / 40) (xs := [V.int (-1), .int n, .int (n - 1), .int (10 ^ (20 : Int).toNat), .int (-3)]) (by show 0 < 5; decide)
  obtain ⟨j, rfl, hj⟩ : ∃ j, v = .int j ∧ j.natAbs ≤ 10 ^ 20 := by
   simp only [yJ, jYb, or_false] at hv
   rcases hv with rfl | rfl | rfl | rfl | rfl
   ·exact ⟨_, rfl, by decide⟩
   ·exact ⟨_, rfl, by omega⟩
   ·exact ⟨_, rfl, by omega⟩
   ·exact ⟨_, rfl, by decide +kernel⟩
   ·exact ⟨_, rfl, by decide⟩
  refine ⟨_, rfl, z, 40, rfl, rfl, ⟨by decide, by decide⟩, _, 5, rfl, rfl, by show (0 : Int) < 5; decide, p9, _, _, _, rfl, rfl, Qd h8, ev, by show 2 ≤ sizeLine; decide, fun t9 ht9 => ?_⟩
  have s9 := Qc ht9 (.tup [a, .int j])
  obtain ⟨o, ho⟩ := Qdw (K := K) (t := t9) (a := a) (i := j) (Xb (show upd H10 t9 (.tup [a, .int j]) t9 = _ from Qb)) fa hj
  obtain ⟨H7, hput, ml, C2⟩ := ((C.more s8).more s9).put fP2 (by omega) wk ho
  exact ⟨_, rfl, _, rfl, P2, H7, rfl, hput, R1 _ _ ⟨rfl, ml.tup (s9.tup (s8.tup hT)), C2⟩⟩
 clear hT C
 rintro σ' H9 ⟨rfl, hT, C⟩
 refine Ko (fun σ' H' => σ' = [some (.ref P), some (.ref d), some (.int z), some (.ref P2), some (.ref N), some (.ref W), some (.int (z % 6)), some (.str wk), some (.ref t8), some (.int n)] ∧ SqT K H' t8 [a, .int i] ∧ Chg K H H' P2 N W nms B (pd.length + 5)) ?_ fun R1 => ?_
 rotate_left
 ·refine ⟨_, rfl, rfl, _, rfl, ite2 (fun _ => ?_) (fun _ => R1 _ _ ⟨rfl, hT, C.le (by omega)⟩)⟩
  refine ⟨_, rfl, t8, _, _, _, rfl, rfl, hT, (show atI [a, V.int i] 0 = some a from rfl), _, rfl, _, rfl, z, 40, rfl, rfl, ⟨by decide, by decide⟩, _, 3, rfl, rfl, by show (0 : Int) < 3; decide, _, _, rfl, rfl, _, _, rfl, ?_⟩
  obtain ⟨j, ej⟩ : ∃ j, (if n - z / 40 % 3 > 0 then n - z / 40 % 3 else 0) = j := ⟨_, rfl⟩
  have hj : j.natAbs ≤ 10 ^ 20 := by
   rw [← ej]
   split <;> omega
  rw [ej]
  refine ⟨by show 2 ≤ sizeLine; decide, fun t9 ht9 => ?_⟩
  have s9 := Qc ht9 (.tup [a, .int j])
  obtain ⟨o, ho⟩ := Qdw (K := K) (t := t9) (a := a) (i := j) (Xb (show upd H9 t9 (.tup [a, .int j]) t9 = _ from Qb)) fa hj
  obtain ⟨H7, hput, ml, C2⟩ := (C.more s9).put fP2 (by omega) wk ho
  exact ⟨_, rfl, _, rfl, P2, H7, rfl, hput, R1 _ _ ⟨rfl, ml.tup (s9.tup hT), C2⟩⟩
 clear hT C
 rintro σ' H9 ⟨rfl, hT, C⟩
 refine ⟨_, rfl, rfl, _, rfl, ite2 (fun _ => ?_) (fun _ => REST _ _ ⟨⟨_, _, _, rfl⟩, C.le (by omega)⟩)⟩
 refine ⟨_, rfl, _, rfl, z, 40, rfl, rfl, ⟨by decide, by decide⟩, t8, a, i, _, rfl, hT, fa, hi, by omega, fun v o H10 s10 hv => ?_⟩
 obtain ⟨H7, hput, ml, C2⟩ := (C.more s10).put fP2 (by omega) wk hv
 exact ⟨_, rfl, _, rfl, P2, H7, rfl, hput, REST _ _ ⟨⟨_, _, _, rfl⟩, C2.le (by omega)⟩⟩
end
abbrev sDue : Stmt := top 35
def lenV (w : Str) : V → BR → Option Int
 | .str x => lenOf w x
 | _ => fun _ => none
theorem way3F {r : BR} {w : Str} {a : V} : (((r.cells.take 3).map kV).length = [V.str "way", .str w, a].length ∧ ∀ j, j < ((r.cells.take 3).map kV).length → eqV (((r.cells.take 3).map kV).getD j .non) ([V.str "way", .str w, a].getD j .non) = true) ↔ ∃ x l c, a = .str x ∧ r = .way w x l c := by
 constructor
 ·rintro ⟨hl, h⟩
  rw [hl] at h
  have h0 := h 0 (by show 0 < 3; decide)
  have hw : r.word = "way" := by
   have e : ((r.cells.take 3).map kV).getD 0 .non = .str r.word := by cases r <;> rfl
   rw [e] at h0
   exact beq_iff_eq.mp h0
  obtain ⟨w', v', l, c, rfl⟩ := Qav hw
  have h1 : (w' == w) = true := h 1 (by show 1 < 3; decide)
  have h2 : eqV (.str v') a = true := h 2 (by show 2 < 3; decide)
  rw [← beq_iff_eq.mp h1]
  cases a with
  | str x => have e : (v' == x) = true := h2; rw [← beq_iff_eq.mp e]; exact ⟨_, l, c, rfl, rfl⟩
  | _ => exact nomatch h2
 ·rintro ⟨x, l, c, rfl, rfl⟩
  refine ⟨rfl, fun j hj => ?_⟩
  match j, hj with
  | 0, _ => exact beq_self_eq_true _
  | 1, _ => exact beq_self_eq_true w
  | 2, _ => exact beq_self_eq_true x
  | j + 3, h => exact absurd h (by show ¬ j + 3 < 3; omega)
theorem lenV_some {w : Str} {a : V} {r : BR} {l : Int} : lenV w a r = some l ↔ ∃ x c, a = .str x ∧ r = .way w x l c := by
 cases a with
 | str x =>
  refine ⟨fun h => ?_, fun ⟨x', c, e, er⟩ => ?_⟩
  ·obtain ⟨c, e⟩ := lenOf_some.mp h
   exact ⟨x, c, rfl, e⟩
  ·cases e
   exact lenOf_some.mpr ⟨c, er⟩
 | _ => exact ⟨fun h => (nomatch h), fun ⟨_, _, e, _⟩ => (nomatch e)⟩
theorem okV_aW (n : Int) (B : List BR) (w : Str) (a : V) (i : Int) : okV n B w (some (aW a i)) = match B.filterMap (lenV w a) with
  | [] => false
  | l :: _ => decide (0 ≤ i) && decide (i + l ≤ n) := by
 cases a with
 | str x => rfl
 | _ =>
  have e : ∀ B : List BR, B.filterMap (fun _ => (none : Option Int)) = [] := fun B => by induction B with
   | nil => rfl
   | cons r B ih => exact ih
  show false = match B.filterMap (fun _ => (none : Option Int)) with | [] => false | l :: _ => _
  rw [e]
theorem Qio {f : Str → Bool} {l : List Str} {i : Nat} {w : Str} (h : (l.take i).filter f = []) (e : l[i]? = some w) (hf : f w = true) : ∃ r, l.filter f = w :: r := by
 obtain ⟨hi, e2⟩ := kJ.mp e
 refine ⟨(l.drop (i + 1)).filter f, ?_⟩
 rw [show l.filter f = (l.take i ++ l.drop i).filter f by rw [jJc], jQd, h, List.nil_append, jYd hi, e2, wZ hf]
def DueW (n : Int) (B : List BR) (pd : PD) (H : Hp) (v : V) : Prop := (∃ w r, badW n B pd = w :: r ∧ Qhv H (some (wkT w)) v) ∨ (badW n B pd = [] ∧ ∃ qs : List Str, qs.Perm (othW B (pd.map (·.1))) ∧ PyProof.Rows.sortedS qs = true ∧ Qhv H (qs.head?.map wkT) v)
def Qmb (K : Fg) : Sp := fun vs H Q _ => ∃ (d P : Addr) (n : Int) (us : List V) (B : List BR) (kvs : List (Key × V)) (pd : PD), vs = [.ref d, .ref P] ∧ H d = some (.lst us) ∧ RowsB H us B ∧ BookOk n B ∧ H P = some (.dK kvs) ∧ PdAt K H kvs pd ∧ pd.length < 64 ∧ ∀ (v : V) (H' : Hp), Same H H' → DueW n B pd H' v → Q v H'
section
variable {P : Program} {w : World} {K : Fg} {mg : Str → Option Value} {base : Heap}
theorem scDue : FnScope ["_law_book_here", "_law_plan_here", "_law_works_here", "_law_work", "_law_way_here", "_law_begin", "_law_lengths", "_law_others"] ["_law_book_here", "_law_plan_here"] (Qi sDue) := ⟨rfl, rfl, rfl, by decide +kernel, rfl, by decide +kernel, by decide +kernel⟩
theorem okDue (F : Fn K mg "_law_due" sDue) (M : Mg mg) (cl_is_tuple : Cal P w K mg base 2 "_law_is_tuple" ["_law_done"] (Qoe K)) : Cal P w K mg base 4 "_law_due" ["_law_book_here", "_law_plan_here"] (Qmb K) := by
 refine Ya F scDue (fun _ _ _ _ _ _ => Kx (fun _ _ => rfl)) (fun vs H Q E h => ?_) (fun f cdv A outer s H vs Q E hr h => ?_)
 ·obtain ⟨d, P, n, us, B, kvs, pd, rfl, _⟩ := h
  rfl
 obtain ⟨d, P, n, us, B, kvs, pd, rfl, hd, hB, bk, hP, hpd, h64, q⟩ := h
 have hu6 : (A.deeper (PyProof.Rows.envOfC "_law_due" (Qi sDue) s.heap.objs.size f cdv)).units + 6 < cLine := xQ (xV (by decide) _) hr.un
 have hu : (A.deeper (PyProof.Rows.envOfC "_law_due" (Qi sDue) s.heap.objs.size f cdv)).units + 1 < cLine := xQ (xV (by decide) _) hr.un
 refine ⟨_, (Qh (Qr (i := 2) scDue.nd rfl (Or.inr rfl) (Zs ["_law_row"] [none] rfl (Xk (pv 0)) (fun _ _ _ => (Qt (i := 0) (show (["_law_row"] : List Str).Nodup by decide +kernel) rfl (Or.inl rfl) (Or.inr rfl))) (fun _ _ _ => (Zk (Qp Ym (Qu (Xr (K := K) rfl) (pv 0) Qe (fun _ _ => rfl)) Qx (Qw _)))) (fun _ _ _ => (Qu (Xr (K := K) rfl) (pv 0) Qe (fun _ _ => rfl)))))
  (Qh (Yq PassesOwn.never rfl (Xk (pv 2)) (Qt (i := 3) scDue.nd rfl (Or.inr rfl) (Or.inl rfl)) (Qh (Xx (Qkz (Qhb hu (pv 3) (pv 1))) (Ql (Xe (Xh (Qa Qx (Qa (pv 3) Qf))))) Xa)
  (Qh (Xx (Ks (Jv (Xp cl_is_tuple (hr.mono (by decide)) (Qa (Zz hu (pv 1) (pv 3) (fun _ _ => rfl)) Qf)))) (Ql (Xe (Xh (Qa Qx (Qa (pv 3) Qf))))) Xa)
  (Qh (Qlb (Zz hu (pv 1) (pv 3) (fun _ _ => rfl)) (Qdz rfl (Yy (Qt (i := 4) scDue.nd rfl (Or.inr rfl) (Or.inl rfl)) (Yy (Qt (i := 5) scDue.nd rfl (Or.inl rfl) (Or.inl rfl)) Qad))))
  (Qh (Qaj (i := 6) ["_law_row", "_law_work", "_law_way_here"] [none, some 3, some 4] rfl scDue.nd rfl (Or.inl rfl) (Xk (pv 0)) (fun _ _ _ => (Qt (i := 0) (show (["_law_row", "_law_work", "_law_way_here"] : List Str).Nodup by decide +kernel) rfl (Or.inl rfl) (Or.inr rfl))) (fun _ _ _ => (Zk (Qp (op_eqF (K := K) (n := 6) rfl hu6) (Yc (Kh (K := K) rfl) (pv 0) Zd (Yf Qe)) (Xf (Qa Qx (Qa (pv 1) (Qa (pv 2) Qf)))) (Qw _)))) (fun _ _ _ => (Qu (Xr (K := K) rfl) (pv 0) Qe (fun _ _ => rfl))))
  (Ql (Xx (PW.pt (Qgd (Qp (Qjq (K := K) (n := 6) rfl hu6) (pv 6) (Xf Qf) (Qw _)) (Qgd (Qp Qgj (pv 5) Qe (Qw _)) (Qgc (Qp Qaf (Qm Qz (pv 5) (Qu Qq (pv 6) Qe (fun _ _ => rfl))) (Qu Qq (Qu Qq (pv 0) Qe (fun _ _ => rfl)) Qe (fun _ _ => rfl)) (Qw _)))))) (Ql (Xe (Xh (Qa Qx (Qa (pv 3) Qf))))) Xa)))))))
  (Qh (Qnj (Qr (i := 7) scDue.nd rfl (Or.inl rfl) (Qs (Qcv (K := K) rfl) rfl M.sorted Vt (Qa (Zs ["_law_name_here", "_law_works_here"] [none, some 2] rfl (Qoa (pv 1)) (fun _ _ _ => (Qt (i := 0) (show (["_law_name_here", "_law_works_here"] : List Str).Nodup by decide +kernel) rfl (Or.inl rfl) (Or.inr rfl))) (fun _ _ _ => (Zk (Qp (Kc (K := K) rfl) (pv 0) (pv 1) rfl))) (fun _ _ _ => (pv 0))) Qf))))
  (Qh (Xx (Qp (Qas (K := K) (n := 6) rfl hu6) (pv 7) (Xf Qf) (Qw _)) (Ql (Xe (Xh (Qa Qx (Qa (Qu Qq (pv 7) Qe (fun _ _ => rfl)) Qf))))) Xa)
  (Ql (Xe Kr)))))), ?_⟩
 have hz : (20000 : Nat) < sizeLine := by decide
 have lu := hB.length
 have bl := bk.wb.len
 have lkv := hpd.len
 have wl : (wks B).length ≤ B.length := wY _ _
 refine ⟨_, rfl, d, rfl, ⟨_, Qd hd⟩, fun W hW => ?_⟩
 let Pv36 : Nat → St → List V → Hp → Prop := fun m τ ys H1 => ∃ v : Option V, τ = [v] ∧ ys = ((B.take m).filterMap Ys).map V.str ∧ ys.length ≤ m ∧ H1 W = some (.lst ys) ∧ Same H H1
 refine Yd (n := B.length) Pv36 ?_ (fun m τ ys H1 hm h => ?_) (fun m τ ys H1 hm h => ?_) (fun τ ys H1 h => ?_) ?_ ?_
 ·exact ⟨none, rfl, rfl, jX _, Qb, Qc hW _⟩
 ·obtain ⟨v, rfl, ey, hl, hE, s1⟩ := h
  exact ⟨hE, by omega⟩
 ·obtain ⟨v, rfl, ey, hl, hE, s1⟩ := h
  exact ⟨us, us[m]'(by omega), s1.seq (Qd hd), gE (by omega)⟩
 ·obtain ⟨v, rfl, ey, hl, hE, s1⟩ := h
  exact ⟨us, s1.seq (Qd hd), by omega⟩
 ·rintro m τ ys H1 x H2 hm ⟨v, rfl, ey, hl, hE, s1⟩ ⟨rfl, e1⟩
  obtain ⟨r, lr, er, rfl, hr⟩ := (hB.same s1).get (e1 _ (s1.seq (Qd hd)))
  refine ⟨_, rfl, lr, _, _, _, rfl, rfl, Qd hr, Yp r, rfl, _, rfl, ite2 (fun y => ?_) (fun y => ?_)⟩
  ·obtain ⟨w, rfl⟩ := Kg (eqS y)
   refine ⟨_, rfl, lr, _, _, _, rfl, rfl, Qd hr, (show atI ((BR.work w).cells.map kV) 1 = some (.str w) from rfl), hE, _, rfl, ?_, by rw [jY]; exact zZ hl, Qb, fun b o e => ?_⟩
   ·rw [Yb Ys er, show Ys (.work w) = some w from rfl, yQ, ey]
    rfl
   ·rw [Qj (Qk e hW)]; exact s1 _ _ e
  ·refine ⟨_, rfl, ?_, by omega, hE, s1⟩
   rw [Yb Ys er, Ki (fun e => y (by rw [e]; exact yesS _)), ey]
   simp
 rintro τ ys H1 ⟨v, rfl, ey, _, hE, s1⟩
 rw [kX] at ey
 have hW1 : H1 W = some (.lst ((wks B).map V.str)) := by rw [hE, ey]; rfl
 clear hE ey
 obtain ⟨u0, e0⟩ : ∃ u0, us[0]? = some u0 := ⟨_, gE (by
  rw [lu]
  exact (kJ.mp bk.hd).1)⟩
 obtain ⟨r0, l0, er0, rfl, hl0⟩ := hB.get e0
 rw [bk.hd] at er0
 cases er0
 let bad : Str → Bool := fun w => !okV n B w (lk pd w)
 let Pv37 : Nat → St → Hp → Prop := fun i σ H2 => ∃ v3 v4 v5 v6 : Option V, σ = [some (.ref d), some (.ref P), some (.ref W), v3, v4, v5, v6, none] ∧ ((wks B).take i).filter bad = [] ∧ Same H1 H2
 refine ⟨_, rfl, W, rfl, ⟨_, Qd hW1⟩, Kz (K := K) (a := W) (xs := (wks B).map V.str) Pv37 ⟨none, none, none, none, rfl, rfl, Same.refl _⟩ (fun i σ H2 _ h => ?_) ?_ ?_⟩
 ·obtain ⟨_, _, _, _, rfl, _, s2⟩ := h
  exact s2.seq (Qd hW1)
 ·rintro i x σ H2 ex ⟨v3, v4, v5, v6, rfl, hok, s2⟩
  rw [yY] at ex
  cases ew : (wks B)[i]? with
  | none => rw [ew] at ex; exact nomatch ex
  | some wk =>
  rw [ew] at ex
  cases ex
  have s12 := s1.trans s2
  have hk2 := s12 _ _ hP
  have hp2 := hpd.mild (Same.mild s12)
  -- the work is wrong
  have wrong : ∀ H3 : Hp, okV n B wk (lk pd wk) = false → Same H1 H3 → ∀ T, H3 T = none → Q (.ref T) (upd H3 T (.tup [.str "work", .str wk])) := fun H3 hn s3 T hT => by
   obtain ⟨r, er⟩ := Qio (f := bad) hok ew (by show (!okV n B wk (lk pd wk)) = true; rw [hn]; rfl)
   exact q _ _ ((s1.trans s3).trans (Qc hT _)) (.inl ⟨wk, r, er, T, rfl, Qb⟩)
  have right : ∀ (v3 v4 v5 v6 : Option V) (H3 : Hp), okV n B wk (lk pd wk) = true → Same H1 H3 → ∃ v3' v4' v5' v6' : Option V, ([some (V.ref d), some (.ref P), some (.ref W), v3, v4, v5, v6, none] : St) = [some (.ref d), some (.ref P), some (.ref W), v3', v4', v5', v6', none] ∧ ((wks B).take (i + 1)).filter bad = [] ∧ Same H1 H3 := fun v3 v4 v5 v6 H3 hy s3 => by
   refine ⟨_, _, _, _, rfl, ?_, s3⟩
   rw [Zt ew, jQd, hok, wJ (p := bad) (show ¬ (!okV n B wk (lk pd wk)) = true by rw [hy]; decide)]
   rfl
  refine ⟨_, rfl, _, rfl, P, _, rfl, DGet.k (k := Sum.inr wk) hk2, _, rfl, ite2 (fun y => ?_) (fun y => ?_)⟩
  ·have e5 : okV n B wk (lk pd wk) = false := by
    rcases Qev hp2.rel wk with ⟨_, el⟩ | ⟨v, o, ev, _⟩
    ·rw [el]; rfl
    ·rw [ev] at y; exact nomatch y
   exact ⟨_, rfl, by show 2 ≤ sizeLine; decide, wrong H2 e5 s2⟩
  obtain ⟨v, o, ev, el, hv⟩ : ∃ v o, valV kvs (Sum.inr wk) = some v ∧ lk pd wk = some o ∧ PvIs K H2 v o := by
   rcases Qev hp2.rel wk with ⟨ev, _⟩ | h
   ·rw [ev] at y; exact absurd rfl y
   ·exact h
  have dg : DGet H2 P (.str wk) (some v) := by rw [← ev]; exact DGet.k (k := Sum.inr wk) hk2
  rw [el] at wrong right
  refine ⟨_, rfl, _, rfl, P, _, rfl, dg, v, o, rfl, hv, fun t a b e hT fa hi ho => ?_, fun ho => ?_⟩
  rotate_left
  ·subst ho
   exact ⟨_, rfl, ite2 (fun _ => ⟨_, rfl, by show 2 ≤ sizeLine; decide, wrong H2 rfl s2⟩) (fun y => absurd rfl y)⟩
  subst e ho
  rw [okV_aW] at wrong right
  refine ⟨_, rfl, ite2 (fun y => nomatch y) (fun _ => ?_)⟩
  refine ⟨_, rfl, _, rfl, P, _, rfl, dg, t, _, rfl, hT, rfl, _, _, rfl, _, _, rfl, rfl, ?_⟩
  refine ⟨_, rfl, d, rfl, ⟨_, Qd (s12 _ _ hd)⟩, fun L hL => ?_⟩
  let Pv38 : Nat → St → List V → Hp → Prop := fun m τ ys H3 => ∃ v' : Option V, τ = [v', some (.str wk), some a] ∧ ys = ((B.take m).filterMap (lenV wk a)).map V.int ∧ ys.length ≤ m ∧ H3 L = some (.lst ys) ∧ Same H2 H3
  refine Yd (n := B.length) Pv38 ?_ (fun m τ ys H3 hm h => ?_) (fun m τ ys H3 hm h => ?_) (fun τ ys H3 h => ?_) ?_ ?_
  ·exact ⟨none, rfl, rfl, jX _, Qb, Qc hL _⟩
  ·obtain ⟨v', rfl, ey, hl, hE, s3⟩ := h
   exact ⟨hE, by omega⟩
  ·obtain ⟨v', rfl, ey, hl, hE, s3⟩ := h
   exact ⟨us, us[m]'(by omega), s3.seq (Qd (s12 _ _ hd)), gE (by omega)⟩
  ·obtain ⟨v', rfl, ey, hl, hE, s3⟩ := h
   exact ⟨us, s3.seq (Qd (s12 _ _ hd)), by omega⟩
  ·rintro m τ ys H3 x H4 hm ⟨v', rfl, ey, hl, hE, s3⟩ ⟨rfl, e1⟩
   obtain ⟨r, lr, er, rfl, hr⟩ := (hB.same (s12.trans s3)).get (e1 _ (s3.seq (Qd (s12 _ _ hd))))
   refine ⟨_, rfl, _, rfl, lr, _, rfl, Qd hr, fun p hp => ?_⟩
   rw [cut3]
   have s4 := Qc hp (.lst ((r.cells.take 3).map kV))
   refine ⟨_, rfl, _, rfl, by show 3 ≤ sizeLine; decide, fun p2 hp2 => ?_⟩
   have s5 := Qc hp2 (.lst [.str "way", .str wk, a])
   have s45 := s4.trans s5
   refine ⟨p, p2, (r.cells.take 3).map kV, [.str "way", .str wk, a], rfl, rfl, Qd (s5 _ _ Qb), Qd Qb, fun x hx => jZc.mp (flat_keys _) x hx, fun x hx => ?_, fun c hc => ⟨_, rfl, ite2 (fun y => ?_) (fun y => ?_)⟩⟩
   ·simp only [yJ, jYb, or_false] at hx
    rcases hx with rfl | rfl | rfl
    ·rfl
    ·rfl
    ·exact fa.1
   ·obtain ⟨x, l', c', ea, rfl⟩ := way3F.mp (hc.mp y)
    refine ⟨_, rfl, lr, _, _, _, rfl, rfl, Qd (s45 _ _ hr), (show atI ((BR.way wk x l' c').cells.map kV) 3 = some (.int l') from rfl), s45 _ _ hE, _, rfl, ?_, by rw [jY]; exact zZ hl, Qb, fun b o e => ?_⟩
    ·rw [Yb (lenV wk a) er, show lenV wk a (.way wk x l' c') = some l' from lenV_some.mpr ⟨x, c', ea, rfl⟩, yQ, ey]
     rfl
    ·rw [Qj (Qk e hL)]; exact s45 _ _ (s3 _ _ e)
   ·refine ⟨_, rfl, ?_, by omega, s45 _ _ hE, s3.trans s45⟩
    have hn : lenV wk a r = none := by
     cases e : lenV wk a r with
     | none => rfl
     | some l' =>
      obtain ⟨x, c', e2, e3⟩ := lenV_some.mp e
      exact absurd (hc.mpr (way3F.mpr ⟨x, l', c', e2, e3⟩)) y
    rw [Yb (lenV wk a) er, hn, ey]
    simp
  rintro τ ys H3 ⟨v', rfl, ey, _, hE, s3⟩
  rw [kX] at ey
  have s23 := s2.trans s3
  refine ⟨_, rfl, by show 0 ≤ sizeLine; decide, fun pn hpn => ?_⟩
  have s4 := Qc hpn (.lst [])
  have hn4 : upd H3 pn (.lst []) pn = some (.lst []) := Qb
  generalize upd H3 pn (.lst []) = H4 at s4 hn4 ⊢
  have s24 := s23.trans s4
  refine ⟨L, pn, _, rfl, rfl, Qd (s4 _ _ hE), Qd hn4, _, rfl, ?_⟩
  cases eL : B.filterMap (lenV wk a) with
  | nil =>
   rw [eL] at ey wrong
   subst ey
   exact ite2 (fun _ => ite2 (fun _ => ⟨_, rfl, by show 2 ≤ sizeLine; decide, wrong H4 rfl s24⟩) (fun y => absurd rfl y)) (fun y => absurd rfl y)
  | cons l0' ls =>
   rw [eL] at ey wrong right
   subst ey
   refine ite2 (fun y => nomatch y) (fun _ => ?_)
   refine ⟨_, rfl, _, _, rfl, rfl, _, rfl, ite2 (fun y => ?_) (fun y => ?_)⟩
   ·refine ite2 (fun _ => ⟨_, rfl, by show 2 ≤ sizeLine; decide, wrong H4 ?_ s24⟩) (fun y => absurd rfl y)
    have y' := kY y
    show (decide (0 ≤ b) && decide (b + l0' ≤ n)) = false
    rw [zW (show ¬ 0 ≤ b by omega)]
    rfl
   ·have y' : ¬ b < 0 := fun z => y (kZ z)
    refine ⟨_, rfl, _, rfl, L, _, _, _, rfl, rfl, Qd (s4 _ _ hE), (show atI (V.int l0' :: ls.map V.int) ((0 : Nat) : Int) = some (.int l0') from Zj rfl), _, _, rfl, rfl, _, rfl, d, _, _, _, rfl, rfl, Qd (s24 _ _ (s1 _ _ hd)), (show atI us ((0 : Nat) : Int) = some (.ref l0) from Zj e0), l0, _, _, _, rfl, rfl, Qd (s24 _ _ (s1 _ _ hl0)), (show atI ((BR.days n).cells.map kV) 1 = some (.int n) from rfl), _, _, rfl, rfl, _, rfl, ite2 (fun z => ?_) (fun z => ?_)⟩
    ·refine ⟨_, rfl, by show 2 ≤ sizeLine; decide, wrong H4 ?_ s24⟩
     have z' := kY z
     show (decide (0 ≤ b) && decide (b + l0' ≤ n)) = false
     rw [zW (show ¬ b + l0' ≤ n by omega), Bool.and_false]
    ·refine right _ _ _ _ H4 ?_ s24
     have z' : ¬ n < b + l0' := fun w => z (kZ w)
     show (decide (0 ≤ b) && decide (b + l0' ≤ n)) = true
     rw [kZ (show 0 ≤ b by omega), kZ (show b + l0' ≤ n by omega)]
     rfl
 ·rintro σ H2 ⟨v3, v4, v5, v6, rfl, hok, s2⟩
  rw [jZ, kX] at hok
  have hb0 : badW n B pd = [] := hok
  have s12 := s1.trans s2
  have hk2 := s12 _ _ hP
  refine ⟨_, rfl, P, kvs, rfl, hk2, fun nf o D hD => ?_⟩
  have hPf : upd H2 P (.frz o (.dK kvs)) P = some (.frz o (.dK kvs)) := Qb
  have hWf : upd H2 P (.frz o (.dK kvs)) W = some (.lst ((wks B).map V.str)) := (Ve hk2 _) _ _ (s2 _ _ hW1) (fun _ z => nomatch z)
  have back : ∀ b q, H2 b = some q → b ≠ P → upd H2 P (.frz o (.dK kvs)) b = some q := fun b q e ne => by rw [Qj ne]; exact e
  generalize upd H2 P (.frz o (.dK kvs)) = H3 at hPf hWf back hD ⊢
  have kk := hpd.keys
  have key : ∀ (i : Nat) (k : Key) (x : V), kvs[i]? = some (k, x) → ∃ w, (pd.map (·.1))[i]? = some w ∧ k = Sum.inr w := fun i k x e => by
   have e5 : (kvs.map (·.1))[i]? = some k := by rw [yY, e]; rfl
   rw [kk, yY] at e5
   cases e6 : (pd.map (·.1))[i]? with
   | none => rw [e6] at e5; exact nomatch e5
   | some w => rw [e6] at e5; cases e5; exact ⟨w, rfl, rfl⟩
  have lp : (pd.map (·.1)).length = pd.length := jZ ..
  obtain ⟨ks, eks⟩ : ∃ ks, pd.map (·.1) = ks := ⟨_, rfl⟩
  rw [eks] at key lp kk
  let Pv39 : Nat → St → List V → Hp → Prop := fun m τ zs H4 => ∃ v : Option V, τ = [v, some (.ref W)] ∧ zs = (othW B (ks.take m)).map V.str ∧ H4 D = some (.lst zs) ∧ Same H3 H4
  refine Yd (n := kvs.length) Pv39 ?_ (fun m τ zs H4 hm h => ?_) (fun m τ zs H4 hm h => ?_) (fun τ zs H4 h => ?_) ?_ ?_
  ·exact ⟨none, rfl, rfl, Qb, Qc hD _⟩
  ·obtain ⟨v, rfl, rfl, hE, s4⟩ := h
   have := xY (fun w => decide (w ∉ wks B)) (ks.take m)
   rw [xZ] at this
   exact ⟨hE, by rw [jZ]; unfold othW; omega⟩
  ·obtain ⟨v, rfl, rfl, hE, s4⟩ := h
   exact ⟨s4 _ _ hPf, hm⟩
  ·obtain ⟨v, rfl, rfl, hE, s4⟩ := h
   exact ⟨s4 _ _ hPf, jX _⟩
  ·rintro m τ zs H4 x H5 hm ⟨v, rfl, rfl, hE, s4⟩ ⟨k, x', rfl, rfl, ek⟩
   obtain ⟨wk, ew, rfl⟩ := key m k x' ek
   refine ⟨_, rfl, _, rfl, W, _, rfl, .inl (s4.seq (Qd hWf)), rfl, Qew _, _, rfl, ite2 (fun y => ⟨_, rfl, hE, _, rfl, ?_, Qb, fun b o e => ?_⟩) (fun y => ⟨_, rfl, ?_, hE, s4⟩)⟩
   ·have hn : wk ∉ wks B := fun z => by
     have y' : (!inV (.str wk) ((wks B).map V.str)) = true := y
     rw [Qdx z] at y'
     exact nomatch y'
    unfold othW
    rw [Zt ew, jQd, yQ, wZ (p := fun w => decide (w ∉ wks B)) (kZ hn)]; rfl
   ·rw [Qj (Qk e hD)]; exact s4 _ _ e
   ·have hn : ¬ (decide (wk ∉ wks B)) = true := fun z => y (by
     show (!inV (.str wk) ((wks B).map V.str)) = true
     cases e9 : inV (.str wk) ((wks B).map V.str) with
     | false => rfl
     | true => exact absurd (inV_str_iff.mp e9) (kY z))
    unfold othW
    rw [Zt ew, jQd, yQ, wJ (p := fun w => decide (w ∉ wks B)) hn]
    simp
  rintro τ zs H4 ⟨v, rfl, rfl, hE, s4⟩
  rw [jZe (by omega)] at hE
  have lo : (othW B ks).length ≤ ks.length := xY _ _
  refine ⟨D, _, rfl, Qd hE, by omega, fun S qs hS hq hso => ?_⟩
  have s5 := Qc hS (.lst (qs.map V.str))
  have hS5 : upd H4 S (.lst (qs.map V.str)) S = some (.lst (qs.map V.str)) := Qb
  generalize upd H4 S (.lst (qs.map V.str)) = H5 at s5 hS5 ⊢
  have hP5 := s5 _ _ (s4 _ _ hPf)
  refine ⟨P, o, kvs, nf, hP5, ?_⟩
  have s6 : Same H2 (upd H5 P (.dK kvs)) := fun b q e => by
   by_cases eb : b = P
   ·subst eb
    rw [hk2] at e
    cases e
    exact Qb
   ·rw [Qj eb]; exact s5 _ _ (s4 _ _ (back b q e eb))
  have hS6 : upd H5 P (.dK kvs) S = some (.lst (qs.map V.str)) := by rw [Qj (Yl hS5 hP5 (by intro z; cases z))]; exact hS5
  generalize upd H5 P (.dK kvs) = H6 at s6 hS6 ⊢
  have s16 := s12.trans s6
  refine ⟨_, rfl, by show 0 ≤ sizeLine; decide, fun pn hpn => ?_⟩
  have s7 := Qc hpn (.lst [])
  have hn7 : upd H6 pn (.lst []) pn = some (.lst []) := Qb
  generalize upd H6 pn (.lst []) = H7 at s7 hn7 ⊢
  refine ⟨S, pn, _, rfl, rfl, Qd (s7 _ _ hS6), Qd hn7, _, rfl, ?_⟩
  cases qs with
  | nil => exact iteF (q .non H7 (s16.trans s7) (.inr ⟨hb0, [], by rw [eks]; exact hq, hso, rfl⟩))
  | cons w0 ws =>
   refine iteT ⟨_, rfl, S, _, _, _, rfl, rfl, Qd (s7 _ _ hS6), (show atI (V.str w0 :: ws.map V.str) ((0 : Nat) : Int) = some (.str w0) from Zj rfl), by show 2 ≤ sizeLine; decide, fun T hT => ?_⟩
   exact q _ _ ((s16.trans s7).trans (Qc hT _)) (.inr ⟨hb0, w0 :: ws, by rw [eks]; exact hq, hso, T, rfl, Qb⟩)
end
abbrev sLaw : Stmt := top 36
theorem Xq (e : DictEntry) (l : List DictEntry) (x : Str) (t : Tok) (h : e.key = .str x t) (s : Str) : PySem.findBy PySem.Value.isStrOf ⟨e :: l⟩ s = if s = x then some e.val else PySem.findBy PySem.Value.isStrOf ⟨l⟩ s := by
 unfold PySem.findBy
 rw [List.find?_toArray, List.find?_toArray, jXe]
 by_cases hs : s = x
 ·subst hs
  rw [if_pos rfl, h]
  have : PySem.Value.isStrOf s (.str s t) = true := by simp [PySem.Value.isStrOf]
  rw [this]
  rfl
 ·rw [if_neg hs, h]
  have : PySem.Value.isStrOf s (.str x t) = false := by simp [PySem.Value.isStrOf]; exact fun z => hs z.symm
  rw [this]
theorem Qip {w : World} {K : Fg} {mg : Str → Option Value} {aN : Addr} {es : Array DictEntry} {m : Nat} {h1 h2 h3 h4 h5 h6 h7 h8 h9 h10 h11 : Int} {t1 j1 t2 j2 t3 j3 t4 j4 t5 j5 t6 j6 t7 j7 t8 j8 t9 j9 t10 j10 t11 j11 : Tok}
  (b1 : mg "NAMES" = some (.ref aN)) (l1 : K.lookup aN = some ⟨.type "dict", none, .dict es m, #[]⟩) (k1 : PySem.W.KeysLit w.params es.toList) (o1 : (aN == sysModules) = false) (e1 : es = ⟨[⟨h1, .str "days" t1, .int 0 j1⟩, ⟨h2, .str "bench" t2, .int 1 j2⟩, ⟨h3, .str "shut" t3, .int 1 j3⟩, ⟨h4, .str "store" t4, .int 1 j4⟩, ⟨h5, .str "work" t5, .int 1 j5⟩, ⟨h6, .str "way" t6, .int 2 j6⟩, ⟨h7, .str "uses" t7, .int 3 j7⟩, ⟨h8, .str "takes" t8, .int 3 j8⟩, ⟨h9, .str "gives" t9, .int 3 j9⟩, ⟨h10, .str "after" t10, .int 2 j10⟩, ⟨h11, .str "late" t11, .int 1 j11⟩]⟩) : ∃ fN, Tab w K mg "NAMES" aN fN ∧ Qbb fN := by
 refine ⟨_, tab_mk b1 l1 k1 o1, fun r => ?_⟩
 have ef : ∀ s : Str, PySem.findBy PySem.Value.isStrOf es s = if s = "days" then some (.int 0 j1) else if s = "bench" then some (.int 1 j2) else if s = "shut" then some (.int 1 j3) else if s = "store" then some (.int 1 j4) else if s = "work" then some (.int 1 j5) else if s = "way" then some (.int 2 j6) else if s = "uses" then some (.int 3 j7) else if s = "takes" then some (.int 3 j8) else if s = "gives" then some (.int 3 j9) else if s = "after" then some (.int 2 j10) else if s = "late" then some (.int 1 j11) else none := fun s => by
  subst e1
  rw [Xq _ _ "days" t1 rfl, Xq _ _ "bench" t2 rfl, Xq _ _ "shut" t3 rfl, Xq _ _ "store" t4 rfl, Xq _ _ "work" t5 rfl, Xq _ _ "way" t6 rfl, Xq _ _ "uses" t7 rfl, Xq _ _ "takes" t8 rfl, Xq _ _ "gives" t9 rfl, Xq _ _ "after" t10 rfl, Xq _ _ "late" t11 rfl]
  rfl
 cases r with
 | days n => exact ⟨j1, by rw [ef]; rw [if_pos (show (BR.days n).word = "days" from rfl)]; rfl⟩
 | bench b r => exact ⟨j2, by rw [ef]; rw [if_neg (by show ¬ (("bench" : Str) = "days"); decide +kernel), if_pos (show (BR.bench b r).word = "bench" from rfl)]; rfl⟩
 | shut b f t => exact ⟨j3, by rw [ef]; rw [if_neg (by show ¬ (("shut" : Str) = "days"); decide +kernel), if_neg (by show ¬ (("shut" : Str) = "bench"); decide +kernel), if_pos (show (BR.shut b f t).word = "shut" from rfl)]; rfl⟩
 | store b m f => exact ⟨j4, by rw [ef]; rw [if_neg (by show ¬ (("store" : Str) = "days"); decide +kernel), if_neg (by show ¬ (("store" : Str) = "bench"); decide +kernel), if_neg (by show ¬ (("store" : Str) = "shut"); decide +kernel), if_pos (show (BR.store b m f).word = "store" from rfl)]; rfl⟩
 | work w => exact ⟨j5, by rw [ef]; rw [if_neg (by show ¬ (("work" : Str) = "days"); decide +kernel), if_neg (by show ¬ (("work" : Str) = "bench"); decide +kernel), if_neg (by show ¬ (("work" : Str) = "shut"); decide +kernel), if_neg (by show ¬ (("work" : Str) = "store"); decide +kernel), if_pos (show (BR.work w).word = "work" from rfl)]; rfl⟩
 | way w v l c => exact ⟨j6, by rw [ef]; rw [if_neg (by show ¬ (("way" : Str) = "days"); decide +kernel), if_neg (by show ¬ (("way" : Str) = "bench"); decide +kernel), if_neg (by show ¬ (("way" : Str) = "shut"); decide +kernel), if_neg (by show ¬ (("way" : Str) = "store"); decide +kernel), if_neg (by show ¬ (("way" : Str) = "work"); decide +kernel), if_pos (show (BR.way w v l c).word = "way" from rfl)]; rfl⟩
 | use k w v t m => match k with
  | 0 => exact ⟨j7, by rw [ef]; rw [if_neg (by show ¬ (("uses" : Str) = "days"); decide +kernel), if_neg (by show ¬ (("uses" : Str) = "bench"); decide +kernel), if_neg (by show ¬ (("uses" : Str) = "shut"); decide +kernel), if_neg (by show ¬ (("uses" : Str) = "store"); decide +kernel), if_neg (by show ¬ (("uses" : Str) = "work"); decide +kernel), if_neg (by show ¬ (("uses" : Str) = "way"); decide +kernel), if_pos (show (BR.use 0 w v t m).word = "uses" from rfl)]; rfl⟩
  | 1 => exact ⟨j8, by rw [ef]; rw [if_neg (by show ¬ (("takes" : Str) = "days"); decide +kernel), if_neg (by show ¬ (("takes" : Str) = "bench"); decide +kernel), if_neg (by show ¬ (("takes" : Str) = "shut"); decide +kernel), if_neg (by show ¬ (("takes" : Str) = "store"); decide +kernel), if_neg (by show ¬ (("takes" : Str) = "work"); decide +kernel), if_neg (by show ¬ (("takes" : Str) = "way"); decide +kernel), if_neg (by show ¬ (("takes" : Str) = "uses"); decide +kernel), if_pos (show (BR.use 1 w v t m).word = "takes" from rfl)]; rfl⟩
  | 2 => exact ⟨j9, by rw [ef]; rw [if_neg (by show ¬ (("gives" : Str) = "days"); decide +kernel), if_neg (by show ¬ (("gives" : Str) = "bench"); decide +kernel), if_neg (by show ¬ (("gives" : Str) = "shut"); decide +kernel), if_neg (by show ¬ (("gives" : Str) = "store"); decide +kernel), if_neg (by show ¬ (("gives" : Str) = "work"); decide +kernel), if_neg (by show ¬ (("gives" : Str) = "way"); decide +kernel), if_neg (by show ¬ (("gives" : Str) = "uses"); decide +kernel), if_neg (by show ¬ (("gives" : Str) = "takes"); decide +kernel), if_pos (show (BR.use 2 w v t m).word = "gives" from rfl)]; rfl⟩
 | after w x g => exact ⟨j10, by rw [ef]; rw [if_neg (by show ¬ (("after" : Str) = "days"); decide +kernel), if_neg (by show ¬ (("after" : Str) = "bench"); decide +kernel), if_neg (by show ¬ (("after" : Str) = "shut"); decide +kernel), if_neg (by show ¬ (("after" : Str) = "store"); decide +kernel), if_neg (by show ¬ (("after" : Str) = "work"); decide +kernel), if_neg (by show ¬ (("after" : Str) = "way"); decide +kernel), if_neg (by show ¬ (("after" : Str) = "uses"); decide +kernel), if_neg (by show ¬ (("after" : Str) = "takes"); decide +kernel), if_neg (by show ¬ (("after" : Str) = "gives"); decide +kernel), if_pos (show (BR.after w x g).word = "after" from rfl)]; rfl⟩
 | late w d c => exact ⟨j11, by rw [ef]; rw [if_neg (by show ¬ (("late" : Str) = "days"); decide +kernel), if_neg (by show ¬ (("late" : Str) = "bench"); decide +kernel), if_neg (by show ¬ (("late" : Str) = "shut"); decide +kernel), if_neg (by show ¬ (("late" : Str) = "store"); decide +kernel), if_neg (by show ¬ (("late" : Str) = "work"); decide +kernel), if_neg (by show ¬ (("late" : Str) = "way"); decide +kernel), if_neg (by show ¬ (("late" : Str) = "uses"); decide +kernel), if_neg (by show ¬ (("late" : Str) = "takes"); decide +kernel), if_neg (by show ¬ (("late" : Str) = "gives"); decide +kernel), if_neg (by show ¬ (("late" : Str) = "after"); decide +kernel), if_pos (show (BR.late w d c).word = "late" from rfl)]; rfl⟩
theorem nd_le {α : Type} [DecidableEq α] : ∀ {l m : List α}, l.Nodup → (∀ x ∈ l, x ∈ m) → l.length ≤ m.length
 | [], _, _, _ => wK _
 | a :: l, m, nd, h => by
  obtain ⟨n1, n2⟩ := jXd.mp nd
  have ha := h a jK
  have := nd_le (m := m.erase a) n2 fun x hx => (List.mem_erase_of_ne (fun e => n1 (by rw [← e]; exact hx))).mpr (h x (zQ _ hx))
  rw [List.length_erase_of_mem ha] at this
  have := List.length_pos_of_mem ha
  rw [yW]
  omega
theorem Qkx {n : Int} {B : List BR} {pl : List (Str × Str × Int)} (wb : WB n B) (h : PlanFor n B pl) : pl.length ≤ 5 := by
 obtain ⟨nm, l5, hm⟩ := wb.few
 have := nd_le (h.nd wb) (m := nm) fun x hx => by
  have hx' := (xK.mp (h.keys.mem_iff.mp hx)).1
  exact hm _ (wks_mem.mp hx') x (by show x ∈ [x]; exact jK)
 rw [jZ] at this
 omega
theorem Qog {K : Fg} {H : Hp} {n : Int} {B : List BR} {pl : List (Str × Str × Int)} {kvs : List (Key × V)} (bk : BookOk n B) (h : PlanFor n B pl) (hp : Paired (fun (p : Key × V) (q : Str × Str × Int) => p.1 = Sum.inr q.1 ∧ ∃ t, p.2 = .ref t ∧ SqT K H t [.str q.2.1, .int q.2.2]) kvs pl) : PdAt K H kvs (pl.map fun p => (p.1, some p.2)) := by
 refine ⟨?_, by rw [jJe]; exact h.nd bk.wb⟩
 have hg : ∀ p ∈ pl, p.2.2.natAbs ≤ 10 ^ 20 := fun p hp => by
  obtain ⟨l, c, h1, h2, h3⟩ := h.good p hp
  have h4 : 1 ≤ l := (bk.wb.ok _ h1).1
  have := bk.n12
  omega
 clear h bk
 induction hp with
 | nil => exact .nil
 | @cons p q _ _ z _ ih => exact .cons ⟨z.1, z.2.elim fun t ht => ⟨t, ht.1, ht.2, hg q jK⟩⟩ (ih fun p hp => hg p (zQ _ hp))
theorem Qky {n : Int} {B : List BR} {pd : PD} {H H' : Hp} {qs : List Str} {v u : V} (hq : qs.Perm (pd.map (·.1))) (hs : PyProof.Rows.sortedS qs = true) (hb : Qma H (badW n B pd ++ othW B qs) v) (hd : DueW n B pd H' u) :
  (∃ w, Qhv H (some (wkT w)) v ∧ Qhv H' (some (wkT w)) u) ∨ (u = .non ∧ (v = .non ∨ ∃ t x r, v = .ref t ∧ H t = some (.tup (.str x :: r)) ∧ x ≠ ("work" : Str))) := by
 rcases hd with ⟨w, r, e, hd⟩ | ⟨e, os, h1, h2, hd⟩
 ·rw [e] at hb
  exact .inl ⟨w, hb, hd⟩
 ·rw [e, List.nil_append, oth_eq hq hs h1 h2] at hb
  cases os with
  | nil => exact .inr ⟨hd, hb⟩
  | cons w r => exact .inl ⟨w, hb, hd⟩
section
variable {P : Program} {w : World} {K : Fg} {mg : Str → Option Value} {base : Heap}
theorem scLaw : FnScope ["_law_script", "_law_book_here", "_law_k", "_law_plan_here", "_law_number", "_law_j", "_law_handed", "_law_found", "_law_due_here"] ["_law_script"] (Qi sLaw) := ⟨rfl, rfl, rfl, by decide +kernel, rfl, by decide +kernel, by decide +kernel⟩
theorem okLaw {f : Addr} {fd : FuncData} (F : Fun K "law" "law" sLaw f fd) (M : Mg mg) (cl_book : Cal P w K mg base 5 "_law_book" ["_law_script"] (Qls K)) (cl_plan : Cal P w K mg base 3 "_law_plan" ["_law_script", "_law_start", "_law_book_here"] (Qlu K)) (cl_mixed : Cal P w K mg base 2 "_law_mixed" ["_law_script", "_law_k"] (Zy K)) (cl_changed : Cal P w K mg base 3 "_law_changed" ["_law_plan_here", "_law_book_here", "_law_number"] (spChg K)) (c_broken : Cal P w K mg base 5 "broken" ["book", "plan"] (Qey K)) (cl_due : Cal P w K mg base 4 "_law_due" ["_law_book_here", "_law_plan_here"] (Qmb K)) : FnOk P w K mg base CX0 6 f fd ["_law_script"] (Qji K) := by
 refine F.ok scLaw (fun vs H Q E h => ?_) (fun cdv A outer s H vs Q E hr h => ?_)
 ·obtain ⟨a, ns, rfl, _⟩ := h
  rfl
 obtain ⟨a, ns, rfl, hS, h63, q⟩ := h
 have hu6 : (A.deeper (PyProof.Rows.envOfC "law" (Qi sLaw) s.heap.objs.size f cdv)).units + 6 < cLine := xQ (xV (by decide) _) hr.un
 refine ⟨_, (Qh (Qr (i := 1) scLaw.nd rfl (Or.inl rfl) (Xp cl_book (hr.mono (by decide)) (Qa (pv 0) Qf)))
  (Qh (Yq PassesOwn.never rfl (Xy rfl M.range_ (Qa (Qs (Qbo rfl) rfl M.max Qlm (Qa Qe (Qa (Qs (Jw rfl) rfl M.min Qei (Qa Qe (Qa (Qs Qv rfl M.len Yj (Qa (pv 0) Qf)) Qf))) Qf))) Qf)) (Qt (i := 2) scLaw.nd rfl (Or.inl rfl) (Or.inl rfl)) (Qh (Qr (i := 3) scLaw.nd rfl (Or.inl rfl) (Xp cl_plan (hr.mono (by decide)) (Qa (pv 0) (Qa (Qm Qz Qe (Qm Zg Qe (pv 2))) (Qa (pv 1) Qf)))))
  (Qh (Qr (i := 4) scLaw.nd rfl (Or.inl rfl) (Xp cl_mixed (hr.mono (by decide)) (Qa (pv 0) (Qa (Qm Qz Qe (pv 2)) Qf))))
  (Qh (Yq PassesOwn.never rfl (Xy rfl M.range_ (Qa (Qm Qy (pv 4) Qe) Qf)) (Qt (i := 5) scLaw.nd rfl (Or.inl rfl) (Or.inl rfl)) (Ql (Qr (i := 3) scLaw.nd rfl (Or.inl rfl) (Xp cl_changed (hr.mono (by decide)) (Qa (pv 3) (Qa (pv 1) (Qa (Xp cl_mixed (hr.mono (by decide)) (Qa (pv 0) (Qa (Qm Qz (Qm Qz Qe (Qm Zg Qe (pv 2))) (pv 5)) Qf))) Qf)))))))
  (Qh (Qr (i := 6) scLaw.nd rfl (Or.inl rfl) (Xf (Qa (Zs ["_law_row"] [none] rfl (Xk (pv 1)) (fun _ _ _ => (Qt (i := 0) (show (["_law_row"] : List Str).Nodup by decide +kernel) rfl (Or.inl rfl) (Or.inr rfl))) (fun _ _ _ => Kb) (fun _ _ _ => (Xz (Qam (K := K) rfl) rfl M.list_ Qms (Qa (pv 0) Qf)))) (Qa (Xz Wv rfl M.dict_ Vu (Qa (pv 3) Qf)) Qf))))
  (Qh (Qr (i := 7) scLaw.nd rfl (Or.inl rfl) (Xp c_broken (hr.mono (by decide)) (Qa (Qu Qq (pv 6) Qe (fun _ _ => rfl)) (Qa (Qu Qq (pv 6) Qe (fun _ _ => rfl)) Qf))))
  (Qh (Qr (i := 8) scLaw.nd rfl (Or.inl rfl) (Xp cl_due (hr.mono (by decide)) (Qa (pv 1) (Qa (pv 3) Qf))))
  (Qh (Xx (Qp (Qnz (n := 6) (by decide) hu6) (pv 6) (Xf (Qa (pv 1) (Qa (pv 3) Qf))) (Qw _)) (Ql (Xe Qbl)) Xa)
  (Qh (Xx (PW.pt (Zr (Qp op_isN (pv 8) Kr (Qw _)) (Zr (Qp Qgk (pv 7) Kr (Qw _)) (Zc (Qp Ym (Qu Yr (pv 7) Qe (fun _ _ => rfl)) Qx (Qw _)))))) (Ql (Xe Qbl)) Xa)
  (Ql (Xx (PW.pt (Zr (Qp Qgk (pv 8) Kr (Qw _)) (Zc (PW.pt (Qgd (Ks (Jv (Qs Qjf rfl M.isinstance Xs (Qa (pv 7) (Qa (Qcd M.tuple_ Zp) Qf))))) (Qgc (Qp (Qny (n := 6) hu6) (pv 7) (pv 8) (Qw _)))))))) (Ql (Xe Qbl)) Xa)))))))))))
  (Ql (Xe Qbl)))), ?_⟩
 refine Qjw ?_
 intro rT3 rT2
 have hz : (20000 : Nat) < sizeLine := by decide
 refine ⟨_, rfl, a, ns, rfl, hS, fun g2 us n D0 H2 s12 hd hB2 bk => ?_⟩
 have lu := hB2.length
 have bl := bk.wb.len
 refine ⟨_, rfl, a, _, rfl, .inl (s12.seq hS), _, _, rfl, _, _, rfl, ?_⟩
 obtain ⟨M9, eM⟩ : ∃ M9 : Int, (if (if ((((ns.map V.int).length : Nat)) : Int) < 8 then ((((ns.map V.int).length : Nat)) : Int) else 8) > 1 then (if ((((ns.map V.int).length : Nat)) : Int) < 8 then ((((ns.map V.int).length : Nat)) : Int) else 8) else 1) = M9 := ⟨_, rfl⟩
 have hM : 0 ≤ M9 ∧ M9 ≤ 8 := by
  rw [← eM]
  split
  ·split <;> omega
  ·omega
 rw [eM]
 let Pv40 : Nat → St → Hp → Prop := fun i σ H3 => ∃ v2 v3 v4 v5 v6 v7 v8 : Option V, σ = [some (.ref a), some (.ref g2), v2, v3, v4, v5, v6, v7, v8] ∧ Same H2 H3
 refine ⟨M9, rfl, by omega, by omega, Xv (lo := 0) (n := M9.toNat) Pv40 ⟨none, none, none, none, none, none, none, rfl, Same.refl _⟩ ?_ ?_⟩
 ·rintro i σ H3 hi ⟨v2, v3, v4, v5, v6, v7, v8, rfl, s3⟩
  have hi' : i < 8 := by omega
  have hd3 := s3 _ _ hd
  have hB3 := hB2.same s3
  refine ⟨_, rfl, _, rfl, _, _, rfl, rfl, mulC _ _ (by decide) (by decide), _, _, rfl, rfl, _, rfl, a, g2, ns, _, n, us, D0, rfl, (s12.trans s3).seq hS, by omega, by omega, hd3, hB3, bk, fun P pl H4 s4 fP hP hpf => ?_⟩
  obtain ⟨kvs, hPk, hPp⟩ := hP
  have hpd := Qog bk hpf hPp
  have l5 := Qkx bk.wb hpf
  have lp : (pl.map fun p => (p.1, some p.2) : PD).length ≤ 5 := by rw [jZ]; exact l5
  generalize (pl.map fun p => (p.1, some p.2) : PD) = pd at hpd lp
  clear hPp hpf l5
  refine ⟨_, rfl, _, rfl, _, _, rfl, rfl, a, ns, _, rfl, (s12.trans (s3.trans s4)).seq hS, by omega, by omega, fun z z0 z1 => ?_⟩
  let Pv41 : Nat → St → Hp → Prop := fun j σ H5 => ∃ (P : Addr) (v5 : Option V), σ = [some (.ref a), some (.ref g2), some (.int (0 + (i : Int))), some (.ref P), some (.int z), v5, v6, v7, v8] ∧ Qof K H5 P (5 + 6 * j) ∧ Same H3 H5
  refine ⟨_, rfl, z, 4, rfl, rfl, by show (0 : Int) < 4; decide, z % 4, rfl, by omega, by omega, Xv (lo := 0) (n := (z % 4).toNat) Pv41 ⟨P, _, rfl, ⟨kvs, pd, hPk, hpd, by omega⟩, s4⟩ ?_ ?_⟩
  ·rintro j σ H5 hj ⟨P, v5, rfl, ⟨kvs, pd, hPk, hpd, lp⟩, s5⟩
   have hj' : j < 3 := by omega
   refine ⟨_, rfl, _, rfl, _, rfl, _, rfl, _, _, rfl, rfl, mulC _ _ (by decide) (by decide), _, _, rfl, rfl, _, rfl, _, _, rfl, rfl, a, ns, _, rfl, (s12.trans (s3.trans s5)).seq hS, by omega, by omega, fun y y0 y1 => ?_⟩
   refine ⟨P, g2, y, n, us, D0, kvs, pd, rfl, hPk, hpd, by omega, s5 _ _ hd3, hB3.same s5, bk, y0, fun P' H6 s6 hO => ?_⟩
   obtain ⟨kvs', pd', h1, h2, h3⟩ := hO
   exact ⟨P', _, rfl, ⟨kvs', pd', h1, h2, by omega⟩, s5.trans s6⟩
  rintro σ H4 ⟨P, v5, rfl, ⟨kvs, pd, hPk, hpd, lp⟩, s4⟩
  have lp' : pd.length ≤ 23 := by omega
  have lkv := hpd.len
  have hd4 := s4 _ _ hd3
  have hB4 := hB3.same s4
  refine ⟨_, rfl, g2, rfl, ⟨_, Qd hd4⟩, fun D hD => ?_⟩
  let Pv42 : Nat → St → List V → Hp → Prop := fun m τ ys H5 => ∃ v : Option V, τ = [v] ∧ RowsB H5 ys (D0.take m) ∧ ys.length ≤ m ∧ H5 D = some (.lst ys) ∧ Same H4 H5
  refine Yd (n := D0.length) Pv42 ?_ (fun m τ ys H5 hm h => ?_) (fun m τ ys H5 hm h => ?_) (fun τ ys H5 h => ?_) ?_ ?_
  ·exact ⟨none, rfl, .nil, jX _, Qb, Qc hD _⟩
  ·obtain ⟨v, rfl, hY, hl, hE, s5⟩ := h
   exact ⟨hE, by omega⟩
  ·obtain ⟨v, rfl, hY, hl, hE, s5⟩ := h
   exact ⟨us, us[m]'(by omega), s5.seq (Qd hd4), gE (by omega)⟩
  ·obtain ⟨v, rfl, hY, hl, hE, s5⟩ := h
   exact ⟨us, s5.seq (Qd hd4), by omega⟩
  ·rintro m τ ys H5 x H6 hm ⟨v, rfl, hY, hl, hE, s5⟩ ⟨rfl, e1⟩
   obtain ⟨r, lr, er, rfl, hr⟩ := (hB4.same s5).get (e1 _ (s5.seq (Qd hd4)))
   refine ⟨_, rfl, lr, _, rfl, .inl (Qd hr), fun l6 hl6 => ?_⟩
   have s6 := Qc hl6 (.lst (r.cells.map kV))
   have hE6 := s6 _ _ hE
   refine ⟨hE6, _, rfl, ?_, by rw [jY]; exact zZ hl, Qb, fun b o e => ?_⟩
   ·rw [Zt er]
    exact ((hY.same s6).snoc Qb).updL hE6 hY.noRow
   ·rw [Qj (Qk e hD)]; exact s6 _ _ (s5 _ _ e)
  ·rintro τ ys H5 ⟨v, rfl, hY, hl, hE, s5⟩
   rw [kX] at hY
   refine ⟨_, rfl, P, kvs, rfl, s5 _ _ hPk, by omega, fun P2 hP2 => ?_⟩
   have s6 := Qc hP2 (.dK kvs)
   have hP6 : upd H5 P2 (.dK kvs) P2 = some (.dK kvs) := Qb
   generalize upd H5 P2 (.dK kvs) = H6 at s6 hP6 ⊢
   refine ⟨by show 2 ≤ sizeLine; decide, fun hd' hhd => ?_⟩
   have s7 := Qc hhd (.lst [.ref D, .ref P2])
   have hhd7 : upd H6 hd' (.lst [.ref D, .ref P2]) hd' = some (.lst [.ref D, .ref P2]) := Qb
   generalize upd H6 hd' (.lst [.ref D, .ref P2]) = H7 at s7 hhd7 ⊢
   have s67 := s6.trans s7
   have s47 := s5.trans s67
   refine ⟨_, rfl, hd', _, _, _, rfl, rfl, Qd hhd7, at0, _, rfl, hd', _, _, _, rfl, rfl, Qd hhd7, at1, D, P2, n, ys, D0, kvs, pd, rfl, s67 _ _ hE, hY.same s67, bk, s7 _ _ hP6, hpd.mild (Same.mild s47), by omega, fun v8 H8 qs s8 hq hso hbr => ?_⟩
   have s48 := s47.trans s8
   refine ⟨_, rfl, _, rfl, g2, P, n, us, D0, kvs, pd, rfl, s48 _ _ hd4, hB4.same s48, bk, s48 _ _ hPk, hpd.mild (Same.mild s48), by omega, fun v9 H9 s9 hdue => ?_⟩
   have s89 := s8.trans s9
   refine ⟨_, rfl, _, rfl, _, rfl, by show 2 ≤ sizeLine; decide, fun e9 he9 => ?_⟩
   have s10' := Qc he9 (.lst [.ref g2, .ref P])
   have h10 : upd H9 e9 (.lst [.ref g2, .ref P]) e9 = some (.lst [.ref g2, .ref P]) := Qb
   generalize upd H9 e9 (.lst [.ref g2, .ref P]) = H10 at s10' h10 ⊢
   have s10 := s89.trans s10'
   have s410 := s47.trans s10
   refine ⟨hd', e9, D, g2, P2, P, ys, us, D0.map BR.cells, kvs, rfl, rfl, Qd (s10 _ _ hhd7), Qd h10, Qd (s10 _ _ (s67 _ _ hE)), hY.same (s67.trans s10), Qd (s410 _ _ hd4), hB4.same s410, s10 _ _ (s7 _ _ hP6), s410 _ _ hPk, hpd.flatRef, _, rfl, iteF ?_⟩
   have sF := (s3.trans s4).trans s410
   have s810 := s9.trans s10'
   rcases Qky hq hso hbr hdue with ⟨w, ⟨T1, rfl, hT1⟩, ⟨T2, rfl, hT2⟩⟩ | ⟨rfl, hv⟩
   ·refine ⟨_, rfl, rfl, _, rfl, ite2 (fun y => absurd (kY y) (by intro z; cases z)) (fun _ => iteF ?_)⟩
    refine ⟨_, rfl, rfl, _, rfl, ite2 (fun _ => ?_) (fun _ => iteF ⟨_, _, _, _, _, _, _, rfl, sF⟩)⟩
    refine ⟨_, rfl, _, "tuple", true, rfl, ⟨⟨_, Xb (s810 _ _ hT1)⟩, .inl ⟨rfl, rfl⟩⟩, true, rfl, iteF ⟨_, rfl, _, rfl, T1, T2, _, rfl, rfl, Xb (s810 _ _ hT1), Xb (s10' _ _ hT2), _, rfl, iteF ⟨_, _, _, _, _, _, _, rfl, sF⟩⟩⟩
   ·refine ⟨_, rfl, rfl, _, rfl, ite2 (fun _ => ?_) (fun y => absurd (kZ rfl) y)⟩
    rcases hv with rfl | ⟨t, x, r, rfl, ht, hx⟩
    ·exact ⟨_, rfl, rfl, _, rfl, ite2 (fun y => absurd y (by decide)) (fun _ => iteF ⟨_, rfl, rfl, _, rfl, ite2 (fun y => absurd y (by decide)) (fun _ => iteF ⟨_, _, _, _, _, _, _, rfl, sF⟩)⟩)⟩
    ·refine ⟨_, rfl, rfl, _, rfl, ite2 (fun _ => ?_) (fun _ => iteF ⟨_, rfl, rfl, _, rfl, ite2 (fun y => absurd y (by decide)) (fun _ => iteF ⟨_, _, _, _, _, _, _, rfl, sF⟩)⟩)⟩
     exact ⟨_, rfl, t, _, _, _, rfl, rfl, Xb (s810 _ _ ht), (show atI (V.str x :: r) ((0 : Nat) : Int) = some (.str x) from Zj rfl), rfl, _, rfl, ite2 (fun y => absurd (eqS y) hx) (fun _ => ⟨_, rfl, rfl, _, rfl, ite2 (fun y => absurd y (by decide)) (fun _ => iteF ⟨_, _, _, _, _, _, _, rfl, sF⟩)⟩)⟩
 ·rintro σ H3 ⟨v2, v3, v4, v5, v6, v7, v8, rfl, s3⟩
  exact q H3
end
def htop (i : Nat) : Stmt := PySem.Challenge.pw_nonebetter_k62_works_done_otherwise.main.body.getD i (.Pass ⟨0, 0, 0, 0⟩)
def hob0 (i : Nat) (P : Params) : Obj :=
 bif Nat.beq i 2 then .mk .none none (.dict #[]) #[] else
 bif Nat.beq i 3 then .mk (.type "dict") none (.dict #[.mk (PyData.keyHash P "__name__") (.str "__name__" 165) (.str "law_nonebetter_k62_works_done_otherwise" 418), .mk (PyData.keyHash P "__doc__") (.str "__doc__" 166) .none, .mk (PyData.keyHash P "__package__") (.str "__package__" 167) .none, .mk (PyData.keyHash P "__loader__") (.str "__loader__" 168) (.builtin "__main__.__loader__#opaque"), .mk (PyData.keyHash P "__spec__") (.str "__spec__" 169) .none, .mk (PyData.keyHash P "__annotations__") (.str "__annotations__" 170) (.ref 6), .mk (PyData.keyHash P "__builtins__") (.str "__builtins__" 171) (.ref 4), .mk (PyData.keyHash P "__file__") (.str "__file__" 173) (.str "/claim/cut.py" 172), .mk (PyData.keyHash P "__cached__") (.str "__cached__" 174) .none, .mk (PyData.keyHash P "_wall") (.str "_wall" 193) (.ref 21), .mk (PyData.keyHash P "is_whole") (.str "is_whole" 202) (.ref 28), .mk (PyData.keyHash P "is_pair") (.str "is_pair" 209) (.ref 35), .mk (PyData.keyHash P "NAMES") (.str "NAMES" 245) (.ref 36), .mk (PyData.keyHash P "said_by") (.str "said_by" 252) (.ref 43), .mk (PyData.keyHash P "Facts") (.str "Facts" 365) (.ref 119), .mk (PyData.keyHash P "choices_taken") (.str "choices_taken" 373) (.ref 128), .mk (PyData.keyHash P "is_as_told") (.str "is_as_told" 382) (.ref 135), .mk (PyData.keyHash P "wrong_works") (.str "wrong_works" 388) (.ref 140), .mk (PyData.keyHash P "wrong_rooms") (.str "wrong_rooms" 394) (.ref 145), .mk (PyData.keyHash P "wrong_stores") (.str "wrong_stores" 400) (.ref 150), .mk (PyData.keyHash P "wrong_afters") (.str "wrong_afters" 406) (.ref 155), .mk (PyData.keyHash P "broken") (.str "broken" 417) (.ref 162), .mk (PyData.keyHash P "_law_cell_at") (.str "_law_cell_at" 427) (.ref 169), .mk (PyData.keyHash P "_law_whole") (.str "_law_whole" 434) (.ref 176), .mk (PyData.keyHash P "_law_block") (.str "_law_block" 444) (.ref 183), .mk (PyData.keyHash P "_law_mixed") (.str "_law_mixed" 454) (.ref 190), .mk (PyData.keyHash P "_law_name") (.str "_law_name" 466) (.ref 197), .mk (PyData.keyHash P "_law_things") (.str "_law_things" 482) (.ref 204), .mk (PyData.keyHash P "_law_way") (.str "_law_way" 499) (.ref 211), .mk (PyData.keyHash P "_law_works") (.str "_law_works" 517) (.ref 218), .mk (PyData.keyHash P "_law_put") (.str "_law_put" 529) (.ref 225), .mk (PyData.keyHash P "_law_book") (.str "_law_book" 542) (.ref 232), .mk (PyData.keyHash P "_law_ways") (.str "_law_ways" 548) (.ref 237), .mk (PyData.keyHash P "_law_plan") (.str "_law_plan" 554) (.ref 242), .mk (PyData.keyHash P "_law_length") (.str "_law_length" 560) (.ref 247), .mk (PyData.keyHash P "_law_many") (.str "_law_many" 566) (.ref 252), .mk (PyData.keyHash P "_law_is_tuple") (.str "_law_is_tuple" 573) (.ref 259), .mk (PyData.keyHash P "_law_strange") (.str "_law_strange" 584) (.ref 266), .mk (PyData.keyHash P "_law_changed") (.str "_law_changed" 590) (.ref 271), .mk (PyData.keyHash P "_law_due") (.str "_law_due" 596) (.ref 276), .mk (PyData.keyHash P "law") (.str "law" 602) (.ref 281)] 41) #[] else
 bif Nat.beq i 15 then .mk (.type "tuple") none (.seq #[]) #[] else
 bif Nat.beq i 17 then .mk (.type "tuple") none (.seq #[.str "k" 190]) #[] else
 .mk (.type "tuple") none (.seq #[]) #[]
def hob1 (i : Nat) (P : Params) : Obj :=
 bif Nat.beq i 20 then .mk (.type "code") none (.fields #[.str "_wall" 187, .str "_wall" 188, .str "/claim/cut.py" 189, .int 1 0, .int 1 0, .int 0 0, .int 0 0, .int 3 0, .ref 15, .bool Bool.true, .int 181 0, .ref 16, .none, .ref 17, .ref 18, .ref 19, .int 191 0, .int 1 0, .str "/claim/cut.py" 192]) #[] else
 bif Nat.beq i 21 then .mk (.type "function") (none) (.func (.mk "_wall" "_wall" (L2.Xd (htop 0)) (.stmts (L2.Xc (htop 0))) (L2.Qi (htop 0)) (3) ([]) (.none) (.none) (.none) (.str "__main__" 164) (none) (.ref 20) (.none) (0))) (#[]) else
 bif Nat.beq i 22 then .mk (.type "tuple") none (.seq #[]) #[] else
 bif Nat.beq i 24 then .mk (.type "tuple") none (.seq #[.str "thing" 199]) #[] else
 .mk (.type "tuple") none (.seq #[]) #[]
def hob2 (i : Nat) (P : Params) : Obj :=
 bif Nat.beq i 27 then .mk (.type "code") none (.fields #[.str "is_whole" 196, .str "is_whole" 197, .str "/claim/cut.py" 198, .int 5 0, .int 1 0, .int 0 0, .int 0 0, .int 3 0, .ref 22, .bool Bool.true, .int 181 0, .ref 23, .none, .ref 24, .ref 25, .ref 26, .int 200 0, .int 5 0, .str "/claim/cut.py" 201]) #[] else
 bif Nat.beq i 28 then .mk (.type "function") (none) (.func (.mk "is_whole" "is_whole" (L2.Xd (htop 2)) (.stmts (L2.Xc (htop 2))) (L2.Qi (htop 2)) (3) ([]) (.none) (.none) (.none) (.str "nonebetter.kinds" 194) (none) (.ref 27) (.none) (0))) (#[]) else
 bif Nat.beq i 29 then .mk (.type "tuple") none (.seq #[]) #[] else
 bif Nat.beq i 31 then .mk (.type "tuple") none (.seq #[.str "thing" 206]) #[] else
 .mk (.type "tuple") none (.seq #[]) #[]
def hob3 (i : Nat) (P : Params) : Obj :=
 bif Nat.beq i 34 then .mk (.type "code") none (.fields #[.str "is_pair" 203, .str "is_pair" 204, .str "/claim/cut.py" 205, .int 7 0, .int 1 0, .int 0 0, .int 0 0, .int 3 0, .ref 29, .bool Bool.true, .int 181 0, .ref 30, .none, .ref 31, .ref 32, .ref 33, .int 207 0, .int 7 0, .str "/claim/cut.py" 208]) #[] else
 bif Nat.beq i 35 then .mk (.type "function") (none) (.func (.mk "is_pair" "is_pair" (L2.Xd (htop 3)) (.stmts (L2.Xc (htop 3))) (L2.Qi (htop 3)) (3) ([]) (.none) (.none) (.none) (.str "nonebetter.kinds" 194) (none) (.ref 34) (.none) (0))) (#[]) else
 bif Nat.beq i 36 then .mk (.type "dict") none (.dict #[.mk (PyData.keyHash P "days") (.str "days" 212) (.int 0 213), .mk (PyData.keyHash P "bench") (.str "bench" 214) (.int 1 215), .mk (PyData.keyHash P "shut") (.str "shut" 216) (.int 1 217), .mk (PyData.keyHash P "store") (.str "store" 218) (.int 1 219), .mk (PyData.keyHash P "work") (.str "work" 220) (.int 1 221), .mk (PyData.keyHash P "way") (.str "way" 222) (.int 2 223), .mk (PyData.keyHash P "uses") (.str "uses" 224) (.int 3 225), .mk (PyData.keyHash P "takes") (.str "takes" 226) (.int 3 227), .mk (PyData.keyHash P "gives") (.str "gives" 228) (.int 3 229), .mk (PyData.keyHash P "after") (.str "after" 230) (.int 2 231), .mk (PyData.keyHash P "late") (.str "late" 232) (.int 1 233)] 11) #[] else
 bif Nat.beq i 37 then .mk (.type "tuple") none (.seq #[]) #[] else
 .mk (.type "tuple") none (.seq #[.str "row" 249]) #[]
def hob4 (i : Nat) (P : Params) : Obj :=
 bif Nat.beq i 40 then .mk (.type "tuple") none (.seq #[]) #[] else
 bif Nat.beq i 42 then .mk (.type "code") none (.fields #[.str "said_by" 246, .str "said_by" 247, .str "/claim/cut.py" 248, .int 11 0, .int 1 0, .int 0 0, .int 0 0, .int 3 0, .ref 37, .bool Bool.true, .int 181 0, .ref 38, .none, .ref 39, .ref 40, .ref 41, .int 250 0, .int 11 0, .str "/claim/cut.py" 251]) #[] else
 bif Nat.beq i 43 then .mk (.type "function") (none) (.func (.mk "said_by" "said_by" (L2.Xd (htop 6)) (.stmts (L2.Xc (htop 6))) (L2.Qi (htop 6)) (3) ([]) (.none) (.none) (.none) (.str "nonebetter.books" 210) (none) (.ref 42) (.none) (0))) (#[]) else
 bif Nat.beq i 51 then .mk (.type "tuple") none (.seq #[]) #[] else
 .mk (.type "code") none (.fields #[.str "__init__" 267, .str "Facts.__init__" 268, .str "/claim/cut.py" 269, .int 16 0, .int 2 0, .int 0 0, .int 0 0, .int 3 0, .ref 51, .bool Bool.true, .int 181 0, .ref 52, .none, .none, .none, .ref 53, .int 270 0, .int 16 0, .str "/claim/cut.py" 271]) #[]
def hob5 (i : Nat) (P : Params) : Obj :=
 bif Nat.beq i 55 then .mk (.type "function") none (.func (.mk "__init__" "Facts.__init__" (Arguments.mk [] [Arg.mk "self" none (Pos.mk 16 17 16 21), Arg.mk "book" none (Pos.mk 16 23 16 27)] none [] [] none []) (.stmts [Stmt.Assign [Expr.Attribute (Expr.Name "self" (Pos.mk 17 8 17 12)) "days" (Pos.mk 17 8 17 17)] (Expr.Subscript (Expr.Subscript (Expr.Name "book" (Pos.mk 17 20 17 24)) (Expr.Constant (Const.int 0) 0 (Pos.mk 17 25 17 26)) (Pos.mk 17 20 17 27)) (Expr.Constant (Const.int 1) 0 (Pos.mk 17 28 17 29)) (Pos.mk 17 20 17 30)) (Pos.mk 17 8 17 30), Stmt.Assign [Expr.Attribute (Expr.Name "self" (Pos.mk 18 8 18 12)) "works" (Pos.mk 18 8 18 18)] (Expr.ListComp (Expr.Subscript (Expr.Name "row" (Pos.mk 18 22 18 25)) (Expr.Constant (Const.int 1) 0 (Pos.mk 18 26 18 27)) (Pos.mk 18 22 18 28)) [Comprehension.mk (Expr.Name "row" (Pos.mk 18 33 18 36)) (Expr.Name "book" (Pos.mk 18 40 18 44)) [Expr.Compare (Expr.Subscript (Expr.Name "row" (Pos.mk 18 48 18 51)) (Expr.Constant (Const.int 0) 0 (Pos.mk 18 52 18 53)) (Pos.mk 18 48 18 54)) [CmpOp.Eq] [Expr.Constant (Const.str "work") 0 (Pos.mk 18 58 18 64)] (Pos.mk 18 48 18 64)] 0] (Scope.mk ScopeKind.function [(Str.ofString ".0", NameKind.local), (Str.ofString "row", NameKind.local)] Bool.false Bool.false []) (Pos.mk 18 21 18 65)) (Pos.mk 18 8 18 65), Stmt.Assign [Expr.Attribute (Expr.Name "self" (Pos.mk 19 8 19 12)) "benches" (Pos.mk 19 8 19 20)] (Expr.ListComp (Expr.Subscript (Expr.Name "row" (Pos.mk 19 24 19 27)) (Expr.Constant (Const.int 1) 0 (Pos.mk 19 28 19 29)) (Pos.mk 19 24 19 30)) [Comprehension.mk (Expr.Name "row" (Pos.mk 19 35 19 38)) (Expr.Name "book" (Pos.mk 19 42 19 46)) [Expr.Compare (Expr.Subscript (Expr.Name "row" (Pos.mk 19 50 19 53)) (Expr.Constant (Const.int 0) 0 (Pos.mk 19 54 19 55)) (Pos.mk 19 50 19 56)) [CmpOp.Eq] [Expr.Constant (Const.str "bench") 0 (Pos.mk 19 60 19 67)] (Pos.mk 19 50 19 67)] 0] (Scope.mk ScopeKind.function [(Str.ofString ".0", NameKind.local), (Str.ofString "row", NameKind.local)] Bool.false Bool.false []) (Pos.mk 19 23 19 68)) (Pos.mk 19 8 19 68), Stmt.Assign [Expr.Attribute (Expr.Name "self" (Pos.mk 20 8 20 12)) "shuts" (Pos.mk 20 8 20 18)] (Expr.ListComp (Expr.Call (Expr.Name "tuple" (Pos.mk 20 22 20 27)) [Expr.Subscript (Expr.Name "row" (Pos.mk 20 28 20 31)) (Expr.Slice (Option.some (Expr.Constant (Const.int 1) 0 (Pos.mk 20 32 20 33))) none none (Pos.mk 20 32 20 34)) (Pos.mk 20 28 20 35)] [] (Pos.mk 20 22 20 36)) [Comprehension.mk (Expr.Name "row" (Pos.mk 20 41 20 44)) (Expr.Name "book" (Pos.mk 20 48 20 52)) [Expr.Compare (Expr.Subscript (Expr.Name "row" (Pos.mk 20 56 20 59)) (Expr.Constant (Const.int 0) 0 (Pos.mk 20 60 20 61)) (Pos.mk 20 56 20 62)) [CmpOp.Eq] [Expr.Constant (Const.str "shut") 0 (Pos.mk 20 66 20 72)] (Pos.mk 20 56 20 72)] 0] (Scope.mk ScopeKind.function [(Str.ofString ".0", NameKind.local), (Str.ofString "row", NameKind.local), (Str.ofString "tuple", NameKind.globalImplicit)] Bool.false Bool.false []) (Pos.mk 20 21 20 73)) (Pos.mk 20 8 20 73), Stmt.Assign [Expr.Attribute (Expr.Name "self" (Pos.mk 21 8 21 12)) "stores" (Pos.mk 21 8 21 19)] (Expr.ListComp (Expr.Call (Expr.Name "tuple" (Pos.mk 21 23 21 28)) [Expr.Subscript (Expr.Name "row" (Pos.mk 21 29 21 32)) (Expr.Slice (Option.some (Expr.Constant (Const.int 1) 0 (Pos.mk 21 33 21 34))) none none (Pos.mk 21 33 21 35)) (Pos.mk 21 29 21 36)] [] (Pos.mk 21 23 21 37)) [Comprehension.mk (Expr.Name "row" (Pos.mk 21 42 21 45)) (Expr.Name "book" (Pos.mk 21 49 21 53)) [Expr.Compare (Expr.Subscript (Expr.Name "row" (Pos.mk 21 57 21 60)) (Expr.Constant (Const.int 0) 0 (Pos.mk 21 61 21 62)) (Pos.mk 21 57 21 63)) [CmpOp.Eq] [Expr.Constant (Const.str "store") 0 (Pos.mk 21 67 21 74)] (Pos.mk 21 57 21 74)] 0] (Scope.mk ScopeKind.function [(Str.ofString ".0", NameKind.local), (Str.ofString "row", NameKind.local), (Str.ofString "tuple", NameKind.globalImplicit)] Bool.false Bool.false []) (Pos.mk 21 22 21 75)) (Pos.mk 21 8 21 75), Stmt.Assign [Expr.Attribute (Expr.Name "self" (Pos.mk 22 8 22 12)) "afters" (Pos.mk 22 8 22 19)] (Expr.ListComp (Expr.Call (Expr.Name "tuple" (Pos.mk 22 23 22 28)) [Expr.Subscript (Expr.Name "row" (Pos.mk 22 29 22 32)) (Expr.Slice (Option.some (Expr.Constant (Const.int 1) 0 (Pos.mk 22 33 22 34))) none none (Pos.mk 22 33 22 35)) (Pos.mk 22 29 22 36)] [] (Pos.mk 22 23 22 37)) [Comprehension.mk (Expr.Name "row" (Pos.mk 22 42 22 45)) (Expr.Name "book" (Pos.mk 22 49 22 53)) [Expr.Compare (Expr.Subscript (Expr.Name "row" (Pos.mk 22 57 22 60)) (Expr.Constant (Const.int 0) 0 (Pos.mk 22 61 22 62)) (Pos.mk 22 57 22 63)) [CmpOp.Eq] [Expr.Constant (Const.str "after") 0 (Pos.mk 22 67 22 74)] (Pos.mk 22 57 22 74)] 0] (Scope.mk ScopeKind.function [(Str.ofString ".0", NameKind.local), (Str.ofString "row", NameKind.local), (Str.ofString "tuple", NameKind.globalImplicit)] Bool.false Bool.false []) (Pos.mk 22 22 22 75)) (Pos.mk 22 8 22 75), Stmt.Assign [Expr.Attribute (Expr.Name "self" (Pos.mk 23 8 23 12)) "said" (Pos.mk 23 8 23 17)] (Expr.Call (Expr.Name "dict" (Pos.mk 23 20 23 24)) [Expr.ListComp (Expr.Tuple [Expr.Call (Expr.Name "said_by" (Pos.mk 23 27 23 34)) [Expr.Name "row" (Pos.mk 23 35 23 38)] [] (Pos.mk 23 27 23 39), Expr.Call (Expr.Name "tuple" (Pos.mk 23 41 23 46)) [Expr.Subscript (Expr.Name "row" (Pos.mk 23 47 23 50)) (Expr.Slice (Option.some (Expr.Call (Expr.Name "len" (Pos.mk 23 51 23 54)) [Expr.Call (Expr.Name "said_by" (Pos.mk 23 55 23 62)) [Expr.Name "row" (Pos.mk 23 63 23 66)] [] (Pos.mk 23 55 23 67)] [] (Pos.mk 23 51 23 68))) none none (Pos.mk 23 51 23 69)) (Pos.mk 23 47 23 70)] [] (Pos.mk 23 41 23 71)] 0 (Pos.mk 23 26 23 72)) [Comprehension.mk (Expr.Name "row" (Pos.mk 23 77 23 80)) (Expr.Name "book" (Pos.mk 23 84 23 88)) [] 0] (Scope.mk ScopeKind.function [(Str.ofString ".0", NameKind.local), (Str.ofString "row", NameKind.local), (Str.ofString "said_by", NameKind.globalImplicit), (Str.ofString "tuple", NameKind.globalImplicit), (Str.ofString "len", NameKind.globalImplicit)] Bool.false Bool.false []) (Pos.mk 23 25 23 89)] [] (Pos.mk 23 20 23 90)) (Pos.mk 23 8 23 90)]) (Scope.mk ScopeKind.function [(Str.ofString "self", NameKind.local), (Str.ofString "book", NameKind.local), (Str.ofString "dict", NameKind.globalImplicit)] Bool.false Bool.false [(Str.ofString "fast", Const.str "self"), (Str.ofString "fast", Const.str "book"), (Str.ofString "fast", Const.str "row")]) 3 [] .none .none .none (.str "nonebetter.facts" 253) none (.ref 54) .none 0)) #[] else
 bif Nat.beq i 56 then .mk (.type "tuple") none (.seq #[]) #[] else
 bif Nat.beq i 58 then .mk (.type "tuple") none (.seq #[.str "self" 276, .str "work" 277, .str "way" 278]) #[] else
 bif Nat.beq i 59 then .mk (.type "tuple") none (.seq #[]) #[] else
 .mk (.type "code") none (.fields #[.str "is_way" 273, .str "Facts.is_way" 274, .str "/claim/cut.py" 275, .int 25 0, .int 3 0, .int 0 0, .int 0 0, .int 3 0, .ref 56, .bool Bool.true, .int 181 0, .ref 57, .none, .ref 58, .ref 59, .ref 60, .int 279 0, .int 25 0, .str "/claim/cut.py" 280]) #[]
def hob6 (i : Nat) (P : Params) : Obj :=
 bif Nat.beq i 62 then .mk (.type "function") none (.func (.mk "is_way" "Facts.is_way" (Arguments.mk [] [Arg.mk "self" none (Pos.mk 25 15 25 19), Arg.mk "work" none (Pos.mk 25 21 25 25), Arg.mk "way" none (Pos.mk 25 27 25 30)] none [] [] none []) (.stmts [Stmt.Return (Option.some (Expr.Compare (Expr.Tuple [Expr.Constant (Const.str "way") 0 (Pos.mk 26 16 26 21), Expr.Name "work" (Pos.mk 26 23 26 27), Expr.Name "way" (Pos.mk 26 29 26 32)] 0 (Pos.mk 26 15 26 33)) [CmpOp.In] [Expr.Attribute (Expr.Name "self" (Pos.mk 26 37 26 41)) "said" (Pos.mk 26 37 26 46)] (Pos.mk 26 15 26 46))) (Pos.mk 26 8 26 46)]) (Scope.mk ScopeKind.function [(Str.ofString "self", NameKind.local), (Str.ofString "work", NameKind.local), (Str.ofString "way", NameKind.local)] Bool.false Bool.false []) 3 [] .none .none .none (.str "nonebetter.facts" 253) none (.ref 61) .none 0)) #[] else
 bif Nat.beq i 63 then .mk (.type "tuple") none (.seq #[]) #[] else
 bif Nat.beq i 65 then .mk (.type "tuple") none (.seq #[.str "self" 285, .str "work" 286, .str "way" 287]) #[] else
 bif Nat.beq i 66 then .mk (.type "tuple") none (.seq #[]) #[] else
 .mk (.type "code") none (.fields #[.str "last_begin" 282, .str "Facts.last_begin" 283, .str "/claim/cut.py" 284, .int 28 0, .int 3 0, .int 0 0, .int 0 0, .int 3 0, .ref 63, .bool Bool.true, .int 181 0, .ref 64, .none, .ref 65, .ref 66, .ref 67, .int 288 0, .int 28 0, .str "/claim/cut.py" 289]) #[]
def hob7 (i : Nat) (P : Params) : Obj :=
 bif Nat.beq i 69 then .mk (.type "function") none (.func (.mk "last_begin" "Facts.last_begin" (Arguments.mk [] [Arg.mk "self" none (Pos.mk 28 19 28 23), Arg.mk "work" none (Pos.mk 28 25 28 29), Arg.mk "way" none (Pos.mk 28 31 28 34)] none [] [] none []) (.stmts [Stmt.Return (Option.some (Expr.BinOp (Expr.Attribute (Expr.Name "self" (Pos.mk 29 15 29 19)) "days" (Pos.mk 29 15 29 24)) Operator.Sub (Expr.Subscript (Expr.Subscript (Expr.Attribute (Expr.Name "self" (Pos.mk 29 27 29 31)) "said" (Pos.mk 29 27 29 36)) (Expr.Tuple [Expr.Constant (Const.str "way") 0 (Pos.mk 29 37 29 42), Expr.Name "work" (Pos.mk 29 44 29 48), Expr.Name "way" (Pos.mk 29 50 29 53)] 0 (Pos.mk 29 37 29 53)) (Pos.mk 29 27 29 54)) (Expr.Constant (Const.int 0) 0 (Pos.mk 29 55 29 56)) (Pos.mk 29 27 29 57)) (Pos.mk 29 15 29 57))) (Pos.mk 29 8 29 57)]) (Scope.mk ScopeKind.function [(Str.ofString "self", NameKind.local), (Str.ofString "work", NameKind.local), (Str.ofString "way", NameKind.local)] Bool.false Bool.false []) 3 [] .none .none .none (.str "nonebetter.facts" 253) none (.ref 68) .none 0)) #[] else
 bif Nat.beq i 70 then .mk (.type "tuple") none (.seq #[]) #[] else
 bif Nat.beq i 72 then .mk (.type "tuple") none (.seq #[.str "self" 294]) #[] else
 bif Nat.beq i 73 then .mk (.type "tuple") none (.seq #[]) #[] else
 .mk (.type "code") none (.fields #[.str "all_choices" 291, .str "Facts.all_choices" 292, .str "/claim/cut.py" 293, .int 31 0, .int 1 0, .int 0 0, .int 0 0, .int 3 0, .ref 70, .bool Bool.true, .int 181 0, .ref 71, .none, .ref 72, .ref 73, .ref 74, .int 295 0, .int 31 0, .str "/claim/cut.py" 296]) #[]
def hob8 (i : Nat) (P : Params) : Obj :=
 bif Nat.beq i 76 then .mk (.type "function") none (.func (.mk "all_choices" "Facts.all_choices" (Arguments.mk [] [Arg.mk "self" none (Pos.mk 31 20 31 24)] none [] [] none []) (.stmts [Stmt.Expr (Expr.Call (Expr.Name "_wall" (Pos.mk 32 8 32 13)) [Expr.Constant (Const.int 0) 0 (Pos.mk 32 14 32 15)] [] (Pos.mk 32 8 32 16)) (Pos.mk 32 8 32 16)]) (Scope.mk ScopeKind.function [(Str.ofString "self", NameKind.local), (Str.ofString "_wall", NameKind.globalImplicit)] Bool.false Bool.false []) 3 [] .none .none .none (.str "nonebetter.facts" 253) none (.ref 75) .none 0)) #[] else
 bif Nat.beq i 77 then .mk (.type "tuple") none (.seq #[]) #[] else
 bif Nat.beq i 79 then .mk (.type "tuple") none (.seq #[.str "self" 301, .str "choice" 302]) #[] else
 bif Nat.beq i 80 then .mk (.type "tuple") none (.seq #[]) #[] else
 .mk (.type "code") none (.fields #[.str "end_of" 298, .str "Facts.end_of" 299, .str "/claim/cut.py" 300, .int 34 0, .int 2 0, .int 0 0, .int 0 0, .int 3 0, .ref 77, .bool Bool.true, .int 181 0, .ref 78, .none, .ref 79, .ref 80, .ref 81, .int 303 0, .int 34 0, .str "/claim/cut.py" 304]) #[]
def hob9 (i : Nat) (P : Params) : Obj :=
 bif Nat.beq i 83 then .mk (.type "function") none (.func (.mk "end_of" "Facts.end_of" (Arguments.mk [] [Arg.mk "self" none (Pos.mk 34 15 34 19), Arg.mk "choice" none (Pos.mk 34 21 34 27)] none [] [] none []) (.stmts [Stmt.Return (Option.some (Expr.BinOp (Expr.Subscript (Expr.Name "choice" (Pos.mk 35 15 35 21)) (Expr.Constant (Const.int 2) 0 (Pos.mk 35 22 35 23)) (Pos.mk 35 15 35 24)) Operator.Add (Expr.Subscript (Expr.Subscript (Expr.Attribute (Expr.Name "self" (Pos.mk 35 27 35 31)) "said" (Pos.mk 35 27 35 36)) (Expr.BinOp (Expr.Tuple [Expr.Constant (Const.str "way") 0 (Pos.mk 35 38 35 43)] 0 (Pos.mk 35 37 35 45)) Operator.Add (Expr.Subscript (Expr.Name "choice" (Pos.mk 35 48 35 54)) (Expr.Slice none (Option.some (Expr.Constant (Const.int 2) 0 (Pos.mk 35 56 35 57))) none (Pos.mk 35 55 35 57)) (Pos.mk 35 48 35 58)) (Pos.mk 35 37 35 58)) (Pos.mk 35 27 35 59)) (Expr.Constant (Const.int 0) 0 (Pos.mk 35 60 35 61)) (Pos.mk 35 27 35 62)) (Pos.mk 35 15 35 62))) (Pos.mk 35 8 35 62)]) (Scope.mk ScopeKind.function [(Str.ofString "self", NameKind.local), (Str.ofString "choice", NameKind.local)] Bool.false Bool.false []) 3 [] .none .none .none (.str "nonebetter.facts" 253) none (.ref 82) .none 0)) #[] else
 bif Nat.beq i 84 then .mk (.type "tuple") none (.seq #[]) #[] else
 bif Nat.beq i 86 then .mk (.type "tuple") none (.seq #[.str "self" 309, .str "choice" 310]) #[] else
 bif Nat.beq i 87 then .mk (.type "tuple") none (.seq #[]) #[] else
 .mk (.type "code") none (.fields #[.str "price_of" 306, .str "Facts.price_of" 307, .str "/claim/cut.py" 308, .int 37 0, .int 2 0, .int 0 0, .int 0 0, .int 3 0, .ref 84, .bool Bool.true, .int 181 0, .ref 85, .none, .ref 86, .ref 87, .ref 88, .int 311 0, .int 37 0, .str "/claim/cut.py" 312]) #[]
def hob10 (i : Nat) (P : Params) : Obj :=
 bif Nat.beq i 90 then .mk (.type "function") none (.func (.mk "price_of" "Facts.price_of" (Arguments.mk [] [Arg.mk "self" none (Pos.mk 37 17 37 21), Arg.mk "choice" none (Pos.mk 37 23 37 29)] none [] [] none []) (.stmts [Stmt.Expr (Expr.Call (Expr.Name "_wall" (Pos.mk 38 8 38 13)) [Expr.Constant (Const.int 1) 0 (Pos.mk 38 14 38 15)] [] (Pos.mk 38 8 38 16)) (Pos.mk 38 8 38 16)]) (Scope.mk ScopeKind.function [(Str.ofString "self", NameKind.local), (Str.ofString "choice", NameKind.local), (Str.ofString "_wall", NameKind.globalImplicit)] Bool.false Bool.false []) 3 [] .none .none .none (.str "nonebetter.facts" 253) none (.ref 89) .none 0)) #[] else
 bif Nat.beq i 91 then .mk (.type "tuple") none (.seq #[]) #[] else
 bif Nat.beq i 93 then .mk (.type "tuple") none (.seq #[.str "self" 317, .str "word" 318, .str "choice" 319, .str "name" 320]) #[] else
 bif Nat.beq i 94 then .mk (.type "tuple") none (.seq #[]) #[] else
 .mk (.type "code") none (.fields #[.str "many" 314, .str "Facts.many" 315, .str "/claim/cut.py" 316, .int 40 0, .int 4 0, .int 0 0, .int 0 0, .int 3 0, .ref 91, .bool Bool.true, .int 181 0, .ref 92, .none, .ref 93, .ref 94, .ref 95, .int 321 0, .int 40 0, .str "/claim/cut.py" 322]) #[]
def hob11 (i : Nat) (P : Params) : Obj :=
 bif Nat.beq i 97 then .mk (.type "function") none (.func (.mk "many" "Facts.many" (Arguments.mk [] [Arg.mk "self" none (Pos.mk 40 13 40 17), Arg.mk "word" none (Pos.mk 40 19 40 23), Arg.mk "choice" none (Pos.mk 40 25 40 31), Arg.mk "name" none (Pos.mk 40 33 40 37)] none [] [] none []) (.stmts [Stmt.Return (Option.some (Expr.Subscript (Expr.Call (Expr.Attribute (Expr.Attribute (Expr.Name "self" (Pos.mk 41 15 41 19)) "said" (Pos.mk 41 15 41 24)) "get" (Pos.mk 41 15 41 28)) [Expr.BinOp (Expr.BinOp (Expr.Tuple [Expr.Name "word" (Pos.mk 41 30 41 34)] 0 (Pos.mk 41 29 41 36)) Operator.Add (Expr.Subscript (Expr.Name "choice" (Pos.mk 41 39 41 45)) (Expr.Slice none (Option.some (Expr.Constant (Const.int 2) 0 (Pos.mk 41 47 41 48))) none (Pos.mk 41 46 41 48)) (Pos.mk 41 39 41 49)) (Pos.mk 41 29 41 49)) Operator.Add (Expr.Tuple [Expr.Name "name" (Pos.mk 41 53 41 57)] 0 (Pos.mk 41 52 41 59)) (Pos.mk 41 29 41 59), Expr.Tuple [Expr.Constant (Const.int 0) 0 (Pos.mk 41 62 41 63)] 0 (Pos.mk 41 61 41 65)] [] (Pos.mk 41 15 41 66)) (Expr.Constant (Const.int 0) 0 (Pos.mk 41 67 41 68)) (Pos.mk 41 15 41 69))) (Pos.mk 41 8 41 69)]) (Scope.mk ScopeKind.function [(Str.ofString "self", NameKind.local), (Str.ofString "word", NameKind.local), (Str.ofString "choice", NameKind.local), (Str.ofString "name", NameKind.local)] Bool.false Bool.false []) 3 [] .none .none .none (.str "nonebetter.facts" 253) none (.ref 96) .none 0)) #[] else
 bif Nat.beq i 98 then .mk (.type "tuple") none (.seq #[]) #[] else
 bif Nat.beq i 100 then .mk (.type "tuple") none (.seq #[.str "self" 327, .str "choice" 328, .str "bench" 329, .str "day" 330]) #[] else
 bif Nat.beq i 101 then .mk (.type "tuple") none (.seq #[]) #[] else
 .mk (.type "code") none (.fields #[.str "used_by" 324, .str "Facts.used_by" 325, .str "/claim/cut.py" 326, .int 43 0, .int 4 0, .int 0 0, .int 0 0, .int 3 0, .ref 98, .bool Bool.true, .int 181 0, .ref 99, .none, .ref 100, .ref 101, .ref 102, .int 331 0, .int 43 0, .str "/claim/cut.py" 332]) #[]
def hob12 (i : Nat) (P : Params) : Obj :=
 bif Nat.beq i 104 then .mk (.type "function") none (.func (.mk "used_by" "Facts.used_by" (Arguments.mk [] [Arg.mk "self" none (Pos.mk 43 16 43 20), Arg.mk "choice" none (Pos.mk 43 22 43 28), Arg.mk "bench" none (Pos.mk 43 30 43 35), Arg.mk "day" none (Pos.mk 43 37 43 40)] none [] [] none []) (.stmts [Stmt.If (Expr.Compare (Expr.Subscript (Expr.Name "choice" (Pos.mk 44 11 44 17)) (Expr.Constant (Const.int 2) 0 (Pos.mk 44 18 44 19)) (Pos.mk 44 11 44 20)) [CmpOp.LtE, CmpOp.Lt] [Expr.Name "day" (Pos.mk 44 24 44 27), Expr.Call (Expr.Attribute (Expr.Name "self" (Pos.mk 44 30 44 34)) "end_of" (Pos.mk 44 30 44 41)) [Expr.Name "choice" (Pos.mk 44 42 44 48)] [] (Pos.mk 44 30 44 49)] (Pos.mk 44 11 44 49)) [Stmt.Return (Option.some (Expr.Call (Expr.Attribute (Expr.Name "self" (Pos.mk 45 19 45 23)) "many" (Pos.mk 45 19 45 28)) [Expr.Constant (Const.str "uses") 0 (Pos.mk 45 29 45 35), Expr.Name "choice" (Pos.mk 45 37 45 43), Expr.Name "bench" (Pos.mk 45 45 45 50)] [] (Pos.mk 45 19 45 51))) (Pos.mk 45 12 45 51)] [] (Pos.mk 44 8 45 51), Stmt.Return (Option.some (Expr.Constant (Const.int 0) 0 (Pos.mk 46 15 46 16))) (Pos.mk 46 8 46 16)]) (Scope.mk ScopeKind.function [(Str.ofString "self", NameKind.local), (Str.ofString "choice", NameKind.local), (Str.ofString "bench", NameKind.local), (Str.ofString "day", NameKind.local)] Bool.false Bool.false []) 3 [] .none .none .none (.str "nonebetter.facts" 253) none (.ref 103) .none 0)) #[] else
 bif Nat.beq i 105 then .mk (.type "tuple") none (.seq #[]) #[] else
 bif Nat.beq i 107 then .mk (.type "tuple") none (.seq #[.str "self" 337, .str "choice" 338, .str "store" 339, .str "day" 340, .str "gain" 341]) #[] else
 bif Nat.beq i 108 then .mk (.type "tuple") none (.seq #[]) #[] else
 .mk (.type "code") none (.fields #[.str "gain_by" 334, .str "Facts.gain_by" 335, .str "/claim/cut.py" 336, .int 48 0, .int 4 0, .int 0 0, .int 0 0, .int 3 0, .ref 105, .bool Bool.true, .int 181 0, .ref 106, .none, .ref 107, .ref 108, .ref 109, .int 342 0, .int 48 0, .str "/claim/cut.py" 343]) #[]
def hob13 (i : Nat) (P : Params) : Obj :=
 bif Nat.beq i 111 then .mk (.type "function") none (.func (.mk "gain_by" "Facts.gain_by" (Arguments.mk [] [Arg.mk "self" none (Pos.mk 48 16 48 20), Arg.mk "choice" none (Pos.mk 48 22 48 28), Arg.mk "store" none (Pos.mk 48 30 48 35), Arg.mk "day" none (Pos.mk 48 37 48 40)] none [] [] none []) (.stmts [Stmt.Assign [Expr.Name "gain" (Pos.mk 49 8 49 12)] (Expr.Constant (Const.int 0) 0 (Pos.mk 49 15 49 16)) (Pos.mk 49 8 49 16), Stmt.If (Expr.Compare (Expr.Subscript (Expr.Name "choice" (Pos.mk 50 11 50 17)) (Expr.Constant (Const.int 2) 0 (Pos.mk 50 18 50 19)) (Pos.mk 50 11 50 20)) [CmpOp.LtE] [Expr.Name "day" (Pos.mk 50 24 50 27)] (Pos.mk 50 11 50 27)) [Stmt.AugAssign (Expr.Name "gain" (Pos.mk 51 12 51 16)) Operator.Sub (Expr.Call (Expr.Attribute (Expr.Name "self" (Pos.mk 51 20 51 24)) "many" (Pos.mk 51 20 51 29)) [Expr.Constant (Const.str "takes") 0 (Pos.mk 51 30 51 37), Expr.Name "choice" (Pos.mk 51 39 51 45), Expr.Name "store" (Pos.mk 51 47 51 52)] [] (Pos.mk 51 20 51 53)) (Pos.mk 51 12 51 53)] [] (Pos.mk 50 8 51 53), Stmt.If (Expr.Compare (Expr.Call (Expr.Attribute (Expr.Name "self" (Pos.mk 52 11 52 15)) "end_of" (Pos.mk 52 11 52 22)) [Expr.Name "choice" (Pos.mk 52 23 52 29)] [] (Pos.mk 52 11 52 30)) [CmpOp.LtE] [Expr.Name "day" (Pos.mk 52 34 52 37)] (Pos.mk 52 11 52 37)) [Stmt.AugAssign (Expr.Name "gain" (Pos.mk 53 12 53 16)) Operator.Add (Expr.Call (Expr.Attribute (Expr.Name "self" (Pos.mk 53 20 53 24)) "many" (Pos.mk 53 20 53 29)) [Expr.Constant (Const.str "gives") 0 (Pos.mk 53 30 53 37), Expr.Name "choice" (Pos.mk 53 39 53 45), Expr.Name "store" (Pos.mk 53 47 53 52)] [] (Pos.mk 53 20 53 53)) (Pos.mk 53 12 53 53)] [] (Pos.mk 52 8 53 53), Stmt.Return (Option.some (Expr.Name "gain" (Pos.mk 54 15 54 19))) (Pos.mk 54 8 54 19)]) (Scope.mk ScopeKind.function [(Str.ofString "self", NameKind.local), (Str.ofString "choice", NameKind.local), (Str.ofString "store", NameKind.local), (Str.ofString "day", NameKind.local), (Str.ofString "gain", NameKind.local)] Bool.false Bool.false []) 3 [] .none .none .none (.str "nonebetter.facts" 253) none (.ref 110) .none 0)) #[] else
 bif Nat.beq i 112 then .mk (.type "tuple") none (.seq #[]) #[] else
 bif Nat.beq i 115 then .mk (.type "code") none (.fields #[.str "room_of" 345, .str "Facts.room_of" 346, .str "/claim/cut.py" 347, .int 56 0, .int 3 0, .int 0 0, .int 0 0, .int 3 0, .ref 112, .bool Bool.true, .int 181 0, .ref 113, .none, .none, .none, .ref 114, .int 348 0, .int 56 0, .str "/claim/cut.py" 349]) #[] else
 bif Nat.beq i 116 then .mk (.type "function") none (.func (.mk "room_of" "Facts.room_of" (Arguments.mk [] [Arg.mk "self" none (Pos.mk 56 16 56 20), Arg.mk "bench" none (Pos.mk 56 22 56 27), Arg.mk "day" none (Pos.mk 56 29 56 32)] none [] [] none []) (.stmts [Stmt.If (Expr.Call (Expr.Name "any" (Pos.mk 57 11 57 14)) [Expr.ListComp (Expr.BoolOp BoolOp.And [Expr.Compare (Expr.Name "name" (Pos.mk 57 16 57 20)) [CmpOp.Eq] [Expr.Name "bench" (Pos.mk 57 24 57 29)] (Pos.mk 57 16 57 29), Expr.Compare (Expr.Name "begin" (Pos.mk 57 34 57 39)) [CmpOp.LtE, CmpOp.Lt] [Expr.Name "day" (Pos.mk 57 43 57 46), Expr.Name "end" (Pos.mk 57 49 57 52)] (Pos.mk 57 34 57 52)] (Pos.mk 57 16 57 52)) [Comprehension.mk (Expr.Tuple [Expr.Name "name" (Pos.mk 57 57 57 61), Expr.Name "begin" (Pos.mk 57 63 57 68), Expr.Name "end" (Pos.mk 57 70 57 73)] 0 (Pos.mk 57 57 57 73)) (Expr.Attribute (Expr.Name "self" (Pos.mk 57 77 57 81)) "shuts" (Pos.mk 57 77 57 87)) [] 0] (Scope.mk ScopeKind.function [(Str.ofString ".0", NameKind.local), (Str.ofString "name", NameKind.local), (Str.ofString "begin", NameKind.local), (Str.ofString "end", NameKind.local), (Str.ofString "bench", NameKind.free), (Str.ofString "day", NameKind.free)] Bool.false Bool.false []) (Pos.mk 57 15 57 88)] [] (Pos.mk 57 11 57 89)) [Stmt.Return (Option.some (Expr.Constant (Const.int 0) 0 (Pos.mk 58 19 58 20))) (Pos.mk 58 12 58 20)] [] (Pos.mk 57 8 58 20), Stmt.Return (Option.some (Expr.Subscript (Expr.Subscript (Expr.Attribute (Expr.Name "self" (Pos.mk 59 15 59 19)) "said" (Pos.mk 59 15 59 24)) (Expr.Tuple [Expr.Constant (Const.str "bench") 0 (Pos.mk 59 25 59 32), Expr.Name "bench" (Pos.mk 59 34 59 39)] 0 (Pos.mk 59 25 59 39)) (Pos.mk 59 15 59 40)) (Expr.Constant (Const.int 0) 0 (Pos.mk 59 41 59 42)) (Pos.mk 59 15 59 43))) (Pos.mk 59 8 59 43)]) (Scope.mk ScopeKind.function [(Str.ofString "self", NameKind.local), (Str.ofString "bench", NameKind.cell), (Str.ofString "day", NameKind.cell), (Str.ofString "any", NameKind.globalImplicit)] Bool.false Bool.false [(Str.ofString "fast", Const.str "self"), (Str.ofString "fast", Const.str "bench"), (Str.ofString "fast", Const.str "day"), (Str.ofString "fast", Const.str "name"), (Str.ofString "fast", Const.str "begin"), (Str.ofString "fast", Const.str "end")]) 3 [] .none .none .none (.str "nonebetter.facts" 253) none (.ref 115) .none 0)) #[] else
 .mk (.type "tuple") none (.seq #[.str "afters" 351, .str "benches" 352, .str "days" 353, .str "said" 354, .str "shuts" 355, .str "stores" 356, .str "works" 357]) #[]
def hob14 (i : Nat) (P : Params) : Obj :=
 bif Nat.beq i 118 then .mk (.type "dict") none (.dict #[.mk (PyData.keyHash P "__module__") (.str "__module__" 262) (.str "nonebetter.facts" 253), .mk (PyData.keyHash P "__firstlineno__") (.str "__firstlineno__" 266) (.int 14 265), .mk (PyData.keyHash P "__init__") (.str "__init__" 272) (.ref 55), .mk (PyData.keyHash P "is_way") (.str "is_way" 281) (.ref 62), .mk (PyData.keyHash P "last_begin") (.str "last_begin" 290) (.ref 69), .mk (PyData.keyHash P "all_choices") (.str "all_choices" 297) (.ref 76), .mk (PyData.keyHash P "end_of") (.str "end_of" 305) (.ref 83), .mk (PyData.keyHash P "price_of") (.str "price_of" 313) (.ref 90), .mk (PyData.keyHash P "many") (.str "many" 323) (.ref 97), .mk (PyData.keyHash P "used_by") (.str "used_by" 333) (.ref 104), .mk (PyData.keyHash P "gain_by") (.str "gain_by" 344) (.ref 111), .mk (PyData.keyHash P "room_of") (.str "room_of" 350) (.ref 116), .mk (PyData.keyHash P "__static_attributes__") (.str "__static_attributes__" 358) (.ref 117), .mk (PyData.keyHash P "__dict__") (.str "__dict__" 360) (.ref 120), .mk (PyData.keyHash P "__weakref__") (.str "__weakref__" 362) (.ref 121), .mk (PyData.keyHash P "__doc__") (.str "__doc__" 363) .none] 4) #[] else
 bif Nat.beq i 119 then .mk (.type "type") none (.cls (ClassData.mk "Facts" [.type "object"] [.ref 119, .type "object"] 118 "Facts" Bool.true [] [] Bool.false none Bool.false)) #[none, none, Option.some (.str "Facts" 255), Option.some (.str "Facts" 263), Option.some (.builtin "object.__new__"), Option.some (.bool Bool.true)] else
 bif Nat.beq i 120 then .mk (.type "getset_descriptor") none (.fields #[.str "__dict__" 359, .ref 119, .builtin "function.__dict__", .builtin "function.__dict__#set"]) #[] else
 bif Nat.beq i 121 then .mk (.type "getset_descriptor") none (.fields #[.str "__weakref__" 361, .ref 119, .builtin "ExceptionGroup.__weakref__", .none]) #[] else
 .mk (.type "tuple") none (.seq #[]) #[]
def hob15 (i : Nat) (P : Params) : Obj :=
 bif Nat.beq i 127 then .mk (.type "code") none (.fields #[.str "choices_taken" 368, .str "choices_taken" 369, .str "/claim/cut.py" 370, .int 61 0, .int 2 0, .int 0 0, .int 0 0, .int 3 0, .ref 124, .bool Bool.true, .int 181 0, .ref 125, .none, .none, .none, .ref 126, .int 371 0, .int 61 0, .str "/claim/cut.py" 372]) #[] else
 bif Nat.beq i 128 then .mk (.type "function") (none) (.func (.mk "choices_taken" "choices_taken" (L2.Xd (htop 10)) (.stmts (L2.Xc (htop 10))) (L2.Qi (htop 10)) (3) ([]) (.none) (.none) (.none) (.str "nonebetter.plans" 366) (none) (.ref 127) (.none) (0))) (#[]) else
 bif Nat.beq i 129 then .mk (.type "tuple") none (.seq #[]) #[] else
 bif Nat.beq i 131 then .mk (.type "tuple") none (.seq #[.str "facts" 377, .str "work" 378, .str "thing" 379]) #[] else
 .mk (.type "tuple") none (.seq #[]) #[]
def hob16 (i : Nat) (P : Params) : Obj :=
 bif Nat.beq i 134 then .mk (.type "code") none (.fields #[.str "is_as_told" 374, .str "is_as_told" 375, .str "/claim/cut.py" 376, .int 63 0, .int 3 0, .int 0 0, .int 0 0, .int 3 0, .ref 129, .bool Bool.true, .int 181 0, .ref 130, .none, .ref 131, .ref 132, .ref 133, .int 380 0, .int 63 0, .str "/claim/cut.py" 381]) #[] else
 bif Nat.beq i 135 then .mk (.type "function") (none) (.func (.mk "is_as_told" "is_as_told" (L2.Xd (htop 11)) (.stmts (L2.Xc (htop 11))) (L2.Qi (htop 11)) (3) ([]) (.none) (.none) (.none) (.str "nonebetter.plans" 366) (none) (.ref 134) (.none) (0))) (#[]) else
 bif Nat.beq i 136 then .mk (.type "tuple") none (.seq #[]) #[] else
 bif Nat.beq i 139 then .mk (.type "code") none (.fields #[.str "wrong_works" 383, .str "wrong_works" 384, .str "/claim/cut.py" 385, .int 67 0, .int 2 0, .int 0 0, .int 0 0, .int 3 0, .ref 136, .bool Bool.true, .int 181 0, .ref 137, .none, .none, .none, .ref 138, .int 386 0, .int 67 0, .str "/claim/cut.py" 387]) #[] else
 .mk (.type "function") (none) (.func (.mk "wrong_works" "wrong_works" (L2.Xd (htop 12)) (.stmts (L2.Xc (htop 12))) (L2.Qi (htop 12)) (3) ([]) (.none) (.none) (.none) (.str "nonebetter.plans" 366) (none) (.ref 139) (.none) (0))) (#[])
def hob17 (i : Nat) (P : Params) : Obj :=
 bif Nat.beq i 141 then .mk (.type "tuple") none (.seq #[]) #[] else
 bif Nat.beq i 144 then .mk (.type "code") none (.fields #[.str "wrong_rooms" 389, .str "wrong_rooms" 390, .str "/claim/cut.py" 391, .int 70 0, .int 2 0, .int 0 0, .int 0 0, .int 3 0, .ref 141, .bool Bool.true, .int 181 0, .ref 142, .none, .none, .none, .ref 143, .int 392 0, .int 70 0, .str "/claim/cut.py" 393]) #[] else
 bif Nat.beq i 145 then .mk (.type "function") (none) (.func (.mk "wrong_rooms" "wrong_rooms" (L2.Xd (htop 13)) (.stmts (L2.Xc (htop 13))) (L2.Qi (htop 13)) (3) ([]) (.none) (.none) (.none) (.str "nonebetter.plans" 366) (none) (.ref 144) (.none) (0))) (#[]) else
 bif Nat.beq i 146 then .mk (.type "tuple") none (.seq #[]) #[] else
 .mk (.type "code") none (.fields #[.str "wrong_stores" 395, .str "wrong_stores" 396, .str "/claim/cut.py" 397, .int 77 0, .int 2 0, .int 0 0, .int 0 0, .int 3 0, .ref 146, .bool Bool.true, .int 181 0, .ref 147, .none, .none, .none, .ref 148, .int 398 0, .int 77 0, .str "/claim/cut.py" 399]) #[]
def hob18 (i : Nat) (P : Params) : Obj :=
 bif Nat.beq i 150 then .mk (.type "function") (none) (.func (.mk "wrong_stores" "wrong_stores" (L2.Xd (htop 14)) (.stmts (L2.Xc (htop 14))) (L2.Qi (htop 14)) (3) ([]) (.none) (.none) (.none) (.str "nonebetter.plans" 366) (none) (.ref 149) (.none) (0))) (#[]) else
 bif Nat.beq i 151 then .mk (.type "tuple") none (.seq #[]) #[] else
 bif Nat.beq i 154 then .mk (.type "code") none (.fields #[.str "wrong_afters" 401, .str "wrong_afters" 402, .str "/claim/cut.py" 403, .int 84 0, .int 2 0, .int 0 0, .int 0 0, .int 3 0, .ref 151, .bool Bool.true, .int 181 0, .ref 152, .none, .none, .none, .ref 153, .int 404 0, .int 84 0, .str "/claim/cut.py" 405]) #[] else
 bif Nat.beq i 155 then .mk (.type "function") (none) (.func (.mk "wrong_afters" "wrong_afters" (L2.Xd (htop 15)) (.stmts (L2.Xc (htop 15))) (L2.Qi (htop 15)) (3) ([]) (.none) (.none) (.none) (.str "nonebetter.plans" 366) (none) (.ref 154) (.none) (0))) (#[]) else
 .mk (.type "tuple") none (.seq #[]) #[]
def hob19 (i : Nat) (P : Params) : Obj :=
 bif Nat.beq i 158 then .mk (.type "tuple") none (.seq #[.str "book" 410, .str "plan" 411, .str "facts" 412, .str "wrong" 413, .str "taken" 414]) #[] else
 bif Nat.beq i 159 then .mk (.type "tuple") none (.seq #[]) #[] else
 bif Nat.beq i 161 then .mk (.type "code") none (.fields #[.str "broken" 407, .str "broken" 408, .str "/claim/cut.py" 409, .int 88 0, .int 2 0, .int 0 0, .int 0 0, .int 3 0, .ref 156, .bool Bool.true, .int 181 0, .ref 157, .none, .ref 158, .ref 159, .ref 160, .int 415 0, .int 88 0, .str "/claim/cut.py" 416]) #[] else
 bif Nat.beq i 162 then .mk (.type "function") (none) (.func (.mk "broken" "broken" (L2.Xd (htop 16)) (.stmts (L2.Xc (htop 16))) (L2.Qi (htop 16)) (3) ([]) (.none) (.none) (.none) (.str "nonebetter.plans" 366) (none) (.ref 161) (.none) (0))) (#[]) else
 .mk (.type "tuple") none (.seq #[]) #[]
def hob20 (i : Nat) (P : Params) : Obj :=
 bif Nat.beq i 172 then .mk (.type "tuple") none (.seq #[.str "_law_found" 431]) #[] else
 bif Nat.beq i 173 then .mk (.type "tuple") none (.seq #[]) #[] else
 bif Nat.beq i 175 then .mk (.type "code") none (.fields #[.str "_law_whole" 428, .str "_law_whole" 429, .str "/claim/cut.py" 430, .int 100 0, .int 1 0, .int 0 0, .int 0 0, .int 3 0, .ref 170, .bool Bool.true, .int 181 0, .ref 171, .none, .ref 172, .ref 173, .ref 174, .int 432 0, .int 100 0, .str "/claim/cut.py" 433]) #[] else
 bif Nat.beq i 176 then .mk (.type "function") (none) (.func (.mk "_law_whole" "_law_whole" (L2.Xd (htop 19)) (.stmts (L2.Xc (htop 19))) (L2.Qi (htop 19)) (3) ([]) (.none) (.none) (.none) (.str "law_nonebetter_k62_works_done_otherwise" 418) (none) (.ref 175) (.none) (0))) (#[]) else
 .mk (.type "tuple") none (.seq #[]) #[]
def hob21 (i : Nat) (P : Params) : Obj :=
 bif Nat.beq i 179 then .mk (.type "tuple") none (.seq #[.str "_law_script" 438, .str "_law_k" 439, .str "_law_cell" 440, .str "_law_j" 441]) #[] else
 bif Nat.beq i 180 then .mk (.type "tuple") none (.seq #[]) #[] else
 bif Nat.beq i 182 then .mk (.type "code") none (.fields #[.str "_law_block" 435, .str "_law_block" 436, .str "/claim/cut.py" 437, .int 102 0, .int 2 0, .int 0 0, .int 0 0, .int 3 0, .ref 177, .bool Bool.true, .int 181 0, .ref 178, .none, .ref 179, .ref 180, .ref 181, .int 442 0, .int 102 0, .str "/claim/cut.py" 443]) #[] else
 bif Nat.beq i 183 then .mk (.type "function") (none) (.func (.mk "_law_block" "_law_block" (L2.Xd (htop 20)) (.stmts (L2.Xc (htop 20))) (L2.Qi (htop 20)) (3) ([]) (.none) (.none) (.none) (.str "law_nonebetter_k62_works_done_otherwise" 418) (none) (.ref 182) (.none) (0))) (#[]) else
 .mk (.type "tuple") none (.seq #[]) #[]
def hob22 (i : Nat) (P : Params) : Obj :=
 bif Nat.beq i 186 then .mk (.type "tuple") none (.seq #[.str "_law_script" 448, .str "_law_k" 449, .str "_law_cell" 450, .str "_law_number" 451]) #[] else
 bif Nat.beq i 187 then .mk (.type "tuple") none (.seq #[]) #[] else
 bif Nat.beq i 189 then .mk (.type "code") none (.fields #[.str "_law_mixed" 445, .str "_law_mixed" 446, .str "/claim/cut.py" 447, .int 109 0, .int 2 0, .int 0 0, .int 0 0, .int 3 0, .ref 184, .bool Bool.true, .int 181 0, .ref 185, .none, .ref 186, .ref 187, .ref 188, .int 452 0, .int 109 0, .str "/claim/cut.py" 453]) #[] else
 bif Nat.beq i 190 then .mk (.type "function") (none) (.func (.mk "_law_mixed" "_law_mixed" (L2.Xd (htop 21)) (.stmts (L2.Xc (htop 21))) (L2.Qi (htop 21)) (3) ([]) (.none) (.none) (.none) (.str "law_nonebetter_k62_works_done_otherwise" 418) (none) (.ref 189) (.none) (0))) (#[]) else
 .mk (.type "tuple") none (.seq #[]) #[]
def hob23 (i : Nat) (P : Params) : Obj :=
 bif Nat.beq i 193 then .mk (.type "tuple") none (.seq #[.str "_law_script" 458, .str "_law_k" 459, .str "_law_first" 460, .str "_law_number" 461, .str "_law_found" 462, .str "_law_j" 463]) #[] else
 bif Nat.beq i 194 then .mk (.type "tuple") none (.seq #[]) #[] else
 bif Nat.beq i 196 then .mk (.type "code") none (.fields #[.str "_law_name" 455, .str "_law_name" 456, .str "/claim/cut.py" 457, .int 120 0, .int 3 0, .int 0 0, .int 0 0, .int 3 0, .ref 191, .bool Bool.true, .int 181 0, .ref 192, .none, .ref 193, .ref 194, .ref 195, .int 464 0, .int 120 0, .str "/claim/cut.py" 465]) #[] else
 bif Nat.beq i 197 then .mk (.type "function") (none) (.func (.mk "_law_name" "_law_name" (L2.Xd (htop 22)) (.stmts (L2.Xc (htop 22))) (L2.Qi (htop 22)) (3) ([]) (.none) (.none) (.none) (.str "law_nonebetter_k62_works_done_otherwise" 418) (none) (.ref 196) (.none) (0))) (#[]) else
 .mk (.type "tuple") none (.seq #[]) #[]
def hob24 (i : Nat) (P : Params) : Obj :=
 bif Nat.beq i 200 then .mk (.type "tuple") none (.seq #[.str "_law_script" 470, .str "_law_days" 471, .str "_law_found" 472, .str "_law_number" 473, .str "_law_k" 474, .str "_law_bench" 475, .str "_law_more" 476, .str "_law_j" 477, .str "_law_end" 478, .str "_law_most" 479]) #[] else
 bif Nat.beq i 201 then .mk (.type "tuple") none (.seq #[]) #[] else
 bif Nat.beq i 203 then .mk (.type "code") none (.fields #[.str "_law_things" 467, .str "_law_things" 468, .str "/claim/cut.py" 469, .int 127 0, .int 2 0, .int 0 0, .int 0 0, .int 3 0, .ref 198, .bool Bool.true, .int 181 0, .ref 199, .none, .ref 200, .ref 201, .ref 202, .int 480 0, .int 127 0, .str "/claim/cut.py" 481]) #[] else
 bif Nat.beq i 204 then .mk (.type "function") (none) (.func (.mk "_law_things" "_law_things" (L2.Xd (htop 23)) (.stmts (L2.Xc (htop 23))) (L2.Qi (htop 23)) (3) ([]) (.none) (.none) (.none) (.str "law_nonebetter_k62_works_done_otherwise" 418) (none) (.ref 203) (.none) (0))) (#[]) else
 .mk (.type "tuple") none (.seq #[]) #[]
def hob25 (i : Nat) (P : Params) : Obj :=
 bif Nat.beq i 207 then .mk (.type "tuple") none (.seq #[.str "_law_script" 486, .str "_law_start" 487, .str "_law_days" 488, .str "_law_work" 489, .str "_law_way_here" 490, .str "_law_things_here" 491, .str "_law_number" 492, .str "_law_length_here" 493, .str "_law_found" 494, .str "_law_thing" 495, .str "_law_many_here" 496]) #[] else
 bif Nat.beq i 208 then .mk (.type "tuple") none (.seq #[]) #[] else
 bif Nat.beq i 210 then .mk (.type "code") none (.fields #[.str "_law_way" 483, .str "_law_way" 484, .str "/claim/cut.py" 485, .int 142 0, .int 6 0, .int 0 0, .int 0 0, .int 3 0, .ref 205, .bool Bool.true, .int 181 0, .ref 206, .none, .ref 207, .ref 208, .ref 209, .int 497 0, .int 142 0, .str "/claim/cut.py" 498]) #[] else
 bif Nat.beq i 211 then .mk (.type "function") (none) (.func (.mk "_law_way" "_law_way" (L2.Xd (htop 24)) (.stmts (L2.Xc (htop 24))) (L2.Qi (htop 24)) (3) ([]) (.none) (.none) (.none) (.str "law_nonebetter_k62_works_done_otherwise" 418) (none) (.ref 210) (.none) (0))) (#[]) else
 .mk (.type "tuple") none (.seq #[]) #[]
def hob26 (i : Nat) (P : Params) : Obj :=
 bif Nat.beq i 214 then .mk (.type "tuple") none (.seq #[.str "_law_script" 503, .str "_law_days" 504, .str "_law_things_here" 505, .str "_law_found" 506, .str "_law_names" 507, .str "_law_many_here" 508, .str "_law_k" 509, .str "_law_work" 510, .str "_law_number" 511, .str "_law_j" 512, .str "_law_rows" 513, .str "_law_pair" 514]) #[] else
 bif Nat.beq i 215 then .mk (.type "tuple") none (.seq #[]) #[] else
 bif Nat.beq i 217 then .mk (.type "code") none (.fields #[.str "_law_works" 500, .str "_law_works" 501, .str "/claim/cut.py" 502, .int 156 0, .int 3 0, .int 0 0, .int 0 0, .int 3 0, .ref 212, .bool Bool.true, .int 181 0, .ref 213, .none, .ref 214, .ref 215, .ref 216, .int 515 0, .int 156 0, .str "/claim/cut.py" 516]) #[] else
 bif Nat.beq i 218 then .mk (.type "function") (none) (.func (.mk "_law_works" "_law_works" (L2.Xd (htop 25)) (.stmts (L2.Xc (htop 25))) (L2.Qi (htop 25)) (3) ([]) (.none) (.none) (.none) (.str "law_nonebetter_k62_works_done_otherwise" 418) (none) (.ref 217) (.none) (0))) (#[]) else
 .mk (.type "tuple") none (.seq #[]) #[]
def hob27 (i : Nat) (P : Params) : Obj :=
 bif Nat.beq i 221 then .mk (.type "tuple") none (.seq #[.str "_law_rows" 521, .str "_law_row" 522, .str "_law_number" 523, .str "_law_least" 524, .str "_law_k" 525, .str "_law_at" 526]) #[] else
 bif Nat.beq i 222 then .mk (.type "tuple") none (.seq #[]) #[] else
 bif Nat.beq i 224 then .mk (.type "code") none (.fields #[.str "_law_put" 518, .str "_law_put" 519, .str "/claim/cut.py" 520, .int 178 0, .int 3 0, .int 0 0, .int 0 0, .int 3 0, .ref 219, .bool Bool.true, .int 181 0, .ref 220, .none, .ref 221, .ref 222, .ref 223, .int 527 0, .int 178 0, .str "/claim/cut.py" 528]) #[] else
 bif Nat.beq i 225 then .mk (.type "function") (none) (.func (.mk "_law_put" "_law_put" (L2.Xd (htop 26)) (.stmts (L2.Xc (htop 26))) (L2.Qi (htop 26)) (3) ([]) (.none) (.none) (.none) (.str "law_nonebetter_k62_works_done_otherwise" 418) (none) (.ref 224) (.none) (0))) (#[]) else
 .mk (.type "tuple") none (.seq #[]) #[]
def hob28 (i : Nat) (P : Params) : Obj :=
 bif Nat.beq i 228 then .mk (.type "tuple") none (.seq #[.str "_law_script" 533, .str "_law_days" 534, .str "_law_things_here" 535, .str "_law_rows" 536, .str "_law_mixed_here" 537, .str "_law_k" 538, .str "_law_row" 539]) #[] else
 bif Nat.beq i 229 then .mk (.type "tuple") none (.seq #[]) #[] else
 bif Nat.beq i 231 then .mk (.type "code") none (.fields #[.str "_law_book" 530, .str "_law_book" 531, .str "/claim/cut.py" 532, .int 187 0, .int 1 0, .int 0 0, .int 0 0, .int 3 0, .ref 226, .bool Bool.true, .int 181 0, .ref 227, .none, .ref 228, .ref 229, .ref 230, .int 540 0, .int 187 0, .str "/claim/cut.py" 541]) #[] else
 bif Nat.beq i 232 then .mk (.type "function") (none) (.func (.mk "_law_book" "_law_book" (L2.Xd (htop 27)) (.stmts (L2.Xc (htop 27))) (L2.Qi (htop 27)) (3) ([]) (.none) (.none) (.none) (.str "law_nonebetter_k62_works_done_otherwise" 418) (none) (.ref 231) (.none) (0))) (#[]) else
 .mk (.type "tuple") none (.seq #[]) #[]
def hob29 (i : Nat) (P : Params) : Obj :=
 bif Nat.beq i 236 then .mk (.type "code") none (.fields #[.str "_law_ways" 543, .str "_law_ways" 544, .str "/claim/cut.py" 545, .int 198 0, .int 2 0, .int 0 0, .int 0 0, .int 3 0, .ref 233, .bool Bool.true, .int 181 0, .ref 234, .none, .none, .none, .ref 235, .int 546 0, .int 198 0, .str "/claim/cut.py" 547]) #[] else
 bif Nat.beq i 237 then .mk (.type "function") (none) (.func (.mk "_law_ways" "_law_ways" (L2.Xd (htop 28)) (.stmts (L2.Xc (htop 28))) (L2.Qi (htop 28)) (3) ([]) (.none) (.none) (.none) (.str "law_nonebetter_k62_works_done_otherwise" 418) (none) (.ref 236) (.none) (0))) (#[]) else
 bif Nat.beq i 238 then .mk (.type "tuple") none (.seq #[]) #[] else
 bif Nat.beq i 241 then .mk (.type "code") none (.fields #[.str "_law_plan" 549, .str "_law_plan" 550, .str "/claim/cut.py" 551, .int 200 0, .int 3 0, .int 0 0, .int 0 0, .int 3 0, .ref 238, .bool Bool.true, .int 181 0, .ref 239, .none, .none, .none, .ref 240, .int 552 0, .int 200 0, .str "/claim/cut.py" 553]) #[] else
 .mk (.type "function") (none) (.func (.mk "_law_plan" "_law_plan" (L2.Xd (htop 29)) (.stmts (L2.Xc (htop 29))) (L2.Qi (htop 29)) (3) ([]) (.none) (.none) (.none) (.str "law_nonebetter_k62_works_done_otherwise" 418) (none) (.ref 241) (.none) (0))) (#[])
def hob30 (i : Nat) (P : Params) : Obj :=
 bif Nat.beq i 253 then .mk (.type "tuple") none (.seq #[]) #[] else
 bif Nat.beq i 255 then .mk (.type "tuple") none (.seq #[.str "_law_done" 570]) #[] else
 bif Nat.beq i 256 then .mk (.type "tuple") none (.seq #[]) #[] else
 bif Nat.beq i 258 then .mk (.type "code") none (.fields #[.str "_law_is_tuple" 567, .str "_law_is_tuple" 568, .str "/claim/cut.py" 569, .int 214 0, .int 1 0, .int 0 0, .int 0 0, .int 3 0, .ref 253, .bool Bool.true, .int 181 0, .ref 254, .none, .ref 255, .ref 256, .ref 257, .int 571 0, .int 214 0, .str "/claim/cut.py" 572]) #[] else
 .mk (.type "function") (none) (.func (.mk "_law_is_tuple" "_law_is_tuple" (L2.Xd (htop 32)) (.stmts (L2.Xc (htop 32))) (L2.Qi (htop 32)) (3) ([]) (.none) (.none) (.none) (.str "law_nonebetter_k62_works_done_otherwise" 418) (none) (.ref 258) (.none) (0))) (#[])
def hob31 (i : Nat) (P : Params) : Obj :=
 bif Nat.beq i 260 then .mk (.type "tuple") none (.seq #[]) #[] else
 bif Nat.beq i 262 then .mk (.type "tuple") none (.seq #[.str "_law_done" 577, .str "_law_number" 578, .str "_law_way_here" 579, .str "_law_begin" 580, .str "_law_things_here" 581]) #[] else
 bif Nat.beq i 263 then .mk (.type "tuple") none (.seq #[]) #[] else
 bif Nat.beq i 265 then .mk (.type "code") none (.fields #[.str "_law_strange" 574, .str "_law_strange" 575, .str "/claim/cut.py" 576, .int 216 0, .int 2 0, .int 0 0, .int 0 0, .int 3 0, .ref 260, .bool Bool.true, .int 181 0, .ref 261, .none, .ref 262, .ref 263, .ref 264, .int 582 0, .int 216 0, .str "/claim/cut.py" 583]) #[] else
 .mk (.type "function") (none) (.func (.mk "_law_strange" "_law_strange" (L2.Xd (htop 33)) (.stmts (L2.Xc (htop 33))) (L2.Qi (htop 33)) (3) ([]) (.none) (.none) (.none) (.str "law_nonebetter_k62_works_done_otherwise" 418) (none) (.ref 265) (.none) (0))) (#[])
def hob32 (i : Nat) (P : Params) : Obj :=
 bif Nat.beq i 267 then .mk (.type "tuple") none (.seq #[]) #[] else
 bif Nat.beq i 270 then .mk (.type "code") none (.fields #[.str "_law_changed" 585, .str "_law_changed" 586, .str "/claim/cut.py" 587, .int 221 0, .int 3 0, .int 0 0, .int 0 0, .int 3 0, .ref 267, .bool Bool.true, .int 181 0, .ref 268, .none, .none, .none, .ref 269, .int 588 0, .int 221 0, .str "/claim/cut.py" 589]) #[] else
 bif Nat.beq i 271 then .mk (.type "function") (none) (.func (.mk "_law_changed" "_law_changed" (L2.Xd (htop 34)) (.stmts (L2.Xc (htop 34))) (L2.Qi (htop 34)) (3) ([]) (.none) (.none) (.none) (.str "law_nonebetter_k62_works_done_otherwise" 418) (none) (.ref 270) (.none) (0))) (#[]) else
 bif Nat.beq i 272 then .mk (.type "tuple") none (.seq #[]) #[] else
 .mk (.type "code") none (.fields #[.str "_law_due" 591, .str "_law_due" 592, .str "/claim/cut.py" 593, .int 245 0, .int 2 0, .int 0 0, .int 0 0, .int 3 0, .ref 272, .bool Bool.true, .int 181 0, .ref 273, .none, .none, .none, .ref 274, .int 594 0, .int 245 0, .str "/claim/cut.py" 595]) #[]
def hob33 (i : Nat) (P : Params) : Obj :=
 bif Nat.beq i 276 then .mk (.type "function") (none) (.func (.mk "_law_due" "_law_due" (L2.Xd (htop 35)) (.stmts (L2.Xc (htop 35))) (L2.Qi (htop 35)) (3) ([]) (.none) (.none) (.none) (.str "law_nonebetter_k62_works_done_otherwise" 418) (none) (.ref 275) (.none) (0))) (#[]) else
 bif Nat.beq i 277 then .mk (.type "tuple") none (.seq #[]) #[] else
 bif Nat.beq i 280 then .mk (.type "code") none (.fields #[.str "law" 597, .str "law" 598, .str "/claim/cut.py" 599, .int 260 0, .int 1 0, .int 0 0, .int 0 0, .int 3 0, .ref 277, .bool Bool.true, .int 181 0, .ref 278, .none, .none, .none, .ref 279, .int 600 0, .int 260 0, .str "/claim/cut.py" 601]) #[] else
 .mk (.type "function") (none) (.func (.mk "law" "law" (L2.Xd (htop 36)) (.stmts (L2.Xc (htop 36))) (L2.Qi (htop 36)) (3) ([]) (.none) (.none) (.none) (.str "law_nonebetter_k62_works_done_otherwise" 418) (none) (.ref 280) (.none) (0))) (#[])
def hob (i : Nat) (P : Params) : Obj := (bif Nat.ble i 140 then (bif Nat.ble i 75 then (bif Nat.ble i 39 then (bif Nat.ble i 25 then (bif Nat.ble i 18 then hob0 i P else hob1 i P) else (bif Nat.ble i 32 then hob2 i P else hob3 i P)) else (bif Nat.ble i 61 then (bif Nat.ble i 54 then hob4 i P else hob5 i P) else (bif Nat.ble i 68 then hob6 i P else hob7 i P))) else (bif Nat.ble i 103 then (bif Nat.ble i 89 then (bif Nat.ble i 82 then hob8 i P else hob9 i P) else (bif Nat.ble i 96 then hob10 i P else hob11 i P)) else (bif Nat.ble i 117 then (bif Nat.ble i 110 then hob12 i P else hob13 i P) else (bif Nat.ble i 124 then hob14 i P else (bif Nat.ble i 132 then hob15 i P else hob16 i P))))) else (bif Nat.ble i 205 then (bif Nat.ble i 177 then (bif Nat.ble i 156 then (bif Nat.ble i 149 then hob17 i P else hob18 i P) else (bif Nat.ble i 170 then hob19 i P else hob20 i P)) else (bif Nat.ble i 191 then (bif Nat.ble i 184 then hob21 i P else hob22 i P) else (bif Nat.ble i 198 then hob23 i P else hob24 i P))) else (bif Nat.ble i 233 then (bif Nat.ble i 219 then (bif Nat.ble i 212 then hob25 i P else hob26 i P) else (bif Nat.ble i 226 then hob27 i P else hob28 i P)) else (bif Nat.ble i 259 then (bif Nat.ble i 242 then hob29 i P else hob30 i P) else (bif Nat.ble i 266 then hob31 i P else (bif Nat.ble i 275 then hob32 i P else hob33 i P))))))
def heapK : Params → W.Frag := fun P => (nat_lit 2, hob (nat_lit 2) P) :: (nat_lit 3, hob (nat_lit 3) P) :: (nat_lit 15, hob (nat_lit 15) P) :: (nat_lit 17, hob (nat_lit 17) P) :: (nat_lit 18, hob (nat_lit 18) P) :: (nat_lit 20, hob (nat_lit 20) P) :: (nat_lit 21, hob (nat_lit 21) P) :: (nat_lit 22, hob (nat_lit 22) P) :: (nat_lit 24, hob (nat_lit 24) P) :: (nat_lit 25, hob (nat_lit 25) P) :: (nat_lit 27, hob (nat_lit 27) P) :: (nat_lit 28, hob (nat_lit 28) P) :: (nat_lit 29, hob (nat_lit 29) P) :: (nat_lit 31, hob (nat_lit 31) P) :: (nat_lit 32, hob (nat_lit 32) P) :: (nat_lit 34, hob (nat_lit 34) P) :: (nat_lit 35, hob (nat_lit 35) P) :: (nat_lit 36, hob (nat_lit 36) P) :: (nat_lit 37, hob (nat_lit 37) P) :: (nat_lit 39, hob (nat_lit 39) P) :: (nat_lit 40, hob (nat_lit 40) P) :: (nat_lit 42, hob (nat_lit 42) P) :: (nat_lit 43, hob (nat_lit 43) P) :: (nat_lit 51, hob (nat_lit 51) P) :: (nat_lit 54, hob (nat_lit 54) P) :: (nat_lit 55, hob (nat_lit 55) P) :: (nat_lit 56, hob (nat_lit 56) P) :: (nat_lit 58, hob (nat_lit 58) P) :: (nat_lit 59, hob (nat_lit 59) P) :: (nat_lit 61, hob (nat_lit 61) P) :: (nat_lit 62, hob (nat_lit 62) P) :: (nat_lit 63, hob (nat_lit 63) P) :: (nat_lit 65, hob (nat_lit 65) P) :: (nat_lit 66, hob (nat_lit 66) P) :: (nat_lit 68, hob (nat_lit 68) P) :: (nat_lit 69, hob (nat_lit 69) P) :: (nat_lit 70, hob (nat_lit 70) P) :: (nat_lit 72, hob (nat_lit 72) P) :: (nat_lit 73, hob (nat_lit 73) P) :: (nat_lit 75, hob (nat_lit 75) P) :: (nat_lit 76, hob (nat_lit 76) P) :: (nat_lit 77, hob (nat_lit 77) P) :: (nat_lit 79, hob (nat_lit 79) P) :: (nat_lit 80, hob (nat_lit 80) P) :: (nat_lit 82, hob (nat_lit 82) P) :: (nat_lit 83, hob (nat_lit 83) P) :: (nat_lit 84, hob (nat_lit 84) P) :: (nat_lit 86, hob (nat_lit 86) P) :: (nat_lit 87, hob (nat_lit 87) P) :: (nat_lit 89, hob (nat_lit 89) P) :: (nat_lit 90, hob (nat_lit 90) P) :: (nat_lit 91, hob (nat_lit 91) P) :: (nat_lit 93, hob (nat_lit 93) P) :: (nat_lit 94, hob (nat_lit 94) P) :: (nat_lit 96, hob (nat_lit 96) P) :: (nat_lit 97, hob (nat_lit 97) P) :: (nat_lit 98, hob (nat_lit 98) P) :: (nat_lit 100, hob (nat_lit 100) P) :: (nat_lit 101, hob (nat_lit 101) P) :: (nat_lit 103, hob (nat_lit 103) P) :: (nat_lit 104, hob (nat_lit 104) P) :: (nat_lit 105, hob (nat_lit 105) P) :: (nat_lit 107, hob (nat_lit 107) P) :: (nat_lit 108, hob (nat_lit 108) P) :: (nat_lit 110, hob (nat_lit 110) P) :: (nat_lit 111, hob (nat_lit 111) P) :: (nat_lit 112, hob (nat_lit 112) P) :: (nat_lit 115, hob (nat_lit 115) P) :: (nat_lit 116, hob (nat_lit 116) P) :: (nat_lit 117, hob (nat_lit 117) P) :: (nat_lit 118, hob (nat_lit 118) P) :: (nat_lit 119, hob (nat_lit 119) P) :: (nat_lit 120, hob (nat_lit 120) P) :: (nat_lit 121, hob (nat_lit 121) P) :: (nat_lit 124, hob (nat_lit 124) P) :: (nat_lit 127, hob (nat_lit 127) P) :: (nat_lit 128, hob (nat_lit 128) P) :: (nat_lit 129, hob (nat_lit 129) P) :: (nat_lit 131, hob (nat_lit 131) P) :: (nat_lit 132, hob (nat_lit 132) P) :: (nat_lit 134, hob (nat_lit 134) P) :: (nat_lit 135, hob (nat_lit 135) P) :: (nat_lit 136, hob (nat_lit 136) P) :: (nat_lit 139, hob (nat_lit 139) P) :: (nat_lit 140, hob (nat_lit 140) P) :: (nat_lit 141, hob (nat_lit 141) P) :: (nat_lit 144, hob (nat_lit 144) P) :: (nat_lit 145, hob (nat_lit 145) P) :: (nat_lit 146, hob (nat_lit 146) P) :: (nat_lit 149, hob (nat_lit 149) P) :: (nat_lit 150, hob (nat_lit 150) P) :: (nat_lit 151, hob (nat_lit 151) P) :: (nat_lit 154, hob (nat_lit 154) P) :: (nat_lit 155, hob (nat_lit 155) P) :: (nat_lit 156, hob (nat_lit 156) P) :: (nat_lit 158, hob (nat_lit 158) P) :: (nat_lit 159, hob (nat_lit 159) P) :: (nat_lit 161, hob (nat_lit 161) P) :: (nat_lit 162, hob (nat_lit 162) P) :: (nat_lit 170, hob (nat_lit 170) P) :: (nat_lit 172, hob (nat_lit 172) P) :: (nat_lit 173, hob (nat_lit 173) P) :: (nat_lit 175, hob (nat_lit 175) P) :: (nat_lit 176, hob (nat_lit 176) P) :: (nat_lit 177, hob (nat_lit 177) P) :: (nat_lit 179, hob (nat_lit 179) P) :: (nat_lit 180, hob (nat_lit 180) P) :: (nat_lit 182, hob (nat_lit 182) P) :: (nat_lit 183, hob (nat_lit 183) P) :: (nat_lit 184, hob (nat_lit 184) P) :: (nat_lit 186, hob (nat_lit 186) P) :: (nat_lit 187, hob (nat_lit 187) P) :: (nat_lit 189, hob (nat_lit 189) P) :: (nat_lit 190, hob (nat_lit 190) P) :: (nat_lit 191, hob (nat_lit 191) P) :: (nat_lit 193, hob (nat_lit 193) P) :: (nat_lit 194, hob (nat_lit 194) P) :: (nat_lit 196, hob (nat_lit 196) P) :: (nat_lit 197, hob (nat_lit 197) P) :: (nat_lit 198, hob (nat_lit 198) P) :: (nat_lit 200, hob (nat_lit 200) P) :: (nat_lit 201, hob (nat_lit 201) P) :: (nat_lit 203, hob (nat_lit 203) P) :: (nat_lit 204, hob (nat_lit 204) P) :: (nat_lit 205, hob (nat_lit 205) P) :: (nat_lit 207, hob (nat_lit 207) P) :: (nat_lit 208, hob (nat_lit 208) P) :: (nat_lit 210, hob (nat_lit 210) P) :: (nat_lit 211, hob (nat_lit 211) P) :: (nat_lit 212, hob (nat_lit 212) P) :: (nat_lit 214, hob (nat_lit 214) P) :: (nat_lit 215, hob (nat_lit 215) P) :: (nat_lit 217, hob (nat_lit 217) P) :: (nat_lit 218, hob (nat_lit 218) P) :: (nat_lit 219, hob (nat_lit 219) P) :: (nat_lit 221, hob (nat_lit 221) P) :: (nat_lit 222, hob (nat_lit 222) P) :: (nat_lit 224, hob (nat_lit 224) P) :: (nat_lit 225, hob (nat_lit 225) P) :: (nat_lit 226, hob (nat_lit 226) P) :: (nat_lit 228, hob (nat_lit 228) P) :: (nat_lit 229, hob (nat_lit 229) P) :: (nat_lit 231, hob (nat_lit 231) P) :: (nat_lit 232, hob (nat_lit 232) P) :: (nat_lit 233, hob (nat_lit 233) P) :: (nat_lit 236, hob (nat_lit 236) P) :: (nat_lit 237, hob (nat_lit 237) P) :: (nat_lit 238, hob (nat_lit 238) P) :: (nat_lit 241, hob (nat_lit 241) P) :: (nat_lit 242, hob (nat_lit 242) P) :: (nat_lit 253, hob (nat_lit 253) P) :: (nat_lit 255, hob (nat_lit 255) P) :: (nat_lit 256, hob (nat_lit 256) P) :: (nat_lit 258, hob (nat_lit 258) P) :: (nat_lit 259, hob (nat_lit 259) P) :: (nat_lit 260, hob (nat_lit 260) P) :: (nat_lit 262, hob (nat_lit 262) P) :: (nat_lit 263, hob (nat_lit 263) P) :: (nat_lit 265, hob (nat_lit 265) P) :: (nat_lit 266, hob (nat_lit 266) P) :: (nat_lit 267, hob (nat_lit 267) P) :: (nat_lit 270, hob (nat_lit 270) P) :: (nat_lit 271, hob (nat_lit 271) P) :: (nat_lit 272, hob (nat_lit 272) P) :: (nat_lit 275, hob (nat_lit 275) P) :: (nat_lit 276, hob (nat_lit 276) P) :: (nat_lit 277, hob (nat_lit 277) P) :: (nat_lit 280, hob (nat_lit 280) P) :: (nat_lit 281, hob (nat_lit 281) P) :: []
theorem all_ok {P : Program} {w : World} {K : Fg} {mg : Str → Option Value} {base : Heap} (M : Mg mg) {C aN fI fE fY fL fM fU fG fR : Addr} {fdI fdE fdY fdL fdM fdU fdG fdR : FuncData} {fN : Str → Option Value} (T : FcTxt K mg C) (TN : Tab w K mg "NAMES" aN fN) (hN : Qbb fN) (mkI : Mk K C fI) (FI : Fun K "__init__" "Facts.__init__" Kp fI fdI) (bI : Binds K fdI ["self", "book"] []) (FE : Fun K "end_of" "Facts.end_of" Qcn fE fdE) (bE : Binds K fdE ["self", "choice"] []) (mE : Meth K C "end_of" fE) (FY : Fun K "is_way" "Facts.is_way" Kj fY fdY) (bY : Binds K fdY ["self", "work", "way"] []) (mY : Meth K C "is_way" fY) (FL : Fun K "last_begin" "Facts.last_begin" Wf fL fdL) (bL : Binds K fdL ["self", "work", "way"] []) (mL : Meth K C "last_begin" fL) (FM : Fun K "many" "Facts.many" Wg fM fdM) (bM : Binds K fdM ["self", "word", "choice", "name"] []) (mM : Meth K C "many" fM) (FU : Fun K "used_by" "Facts.used_by" Wh fU fdU) (bU : Binds K fdU ["self", "choice", "bench", "day"] []) (mU : Meth K C "used_by" fU) (FG : Fun K "gain_by" "Facts.gain_by" Wi fG fdG) (bG : Binds K fdG ["self", "choice", "store", "day"] []) (mG : Meth K C "gain_by" fG) (FR : Fun K "room_of" "Facts.room_of" Wj fR fdR) (bR : Binds K fdR ["self", "bench", "day"] []) (mR : Meth K C "room_of" fR) (F1 : Fn K mg "_law_block" Qen) (F2 : Fn K mg "_law_mixed" Qeo) (F3 : Fn K mg "_law_whole" sWhl) (F4 : Fn K mg "_law_name" Qka) (F5 : Fn K mg "_law_things" Qax) (F6 : Fn K mg "_law_way" sWay) (F7 : Fn K mg "_law_put" sPut) (F8 : Fn K mg "_law_works" Qeq) (F9 : Fn K mg "_law_book" Qke) (F10 : Fn K mg "_law_ways" Qkf) (F11 : Fn K mg "_law_plan" Qft) (F12 : Fn K mg "_law_is_tuple" sIsT) (F13 : Fn K mg "_law_strange" Vf) (F14 : Fn K mg "_law_changed" sChg) (F15 : Fn K mg "_law_due" sDue) (F16 : Fn K mg "is_whole" sIW) (F17 : Fn K mg "is_pair" sIP) (F18 : Fn K mg "said_by" Qkk) (F19 : Fn K mg "choices_taken" Qcq) (F20 : Fn K mg "is_as_told" Qkv) (F21 : Fn K mg "wrong_works" sWW) (F22 : Fn K mg "wrong_rooms" sWR) (F23 : Fn K mg "wrong_stores" sWS) (F24 : Fn K mg "wrong_afters" sWA) (F25 : Fn K mg "broken" Qbh) {f : Addr} {fd : FuncData} (F26 : Fun K "law" "law" sLaw f fd) : FnOk P w K mg base CX0 6 f fd ["_law_script"] (Qji K) := by
 have h_cl_block := Qnb (P := P) (w := w) (base := base) F1 M
 have h_cl_mixed := Qnc (P := P) (w := w) (base := base) F2 M h_cl_block
 have h_cl_whole := okWhl (P := P) (w := w) (base := base) F3 M
 have h_cl_name := okName (P := P) (w := w) (base := base) F4 M h_cl_mixed
 have h_cl_things := Qkb (P := P) (w := w) (base := base) F5 M h_cl_mixed h_cl_name
 have h_cl_way := okWay (P := P) (w := w) (base := base) F6 M h_cl_mixed
 have h_cl_put := okPut (P := P) (w := w) (base := base) F7 M
 have h_cl_works := Qne (P := P) (w := w) (base := base) F8 M h_cl_mixed h_cl_name h_cl_way
 have h_cl_book := okBook (P := P) (w := w) (base := base) F9 M h_cl_mixed h_cl_things h_cl_works h_cl_put
 have h_cl_ways := okWays (P := P) (w := w) (base := base) F10 M
 have h_cl_plan := okPlan (P := P) (w := w) (base := base) F11 M h_cl_mixed h_cl_ways
 have h_cl_is_tuple := okIsT (P := P) (w := w) (base := base) F12 M h_cl_whole
 have h_cl_strange := Qin (P := P) (w := w) (base := base) F13 M
 have h_cl_changed := okChg (P := P) (w := w) (base := base) F14 M h_cl_is_tuple h_cl_strange
 have h_cl_due := okDue (P := P) (w := w) (base := base) F15 M h_cl_is_tuple
 have h_c_is_whole := okIW (P := P) (w := w) (base := base) F16 M
 have h_c_is_pair := okIP (P := P) (w := w) (base := base) F17 M
 have h_c_said_by := okSaid (P := P) (w := w) (base := base) F18 M TN hN
 have h_c_choices_taken := Qnu (P := P) (w := w) (base := base) F19 T
 have h_c_is_as_told := okTold (P := P) (w := w) (base := base) F20 M T (okFcY2 (P := P) (w := w) (base := base) FY T) bY mY (okFcL (P := P) (w := w) (base := base) FL T) bL mL h_c_is_whole h_c_is_pair
 have h_c_wrong_works := okWW (P := P) (w := w) (base := base) F21 M T h_c_is_as_told
 have h_c_wrong_rooms := okWR (P := P) (w := w) (base := base) F22 M T (okFcU (P := P) (w := w) (base := base) FU T (Qnr (P := P) (w := w) (base := base) FE T) bE mE (okFcM (P := P) (w := w) (base := base) FM T) bM mM) bU mU (okFcR (P := P) (w := w) (base := base) FR M T) bR mR
 have h_c_wrong_stores := okWS (P := P) (w := w) (base := base) F23 M T (okFcG (P := P) (w := w) (base := base) FG T (Qnr (P := P) (w := w) (base := base) FE T) bE mE (okFcM (P := P) (w := w) (base := base) FM T) bM mM) bG mG
 have h_c_wrong_afters := okWA (P := P) (w := w) (base := base) F24 M T (Qnr (P := P) (w := w) (base := base) FE T) bE mE
 have h_c_broken := Qkw (P := P) (w := w) (base := base) F25 M T mkI (okFcI FI M T h_c_said_by) bI h_c_wrong_works h_c_choices_taken h_c_wrong_rooms h_c_wrong_stores h_c_wrong_afters
 have h_c_law := okLaw (P := P) (w := w) (base := base) F26 M h_cl_book h_cl_plan h_cl_mixed h_cl_changed h_c_broken h_cl_due
 exact h_c_law
theorem walk {l : PySem.W.OpenLaw} {q : Program} {loose : List Str} {XP : (Str → Option Value) → Heap → Prop} {YP : World → Heap → Prop} {d : DefRec} {K : Params → Fg} (hn : l.most = some 63) (hdf : d.params.defaults = [])
  (hY : ∀ (w : World) (h : Heap), YP w h → (K w.params).In h)
  (F : ∀ (w : World) (mg : Str → Option Value) (fa : Addr) (h : Heap), (K w.params).In h → h.Ns mainGlobals mg → mg d.name = some (.ref fa) →
   ∃ fd : FuncData, (∀ (s : Shared) (u : Value), BindsTo s fd ⟨[u], []⟩ [("_law_script", u)]) ∧ ∀ base : Heap, (K w.params).In base → base.Ns mainGlobals mg → FnOk l.prog w (K w.params) mg base CX0 6 fa fd ["_law_script"] (Qji (K w.params))) :
  PySem.W.WalkO q loose XP YP l.row.toRowW d [] (fun f vs => PySem.call f vs) :=
 L2.Qgq (n := 63) (k := 6) (x := "_law_script") (CX := fun _ => CX0) (sp := fun w => Qji (K w.params)) hn (by decide) hdf ⟨rfl, by decide, by decide⟩ hY F (fun _ _ a ns hl hb hS => ⟨a, ns, rfl, hS, hl, fun _ => rfl⟩) fun _ _ _ _ _ z => z
end Nb
def Nb.pwv : PySem.Program := { PySem.Challenge.pw_nonebetter_k62_works_done_otherwise with main := { PySem.Challenge.pw_nonebetter_k62_works_done_otherwise.main with body := [Nb.htop 0, Nb.htop 1, Nb.htop 2, Nb.htop 3, Nb.htop 4, Nb.htop 5, Nb.htop 6, Nb.htop 7, Nb.htop 8, Nb.htop 9, Nb.htop 10, Nb.htop 11, Nb.htop 12, Nb.htop 13, Nb.htop 14, Nb.htop 15, Nb.htop 16, Nb.htop 17, Nb.htop 18, Nb.htop 19, Nb.htop 20, Nb.htop 21, Nb.htop 22, Nb.htop 23, Nb.htop 24, Nb.htop 25, Nb.htop 26, Nb.htop 27, Nb.htop 28, Nb.htop 29, Nb.htop 30, Nb.htop 31, Nb.htop 32, Nb.htop 33, Nb.htop 34, Nb.htop 35, Nb.htop 36] } }
def PySem.W.Fast.tw1653918685017820470 : Nat → PySem.Params → PySem.Obj := Nb.hob
theorem PySem.W.Fast.te1653918685017820470 : Nb.hob = PySem.W.Fast.tw1653918685017820470 := rfl
def PySem.W.Fast.tw12278950828371531174 : PySem.Program := PySem.Challenge.pw_nonebetter_k62_works_done_otherwise
theorem PySem.W.Fast.te12278950828371531174 : PySem.Challenge.pw_nonebetter_k62_works_done_otherwise = PySem.W.Fast.tw12278950828371531174 := rfl
def PySem.W.Fast.tw9401860820342270615 : PySem.Program := Nb.pwv
theorem PySem.W.Fast.te9401860820342270615 : Nb.pwv = PySem.W.Fast.tw9401860820342270615 := rfl
def PySem.W.Fast.tw11570947652754012800 : Nat → PySem.Stmt := Nb.htop
theorem PySem.W.Fast.te11570947652754012800 : Nb.htop = PySem.W.Fast.tw11570947652754012800 := rfl
namespace PySem.W.Fast
def tw5869975147312665589 := 0
def tw3979315768001796894 := 0
def tw12929724276248493711 := 0
def tw17294494303153401479 := 0
def tw1854510161393483913 := 0
def tw18395060297418779887 := 0
def tw17877823915400941125 := 0
def tw12697416702073178448 := 0
def tw7591466714692872420 := 0
def tw13675337436856361032 := 0
def tw123858609156803665 := 0
def tw306043617495012245 := 0
def tw6741655343388780027 := 0
def tw7655824729894736612 := 0
def tw11241667610112775880 := 0
def tw18143234092891341211 := 0
def tw7790145910652500781 := 0
def tw7750390219015452586 := 0
def tw1472643369197802093 := 0
def tw14312564197195986834 := 0
def tw1758932786802174162 := 0
def tw2575376789751488969 := 0
def tw14121424790626076098 := 0
def tw13051997670541823711 := 0
def tw1265677789914451656 := 0
def tw11021827518148980743 := 0
def tw14054893905542649713 := 0
def tw17948373621617426921 := 0
def tw8776997981919801242 := 0
def tw4857945827368676142 := 0
def tw4887136013519010490 := 0
def tw3017833857491635105 := 0
def tw3884120236654851673 := 0
def tw1307128305224999993 := 0
def tw9457036561029597897 := 0
def tw4555278093919104898 := 0
def tw16703053495154086587 := 0
def tw266003126577155908 := 0
def tw4005973694299381991 := 0
def tw17258933375116113059 := 0
def tw969164528349715611 := 0
def tw7655722341932535588 := 0
def tw12629063155586593334 := 0
def tw17891678509201215732 := 0
def tw7426934928664233879 := 0
def tw2323128665554852005 := 0
def tw8480243825345517622 := 0
def tw10579912194606741939 := 0
def tw9467772585806150219 := 0
def tw43745175681197243 := 0
def tw3366958931420802573 := 0
def tw14499116005839807982 := 0
def tw9347944750062460178 := 0
def tw16376489509462687613 := 0
def tw6961320785886930008 := 0
def tw15417901919463686588 := 0
def tw11722279410257717807 := 0
def tw15755982138548870530 := 0
def tw2022976339603116530 := 0
def tw9147261335069639225 := 0
def tw5663984178003161388 := 0
def tw11690765468341141414 := 0
def tw7502119376387477064 := 0
def tw6715145365547411670 := 0
def tw10266505642802900318 := 0
end PySem.W.Fast
open PySem PySem.W PyProof.Rows
set_option maxRecDepth 100000 in
set_option maxHeartbeats 0 in
theorem PySem.Challenge.cw_nonebetter_k62_works_done_otherwise_holds : PySem.Challenge.rw_nonebetter_k62_works_done_otherwise.Holds := by
 w_on; o_law; show PySem.W.OpenRow.Holds { PySem.Challenge.rw_nonebetter_k62_works_done_otherwise.row with prog := Nb.pwv }; o_head (PySem.W.kHook Nb.heapK (nat_lit 2 :: nat_lit 3 :: nat_lit 15 :: nat_lit 17 :: nat_lit 18 :: nat_lit 20 :: nat_lit 21 :: nat_lit 22 :: nat_lit 24 :: nat_lit 25 :: nat_lit 27 :: nat_lit 28 :: nat_lit 29 :: nat_lit 31 :: nat_lit 32 :: nat_lit 34 :: nat_lit 35 :: nat_lit 36 :: nat_lit 37 :: nat_lit 39 :: nat_lit 40 :: nat_lit 42 :: nat_lit 43 :: nat_lit 51 :: nat_lit 54 :: nat_lit 55 :: nat_lit 56 :: nat_lit 58 :: nat_lit 59 :: nat_lit 61 :: nat_lit 62 :: nat_lit 63 :: nat_lit 65 :: nat_lit 66 :: nat_lit 68 :: nat_lit 69 :: nat_lit 70 :: nat_lit 72 :: nat_lit 73 :: nat_lit 75 :: nat_lit 76 :: nat_lit 77 :: nat_lit 79 :: nat_lit 80 :: nat_lit 82 :: nat_lit 83 :: nat_lit 84 :: nat_lit 86 :: nat_lit 87 :: nat_lit 89 :: nat_lit 90 :: nat_lit 91 :: nat_lit 93 :: nat_lit 94 :: nat_lit 96 :: nat_lit 97 :: nat_lit 98 :: nat_lit 100 :: nat_lit 101 :: nat_lit 103 :: nat_lit 104 :: nat_lit 105 :: nat_lit 107 :: nat_lit 108 :: nat_lit 110 :: nat_lit 111 :: nat_lit 112 :: nat_lit 115 :: nat_lit 116 :: nat_lit 117 :: nat_lit 118 :: nat_lit 119 :: nat_lit 120 :: nat_lit 121 :: nat_lit 124 :: nat_lit 127 :: nat_lit 128 :: nat_lit 129 :: nat_lit 131 :: nat_lit 132 :: nat_lit 134 :: nat_lit 135 :: nat_lit 136 :: nat_lit 139 :: nat_lit 140 :: nat_lit 141 :: nat_lit 144 :: nat_lit 145 :: nat_lit 146 :: nat_lit 149 :: nat_lit 150 :: nat_lit 151 :: nat_lit 154 :: nat_lit 155 :: nat_lit 156 :: nat_lit 158 :: nat_lit 159 :: nat_lit 161 :: nat_lit 162 :: nat_lit 170 :: nat_lit 172 :: nat_lit 173 :: nat_lit 175 :: nat_lit 176 :: nat_lit 177 :: nat_lit 179 :: nat_lit 180 :: nat_lit 182 :: nat_lit 183 :: nat_lit 184 :: nat_lit 186 :: nat_lit 187 :: nat_lit 189 :: nat_lit 190 :: nat_lit 191 :: nat_lit 193 :: nat_lit 194 :: nat_lit 196 :: nat_lit 197 :: nat_lit 198 :: nat_lit 200 :: nat_lit 201 :: nat_lit 203 :: nat_lit 204 :: nat_lit 205 :: nat_lit 207 :: nat_lit 208 :: nat_lit 210 :: nat_lit 211 :: nat_lit 212 :: nat_lit 214 :: nat_lit 215 :: nat_lit 217 :: nat_lit 218 :: nat_lit 219 :: nat_lit 221 :: nat_lit 222 :: nat_lit 224 :: nat_lit 225 :: nat_lit 226 :: nat_lit 228 :: nat_lit 229 :: nat_lit 231 :: nat_lit 232 :: nat_lit 233 :: nat_lit 236 :: nat_lit 237 :: nat_lit 238 :: nat_lit 241 :: nat_lit 242 :: nat_lit 253 :: nat_lit 255 :: nat_lit 256 :: nat_lit 258 :: nat_lit 259 :: nat_lit 260 :: nat_lit 262 :: nat_lit 263 :: nat_lit 265 :: nat_lit 266 :: nat_lit 267 :: nat_lit 270 :: nat_lit 271 :: nat_lit 272 :: nat_lit 275 :: nat_lit 276 :: nat_lit 277 :: nat_lit 280 :: nat_lit 281 :: []) (fun _ => by kernel_rfl)); (case hw => w_witness2)
 k_fill
 refine Nb.walk (l := PySem.Challenge.rw_nonebetter_k62_works_done_otherwise) rfl rfl (fun w h Y => PySem.W.kIn_of Y) ?F
 case F =>
  intro w mg fa h KX G hmg
  have F1 : L2.Fn (L2.KOf KX) mg "_law_block" Nb.Qen := by
   dsimp only [L2.KOf]
   refine' L2.Za KX G ?a ?l ?c ?k
   (case a => k_is); (case l => k_is); (case c => k_is); (case k => k_is)
  have F2 : L2.Fn (L2.KOf KX) mg "_law_mixed" Nb.Qeo := by
   dsimp only [L2.KOf]
   refine' L2.Za KX G ?a ?l ?c ?k
   (case a => k_is); (case l => k_is); (case c => k_is); (case k => k_is)
  have F3 : L2.Fn (L2.KOf KX) mg "_law_whole" Nb.sWhl := by
   dsimp only [L2.KOf]
   refine' L2.Za KX G ?a ?l ?c ?k
   (case a => k_is); (case l => k_is); (case c => k_is); (case k => k_is)
  have F4 : L2.Fn (L2.KOf KX) mg "_law_name" Nb.Qka := by
   dsimp only [L2.KOf]
   refine' L2.Za KX G ?a ?l ?c ?k
   (case a => k_is); (case l => k_is); (case c => k_is); (case k => k_is)
  have F5 : L2.Fn (L2.KOf KX) mg "_law_things" Nb.Qax := by
   dsimp only [L2.KOf]
   refine' L2.Za KX G ?a ?l ?c ?k
   (case a => k_is); (case l => k_is); (case c => k_is); (case k => k_is)
  have F6 : L2.Fn (L2.KOf KX) mg "_law_way" Nb.sWay := by
   dsimp only [L2.KOf]
   refine' L2.Za KX G ?a ?l ?c ?k
   (case a => k_is); (case l => k_is); (case c => k_is); (case k => k_is)
  have F7 : L2.Fn (L2.KOf KX) mg "_law_put" Nb.sPut := by
   dsimp only [L2.KOf]
   refine' L2.Za KX G ?a ?l ?c ?k
   (case a => k_is); (case l => k_is); (case c => k_is); (case k => k_is)
  have F8 : L2.Fn (L2.KOf KX) mg "_law_works" Nb.Qeq := by
   dsimp only [L2.KOf]
   refine' L2.Za KX G ?a ?l ?c ?k
   (case a => k_is); (case l => k_is); (case c => k_is); (case k => k_is)
  have F9 : L2.Fn (L2.KOf KX) mg "_law_book" Nb.Qke := by
   dsimp only [L2.KOf]
   refine' L2.Za KX G ?a ?l ?c ?k
   (case a => k_is); (case l => k_is); (case c => k_is); (case k => k_is)
  have F10 : L2.Fn (L2.KOf KX) mg "_law_ways" Nb.Qkf := by
   dsimp only [L2.KOf]
   refine' L2.Za KX G ?a ?l ?c ?k
   (case a => k_is); (case l => k_is); (case c => k_is); (case k => k_is)
  have F11 : L2.Fn (L2.KOf KX) mg "_law_plan" Nb.Qft := by
   dsimp only [L2.KOf]
   refine' L2.Za KX G ?a ?l ?c ?k
   (case a => k_is); (case l => k_is); (case c => k_is); (case k => k_is)
  have F12 : L2.Fn (L2.KOf KX) mg "_law_is_tuple" Nb.sIsT := by
   dsimp only [L2.KOf]
   refine' L2.Za KX G ?a ?l ?c ?k
   (case a => k_is); (case l => k_is); (case c => k_is); (case k => k_is)
  have F13 : L2.Fn (L2.KOf KX) mg "_law_strange" Nb.Vf := by
   dsimp only [L2.KOf]
   refine' L2.Za KX G ?a ?l ?c ?k
   (case a => k_is); (case l => k_is); (case c => k_is); (case k => k_is)
  have F14 : L2.Fn (L2.KOf KX) mg "_law_changed" Nb.sChg := by
   dsimp only [L2.KOf]
   refine' L2.Za KX G ?a ?l ?c ?k
   (case a => k_is); (case l => k_is); (case c => k_is); (case k => k_is)
  have F15 : L2.Fn (L2.KOf KX) mg "_law_due" Nb.sDue := by
   dsimp only [L2.KOf]
   refine' L2.Za KX G ?a ?l ?c ?k
   (case a => k_is); (case l => k_is); (case c => k_is); (case k => k_is)
  have F16 : L2.Fn (L2.KOf KX) mg "is_whole" Nb.sIW := by
   dsimp only [L2.KOf]
   refine' L2.Za KX G ?a ?l ?c ?k
   (case a => k_is); (case l => k_is); (case c => k_is); (case k => k_is)
  have F17 : L2.Fn (L2.KOf KX) mg "is_pair" Nb.sIP := by
   dsimp only [L2.KOf]
   refine' L2.Za KX G ?a ?l ?c ?k
   (case a => k_is); (case l => k_is); (case c => k_is); (case k => k_is)
  have F18 : L2.Fn (L2.KOf KX) mg "said_by" Nb.Qkk := by
   dsimp only [L2.KOf]
   refine' L2.Za KX G ?a ?l ?c ?k
   (case a => k_is); (case l => k_is); (case c => k_is); (case k => k_is)
  have F19 : L2.Fn (L2.KOf KX) mg "choices_taken" Nb.Qcq := by
   dsimp only [L2.KOf]
   refine' L2.Za KX G ?a ?l ?c ?k
   (case a => k_is); (case l => k_is); (case c => k_is); (case k => k_is)
  have F20 : L2.Fn (L2.KOf KX) mg "is_as_told" Nb.Qkv := by
   dsimp only [L2.KOf]
   refine' L2.Za KX G ?a ?l ?c ?k
   (case a => k_is); (case l => k_is); (case c => k_is); (case k => k_is)
  have F21 : L2.Fn (L2.KOf KX) mg "wrong_works" Nb.sWW := by
   dsimp only [L2.KOf]
   refine' L2.Za KX G ?a ?l ?c ?k
   (case a => k_is); (case l => k_is); (case c => k_is); (case k => k_is)
  have F22 : L2.Fn (L2.KOf KX) mg "wrong_rooms" Nb.sWR := by
   dsimp only [L2.KOf]
   refine' L2.Za KX G ?a ?l ?c ?k
   (case a => k_is); (case l => k_is); (case c => k_is); (case k => k_is)
  have F23 : L2.Fn (L2.KOf KX) mg "wrong_stores" Nb.sWS := by
   dsimp only [L2.KOf]
   refine' L2.Za KX G ?a ?l ?c ?k
   (case a => k_is); (case l => k_is); (case c => k_is); (case k => k_is)
  have F24 : L2.Fn (L2.KOf KX) mg "wrong_afters" Nb.sWA := by
   dsimp only [L2.KOf]
   refine' L2.Za KX G ?a ?l ?c ?k
   (case a => k_is); (case l => k_is); (case c => k_is); (case k => k_is)
  have F25 : L2.Fn (L2.KOf KX) mg "broken" Nb.Qbh := by
   dsimp only [L2.KOf]
   refine' L2.Za KX G ?a ?l ?c ?k
   (case a => k_is); (case l => k_is); (case c => k_is); (case k => k_is)
  have F26 : L2.Fn (L2.KOf KX) mg "law" Nb.sLaw := by
   dsimp only [L2.KOf]
   refine' L2.Za KX G ?a ?l ?c ?k
   (case a => k_is); (case l => k_is); (case c => k_is); (case k => k_is)
  have M : Nb.Mg mg := by
   refine' ⟨PySem.W.mg_none_of KX G ?m_len, PySem.W.mg_none_of KX G ?m_min, PySem.W.mg_none_of KX G ?m_max, PySem.W.mg_none_of KX G ?m_sum, PySem.W.mg_none_of KX G ?m_all, PySem.W.mg_none_of KX G ?m_any, PySem.W.mg_none_of KX G ?m_abs, PySem.W.mg_none_of KX G ?m_isinstance, PySem.W.mg_none_of KX G ?m_sorted, PySem.W.mg_none_of KX G ?m_range_, PySem.W.mg_none_of KX G ?m_zip_, PySem.W.mg_none_of KX G ?m_tuple_, PySem.W.mg_none_of KX G ?m_list_, PySem.W.mg_none_of KX G ?m_int_, PySem.W.mg_none_of KX G ?m_bool_, PySem.W.mg_none_of KX G ?m_dict_, PySem.W.mg_none_of KX G ?m_enumerate_, PySem.W.mg_none_of KX G ?m_reversed_, PySem.W.mg_none_of KX G ?m_ValueError_, PySem.W.mg_none_of KX G ?m_set_, PySem.W.mg_none_of KX G ?m_str_⟩
   (case m_len => k_is)
   (case m_min => k_is)
   (case m_max => k_is)
   (case m_sum => k_is)
   (case m_all => k_is)
   (case m_any => k_is)
   (case m_abs => k_is)
   (case m_isinstance => k_is)
   (case m_sorted => k_is)
   (case m_range_ => k_is)
   (case m_zip_ => k_is)
   (case m_tuple_ => k_is)
   (case m_list_ => k_is)
   (case m_int_ => k_is)
   (case m_bool_ => k_is)
   (case m_dict_ => k_is)
   (case m_enumerate_ => k_is)
   (case m_reversed_ => k_is)
   (case m_ValueError_ => k_is)
   (case m_set_ => k_is)
   (case m_str_ => k_is)
  have CL : ∃ (C fI fE fY fL fM fU fG fR : Addr) (fdI fdE fdY fdL fdM fdU fdG fdR : FuncData), Nb.FcTxt (L2.KOf KX) mg C ∧ L2.Mk (L2.KOf KX) C fI ∧ L2.Fun (L2.KOf KX) "__init__" "Facts.__init__" Nb.Kp fI fdI ∧ L2.Fun (L2.KOf KX) "end_of" "Facts.end_of" Nb.Qcn fE fdE ∧ L2.Meth (L2.KOf KX) C "end_of" fE ∧ L2.Fun (L2.KOf KX) "is_way" "Facts.is_way" Nb.Kj fY fdY ∧ L2.Meth (L2.KOf KX) C "is_way" fY ∧ L2.Fun (L2.KOf KX) "last_begin" "Facts.last_begin" Nb.Wf fL fdL ∧ L2.Meth (L2.KOf KX) C "last_begin" fL ∧ L2.Fun (L2.KOf KX) "many" "Facts.many" Nb.Wg fM fdM ∧ L2.Meth (L2.KOf KX) C "many" fM ∧ L2.Fun (L2.KOf KX) "used_by" "Facts.used_by" Nb.Wh fU fdU ∧ L2.Meth (L2.KOf KX) C "used_by" fU ∧ L2.Fun (L2.KOf KX) "gain_by" "Facts.gain_by" Nb.Wi fG fdG ∧ L2.Meth (L2.KOf KX) C "gain_by" fG ∧ L2.Fun (L2.KOf KX) "room_of" "Facts.room_of" Nb.Wj fR fdR ∧ L2.Meth (L2.KOf KX) C "room_of" fR := by
   dsimp only [L2.KOf]
   refine' ⟨_, _, _, _, _, _, _, _, _, _, _, _, _, _, _, _, _, ⟨⟨?pg, ?hd, ?po, ?sa⟩, ?n1, ?n2, ?n3, ?n4, ?n5, ?n6, ?n7, PySem.W.mg_of KX G ?aC⟩, ⟨?mk, ?a1, ?i1, ?kc⟩, L2.Jz (st := Nb.Kp) ?l1 ?c1 ?k1, L2.Jz (st := Nb.Qcn) ?l2 ?c2 ?k2, ⟨?a2, ?i2, ?m2⟩, L2.Jz (st := Nb.Kj) ?l3 ?c3 ?k3, ⟨?a3, ?i3, ?m3⟩, L2.Jz (st := Nb.Wf) ?l4 ?c4 ?k4, ⟨?a4, ?i4, ?m4⟩, L2.Jz (st := Nb.Wg) ?l5 ?c5 ?k5, ⟨?a5, ?i5, ?m5⟩, L2.Jz (st := Nb.Wh) ?l6 ?c6 ?k6, ⟨?a6, ?i6, ?m6⟩, L2.Jz (st := Nb.Wi) ?l7 ?c7 ?k7, ⟨?a7, ?i7, ?m7⟩, L2.Jz (st := Nb.Wj) ?l8 ?c8 ?k8, ⟨?a8, ?i8, ?m8⟩⟩
   (case aC => k_is); (case a1 => k_is); (case i1 => k_is); (case l1 => k_is); (case c1 => k_is); (case k1 => k_is)
   (case a2 => k_is); (case i2 => k_is); (case l2 => k_is); (case c2 => k_is); (case k2 => k_is); (case m2 => k_is)
   (case a3 => k_is); (case i3 => k_is); (case l3 => k_is); (case c3 => k_is); (case k3 => k_is); (case m3 => k_is)
   (case a4 => k_is); (case i4 => k_is); (case l4 => k_is); (case c4 => k_is); (case k4 => k_is); (case m4 => k_is)
   (case a5 => k_is); (case i5 => k_is); (case l5 => k_is); (case c5 => k_is); (case k5 => k_is); (case m5 => k_is)
   (case a6 => k_is); (case i6 => k_is); (case l6 => k_is); (case c6 => k_is); (case k6 => k_is); (case m6 => k_is)
   (case a7 => k_is); (case i7 => k_is); (case l7 => k_is); (case c7 => k_is); (case k7 => k_is); (case m7 => k_is)
   (case a8 => k_is); (case i8 => k_is); (case l8 => k_is); (case c8 => k_is); (case k8 => k_is); (case m8 => k_is)
   (case pg => k_is); (case hd => k_is); (case po => k_is); (case sa => k_is); (case mk => k_is); (case kc => k_is)
   (case n1 => unfold L2.NoAttr; k_is); (case n2 => unfold L2.NoAttr; k_is); (case n3 => unfold L2.NoAttr; k_is); (case n4 => unfold L2.NoAttr; k_is); (case n5 => unfold L2.NoAttr; k_is); (case n6 => unfold L2.NoAttr; k_is); (case n7 => unfold L2.NoAttr; k_is)
  obtain ⟨C, fI, fE, fY, fL, fM, fU, fG, fR, fdI, fdE, fdY, fdL, fdM, fdU, fdG, fdR, T, mkI, FI, FE, mE, FY, mY, FL, mL, FM, mM, FU, mU, FG, mG, FR, mR⟩ := CL
  have TNN : ∃ aN fN, L2.Tab w (L2.KOf KX) mg "NAMES" aN fN ∧ Nb.Qbb fN := by
   dsimp only [L2.KOf]
   refine' ⟨_, Nb.Qip (PySem.W.mg_of KX G ?b1) ?l1 ?k1 ?o1 ?e1⟩
   (case b1 => k_is); (case l1 => k_is); (case k1 => k_keys); (case o1 => decide); (case e1 => exact rfl)
  obtain ⟨aN, fN, TN, hN⟩ := TNN
  have bI := FI.binds (ps := ["self", "book"]) fun _ _ _ _ _ _ us hl => match us, hl with | [_, _], _ => rfl
  have bE := FE.binds (ps := ["self", "choice"]) fun _ _ _ _ _ _ us hl => match us, hl with | [_, _], _ => rfl
  have bY := FY.binds (ps := ["self", "work", "way"]) fun _ _ _ _ _ _ us hl => match us, hl with | [_, _, _], _ => rfl
  have bL := FL.binds (ps := ["self", "work", "way"]) fun _ _ _ _ _ _ us hl => match us, hl with | [_, _, _], _ => rfl
  have bM := FM.binds (ps := ["self", "word", "choice", "name"]) fun _ _ _ _ _ _ us hl => match us, hl with | [_, _, _, _], _ => rfl
  have bU := FU.binds (ps := ["self", "choice", "bench", "day"]) fun _ _ _ _ _ _ us hl => match us, hl with | [_, _, _, _], _ => rfl
  have bG := FG.binds (ps := ["self", "choice", "store", "day"]) fun _ _ _ _ _ _ us hl => match us, hl with | [_, _, _, _], _ => rfl
  have bR := FR.binds (ps := ["self", "bench", "day"]) fun _ _ _ _ _ _ us hl => match us, hl with | [_, _, _], _ => rfl
  obtain ⟨f, fd, FF, hm⟩ := F26
  have e0 := hmg.symm.trans hm
  cases e0
  refine' ⟨fd, ?b, fun base kb nb => Nb.all_ok M T TN hN mkI FI bI FE bE mE FY bY mY FL bL mL FM bM mM FU bU mU FG bG mG FR bR mR F1 F2 F3 F4 F5 F6 F7 F8 F9 F10 F11 F12 F13 F14 F15 F16 F17 F18 F19 F20 F21 F22 F23 F24 F25 FF⟩
  obtain ⟨oc, od, kV, doc, pm, an, cdv, ct, osl, rfl, lk, hcd⟩ := FF.ex
  exact fun s u => .of_eq rfl

