import PyProof.Rows.All
import Wide.All
import OpenK.AllK
import Wide.FinOn
import Lean
import PyProof.EqAt
import PyProof.EqKinds
import PyProof.TupleCall
import KE.KDictOf
import KE.KRevIter
import KE.KMinKey
import KE.KTryDeep
import KE.KIsAll
import KE.KSortTup
import OpenK.KTop
import PySem.Challenge.RW_nonebetter_k21_shut_outs_by_passing_on
set_option Elab.async false
set_option linter.all false
set_option maxRecDepth 100000
set_option maxHeartbeats 4000000
set_option bootstrap.genMatcherCode false
set_option compiler.extract_closed false
namespace L2
theorem aRfl (h : True := by rfl) : True := h
theorem aDec (h : True := by decide) : True := h
theorem aFst (h : True := by first | exact .inl rfl | exact .inr rfl | assumption) : True := h
theorem aIrf (h : True := by intro _; rfl) : True := h
end L2
namespace L2
open PySem PySem.Spec PyProof.Rows
noncomputable abbrev Key := Sum Int Str
noncomputable def keyIs : Key → Value → Bool
  | .inl k, v => Value.isInt k v
  | .inr x, v => Value.isStrOf x v
noncomputable def keyH (w : World) : Key → Int
  | .inl k => hashInt k
  | .inr x => hashStr w x
theorem keyIs_shape : ∀ {k : Key} {v : Value}, keyIs k v = true → (∃ i t, k = Sum.inl i ∧ v = Value.int i t) ∨ (∃ x t, k = Sum.inr x ∧ v = Value.str x t)
  | .inl i, v, h => by
    obtain ⟨t, e⟩ := Value.isInt_shape (k := i) (v := v) h
    exact .inl ⟨i, t, rfl, e⟩
  | .inr x, v, h => by
    obtain ⟨t, e⟩ := Value.isStrOf_shape (x := x) (v := v) h
    exact .inr ⟨x, t, rfl, e⟩
theorem keyIs_int (i : Int) (t : Tok) : keyIs (.inl i) (.int i t) = true := by simp [keyIs, Value.isInt]
theorem keyIs_str (x : Str) (t : Tok) : keyIs (.inr x) (.str x t) = true := by simp [keyIs, Value.isStrOf]
theorem key_ll (a b : Int) : decide ((Sum.inl a : Key) = Sum.inl b) = (a == b) := by
  by_cases e : a = b
  · subst e; simp
  · have h : ¬ (Sum.inl a : Key) = Sum.inl b := fun q => e (Sum.inl.inj q)
    rw [decide_eq_false h]
    exact (beq_eq_false_iff_ne.mpr e).symm
theorem key_rr (a b : Str) : decide ((Sum.inr a : Key) = Sum.inr b) = decide (a = b) := by
  by_cases e : a = b
  · subst e; simp
  · have h : ¬ (Sum.inr a : Key) = Sum.inr b := fun q => e (Sum.inr.inj q)
    rw [decide_eq_false h, decide_eq_false e]
theorem key_lr (a : Int) (b : Str) : decide ((Sum.inl a : Key) = Sum.inr b) = false := decide_eq_false (fun q => nomatch q)
theorem key_rl (a : Str) (b : Int) : decide ((Sum.inr a : Key) = Sum.inl b) = false := decide_eq_false (fun q => nomatch q)
noncomputable def mixKind (prog : Program) (w : World) : PySem.KeyKind prog w Key where
  is := keyIs
  hash := keyH w
  inj := fun v a b ha hb => by
    rcases keyIs_shape ha with ⟨i, t, rfl, rfl⟩ | ⟨x, t, rfl, rfl⟩
    · rcases keyIs_shape hb with ⟨j, u, rfl, e⟩ | ⟨y, u, rfl, e⟩
      · injection e with e1 _; rw [e1]
      · exact nomatch e
    · rcases keyIs_shape hb with ⟨j, u, rfl, e⟩ | ⟨y, u, rfl, e⟩
      · exact nomatch e
      · injection e with e1 _; rw [e1]
  byValue := fun k v h => by
    rcases keyIs_shape h with ⟨i, t, rfl, rfl⟩ | ⟨x, t, rfl, rfl⟩ <;> rfl
  pyHash := fun hv h => by
    rcases keyIs_shape hv with ⟨i, t, rfl, rfl⟩ | ⟨x, t, rfl, rfl⟩
    · exact wpAny_pyHash_int h
    · exact wpAny_pyHash_str h
  eqBool := fun hu hv h => by
    rcases keyIs_shape hu with ⟨i, t, rfl, rfl⟩ | ⟨x, t, rfl, rfl⟩
    · rcases keyIs_shape hv with ⟨j, u, rfl, rfl⟩ | ⟨y, u, rfl, rfl⟩
      · rw [key_ll] at h; exact wpAny_eqBool_int h
      · rw [key_lr] at h; exact SeqAt.EqAt.int_str i t y u _ _ _ _ h
    · rcases keyIs_shape hv with ⟨j, u, rfl, rfl⟩ | ⟨y, u, rfl, rfl⟩
      · rw [key_rl] at h; exact SeqAt.EqAt.str_int x t j u _ _ _ _ h
      · rw [key_rr] at h; exact wpAny_eqBool_str h
  «strs» := fun k x t v h => by
    rcases keyIs_shape h with ⟨i, u, rfl, e⟩ | ⟨y, u, rfl, e⟩
    · exact nomatch e
    · injection e with e1 _
      subst e1
      cases v <;> rfl
theorem mixKind_int (prog : Program) (w : World) (i : Int) (t : Tok) : (mixKind prog w).is (.inl i) (.int i t) = true := keyIs_int i t
theorem mixKind_str (prog : Program) (w : World) (x : Str) (t : Tok) : (mixKind prog w).is (.inr x) (.str x t) = true := keyIs_str x t
end L2
namespace L2
open PySem PySem.Spec PyProof.Rows
inductive V where
  | non | bl (b : Bool) | int (i : Int) | str (x : Str) | byt (b : Array UInt8) | flt (b : UInt64) | ref (a : Addr) | ty (n : String)
  deriving DecidableEq
noncomputable def RelV : V → Value → Prop
  | .non, u => u = Value.none
  | .bl b, u => u = Value.bool b
  | .int i, u => ∃ t, u = Value.int i t
  | .str x, u => ∃ t, u = Value.str x t
  | .byt b, u => ∃ t, u = Value.bytes b t
  | .flt b, u => ∃ t, u = Value.float b t
  | .ref a, u => u = Value.ref a
  | .ty n, u => u = Value.type n
noncomputable abbrev Vals : List V → List Value → Prop := Paired RelV
theorem Vals.length {xs : List V} {us : List Value} (r : Vals xs us) : xs.length = us.length := Paired.length r
theorem Vals.get : ∀ {xs : List V} {us : List Value} {i : Nat} {x : V}, Vals xs us → xs[i]? = some x → ∃ u, us[i]? = some u ∧ RelV x u
  | _, _, _, _, .nil, e => by simp at e
  | _, _, 0, _, .cons r _, e => by simp at e; subst e; exact ⟨_, rfl, r⟩
  | _, _, i + 1, x, .cons _ t, e => by
    obtain ⟨u, h1, h2⟩ := Vals.get (i := i) (x := x) t (by simpa using e)
    exact ⟨u, by simpa using h1, h2⟩
theorem Vals.set {x : V} {u : Value} (r : RelV x u) : ∀ {xs : List V} {us : List Value} (i : Nat), Vals xs us → Vals (xs.set i x) (us.set i u)
  | _, _, _, .nil => .nil
  | _, _, 0, .cons _ t => .cons r t
  | _, _, i + 1, .cons q t => .cons q (Vals.set r i t)
theorem Vals.append {xs ys : List V} {us ws : List Value} (h : Vals xs us) (g : Vals ys ws) : Vals (xs ++ ys) (us ++ ws) := by
  induction h with
  | nil => exact g
  | cons r t ih => exact .cons r ih
theorem Vals.take : ∀ {xs : List V} {us : List Value} (n : Nat), Vals xs us → Vals (xs.take n) (us.take n)
  | _, _, 0, _ => .nil
  | _, _, _ + 1, .nil => .nil
  | _, _, n + 1, .cons r t => .cons r (Vals.take n t)
theorem Vals.drop : ∀ {xs : List V} {us : List Value} (n : Nat), Vals xs us → Vals (xs.drop n) (us.drop n)
  | _, _, 0, r => r
  | _, _, _ + 1, .nil => .nil
  | _, _, n + 1, .cons _ t => Vals.drop n t
noncomputable def RelO : Option V → Option Value → Prop
  | some v, some u => RelV v u
  | none, none => True
  | _, _ => False
noncomputable def KV {κ : Type} : List (κ × V) → List (κ × Value) → Prop := Paired fun (p : κ × V) (q : κ × Value) => p.1 = q.1 ∧ RelV p.2 q.2
noncomputable def kV : Key → V
  | .inl i => .int i
  | .inr x => .str x
inductive HO where
  /-- a list -/
  | lst (xs : List V)
  /-- a tuple (never changes) -/
  | tup (xs : List V)
  /-- a dict whose keys are ints and texts; one whose keys are tuples of ints and texts (the empty one is both) -/
  | dK (kvs : List (Key × V)) | dT (kvs : List (List Key × V))
  /-- a set of ints: its members, its size -/
  | set (S : Int → Bool) (n : Nat)
  /-- an instance of the class at C, its dict at dx, its attributes -/
  | ins (C dx : Addr) (fs : List (Str × V))
  /-- the dict of the instance at x -/
  | own (x : Addr)
  /-- the dict of an exception -/
  | xd (fs : List (Str × V))
  /-- a bound method, f of x -/
  | met (f x : Addr)
  /-- a range object lo, lo + 1, .. below hi -/
  | rng (lo hi : Int)
  /-- a thing that is known to the object (the script; a dict while a loop walks it): read, never written while it is so -/
  | frz (o : Obj) (u : HO)
  /-- a code object's table -/
  | tbl (ps : Array Value)
  /-- any other thing, by what is true of its one object (a def of one's own: SetO a S n := HO.ext fun h => ..) -/
  | ext (φ : Heap → Prop)
noncomputable abbrev Hp := Addr → Option HO
noncomputable def upd (H : Hp) (a : Addr) (o : HO) : Hp := fun b => if b = a then some o else H b
theorem upd_same {H : Hp} {a : Addr} {o : HO} : upd H a o a = some o := by unfold upd; rw [if_pos rfl]
theorem upd_ne {H : Hp} {a b : Addr} {o : HO} (h : b ≠ a) : upd H a o b = H b := by unfold upd; rw [if_neg h]
theorem upd_upd {H : Hp} {a : Addr} {o u : HO} : upd (upd H a o) a u = upd H a u := by
  funext b; unfold upd; split <;> rfl
theorem ne_of {H : Hp} {a b : Addr} {o u : HO} (h : H a = some o) (h' : H b = some u) (d : o ≠ u) : a ≠ b := by
  intro e; subst e; rw [h] at h'; exact d (Option.some.inj h')
theorem ne_of_none {H : Hp} {a b : Addr} {o : HO} (h : H a = some o) (h' : H b = none) : a ≠ b := by
  intro e; subst e; rw [h] at h'; cases h'
section
variable (P : Program) (w : World)
noncomputable def ObjOk (H : Hp) (h : Heap) (a : Addr) : HO → Prop
  | .lst xs => xs.length ≤ sizeLine ∧ ∃ (its : List Value) (n : Nat), Vals xs its ∧ h.get? a = some { cls := .type "list", data := .seq its.toArray n }
  | .tup xs => xs.length ≤ sizeLine ∧ ∃ its : List Value, Vals xs its ∧ IsTup h a its.toArray
  | .dK kvs => kvs.length ≤ sizeLine ∧ (a == sysModules) = false ∧ ∃ vs, KV kvs vs ∧ h.DictOf (mixKind P w) a vs
  | .dT kvs => kvs.length ≤ sizeLine ∧ (a == sysModules) = false ∧ ∃ xs : List (List Key × Addr × Value),
      Paired (fun (p : List Key × V) (q : List Key × Addr × Value) => p.1 = q.1 ∧ H q.2.1 = some (.tup (p.1.map kV)) ∧ RelV p.2 q.2.2) kvs xs ∧
      ∃ o es ep, h.get? a = some o ∧ o.ExactDict ∧ o.data = .dict es ep ∧ es.toList = xs.map (entryOfKey (tupleKind (mixKind P w))) ∧ (xs.map (·.1)).Nodup
  | .set S n => h.SetOf (intKind P w) a S n
  | .ins C dx fs => H dx = some (.own a) ∧ fs.length ≤ 1000 ∧ dx ≠ a ∧ h.get? a = some (PySem.W.instObj C dx) ∧
      ∃ mA, h.Ns1 dx mA ∧ (∀ f, RelO (fs.lookup f) (mA f)) ∧ PySem.Within mA (fs.map (·.1))
  | .own _ => ∃ o, h.get? a = some o
  | .xd fs => ∃ mA, h.Ns1 a mA ∧ ∀ f, RelO (fs.lookup f) (mA f)
  | .rng lo hi => ∃ t u v, h.get? a = some { cls := .type "range", data := .fields #[.int lo t, .int hi u, .int 1 v] }
  | .frz o u => h.get? a = some o ∧ ObjOk H h a u
  | .tbl ps => h.get? a = some { cls := .none, data := .fields ps }
  | .met f x => h.get? a = some (PySem.W.methodObj (.ref f) (.ref x))
  | .ext φ => φ h ∧ (∃ o, h.get? a = some o) ∧ ∀ h1 h2 : Heap, φ h1 → (∀ o, h1.get? a = some o → h2.get? a = some o) → φ h2
noncomputable def HOk (H : Hp) (h : Heap) : Prop := ∀ a o, H a = some o → ObjOk P w H h a o
end
section
variable {P : Program} {w : World} {H H' : Hp} {h h' : Heap} {a : Addr} {o : HO}
theorem ObjOk.lt (x : ObjOk P w H h a o) : a < h.objs.size := by
  cases o with
  | lst xs => obtain ⟨_, _, _, _, e⟩ := x; exact Heap.lt_size e
  | tup xs => obtain ⟨_, _, _, p⟩ := x; exact p.lt
  | dK kvs => obtain ⟨_, _, _, _, o, _, _, e, _⟩ := x; exact Heap.lt_size e
  | dT kvs => obtain ⟨_, _, _, _, o, _, _, e, _⟩ := x; exact Heap.lt_size e
  | set S n => obtain ⟨o, _, _, _, e, _⟩ := x; exact Heap.lt_size e
  | ins C dx fs => obtain ⟨_, _, _, e, _⟩ := x; exact Heap.lt_size e
  | own y => obtain ⟨_, e⟩ := x; exact Heap.lt_size e
  | xd fs => obtain ⟨_, ⟨_, _, _, e, _⟩, _⟩ := x; exact Heap.lt_size e
  | rng lo hi => obtain ⟨_, _, _, e⟩ := x; exact Heap.lt_size e
  | frz ob u => obtain ⟨e, _⟩ := x; exact Heap.lt_size e
  | tbl ps => exact Heap.lt_size (show h.get? a = some _ from x)
  | met f y => exact Heap.lt_size (show h.get? a = some _ from x)
  | ext φ => obtain ⟨_, ⟨_, e⟩, _⟩ := x; exact Heap.lt_size e
theorem Paired.mapP {α β : Type} {F G : α → β → Prop} {l₁ : List α} {l₂ : List β} (h : Paired F l₁ l₂) (f : ∀ a b, F a b → G a b) : Paired G l₁ l₂ := by
  induction h with
  | nil => exact .nil
  | cons r t ih => exact .cons (f _ _ r) ih
theorem ObjOk.stay (x : ObjOk P w H h a o) (k : ∀ b u, (b = a ∨ H b = some (.own a)) → h.get? b = some u → h'.get? b = some u)
    (ho : ∀ b, H b = some (.own a) → H' b = some (.own a)) (ht : ∀ b xs, H b = some (.tup xs) → H' b = some (.tup xs)) : ObjOk P w H' h' a o := by
  induction o with
  | lst xs => obtain ⟨z, its, n, r, e⟩ := x; exact ⟨z, its, n, r, k _ _ (.inl rfl) e⟩
  | tup xs => obtain ⟨z, its, r, ob, e, c⟩ := x; exact ⟨z, its, r, ob, k _ _ (.inl rfl) e, c⟩
  | dK kvs => obtain ⟨z, y, vs, r, ob, es, ep, e, c⟩ := x; exact ⟨z, y, vs, r, ob, es, ep, k _ _ (.inl rfl) e, c⟩
  | dT kvs =>
    obtain ⟨z, y, xs, r, ob, es, ep, e, c⟩ := x
    exact ⟨z, y, xs, Paired.mapP r fun p q z => ⟨z.1, ht _ _ z.2.1, z.2.2⟩, ob, es, ep, k _ _ (.inl rfl) e, c⟩
  | set S n => obtain ⟨ob, es, ep, t, e, c⟩ := x; exact ⟨ob, es, ep, t, k _ _ (.inl rfl) e, c⟩
  | ins C dx fs =>
    obtain ⟨d, z, ne, e, mA, ⟨od, es, ep, e2, c⟩, r⟩ := x
    exact ⟨ho _ d, z, ne, k _ _ (.inl rfl) e, mA, ⟨od, es, ep, k _ _ (.inr d) e2, c⟩, r⟩
  | own y => obtain ⟨ob, e⟩ := x; exact ⟨ob, k _ _ (.inl rfl) e⟩
  | xd fs => obtain ⟨mA, ⟨od, es, ep, e, c⟩, r⟩ := x; exact ⟨mA, ⟨od, es, ep, k _ _ (.inl rfl) e, c⟩, r⟩
  | rng lo hi => obtain ⟨t, u, v, e⟩ := x; exact ⟨t, u, v, k _ _ (.inl rfl) e⟩
  | frz ob u ih => obtain ⟨e, q⟩ := x; exact ⟨k _ _ (.inl rfl) e, ih q⟩
  | tbl ps =>
    have e : h.get? a = some { cls := .none, data := .fields ps } := x
    show h'.get? a = some { cls := .none, data := .fields ps }
    exact k a _ (.inl rfl) e
  | met f y =>
    have e : h.get? a = some (PySem.W.methodObj (.ref f) (.ref y)) := x
    show h'.get? a = some (PySem.W.methodObj (.ref f) (.ref y))
    exact k a _ (.inl rfl) e
  | ext φ => obtain ⟨p, ⟨o, e⟩, st⟩ := x; exact ⟨st _ _ p fun o q => k _ _ (.inl rfl) q, ⟨o, k _ _ (.inl rfl) e⟩, st⟩
theorem HOk.lt (x : HOk P w H h) (e : H a = some o) : a < h.objs.size := (x a o e).lt
theorem HOk.fresh (x : HOk P w H h) (e : h.objs.size ≤ a) : H a = none := by
  cases q : H a with
  | none => rfl
  | some u => exact absurd (Nat.lt_of_lt_of_le (x.lt q) e) (Nat.lt_irrefl _)
theorem HOk.kept (x : HOk P w H h) (k : ∀ b u, h.get? b = some u → h'.get? b = some u) : HOk P w H h' := fun a o e =>
  (x a o e).stay (fun b u _ q => k b u q) (fun _ q => q) fun _ _ q => q
theorem HOk.laid (x : HOk P w H h) (k : ∀ b u, h.get? b = some u → h'.get? b = some u) (hp : h.objs.size ≤ a) (new : ObjOk P w (upd H a o) h' a o) : HOk P w (upd H a o) h' := fun b u e => by
  have hn := x.fresh hp
  by_cases hb : b = a
  · subst hb; rw [upd_same] at e; cases e; exact new
  · rw [upd_ne hb] at e
    exact (x b u e).stay (fun c v _ q => k c v q) (fun c q => by rw [upd_ne (ne_of_none q hn)]; exact q) fun c xs q => by rw [upd_ne (ne_of_none q hn)]; exact q
end
noncomputable def Rd (H : Hp) (a : Addr) (u : HO) : Prop := H a = some u ∨ ∃ o, H a = some (.frz o u)
theorem Rd.ok {P : Program} {w : World} {H : Hp} {h : Heap} {a : Addr} {u : HO} (r : Rd H a u) (x : HOk P w H h) : ObjOk P w H h a u := by
  rcases r with r | ⟨o, r⟩
  · exact x a u r
  · obtain ⟨_, q⟩ := x a _ r
    exact q
noncomputable def Mut : Option HO → Prop
  | some (.lst _) => True
  | some (.dK _) => True
  | some (.dT _) => True
  | some (.set _ _) => True
  | some (.ins _ _ _) => True
  | some (.ext _) => True
  | _ => False
section
variable {P : Program} {w : World} {H : Hp} {h h' : Heap} {x e : Addr} {o' : HO}
theorem HOk.write (ok : HOk P w H h) (mu : Mut (H x)) (he : e = x ∨ H e = some (.own x)) (k : ∀ b u, b ≠ e → h.get? b = some u → h'.get? b = some u) (heo : ∃ u, h'.get? e = some u)
    (new : ObjOk P w (upd H x o') h' x o') : HOk P w (upd H x o') h' := fun b u q => by
  have nown : ∀ c y, H c = some (.own y) → c ≠ x := fun c y r z => by subst z; rw [r] at mu; exact mu
  have ntup : ∀ c xs, H c = some (.tup xs) → c ≠ x := fun c xs r z => by subst z; rw [r] at mu; exact mu
  by_cases hb : b = x
  · subst hb; rw [upd_same] at q; cases q; exact new
  · rw [upd_ne hb] at q
    by_cases hbe : b = e
    · have q' : H b = some (.own x) := by
        rcases he with z | z
        · exact absurd (hbe.trans z) hb
        · rw [hbe]; exact z
      rw [q] at q'; cases q'
      obtain ⟨v, hv⟩ := heo
      exact ⟨v, by rw [hbe]; exact hv⟩
    · refine (ok b u q).stay (fun c v hc r => k c v ?_ r) (fun c r => by rw [upd_ne (nown c b r)]; exact r) fun c xs r => by rw [upd_ne (ntup c xs r)]; exact r
      rcases hc with rfl | hc
      · exact hbe
      · rintro rfl
        rcases he with z | z
        · exact nown c b hc z
        · rw [hc] at z; cases z; exact hb rfl
end
structure Un (fs ex : List Addr) (H H' : Hp) (h h' : Heap) : Prop where
  keep : ∀ b o, h.get? b = some o → H b = none → b ∉ fs → b ∉ ex → h'.get? b = some o
  slot : ∀ b o, h.get? b = some o → H b = none → b ∈ fs → b ∉ ex → ∃ sl, h'.get? b = some { o with slots := sl }
  free : ∀ b o, h.get? b = some o → H b = none → b ∉ ex → H' b = none
  there : ∀ b o, h.get? b = some o → b ∉ ex → ∃ o', h'.get? b = some o'
  tups : ∀ b xs, H b = some (.tup xs) → H' b = some (.tup xs)
  frzs : ∀ b o u, H b = some (.frz o u) → H' b = some (.frz o u)
  tbls : ∀ b ps, H b = some (.tbl ps) → ∃ more, H' b = some (.tbl (ps ++ more))
section
variable {fs fs' ex ex' : List Addr} {H H1 H2 : Hp} {h h1 h2 h' : Heap} {a x e : Addr} {o : HO}
theorem Un.any (u : Un fs ex H H1 h h1) {b : Addr} {ob : Obj} (q : h.get? b = some ob) (n : H b = none) (hx : b ∉ ex) : ∃ sl, h1.get? b = some { ob with slots := sl } := by
  by_cases hb : b ∈ fs
  · exact u.slot b ob q n hb hx
  · exact ⟨ob.slots, u.keep b ob q n hb hx⟩
theorem Un.kept (k : ∀ b u, h.get? b = some u → h'.get? b = some u) : Un fs ex H H h h' :=
  ⟨fun b ob q _ _ _ => k b ob q, fun b ob q _ _ _ => ⟨ob.slots, k b ob q⟩, fun _ _ _ n _ => n, fun b ob q _ => ⟨ob, k b ob q⟩, fun _ _ q => q, fun _ _ _ q => q, fun _ ps q => ⟨#[], by rw [q]; simp⟩⟩
theorem Un.refl : Un fs ex H H h h := Un.kept fun _ _ q => q
theorem Un.laid (k : ∀ b u, h.get? b = some u → h'.get? b = some u) (hp : h.objs.size ≤ a) (hn : H a = none) : Un fs ex H (upd H a o) h h' where
  keep := fun b u q _ _ _ => k b u q
  slot := fun b u q _ _ _ => ⟨u.slots, k b u q⟩
  free := fun b u q n _ => by rw [upd_ne (Nat.ne_of_lt (Nat.lt_of_lt_of_le (Heap.lt_size q) hp))]; exact n
  there := fun b u q _ => ⟨u, k b u q⟩
  tups := fun b xs q => by rw [upd_ne (ne_of_none q hn)]; exact q
  frzs := fun b u xs q => by rw [upd_ne (ne_of_none q hn)]; exact q
  tbls := fun b ps q => ⟨#[], by rw [upd_ne (ne_of_none q hn), q]; simp⟩
theorem Un.write (mu : Mut (H x)) (he : e = x ∨ H e = some (.own x)) (k : ∀ b u, b ≠ e → h.get? b = some u → h'.get? b = some u) (heo : ∃ u, h'.get? e = some u) : Un fs ex H (upd H x o) h h' := by
  have hx : ∀ b, H b = none → b ≠ x := fun b n z => by subst z; rw [n] at mu; exact mu
  have hb : ∀ b, H b = none → b ≠ e := fun b n z => by
    subst z
    rcases he with r | r
    · exact hx b n r
    · rw [n] at r; cases r
  have hm : ∀ b u, H b = some u → ¬ Mut (some u) → b ≠ x := fun b u q nm z => by subst z; rw [q] at mu; exact nm mu
  refine ⟨fun b u q n _ _ => k b u (hb b n) q, fun b u q n _ _ => ⟨u.slots, k b u (hb b n) q⟩, fun b u q n _ => by rw [upd_ne (hx b n)]; exact n, fun b u q _ => ?_,
    fun b xs q => by rw [upd_ne (hm b _ q fun z => z)]; exact q, fun b u xs q => by rw [upd_ne (hm b _ q fun z => z)]; exact q, fun b ps q => ⟨#[], by rw [upd_ne (hm b _ q fun z => z), q]; simp⟩⟩
  by_cases hbe : b = e
  · subst hbe; exact heo
  · exact ⟨u, k b u hbe q⟩
end
noncomputable def trk (h : Heap) (H : Hp) : List Addr := (List.range h.objs.size).filter fun a => (H a).isSome
noncomputable def hidT (h : Heap) (H : Hp) : Heap := PySem.W.hideAll h (trk h H)
theorem hidT_size (h : Heap) (H : Hp) : (hidT h H).objs.size = h.objs.size := PySem.W.hideAll_size _ _
theorem hidT_get {h : Heap} {H : Hp} {b : Addr} {o : Obj} (e : h.get? b = some o) (n : H b = none) : (hidT h H).get? b = some o :=
  PySem.W.hideAll_get _ e fun hm => by
    have q : (H b).isSome = true := (List.mem_filter.mp hm).2
    rw [n] at q; simp at q
theorem of_hidT {h : Heap} {H : Hp} {b : Addr} {o : Obj} (e : (hidT h H).get? b = some o) : h.get? b = some o ∧ H b = none := by
  have e' : h.get? b = some o := PySem.W.of_hideAll (trk h H) e
  refine ⟨e', ?_⟩
  cases q : H b with
  | none => rfl
  | some x =>
    have hm : b ∈ trk h H := List.mem_filter.mpr ⟨List.mem_range.mpr (Heap.lt_size e'), by simp [q]⟩
    have z : (hidT h H).get? b = none := PySem.W.hideAll_none (trk h H) hm
    rw [z] at e; cases e
end L2
namespace L2
open PySem PySem.Spec PyProof.Rows
structure Mod (K : PySem.W.Frag) (mg : Str → Option Value) (base : Heap) : Prop where
  kin : K.In base
  glob : base.Ns mainGlobals mg
  blt : ∃ mb, base.Ns builtinsNs mb ∧ ∀ x : Str, x ≠ "__name__" → mb x = bootBuiltins x
  nolimit : base.NoLimit
structure Cx where
  prog : Program
  w : World
  K : PySem.W.Frag
  mg : Str → Option Value
  base : Heap
  A : Around
  N : List Str
  s₀ : Shared
  H₀ : Hp
  env : Env
  outer : List Env
  stack : List Env
  ex : List Addr
  fn : Str → Bool
  calm : Bool
  pn : List (Addr × Obj)
  xe : Value → Shared → Prop
noncomputable def frs (l : List Env) : List Addr := l.filterMap (·.frame)
noncomputable abbrev Cx.fs (X : Cx) : List Addr := frs X.outer
noncomputable def Vis (sc : Scope) (x : Str) : Prop := sc.names.lookup x = some .local ∨ sc.names.lookup x = some .cell ∨ sc.names.lookup x = some .free
noncomputable def Loc (sc : Scope) (x : Str) : Prop := sc.names.lookup x = some .local ∨ sc.names.lookup x = some .cell
noncomputable def Look (env : Env) (h : Heap) (m : Str → Option Value) (x : Str) (u : Value) : Prop :=
  (env.kindOf x = some .local ∧ m x = some u) ∨ ((env.kindOf x = some .cell ∨ env.kindOf x = some .free) ∧ ∃ c, env.cells.lookup x = some c ∧ h.IsCell c (some u))
structure Cx.Ok (X : Cx) : Prop where
  mod : Mod X.K X.mg X.base
  kind : X.env.scope.kind = .function
  glob : X.env.globals = mainGlobals
  blt : X.env.builtins = builtinsNs
  above : X.s₀.heap.objs.size ≤ X.env.locals
  inj : ∀ x y c, X.env.cells.lookup x = some c → X.env.cells.lookup y = some c → x = y
  has : ∀ x, (X.env.kindOf x = some .cell ∨ X.env.kindOf x = some .free) → ∃ c, X.env.cells.lookup x = some c
  cab : ∀ x c, X.fn x = true → X.env.cells.lookup x = some c → X.s₀.heap.objs.size ≤ c
  hd : X.calm = true → X.A.handled = none
  frames : X.A.frames = some X.stack
  stk : X.stack = X.outer ∨ (X.stack = X.env :: X.outer ∧ X.env.frame = some X.env.locals)
  exf : ∀ b ∈ X.ex, b ≠ X.env.locals ∧ ∀ x c, X.env.cells.lookup x = some c → c ≠ b
  bs : ∀ b o, X.base.get? b = some o → X.s₀.heap.get? b = some o ∧ X.H₀ b = none
  bsz : X.base.objs.size ≤ X.s₀.heap.objs.size
  noex : ∀ b o, X.base.get? b = some o → b ∉ X.ex
  exfs : ∀ b ∈ X.ex, b ∉ X.fs
  funs : X.s₀.heap.FunFrames X.base X.outer
  frf : ∀ b ∈ X.fs, X.H₀ b = none
structure Inv (X : Cx) (pins : List (Addr × Obj)) (σ : List (Option V)) (H : Hp) (s : Shared) : Prop where
  ok : X.Ok
  os : s.os = X.s₀.os
  bare : AllBare s.gens
  base : Un X.fs X.ex X.H₀ H X.s₀.heap s.heap
  loc : ∃ m, s.heap.Ns X.env.locals m ∧ ∀ (i : Nat) (x : Str) (v : V), X.N[i]? = some x → σ[i]? = some (some v) → Vis X.env.scope x → ∃ u, RelV v u ∧ Look X.env s.heap m x u
  cell : ∀ x c, X.env.cells.lookup x = some c → ∃ v, s.heap.IsCell c v
  free : H X.env.locals = none
  freeC : ∀ x c, X.env.cells.lookup x = some c → H c = none
  pin : ∀ p ∈ X.pn ++ pins, s.heap.get? p.1 = some p.2 ∧ H p.1 = none ∧ p.1 ≠ X.env.locals ∧ p.1 ∉ X.fs ∧ ∀ v, p.2.data ≠ .cell v
  hok : HOk X.prog X.w H s.heap
  len : σ.length = X.N.length
section
variable {X : Cx} {pins : List (Addr × Obj)} {σ : List (Option V)} {H H' : Hp} {s : Shared} {h' : Heap}
theorem Cx.Ok.nofr (ok : X.Ok) {b : Addr} {o : Obj} (e : X.base.get? b = some o) : b ∉ X.fs := fun hb => by
  have := (ok.funs.mem hb).1
  rw [e] at this; cases this
theorem Inv.bs (I : Inv X pins σ H s) : ∀ b o, X.base.get? b = some o → s.heap.get? b = some o ∧ H b = none := fun b o e =>
  ⟨I.base.keep b o (I.ok.bs b o e).1 (I.ok.bs b o e).2 (I.ok.nofr e) (I.ok.noex b o e), I.base.free b o (I.ok.bs b o e).1 (I.ok.bs b o e).2 (I.ok.noex b o e)⟩
theorem Inv.bk (I : Inv X pins σ H s) : ∀ b o, X.base.get? b = some o → s.heap.get? b = some o := fun b o e => (I.bs b o e).1
theorem Inv.mod (I : Inv X pins σ H s) : Mod X.K X.mg X.base := I.ok.mod
theorem Inv.kIn (I : Inv X pins σ H s) : X.K.In s.heap := I.ok.mod.kin.keeps I.bk
theorem Inv.lt (I : Inv X pins σ H s) : X.env.locals < s.heap.objs.size := let ⟨_, hn, _⟩ := I.loc; hn.lt
theorem Inv.sz (I : Inv X pins σ H s) : X.s₀.heap.objs.size ≤ s.heap.objs.size := Nat.le_trans I.ok.above (Nat.le_of_lt I.lt)
theorem Inv.nofs (I : Inv X pins σ H s) {a : Addr} (h : s.heap.objs.size ≤ a) : a ∉ X.fs := fun hb => by
  obtain ⟨_, o, ho, _⟩ := I.ok.funs.mem hb
  exact absurd (Nat.lt_of_lt_of_le (Heap.lt_size ho) (Nat.le_trans I.sz h)) (Nat.lt_irrefl _)
theorem Inv.cne (I : Inv X pins σ H s) : ∀ x c, X.env.cells.lookup x = some c → c ≠ X.env.locals := fun x c e z => by
  obtain ⟨v, o, ho, hd⟩ := I.cell x c e
  obtain ⟨m, ⟨o', es, ep, ho', hd', _⟩, _⟩ := I.loc
  rw [z, ho'] at ho; cases ho; rw [hd'] at hd; cases hd
theorem Inv.funs (I : Inv X pins σ H s) : s.heap.FunFrames X.base X.outer := by
  have all : ∀ (l : List Env), (∀ b ∈ frs l, b ∈ X.fs) → X.s₀.heap.FunFrames X.base l → s.heap.FunFrames X.base l := by
    intro l
    induction l with
    | nil => intro _ _; trivial
    | cons env r ih =>
      intro hs hl
      obtain ⟨hk, ⟨L, o, hf, hn, ho, hd⟩, hr⟩ := hl
      have hL : L ∈ X.fs := hs L (by unfold frs; rw [List.filterMap_cons, hf]; exact List.mem_cons_self)
      obtain ⟨sl, e⟩ := I.base.slot L o ho (I.ok.frf L hL) hL fun z => I.ok.exfs L z hL
      exact ⟨hk, ⟨L, _, hf, hn, e, hd⟩, ih (fun b hb => hs b (by unfold frs; rw [List.filterMap_cons, hf]; exact List.mem_cons_of_mem _ hb)) hr⟩
  exact all X.outer (fun _ hb => hb) I.ok.funs
theorem Inv.stack (I : Inv X pins σ H s) : s.heap.FunFrames X.base X.stack := by
  rcases I.ok.stk with e | ⟨e, hf⟩
  · rw [e]; exact I.funs
  · rw [e]
    obtain ⟨m, hn, _⟩ := I.loc
    refine .cons (by rw [I.ok.kind]; decide) hf hn ?_ I.funs
    exact Heap.get?_none_of_le (Nat.le_trans I.ok.bsz I.ok.above)
theorem Inv.stkSub (I : Inv X pins σ H s) : ∀ b ∈ frs X.stack, b ∈ X.env.locals :: X.fs := fun b hb => by
  rcases I.ok.stk with e | ⟨e, hf⟩
  · rw [e] at hb; exact List.mem_cons_of_mem _ hb
  · rw [e] at hb
    unfold frs at hb
    rw [List.filterMap_cons, hf] at hb
    exact hb
theorem Inv.stkFree (I : Inv X pins σ H s) : ∀ b ∈ frs X.stack, H b = none := fun b hb => by
  rcases List.mem_cons.mp (I.stkSub b hb) with e | hb
  · rw [e]; exact I.free
  · obtain ⟨_, o, ho, _⟩ := I.ok.funs.mem hb
    exact I.base.free b o ho (I.ok.frf b hb) fun z => I.ok.exfs b z hb
theorem Inv.step {g' : Array GenState} {t' : Nat} {d' : Drawn} {ch : List Addr} (I : Inv X pins σ H s)
    (hch : ∀ b ∈ ch, (b ∈ X.ex ∨ X.s₀.heap.objs.size ≤ b) ∧ b ≠ X.env.locals ∧ (∀ x c, X.env.cells.lookup x = some c → c ≠ b) ∧ ∀ p ∈ X.pn ++ pins, p.1 ≠ b)
    (keep : ∀ b o, b ≠ X.env.locals → b ∉ X.fs → b ∉ ch → s.heap.get? b = some o → H b = none → h'.get? b = some o)
    (slot : ∀ b o, b ≠ X.env.locals → b ∈ X.fs → b ∉ ch → s.heap.get? b = some o → H b = none → ∃ sl, h'.get? b = some { o with slots := sl }) (free : ∀ b o, b ∉ ch → s.heap.get? b = some o → H b = none → H' b = none)
    (there : ∀ b o, b ∉ ch → s.heap.get? b = some o → ∃ o', h'.get? b = some o')
    (tups : ∀ b xs, H b = some (.tup xs) → H' b = some (.tup xs)) (frzs : ∀ b o u, H b = some (.frz o u) → H' b = some (.frz o u)) (tbls : ∀ b ps, H b = some (.tbl ps) → ∃ more, H' b = some (.tbl (ps ++ more)))
    (ns : ∀ m, s.heap.Ns X.env.locals m → h'.Ns X.env.locals m) (hok : HOk X.prog X.w H' h') (hg : AllBare g') :
    Inv X pins σ H' { s with heap := h', gens := g', drawn := d', toks := t' } := by
  have neL : ∀ b o, X.s₀.heap.get? b = some o → b ≠ X.env.locals := fun b o e => Nat.ne_of_lt (Nat.lt_of_lt_of_le (Heap.lt_size e) I.ok.above)
  have neC : ∀ b o, X.s₀.heap.get? b = some o → b ∉ X.ex → b ∉ ch := fun b o e hx hb => by
    rcases (hch b hb).1 with z | z
    · exact hx z
    · exact absurd (Nat.lt_of_lt_of_le (Heap.lt_size e) z) (Nat.lt_irrefl _)
  have cellK : ∀ x c, X.env.cells.lookup x = some c → ∀ v, s.heap.IsCell c v → h'.IsCell c v := fun x c e v ⟨o, ho, hd⟩ => by
    have nch : c ∉ ch := fun z => (hch c z).2.2.1 x c e rfl
    by_cases hc : c ∈ X.fs
    · obtain ⟨sl, q⟩ := slot c o (I.cne x c e) hc nch ho (I.freeC x c e)
      exact ⟨_, q, hd⟩
    · exact ⟨o, keep c o (I.cne x c e) hc nch ho (I.freeC x c e), hd⟩
  refine ⟨I.ok, I.os, hg, ⟨fun b o e n hb hx => ?_, fun b o e n hb hx => ?_, fun b o e n hx => ?_, fun b o e hx => ?_, fun b xs e => tups b xs (I.base.tups b xs e), fun b o xs e => frzs b o xs (I.base.frzs b o xs e), fun b ps e => ?_⟩, ?_, fun x c e => ?_, ?_, fun x c e => ?_, fun p hp => ?_, hok, I.len⟩
  · exact keep b o (neL b o e) hb (neC b o e hx) (I.base.keep b o e n hb hx) (I.base.free b o e n hx)
  · obtain ⟨sl, e1⟩ := I.base.slot b o e n hb hx
    obtain ⟨sl', e2⟩ := slot b _ (neL b o e) hb (neC b o e hx) e1 (I.base.free b o e n hx)
    exact ⟨sl', e2⟩
  · obtain ⟨o', e1⟩ := I.base.there b o e hx
    exact free b o' (neC b o e hx) e1 (I.base.free b o e n hx)
  · obtain ⟨o', e1⟩ := I.base.there b o e hx
    exact there b o' (neC b o e hx) e1
  · obtain ⟨m1, e1⟩ := I.base.tbls b ps e
    obtain ⟨m2, e2⟩ := tbls b _ e1
    exact ⟨m1 ++ m2, by rw [e2, Array.append_assoc]⟩
  · obtain ⟨m, hn, hl⟩ := I.loc
    refine ⟨m, ns m hn, fun i x v e1 e2 e3 => ?_⟩
    obtain ⟨u, r, l⟩ := hl i x v e1 e2 e3
    refine ⟨u, r, ?_⟩
    rcases l with l | ⟨k, c, e, z⟩
    · exact .inl l
    · exact .inr ⟨k, c, e, cellK x c e _ z⟩
  · obtain ⟨v, z⟩ := I.cell x c e
    exact ⟨v, cellK x c e v z⟩
  · obtain ⟨m, ⟨o, _, _, ho, _⟩, _⟩ := I.loc
    exact free _ o (fun z => (hch _ z).2.1 rfl) ho I.free
  · obtain ⟨v, o, ho, hd⟩ := I.cell x c e
    exact free c o (fun z => (hch c z).2.2.1 x c e rfl) ho (I.freeC x c e)
  · obtain ⟨e, n, ne, nf, d⟩ := I.pin p hp
    have nch : p.1 ∉ ch := fun z => (hch p.1 z).2.2.2 p hp rfl
    exact ⟨keep p.1 p.2 ne nf nch e n, free p.1 p.2 nch e n, ne, nf, d⟩
theorem Inv.un {t' : Nat} (I : Inv X pins σ H s) (u : Un X.fs [] H H' s.heap h') (hok : HOk X.prog X.w H' h') : Inv X pins σ H' { s with heap := h', toks := t' } := by
  obtain ⟨m, ⟨o, es, ep, ho, r⟩, _⟩ := id I.loc
  obtain ⟨sl, hL⟩ := u.any ho I.free (by simp)
  exact I.step (g' := s.gens) (d' := s.drawn) (ch := []) (fun _ z => nomatch z) (fun b o _ hb _ e n => u.keep b o e n hb (by simp)) (fun b o _ hb _ e n => u.slot b o e n hb (by simp)) (fun b o _ e n => u.free b o e n (by simp)) (fun b o _ e => u.there b o e (by simp)) u.tups u.frzs u.tbls (fun m' hm => by
    obtain ⟨o', es', ep', ho', r'⟩ := hm
    rw [ho] at ho'; cases ho'
    exact ⟨_, es', ep', hL, r'⟩) hok I.bare
theorem Inv.call {g' : Array GenState} {t' : Nat} {d' : Drawn} {ch : List Addr} (I : Inv X pins σ H s) (u : Un (frs X.stack) ch H H' s.heap h') (hok : HOk X.prog X.w H' h') (hg : AllBare g')
    (hch : ∀ b ∈ ch, (b ∈ X.ex ∨ X.s₀.heap.objs.size ≤ b) ∧ b ≠ X.env.locals ∧ (∀ x c, X.env.cells.lookup x = some c → c ≠ b) ∧ ∀ p ∈ X.pn ++ pins, p.1 ≠ b) :
    Inv X pins σ H' { s with heap := h', gens := g', drawn := d', toks := t' } := by
  obtain ⟨m, ⟨o, es, ep, ho, r⟩, _⟩ := id I.loc
  obtain ⟨sl, hL⟩ := u.any ho I.free fun z => (hch _ z).2.1 rfl
  exact I.step (ch := ch) hch (fun b o hL hb hc e n => u.keep b o e n (fun z => (List.mem_cons.mp (I.stkSub b z)).elim hL hb) hc) (fun b o _ _ hc e n => u.any e n hc) (fun b o hc e n => u.free b o e n hc) (fun b o hc e => u.there b o e hc) u.tups u.frzs u.tbls (fun m' hm => by
    obtain ⟨o', es', ep', ho', r'⟩ := hm
    rw [ho] at ho'; cases ho'
    exact ⟨_, es', ep', hL, r'⟩) hok hg
theorem Inv.turned {t' : Nat} {it : Addr} (I : Inv X pins σ H s) (k : ∀ b o, b ≠ it → s.heap.get? b = some o → h'.get? b = some o) (hn : H it = none) (hL : it ≠ X.env.locals)
    (h1 : it ∈ X.ex ∨ X.s₀.heap.objs.size ≤ it) (h2 : ∀ x c, X.env.cells.lookup x = some c → c ≠ it) (h3 : ∀ p ∈ X.pn ++ pins, p.1 ≠ it) : Inv X pins σ H { s with heap := h', toks := t' } := by
  have nit : ∀ b u, H b = some u → b ≠ it := fun b u e z => by rw [z, hn] at e; cases e
  refine I.step (g' := s.gens) (d' := s.drawn) (ch := [it]) (fun b hb => ?_) (fun b o _ _ hc e _ => k b o (fun z => hc (by simp [z])) e) (fun b o _ _ hc e _ => ⟨o.slots, k b o (fun z => hc (by simp [z])) e⟩) (fun _ _ _ _ n => n)
    (fun b o hc e => ⟨o, k b o (fun z => hc (by simp [z])) e⟩) (fun _ _ e => e) (fun _ _ _ e => e) (fun b ps e => ⟨#[], by rw [e]; simp⟩) (fun m hm => ?_) (fun b u e => ?_) I.bare
  · have e : b = it := by simpa using hb
    subst e
    exact ⟨h1, hL, h2, h3⟩
  · obtain ⟨o, es, ep, ho, r⟩ := hm
    exact ⟨o, es, ep, k _ o (Ne.symm hL) ho, r⟩
  · refine (I.hok b u e).stay (fun c v hc q => k c v ?_ q) (fun _ q => q) fun _ _ q => q
    rcases hc with z | z
    · rw [z]; exact nit b u e
    · exact nit c _ z
theorem Inv.tok (I : Inv X pins σ H s) (t : Nat) : Inv X pins σ H { s with toks := t } := I.un (h' := s.heap) (t' := t) Un.refl I.hok
theorem Inv.kept {t' : Nat} (I : Inv X pins σ H s) (k : ∀ b u, s.heap.get? b = some u → h'.get? b = some u) : Inv X pins σ H { s with heap := h', toks := t' } := I.un (Un.kept k) (I.hok.kept k)
theorem Inv.laid {a : Addr} {o : HO} {t' : Nat} (I : Inv X pins σ H s) (k : ∀ b u, s.heap.get? b = some u → h'.get? b = some u) (hp : s.heap.objs.size ≤ a) (new : ObjOk X.prog X.w (upd H a o) h' a o) :
    Inv X pins σ (upd H a o) { s with heap := h', toks := t' } := I.un (Un.laid k hp (I.hok.fresh hp)) (I.hok.laid k hp new)
theorem Inv.write {x e : Addr} {o : HO} {t' : Nat} (I : Inv X pins σ H s) (mu : Mut (H x)) (he : e = x ∨ H e = some (.own x)) (k : ∀ b u, b ≠ e → s.heap.get? b = some u → h'.get? b = some u) (heo : ∃ u, h'.get? e = some u)
    (new : ObjOk X.prog X.w (upd H x o) h' x o) : Inv X pins σ (upd H x o) { s with heap := h', toks := t' } := I.un (Un.write mu he k heo) (I.hok.write mu he k heo new)
theorem Inv.pins_of {pins' : List (Addr × Obj)} (I : Inv X pins σ H s) (h : ∀ p ∈ pins', s.heap.get? p.1 = some p.2 ∧ H p.1 = none ∧ p.1 ≠ X.env.locals ∧ p.1 ∉ X.fs ∧ ∀ v, p.2.data ≠ .cell v) : Inv X pins' σ H s :=
  ⟨I.ok, I.os, I.bare, I.base, I.loc, I.cell, I.free, I.freeC, fun p hp => (List.mem_append.mp hp).elim (fun z => I.pin p (List.mem_append_left _ z)) (h p), I.hok, I.len⟩
theorem nodup_ix {N : List Str} (hN : N.Nodup) {i j : Nat} {x : Str} (a : N[i]? = some x) (b : N[j]? = some x) : i = j := by
  obtain ⟨h1, e1⟩ := List.getElem?_eq_some_iff.mp a
  obtain ⟨h2, e2⟩ := List.getElem?_eq_some_iff.mp b
  exact (List.getElem_inj hN).mp (e1.trans e2.symm)
theorem store_ok2 {M : Model} {A : Around} {E : Value → Shared → Prop} {i : Nat} {x : Str} {v : V} {u : Value} {Q : Unit → Shared → Prop} (I : Inv X pins σ H s) (hN : X.N.Nodup) (hi : X.N[i]? = some x) (hx : Loc X.env.scope x) (r : RelV v u)
    (h : ∀ s', Inv X pins (σ.set i (some v)) H s' → (∃ a, Heap.SameBut a s.heap s'.heap ∧ (a = X.env.locals ∨ X.env.cells.lookup x = some a)) → Q () s') (hf : autoParam (X.fn x = true ∨ X.env.scope.names.lookup x = some .local) L2.aFst._auto_1) : wpAny M A (storeName X.env x u) Q E s := by
  obtain ⟨m, hn, hl⟩ := id I.loc
  have hcls : (X.env.scope.kind == .class || (X.env.scope.kind == .module && X.env.locals != X.env.globals)) = false := by rw [I.ok.kind]; rfl
  have hiσ : i < σ.length := by rw [I.len]; exact (List.getElem?_eq_some_iff.mp hi).1
  have cne := I.cne
  have tracked : ∀ {a : Addr} {h' : Heap}, (∃ o, s.heap.get? a = some o ∧ H a = none) → Heap.SameBut a s.heap h' → HOk X.prog X.w H h' := fun {a h'} ha hs b ob e => by
    obtain ⟨_, _, hfree⟩ := ha
    refine (I.hok b ob e).stay (fun c w' hc q => (hs.2 c ?_).trans q) (fun _ q => q) fun _ _ q => q
    rintro rfl
    rcases hc with rfl | hc
    · rw [hfree] at e; cases e
    · rw [hfree] at hc; cases hc
  rcases hx with hk | hk
  · refine wpAny_storeName_local hk hn (fun h' hn' hs => ?_) hcls
    obtain ⟨oL, _, _, hoL, _⟩ := id hn
    refine h _ ⟨I.ok, I.os, I.bare, ⟨fun b o e n hb hx => ?_, fun b o e n hb hx => ?_, I.base.free, fun b o e hx => ?_, I.base.tups, I.base.frzs, I.base.tbls⟩, ⟨_, hn', fun j y v' e1 e2 e3 => ?_⟩, fun y c e => ?_, I.free, I.freeC, fun p hp => ?_, tracked ⟨oL, hoL, I.free⟩ hs, by simpa using I.len⟩ ⟨_, hs, .inl rfl⟩
    · exact (hs.2 b (Nat.ne_of_lt (Nat.lt_of_lt_of_le (Heap.lt_size e) I.ok.above))).trans (I.base.keep b o e n hb hx)
    · obtain ⟨sl, e1⟩ := I.base.slot b o e n hb hx
      exact ⟨sl, (hs.2 b (Nat.ne_of_lt (Nat.lt_of_lt_of_le (Heap.lt_size e) I.ok.above))).trans e1⟩
    · obtain ⟨o', e1⟩ := I.base.there b o e hx
      exact ⟨o', (hs.2 b (Nat.ne_of_lt (Nat.lt_of_lt_of_le (Heap.lt_size e) I.ok.above))).trans e1⟩
    · by_cases hj : j = i
      · subst hj
        rw [hi] at e1; cases e1
        rw [List.getElem?_set_self hiσ] at e2
        cases e2
        exact ⟨u, r, .inl ⟨hk, by simp⟩⟩
      · rw [List.getElem?_set_ne (Ne.symm hj)] at e2
        obtain ⟨u', r', q⟩ := hl j y v' e1 e2 e3
        refine ⟨u', r', ?_⟩
        rcases q with ⟨k, e⟩ | ⟨k, c, e, z⟩
        · refine .inl ⟨k, ?_⟩
          have : y ≠ x := fun e => hj (nodup_ix hN e1 (e ▸ hi))
          simp [this, e]
        · exact .inr ⟨k, c, e, z.sameBut hs (cne y c e)⟩
    · obtain ⟨w', z⟩ := I.cell y c e
      exact ⟨w', z.sameBut hs (cne y c e)⟩
    · obtain ⟨e, n, ne, nf, d⟩ := I.pin p hp
      exact ⟨(hs.2 p.1 ne).trans e, n, ne, nf, d⟩
  · have hfn : X.fn x = true := by
      rcases hf with z | z
      · exact z
      · rw [z] at hk; cases hk
    obtain ⟨c, hc⟩ := I.ok.has x (.inl hk)
    obtain ⟨w', z⟩ := I.cell x c hc
    refine wpAny_storeName_cell I.ok.kind hk hc z (fun h' hc' hs => ?_)
    obtain ⟨oc, hoc, hocd⟩ := id z
    refine h { s with heap := h' } ⟨I.ok, I.os, I.bare, ⟨fun b o e n hb hx => ?_, fun b o e n hb hx => ?_, I.base.free, fun b o e hx => ?_, I.base.tups, I.base.frzs, I.base.tbls⟩, ⟨m, hn.sameBut hs (Ne.symm (cne x c hc)), fun j y v' e1 e2 e3 => ?_⟩, fun y c' e => ?_, I.free, I.freeC, fun p hp => ?_, tracked ⟨oc, hoc, I.freeC x c hc⟩ hs, by simpa using I.len⟩ ⟨c, hs, .inr hc⟩
    · exact (hs.2 b (Nat.ne_of_lt (Nat.lt_of_lt_of_le (Heap.lt_size e) (I.ok.cab x c hfn hc)))).trans (I.base.keep b o e n hb hx)
    · obtain ⟨sl, e1⟩ := I.base.slot b o e n hb hx
      exact ⟨sl, (hs.2 b (Nat.ne_of_lt (Nat.lt_of_lt_of_le (Heap.lt_size e) (I.ok.cab x c hfn hc)))).trans e1⟩
    · obtain ⟨o', e1⟩ := I.base.there b o e hx
      exact ⟨o', (hs.2 b (Nat.ne_of_lt (Nat.lt_of_lt_of_le (Heap.lt_size e) (I.ok.cab x c hfn hc)))).trans e1⟩
    · by_cases hj : j = i
      · subst hj
        rw [hi] at e1; cases e1
        rw [List.getElem?_set_self hiσ] at e2
        cases e2
        exact ⟨u, r, .inr ⟨.inl hk, c, hc, hc'⟩⟩
      · rw [List.getElem?_set_ne (Ne.symm hj)] at e2
        obtain ⟨u', r', q⟩ := hl j y v' e1 e2 e3
        refine ⟨u', r', ?_⟩
        rcases q with q | ⟨k, c', e, z'⟩
        · exact .inl q
        · refine .inr ⟨k, c', e, z'.sameBut hs ?_⟩
          rintro rfl
          exact hj (nodup_ix hN e1 (I.ok.inj _ _ _ e hc ▸ hi))
    · by_cases hcc : c' = c
      · subst hcc; exact ⟨_, hc'⟩
      · obtain ⟨w2, z2⟩ := I.cell y c' e
        exact ⟨w2, z2.sameBut hs hcc⟩
    · obtain ⟨e, n, ne, nf, d⟩ := I.pin p hp
      refine ⟨(hs.2 p.1 ?_).trans e, n, ne, nf, d⟩
      intro q
      rw [q, hoc] at e
      have q' : oc = p.2 := Option.some.inj e
      exact d w' (by rw [← q']; exact hocd)
theorem store_ok {M : Model} {A : Around} {E : Value → Shared → Prop} {i : Nat} {x : Str} {v : V} {u : Value} {Q : Unit → Shared → Prop} (I : Inv X pins σ H s) (hN : X.N.Nodup) (hi : X.N[i]? = some x) (hx : Loc X.env.scope x) (r : RelV v u)
    (h : ∀ s', Inv X pins (σ.set i (some v)) H s' → Q () s') (hf : autoParam (X.fn x = true ∨ X.env.scope.names.lookup x = some .local) L2.aFst._auto_1) : wpAny M A (storeName X.env x u) Q E s :=
  store_ok2 I hN hi hx r (fun s' I' _ => h s' I') hf
theorem Inv.call' {s' : Shared} {ch : List Addr} (I : Inv X pins σ H s) (ho : s'.os = s.os) (u : Un (frs X.stack) ch H H' s.heap s'.heap) (hok : HOk X.prog X.w H' s'.heap) (hg : AllBare s'.gens)
    (hch : ∀ b ∈ ch, (b ∈ X.ex ∨ X.s₀.heap.objs.size ≤ b) ∧ b ≠ X.env.locals ∧ (∀ x c, X.env.cells.lookup x = some c → c ≠ b) ∧ ∀ p ∈ X.pn ++ pins, p.1 ≠ b) : Inv X pins σ H' s' := by
  obtain ⟨h', g', d', t', o'⟩ := s'
  have e : o' = s.os := ho
  subst e
  exact I.call (g' := g') (t' := t') (d' := d') u hok hg hch
end
noncomputable abbrev XK := Value → Option Addr → Hp → Prop
noncomputable abbrev St := List (Option V)
noncomputable abbrev VK := V → Hp → Prop
noncomputable abbrev TE := St → Hp → VK → Prop
noncomputable abbrev TT := St → Hp → (Bool → Hp → Prop) → Prop
noncomputable abbrev TA := St → Hp → (List V → Hp → Prop) → Prop
structure Ends where
  nx : St → Hp → Prop
  rt : VK
  bk : St → Hp → Prop := fun _ _ => False
  ct : St → Hp → Prop := fun _ _ => False
noncomputable abbrev TS := Ends → St → Hp → Prop
noncomputable def EP (X : Cx) (pins : List (Addr × Obj)) (σ : St) (Q : VK) (u : Value) (s' : Shared) : Prop := ∃ v H', Inv X pins σ H' s' ∧ RelV v u ∧ Q v H'
noncomputable def TP (X : Cx) (pins : List (Addr × Obj)) (σ : St) (Q : Bool → Hp → Prop) (b : Bool) (s' : Shared) : Prop := ∃ H', Inv X pins σ H' s' ∧ Q b H'
noncomputable def AP (X : Cx) (pins : List (Addr × Obj)) (σ : St) (Q : List V → Hp → Prop) (us : List Value) (s' : Shared) : Prop := ∃ vs H', Inv X pins σ H' s' ∧ Vals vs us ∧ Q vs H'
noncomputable def SP (X : Cx) (pins : List (Addr × Obj)) (D : Ends) (f : Flow) (s' : Shared) : Prop :=
  match f with
  | .next => ∃ σ' H', Inv X pins σ' H' s' ∧ D.nx σ' H'
  | .brk => ∃ σ' H', Inv X pins σ' H' s' ∧ D.bk σ' H'
  | .cont => ∃ σ' H', Inv X pins σ' H' s' ∧ D.ct σ' H'
  | .ret u => ∃ v σ' H', Inv X pins σ' H' s' ∧ RelV v u ∧ D.rt v H'
noncomputable def PE (X : Cx) (e : Expr) (t : TE) : Prop :=
  ∀ (pins : List (Addr × Obj)) (s : Shared) (σ : St) (H : Hp) (Q : VK), Inv X pins σ H s → t σ H Q → wpAny (model X.prog X.w) X.A (eval e X.env) (EP X pins σ Q) X.xe s
noncomputable def PT (X : Cx) (e : Expr) (t : TT) : Prop :=
  ∀ (pins : List (Addr × Obj)) (s : Shared) (σ : St) (H : Hp) (Q : Bool → Hp → Prop), Inv X pins σ H s → t σ H Q → wpAny (model X.prog X.w) X.A (isTrue e X.env (eval e X.env)) (TP X pins σ Q) X.xe s
noncomputable def PW (X : Cx) (e : Expr) (t : TT) : Prop :=
  ∀ (whole : Sem Value) (pins : List (Addr × Obj)) (s : Shared) (σ : St) (H : Hp) (Q : Bool → Hp → Prop), Inv X pins σ H s → t σ H Q → wpAny (model X.prog X.w) X.A (isTrue e X.env whole) (TP X pins σ Q) X.xe s
theorem PW.pt {X : Cx} {e : Expr} {t : TT} (h : PW X e t) : PT X e t := h _
noncomputable def PA (X : Cx) (es : List Expr) (t : TA) : Prop :=
  ∀ (pos : Pos) (pins : List (Addr × Obj)) (s : Shared) (σ : St) (H : Hp) (Q : List V → Hp → Prop), Inv X pins σ H s → t σ H Q → wpAny (model X.prog X.w) X.A (spliced (backTo pos (starEach es X.env))) (AP X pins σ Q) X.xe s
noncomputable def PS (X : Cx) (st : Stmt) (t : TS) : Prop :=
  ∀ (pins : List (Addr × Obj)) (s : Shared) (σ : St) (H : Hp) (D : Ends), Inv X pins σ H s → t D σ H → wpAny (model X.prog X.w) X.A (exec st X.env) (SP X pins D) X.xe s
noncomputable def PSs (X : Cx) (st : List Stmt) (t : TS) : Prop :=
  ∀ (pins : List (Addr × Obj)) (s : Shared) (σ : St) (H : Hp) (D : Ends), Inv X pins σ H s → t D σ H → wpAny (model X.prog X.w) X.A (execs st X.env) (SP X pins D) X.xe s
theorem thn {α : Type} {t : Sem α} {Q Q' : α → Shared → Prop} {M : Model} {A : Around} {E : Value → Shared → Prop} {s : Shared} (h : wpAny M A t Q E s) (hQ : ∀ a s, Q a s → Q' a s) : wpAny M A t Q' E s := wpAny_mono h hQ fun _ _ x => x
end L2
namespace L2
open PySem PySem.Spec PyProof.Rows
section
variable {X : Cx}
noncomputable def tVar (i : Nat) : TE := fun σ H Q => ∃ v, σ[i]? = some (some v) ∧ Q v H
noncomputable def tC (v : V) : TE := fun _ H Q => Q v H
theorem pe_var {i : Nat} {x : Str} {pos : Pos} (hN : X.N[i]? = some x) (hv : Vis X.env.scope x) (hd : autoParam ((x == ("__debug__" : Str)) = false) L2.aDec._auto_1) (hcd : autoParam ((x == ("__classdict__" : Str)) = false) L2.aDec._auto_1) : PE X (.Name x pos) (tVar i) := by
  intro pins s σ H Q I h
  obtain ⟨v, e, h⟩ := h
  obtain ⟨m, hn, hl⟩ := I.loc
  obtain ⟨u, r, l⟩ := hl i x v hN e hv
  have fin : EP X pins σ Q u s := ⟨v, H, I, r, h⟩
  rcases l with ⟨hk, hm⟩ | ⟨hk, c, hc, hcell⟩
  · exact wpAny_Name (wpAny_loadName_local I.ok.kind hk hn hm fin) hd
  · rcases hk with hk | hk
    · exact wpAny_Name (wpAny_loadName_cell I.ok.kind hk hc hcell fin) hd
    · exact wpAny_Name (wpAny_loadName_free I.ok.kind hk hc hcell fin hcd) hd
theorem pe_int {i j pos} : PE X (.Constant (.int i) j pos) (tC (.int i)) := fun _ _ _ H _ I h => wpAny_Constant_int ⟨.int i, H, I.tok _, ⟨_, rfl⟩, h⟩
theorem pe_bl {b j pos} : PE X (.Constant (.bool b) j pos) (tC (.bl b)) := fun _ _ _ H _ I h => Constant_bool ⟨.bl b, H, I, rfl, h⟩
theorem pe_non {j pos} : PE X (.Constant .none j pos) (tC .non) := fun _ _ _ H _ I h => Constant_none ⟨.non, H, I, rfl, h⟩
theorem pe_str {x j pos} : PE X (.Constant (.str x) j pos) (tC (.str x)) := fun _ _ _ H _ I h => Calls.Constant_str ⟨.str x, H, I.tok _, ⟨_, rfl⟩, h⟩
noncomputable def Gl (X : Cx) (x : Str) : Prop := X.env.kindOf x = some .globalImplicit
theorem ld_glob {E : Value → Shared → Prop} {pins : List (Addr × Obj)} {s : Shared} {σ : St} {H : Hp} {x : Str} {u : Value} {pos : Pos} {Q : Value → Shared → Prop} (I : Inv X pins σ H s) (hg : Gl X x) (hm : X.mg x = some u) (h : Q u s)
    (hd : autoParam ((x == ("__debug__" : Str)) = false) L2.aDec._auto_1) : wpAny (model X.prog X.w) X.A (eval (.Name x pos) X.env) Q E s :=
  Calls.Name_function_global I.ok.kind hg (Calls.loadGlobal_global (by rw [I.ok.glob]; exact I.mod.glob.keeps I.bk) hm h) hd
theorem ld_blt {E : Value → Shared → Prop} {pins : List (Addr × Obj)} {s : Shared} {σ : St} {H : Hp} {x : Str} {u : Value} {pos : Pos} {Q : Value → Shared → Prop} (I : Inv X pins σ H s) (hg : Gl X x) (hm : X.mg x = none) (hv : bootBuiltins x = some u) (h : Q u s)
    (hn : autoParam (x ≠ "__name__") L2.aDec._auto_1) (hd : autoParam ((x == ("__debug__" : Str)) = false) L2.aDec._auto_1) : wpAny (model X.prog X.w) X.A (eval (.Name x pos) X.env) Q E s := by
  obtain ⟨mb, h1, h2⟩ := I.mod.blt
  exact Calls.Name_function_global I.ok.kind hg (Calls.loadGlobal_builtin (by rw [I.ok.glob]; exact I.mod.glob.keeps I.bk) hm (by rw [I.ok.blt]; exact h1.keeps I.bk) ((h2 x hn).trans hv) h) hd
theorem pe_bltn {x : Str} {v : V} {u : Value} {pos : Pos} (hg : Gl X x) (hm : X.mg x = none) (hv : bootBuiltins x = some u) (r : RelV v u) (hn : autoParam (x ≠ "__name__") L2.aDec._auto_1) (hd : autoParam ((x == ("__debug__" : Str)) = false) L2.aDec._auto_1) : PE X (.Name x pos) (tC v) :=
  fun _ _ _ H _ I h => ld_blt I hg hm hv ⟨v, H, I, r, h⟩ hn hd
variable {a b : Expr} {ta tb : TE} {pos : Pos}
noncomputable def PC (X : Cx) (op : CmpOp) (a b : Expr) (t : TE) : Prop :=
  ∀ (pins : List (Addr × Obj)) (s : Shared) (σ : St) (H : Hp) (Q : VK), Inv X pins σ H s → t σ H Q →
    wpAny (model X.prog X.w) X.A (eval a X.env) (fun v s₁ => wpAny (model X.prog X.w) X.A (eval b X.env) (fun u s₂ => wpAny (model X.prog X.w) X.A (compareOp op v u) (EP X pins σ Q) X.xe s₂) X.xe s₁) X.xe s
noncomputable def tB (t : TE) : TT := fun σ H Q => t σ H fun x H1 => ∃ c, x = .bl c ∧ Q c H1
theorem pt_cmp {op : CmpOp} {t : TE} (h : PC X op a b t) (h1 : behindInMarks op b = false := by first | exact nobehind _ (by decide) (by decide) | rfl) : PT X (.Compare a [op] [b] pos) (tB t) := by
  intro pins s σ H Q I hw
  refine wpAny_isTrue_Compare1 (thn (h pins s σ H _ I hw) fun v s1 h1 => thn h1 fun u s2 h2 => thn h2 fun c s3 ⟨x, H1, I1, r1, q1⟩ => ?_) h1
  obtain ⟨d, rfl, q⟩ := q1
  cases r1
  exact wpAny_truthy_bool ⟨H1, I1, q⟩
theorem pt_val {e : Expr} {t : TE} (h : PE X e t) (he : autoParam (∀ whole, isTrue e X.env whole = (do let v ← whole; standAt e.pos; holding [v] (truthy v))) L2.aIrf._auto_1) : PT X e (tB t) := by
  intro pins s σ H Q I hw
  refine isTrue_plain (thn (h pins s σ H _ I hw) fun v s1 ⟨x, H1, I1, r1, q1⟩ => ?_) (he _)
  obtain ⟨d, rfl, q⟩ := q1
  cases r1
  exact wpAny_truthy_bool ⟨H1, I1, q⟩
variable {tA tB' : TT} {rest : List Expr}
noncomputable def tAnd (t u : TT) : TT := fun σ H Q => t σ H fun c H1 => if c = true then u σ H1 Q else Q false H1
noncomputable def tOr (t u : TT) : TT := fun σ H Q => t σ H fun c H1 => if c = true then Q true H1 else u σ H1 Q
noncomputable def tNot (t : TT) : TT := fun σ H Q => t σ H fun c H1 => Q (!c) H1
theorem pw_and1 (ha : PT X a tA) : PW X (.BoolOp .And [a] pos) tA := by
  intro wh pins s σ H Q I h
  refine isTrue_and (thn (ha pins s σ H Q I h) fun c s1 e => ?_)
  cases c with
  | true => exact isTrue_and_nil e
  | false => exact e
theorem pw_or1 (ha : PT X a tA) : PW X (.BoolOp .Or [a] pos) tA := by
  intro wh pins s σ H Q I h
  refine isTrue_or (thn (ha pins s σ H Q I h) fun c s1 e => ?_)
  cases c with
  | false => exact isTrue_or_nil e
  | true => exact e
theorem pw_and (ha : PT X a tA) (hb : PW X (.BoolOp .And (b :: rest) pos) tB') : PW X (.BoolOp .And (a :: b :: rest) pos) (tAnd tA tB') := by
  intro wh pins s σ H Q I h
  refine isTrue_and (thn (ha pins s σ H _ I h) fun c s1 ⟨H1, I1, q1⟩ => ?_)
  cases c with
  | true => exact hb wh pins s1 σ H1 Q I1 q1
  | false => exact ⟨H1, I1, q1⟩
theorem pw_or (ha : PT X a tA) (hb : PW X (.BoolOp .Or (b :: rest) pos) tB') : PW X (.BoolOp .Or (a :: b :: rest) pos) (tOr tA tB') := by
  intro wh pins s σ H Q I h
  refine isTrue_or (thn (ha pins s σ H _ I h) fun c s1 ⟨H1, I1, q1⟩ => ?_)
  cases c with
  | true => exact ⟨H1, I1, q1⟩
  | false => exact hb wh pins s1 σ H1 Q I1 q1
theorem pt_not (ha : PT X a tA) : PT X (.UnaryOp .Not a pos) (tNot tA) := by
  intro pins s σ H Q I h
  exact isTrue_not (ha pins s σ H (fun c H1 => Q (!c) H1) I h)
noncomputable def tAndV (ta tb : TE) : TE := fun σ H Q => ta σ H fun x H1 => ∃ c, x = .bl c ∧ if c = true then tb σ H1 Q else Q (.bl false) H1
noncomputable def tOrV (ta tb : TE) : TE := fun σ H Q => ta σ H fun x H1 => ∃ c, x = .bl c ∧ if c = true then Q (.bl true) H1 else tb σ H1 Q
noncomputable def tNotV (ta : TE) : TE := fun σ H Q => ta σ H fun x H1 => ∃ c, x = .bl c ∧ Q (.bl (!c)) H1
theorem pe_one {op} {t : TE} (h : PE X a t) : PE X (.BoolOp op [a] pos) t := fun pins s σ H Q I hw => BoolOp_one (h pins s σ H Q I hw)
theorem pe_and (ha : PE X a ta) (hb : PE X (.BoolOp .And (b :: rest) pos) tb) : PE X (.BoolOp .And (a :: b :: rest) pos) (tAndV ta tb) := by
  intro pins s σ H Q I h
  refine BoolOp_and (thn (ha pins s σ H _ I h) fun v s1 ⟨x, H1, I1, r1, q1⟩ => ?_)
  obtain ⟨c, rfl, q1⟩ := q1
  cases r1
  refine wpAny_truthy_bool ?_
  cases c with
  | true => exact hb pins s1 σ H1 Q I1 q1
  | false => exact ⟨.bl false, H1, I1, rfl, q1⟩
theorem pe_or (ha : PE X a ta) (hb : PE X (.BoolOp .Or (b :: rest) pos) tb) : PE X (.BoolOp .Or (a :: b :: rest) pos) (tOrV ta tb) := by
  intro pins s σ H Q I h
  refine BoolOp_or (thn (ha pins s σ H _ I h) fun v s1 ⟨x, H1, I1, r1, q1⟩ => ?_)
  obtain ⟨c, rfl, q1⟩ := q1
  cases r1
  refine wpAny_truthy_bool ?_
  cases c with
  | false => exact hb pins s1 σ H1 Q I1 q1
  | true => exact ⟨.bl true, H1, I1, rfl, q1⟩
theorem pe_not (ha : PE X a ta) : PE X (.UnaryOp .Not a pos) (tNotV ta) := by
  intro pins s σ H Q I h
  refine UnaryOp_ (thn (ha pins s σ H _ I h) fun v s1 ⟨x, H1, I1, r1, q1⟩ => ?_)
  obtain ⟨c, rfl, q1⟩ := q1
  cases r1
  exact not_of (wpAny_truthy_bool ⟨.bl (!c), H1, I1, rfl, q1⟩)
noncomputable def tIf (t : TT) (ta tb : TE) : TE := fun σ H Q => t σ H fun c H1 => if c = true then ta σ H1 Q else tb σ H1 Q
theorem pe_ifExp {c : Expr} (hc : PT X c tA) (ha : PE X a ta) (hb : PE X b tb) : PE X (.IfExp c a b pos) (tIf tA ta tb) := by
  intro pins s σ H Q I h
  refine wpAny_IfExp (thn (hc pins s σ H _ I h) fun d s1 ⟨H1, I1, q1⟩ => ?_)
  cases d with
  | true => exact ha pins s1 σ H1 Q I1 q1
  | false => exact hb pins s1 σ H1 Q I1 q1
end
end L2
namespace L2
open PySem PySem.Spec PyProof.Rows
noncomputable def SqL (K : PySem.W.Frag) (H : Hp) (a : Addr) (xs : List V) : Prop :=
  Rd H a (.lst xs) ∨
    ∃ (o : Obj) (its : Array Value) (n : Nat), K.lookup a = some o ∧ o.cls = .type "list" ∧ o.dict = none ∧ o.data = .seq its n ∧ its.size ≤ sizeLine ∧ Vals xs its.toList
noncomputable def SqT (K : PySem.W.Frag) (H : Hp) (a : Addr) (xs : List V) : Prop :=
  Rd H a (.tup xs) ∨
    ∃ (o : Obj) (its : Array Value) (n : Nat), K.lookup a = some o ∧ o.cls = .type "tuple" ∧ o.data = .seq its n ∧ its.size ≤ sizeLine ∧ Vals xs its.toList
noncomputable def absV : Value → Option V
  | .none => some .non
  | .bool b => some (.bl b)
  | .int i _ => some (.int i)
  | .str x _ => some (.str x)
  | .bytes b _ => some (.byt b)
  | .float b _ => some (.flt b)
  | .ref a => some (.ref a)
  | .type n => some (.ty n)
  | _ => none
theorem RelV.abs {x : V} {u : Value} (r : RelV x u) : absV u = some x := by
  cases x with
  | non => cases r; rfl
  | bl _ => cases r; rfl
  | int _ => obtain ⟨t, rfl⟩ := r; rfl
  | str _ => obtain ⟨t, rfl⟩ := r; rfl
  | byt _ => obtain ⟨t, rfl⟩ := r; rfl
  | flt _ => obtain ⟨t, rfl⟩ := r; rfl
  | ref _ => cases r; rfl
  | ty _ => cases r; rfl
theorem RelV.inj {x y : V} {u : Value} (r : RelV x u) (q : RelV y u) : x = y := Option.some.inj (r.abs.symm.trans q.abs)
theorem Vals.inj {xs ys : List V} {us : List Value} (h : Vals xs us) (g : Vals ys us) : xs = ys := by
  induction h generalizing ys with
  | nil => cases g; rfl
  | cons r t ih =>
    cases g with
    | cons r' t' => rw [r.inj r', ih t']
section
variable {X : Cx} {pins : List (Addr × Obj)} {σ : St} {H : Hp} {s : Shared} {a : Addr} {xs ys : List V}
theorem Inv.list (I : Inv X pins σ H s) (h : SqL X.K H a xs) : ∃ its : List Value, Vals xs its ∧ PlainL s.heap a its.toArray ∧ xs.length ≤ sizeLine := by
  rcases h with h | ⟨o, its, n, hk, hc, hd, hs, hz, r⟩
  · obtain ⟨z, its, n, r, e⟩ := h.ok I.hok
    exact ⟨its, r, ⟨_, n, e, rfl, rfl, rfl⟩, z⟩
  · refine ⟨its.toList, r, ⟨o, n, I.kIn a o hk, hc, hd, by simpa using hs⟩, ?_⟩
    have e := r.length
    simp only [Array.length_toList] at e
    omega
theorem Inv.tuple (I : Inv X pins σ H s) (h : SqT X.K H a xs) : ∃ its : List Value, Vals xs its ∧ IsTup s.heap a its.toArray ∧ xs.length ≤ sizeLine := by
  rcases h with h | ⟨o, its, n, hk, hc, hs, hz, r⟩
  · obtain ⟨z, its, r, p⟩ := h.ok I.hok
    exact ⟨its, r, p, z⟩
  · refine ⟨its.toList, r, ⟨o, I.kIn a o hk, hc, n, by simpa using hs⟩, ?_⟩
    have e := r.length
    simp only [Array.length_toList] at e
    omega
theorem Inv.list_inj (I : Inv X pins σ H s) (h : SqL X.K H a xs) (h' : SqL X.K H a ys) : xs = ys := by
  obtain ⟨its, r, ⟨o, n, e, _, _, d⟩, _⟩ := I.list h
  obtain ⟨its', r', ⟨o', n', e', _, _, d'⟩, _⟩ := I.list h'
  rw [e] at e'; cases e'
  rw [d] at d'
  injection d' with d1 _
  have : its = its' := by simpa using congrArg Array.toList d1
  subst this
  exact r.inj r'
theorem Inv.tuple_inj (I : Inv X pins σ H s) (h : SqT X.K H a xs) (h' : SqT X.K H a ys) : xs = ys := by
  obtain ⟨its, r, ⟨o, e, _, n, d⟩, _⟩ := I.tuple h
  obtain ⟨its', r', ⟨o', e', _, n', d'⟩, _⟩ := I.tuple h'
  rw [e] at e'; cases e'
  rw [d] at d'
  injection d' with d1 _
  have : its = its' := by simpa using congrArg Array.toList d1
  subst this
  exact r.inj r'
end
noncomputable abbrev Cx.wish (X : Cx) (E : Value → Shared → Prop) : Cx := { X with xe := E }
noncomputable abbrev Cx.nox (X : Cx) : Cx := X.wish fun _ _ => False
theorem Cx.Ok.wish {X : Cx} (ok : X.Ok) (E : Value → Shared → Prop) : (X.wish E).Ok :=
  ⟨ok.mod, ok.kind, ok.glob, ok.blt, ok.above, ok.inj, ok.has, ok.cab, ok.hd, ok.frames, ok.stk, ok.exf, ok.bs, ok.bsz, ok.noex, ok.exfs, ok.funs, ok.frf⟩
theorem Cx.Ok.unwish {X : Cx} {E : Value → Shared → Prop} (ok : (X.wish E).Ok) : X.Ok :=
  ⟨ok.mod, ok.kind, ok.glob, ok.blt, ok.above, ok.inj, ok.has, ok.cab, ok.hd, ok.frames, ok.stk, ok.exf, ok.bs, ok.bsz, ok.noex, ok.exfs, ok.funs, ok.frf⟩
section
variable {X : Cx} {pins : List (Addr × Obj)} {σ : St} {H : Hp} {s : Shared} {E : Value → Shared → Prop}
theorem Inv.wish (I : Inv X pins σ H s) (E : Value → Shared → Prop) : Inv (X.wish E) pins σ H s := ⟨I.ok.wish E, I.os, I.bare, I.base, I.loc, I.cell, I.free, I.freeC, I.pin, I.hok, I.len⟩
theorem Inv.unwish (I : Inv (X.wish E) pins σ H s) : Inv X pins σ H s := ⟨I.ok.unwish, I.os, I.bare, I.base, I.loc, I.cell, I.free, I.freeC, I.pin, I.hok, I.len⟩
theorem SP.unwish {D : Ends} {f : Flow} {s' : Shared} (h : SP (X.wish E) pins D f s') : SP X pins D f s' := by
  cases f with
  | next => obtain ⟨σ', H', I, q⟩ := h; exact ⟨σ', H', I.unwish, q⟩
  | brk => obtain ⟨σ', H', I, q⟩ := h; exact ⟨σ', H', I.unwish, q⟩
  | cont => obtain ⟨σ', H', I, q⟩ := h; exact ⟨σ', H', I.unwish, q⟩
  | ret u => obtain ⟨v, σ', H', I, r, q⟩ := h; exact ⟨v, σ', H', I.unwish, r, q⟩
theorem PSs.nox {st : List Stmt} {t : TS} (h : PSs X.nox st t) : PSs X st t := fun pins s σ H D I hw =>
  wpAny_mono (h pins s σ H D (I.wish _) hw) (fun _ _ q => q.unwish) fun _ _ z => False.elim z
end
section
variable {X : Cx} {st : Stmt} {rest : List Stmt} {t u : TS} {e : Expr} {te : TE} {pos : Pos}
noncomputable def tNext : TS := fun D σ H => D.nx σ H
noncomputable def tSeq (t u : TS) : TS := fun D σ H => t { D with nx := u D } σ H
theorem pss_nil : PSs X [] tNext := fun _ _ σ H _ I h => wpAny_execs_nil ⟨σ, H, I, h⟩
theorem pss_cons (h1 : PS X st t) (h2 : PSs X rest u) : PSs X (st :: rest) (tSeq t u) := by
  intro pins s σ H D I h
  refine wpAny_execs_cons (thn (h1 pins s σ H { D with nx := u D } I h) fun f s1 q => ?_)
  cases f with
  | next =>
    obtain ⟨σ', H', I', q⟩ := q
    exact h2 pins s1 σ' H' D I' q
  | ret v => exact q
  | brk => exact q
  | cont => exact q
theorem pss_one (h1 : PS X st t) : PSs X [st] t := by
  intro pins s σ H D I h
  refine wpAny_execs_cons (thn (h1 pins s σ H D I h) fun f s1 q => ?_)
  cases f with
  | next => exact wpAny_execs_nil q
  | ret v => exact q
  | brk => exact q
  | cont => exact q
theorem Inv.quiet {pins : List (Addr × Obj)} {σ : St} {H : Hp} {s : Shared} (I : Inv X pins σ H s) : interactive X.env = false := by simp [interactive, I.ok.kind]
noncomputable def tDrop (te : TE) : TS := fun D σ H => te σ H fun _ H1 => D.nx σ H1
theorem ps_expr (he : PE X e te) (hs : autoParam (swapsWith e none pos.line X.env = pure false) L2.aRfl._auto_1) : PS X (.Expr e pos) (tDrop te) := by
  intro pins s σ H D I h
  exact wpAny_Expr_any (thn (he pins s σ H _ I h) fun v s1 ⟨x, H1, I1, r1, q1⟩ => ⟨σ, H1, I1, q1⟩) I.quiet hs
noncomputable def tRet (te : TE) : TS := fun D σ H => te σ H D.rt
theorem ps_ret (he : PE X e te) : PS X (.Return (some e) pos) (tRet te) := by
  intro pins s σ H D I h
  exact wpAny_Return_some (thn (he pins s σ H _ I h) fun v s1 ⟨x, H1, I1, r1, q1⟩ => ⟨x, σ, H1, I1, r1, q1⟩)
noncomputable def tIfS (c : TT) (t u : TS) : TS := fun D σ H => c σ H fun b H1 => if b = true then t D σ H1 else u D σ H1
theorem ps_if {c : Expr} {a b : List Stmt} {tc : TT} (hc : PT X c tc) (ha : PSs X a t) (hb : PSs X b u) : PS X (.If c a b pos) (tIfS tc t u) := by
  intro pins s σ H D I h
  refine wpAny_If (thn (hc pins s σ H _ I h) fun d s1 ⟨H1, I1, q1⟩ => ?_)
  cases d with
  | true => exact ha pins s1 σ H1 D I1 q1
  | false => exact hb pins s1 σ H1 D I1 q1
end
noncomputable abbrev TG := V → St → Hp → (St → Hp → Prop) → Prop
noncomputable abbrev TGs := List V → St → Hp → (St → Hp → Prop) → Prop
noncomputable def PG (X : Cx) (target : Expr) (t : TG) : Prop :=
  ∀ (pins : List (Addr × Obj)) (s : Shared) (σ : St) (H : Hp) (v : V) (u : Value) (Q : St → Hp → Prop), Inv X pins σ H s → RelV v u → t v σ H Q →
    wpAny (model X.prog X.w) X.A (assign target X.env u) (fun _ s' => ∃ σ' H', Inv X pins σ' H' s' ∧ Q σ' H') X.xe s
noncomputable def PGs (X : Cx) (ts : List Expr) (t : TGs) : Prop :=
  ∀ (pins : List (Addr × Obj)) (s : Shared) (σ : St) (H : Hp) (vs : List V) (us : List Value) (Q : St → Hp → Prop), Inv X pins σ H s → Vals vs us → t vs σ H Q →
    wpAny (model X.prog X.w) X.A (assignInOrder ((assignEach ts X.env).map (·.2)) us) (fun _ s' => ∃ σ' H', Inv X pins σ' H' s' ∧ Q σ' H') X.xe s
noncomputable abbrev TSet := V → V → V → Hp → (Hp → Prop) → Prop
noncomputable def PSet (X : Cx) (t : TSet) : Prop :=
  ∀ (pins : List (Addr × Obj)) (s : Shared) (σ : St) (H : Hp) (o i v : V) (ov iv u : Value) (Q : Hp → Prop), Inv X pins σ H s → RelV o ov → RelV i iv → RelV v u → t o i v H Q →
    wpAny (model X.prog X.w) X.A (setItem ov iv u) (fun _ s' => ∃ H', Inv X pins σ H' s' ∧ Q H') X.xe s
noncomputable abbrev TIp := V → V → Hp → VK → Prop
noncomputable def PIp (X : Cx) (op : Operator) (t : TIp) : Prop :=
  ∀ (pins : List (Addr × Obj)) (s : Shared) (σ : St) (H : Hp) (x y : V) (v u : Value) (Q : VK), Inv X pins σ H s → RelV x v → RelV y u → t x y H Q →
    wpAny (model X.prog X.w) X.A (inplaceOp op v u) (EP X pins σ Q) X.xe s
section
variable {X : Cx} {pos : Pos}
noncomputable def gName (i : Nat) : TG := fun v σ H Q => Q (σ.set i (some v)) H
theorem pg_name {i : Nat} {x : Str} (hN : X.N.Nodup) (hi : X.N[i]? = some x) (hx : Loc X.env.scope x) (hf : autoParam (X.fn x = true ∨ X.env.scope.names.lookup x = some .local) L2.aFst._auto_1) : PG X (.Name x pos) (gName i) := by
  intro pins s σ H v u Q I r h
  exact wpAny_assign_Name (store_ok I hN hi hx r (fun s' I' => ⟨_, H, I', h⟩) hf)
noncomputable def gNil : TGs := fun vs σ H Q => vs = [] ∧ Q σ H
noncomputable def gCons (t : TG) (u : TGs) : TGs := fun vs σ H Q => ∃ v r, vs = v :: r ∧ t v σ H fun σ' H' => u r σ' H' Q
theorem pgs_nil : PGs X [] gNil := by
  intro pins s σ H vs us Q I r h
  obtain ⟨e, h⟩ := h
  subst e
  cases r
  exact assignInOrder_nil ⟨σ, H, I, h⟩
theorem pgs_cons {e : Expr} {es : List Expr} {t : TG} {u : TGs} (h1 : PG X e t) (h2 : PGs X es u)
    (hs : autoParam ((assignEach (e :: es) X.env).map (·.2) = assign e X.env :: (assignEach es X.env).map (·.2)) L2.aRfl._auto_1) : PGs X (e :: es) (gCons t u) := by
  intro pins s σ H vs us Q I r h
  obtain ⟨v, vr, e1, h⟩ := h
  subst e1
  cases r with
  | cons r rr =>
    rw [hs]
    refine assignInOrder_cons (thn (h1 pins s σ H _ _ _ I r h) fun _ s1 ⟨σ1, H1, I1, q1⟩ => ?_)
    exact h2 pins s1 σ1 H1 _ _ Q I1 rr q1
noncomputable def gTup (K : PySem.W.Frag) (n : Nat) (t : TGs) : TG := fun v σ H Q => ∃ a xs, v = .ref a ∧ SqT K H a xs ∧ xs.length = n ∧ t xs σ H Q
theorem pg_tup {es : List Expr} {k : Nat} {t : TGs} {n : Nat} (hc : X.calm = true) (h : PGs X es t)
    (hn : autoParam ((assignEach es X.env).length = n) L2.aRfl._auto_1) (hst : autoParam ((assignEach es X.env).findIdx? (·.1) = none) L2.aRfl._auto_1) : PG X (.Tuple es k pos) (gTup X.K n t) := by
  intro pins s σ H v u Q I r hw
  obtain ⟨a, xs, e1, hq, hl, hw⟩ := hw
  subst e1
  cases r
  obtain ⟨its, rv, ht, hz⟩ := I.tuple hq
  refine assign_Tuple_tuple (I.ok.hd hc) ht (by simp [hn, ← hl, rv.length]) hst fun h' hx => ?_
  have I1 : Inv X pins σ H { s with heap := h' } := I.kept (t' := s.toks) fun b o e => hx b o (Nat.ne_of_lt (Heap.lt_size e)) e
  exact h pins _ σ H xs _ Q I1 (by simpa using rv) hw
noncomputable def gSub (to ti : TE) (t : TSet) : TG := fun v σ H Q => to σ H fun o H1 => ti σ H1 fun i H2 => t o i v H2 fun H3 => Q σ H3
theorem pg_sub {o i : Expr} {to ti : TE} {t : TSet} (ho : PE X o to) (hi : PE X i ti) (hs : PSet X t)
    (ha : ∀ v, assign (.Subscript o i pos) X.env v = (do
      let ov ← holding [v] (eval o X.env)
      let iv ← holding [v, ov] (eval i X.env)
      standAt pos
      holding [v, ov, iv] (setItem ov iv v)
      release [v, ov, iv] []) := by intro _; rfl) : PG X (.Subscript o i pos) (gSub to ti t) := by
  intro pins s σ H v u Q I r h
  rw [ha]
  refine wpAny_bind (wpAny_holding (thn (ho pins s σ H _ I h) fun ov s1 ⟨x, H1, I1, r1, q1⟩ => ?_))
  refine wpAny_bind (wpAny_holding (thn (hi pins s1 σ H1 _ I1 q1) fun iv s2 ⟨y, H2, I2, r2, q2⟩ => ?_))
  refine wpAny_bind (wpAny_standAt (wpAny_bind (wpAny_holding (thn (hs pins s2 σ H2 x y v ov iv u _ I2 r1 r2 r q2) fun _ s3 ⟨H3, I3, q3⟩ => ?_))))
  exact wpAny_release ⟨σ, H3, I3, q3⟩
noncomputable def tAsg (te : TE) (g : TG) : TS := fun D σ H => te σ H fun x H1 => g x σ H1 D.nx
theorem ps_asg {tg e : Expr} {te : TE} {g : TG} (he : PE X e te) (hg : PG X tg g) (hs : autoParam (swapsWithSole [tg] e pos.line X.env = pure false) L2.aRfl._auto_1) (hw : autoParam (swappedStores [tg] e X.env = pure none) L2.aRfl._auto_1)
    (h1 : autoParam ((assignEach [tg] X.env).map (·.2) = [assign tg X.env]) L2.aRfl._auto_1) : PS X (.Assign [tg] e pos) (tAsg te g) := by
  intro pins s σ H D I h
  refine wpAny_Assign_stores (thn (he pins s σ H _ I h) fun v s1 ⟨x, H1, I1, r1, q1⟩ => ?_) hs hw
  rw [h1]
  exact thn (hg pins s1 σ H1 x v _ I1 r1 q1) fun _ s2 q => q
theorem ps_set {i : Nat} {x : Str} {e : Expr} {te : TE} {pos' : Pos} (hN : X.N.Nodup) (hi : X.N[i]? = some x) (hx : Loc X.env.scope x) (he : PE X e te) (hs : autoParam (swapsWith e (some (.Name x pos')) pos.line X.env = pure false) L2.aRfl._auto_1) (hf : autoParam (X.fn x = true ∨ X.env.scope.names.lookup x = some .local) L2.aFst._auto_1) :
    PS X (.Assign [.Name x pos'] e pos) (tAsg te (gName i)) := by
  intro pins s σ H D I h
  refine wpAny_Assign_Name (thn (he pins s σ H _ I h) fun v s1 ⟨y, H1, I1, r1, q1⟩ => ?_) hs
  exact store_ok I1 hN hi hx r1 (fun s2 I2 => ⟨_, H1, I2, q1⟩) hf
noncomputable def tAug (i : Nat) (te : TE) (ti : TIp) : TS := fun D σ H => ∃ x, σ[i]? = some (some x) ∧ te σ H fun y H1 => ti x y H1 fun z H2 => D.nx (σ.set i (some z)) H2
theorem ps_aug {i : Nat} {x : Str} {e : Expr} {te : TE} {op : Operator} {ti : TIp} {pos' : Pos} (hN : X.N.Nodup) (hi : X.N[i]? = some x) (hx : Loc X.env.scope x) (he : PE X e te) (ho : PIp X op ti) (hf : autoParam (X.fn x = true ∨ X.env.scope.names.lookup x = some .local) L2.aFst._auto_1) :
    PS X (.AugAssign (.Name x pos') op e pos) (tAug i te ti) := by
  intro pins s σ H D I h
  obtain ⟨v, e1, h⟩ := h
  obtain ⟨m, hn, hl⟩ := I.loc
  have vis : Vis X.env.scope x := by rcases hx with k | k; exact .inl k; exact .inr (.inl k)
  obtain ⟨u, r, l⟩ := hl i x v hi e1 vis
  refine wpAny_AugAssign_Name ?_
  have go : wpAny (model X.prog X.w) X.A (eval e X.env) (fun w s₂ => wpAny (model X.prog X.w) X.A (inplaceOp op u w) (fun r s₃ => wpAny (model X.prog X.w) X.A (storeName X.env x r) (fun _ => SP X pins D .next) X.xe s₃) X.xe s₂) X.xe s := by
    refine thn (he pins s σ H _ I h) fun w s1 ⟨y, H1, I1, r1, q1⟩ => ?_
    refine thn (ho pins s1 σ H1 v y u w _ I1 r r1 q1) fun z s2 ⟨zv, H2, I2, r2, q2⟩ => ?_
    exact store_ok I2 hN hi hx r2 (fun s3 I3 => ⟨_, H2, I3, q2⟩) hf
  rcases l with ⟨hk, hm⟩ | ⟨hk, c, hc, hcell⟩
  · exact wpAny_loadName_local I.ok.kind hk hn hm go
  · rcases hk with hk | hk
    · exact wpAny_loadName_cell I.ok.kind hk hc hcell go
    · rcases hx with k | k
      · have : X.env.scope.names.lookup x = some .free := hk
        rw [k] at this; cases this
      · have : X.env.scope.names.lookup x = some .free := hk
        rw [k] at this; cases this
noncomputable def tAugS (to ti te : TE) (tget : V → V → Hp → VK → Prop) (tip : TIp) (tset : TSet) : TS := fun D σ H => to σ H fun o H1 => ti σ H1 fun i H2 => tget o i H2 fun x H3 => te σ H3 fun y H4 => tip x y H4 fun z H5 => tset o i z H5 fun H6 => D.nx σ H6
noncomputable def PGet (X : Cx) (t : V → V → Hp → VK → Prop) : Prop :=
  ∀ (pins : List (Addr × Obj)) (s : Shared) (σ : St) (H : Hp) (o i : V) (ov iv : Value) (Q : VK), Inv X pins σ H s → RelV o ov → RelV i iv → t o i H Q →
    wpAny (model X.prog X.w) X.A (getItem ov iv) (EP X pins σ Q) X.xe s
theorem ps_augS {o i e : Expr} {to ti te : TE} {tget : V → V → Hp → VK → Prop} {tip : TIp} {tset : TSet} {op : Operator} {tpos : Pos} (ho : PE X o to) (hi : PE X i ti) (hg : PGet X tget) (he : PE X e te) (hp : PIp X op tip) (hs : PSet X tset)
    (ha : ∀ ov iv new, augStore i ov iv new = (do holding [new, ov, iv] (setItem ov iv new); release [new, ov, iv] []; pure .next) := by intros; rfl) : PS X (.AugAssign (.Subscript o i tpos) op e pos) (tAugS to ti te tget tip tset) := by
  intro pins s σ H D I h
  refine wpAny_AugAssign_SubscriptAny (thn (ho pins s σ H _ I h) fun ov s1 ⟨x1, H1, I1, r1, q1⟩ => ?_) ha
  refine thn (hi pins s1 σ H1 _ I1 q1) fun iv s2 ⟨x2, H2, I2, r2, q2⟩ => ?_
  refine thn (hg pins s2 σ H2 x1 x2 ov iv _ I2 r1 r2 q2) fun old s3 ⟨x3, H3, I3, r3, q3⟩ => ?_
  refine thn (he pins s3 σ H3 _ I3 q3) fun v s4 ⟨x4, H4, I4, r4, q4⟩ => ?_
  refine thn (hp pins s4 σ H4 x3 x4 old v _ I4 r3 r4 q4) fun new s5 ⟨x5, H5, I5, r5, q5⟩ => ?_
  exact thn (hs pins s5 σ H5 x1 x2 x5 ov iv new _ I5 r1 r2 r5 q5) fun _ s6 ⟨H6, I6, q6⟩ => ⟨σ, H6, I6, q6⟩
noncomputable def ipI (f : Int → Int → Int) : TIp := fun x y H Q => ∃ i j, x = .int i ∧ y = .int j ∧ Q (.int (f i j)) H
theorem ip_add : PIp X .Add (ipI fun i j => i + j) := by
  intro pins s σ H x y v u Q I r1 r2 h
  obtain ⟨i, j, e1, e2, q⟩ := h
  subst e1; subst e2
  obtain ⟨t, rfl⟩ := r1
  obtain ⟨t', rfl⟩ := r2
  exact iadd_int ⟨.int _, H, I.tok _, ⟨_, rfl⟩, q⟩
theorem ip_sub : PIp X .Sub (ipI fun i j => i - j) := by
  intro pins s σ H x y v u Q I r1 r2 h
  obtain ⟨i, j, e1, e2, q⟩ := h
  subst e1; subst e2
  obtain ⟨t, rfl⟩ := r1
  obtain ⟨t', rfl⟩ := r2
  exact isub_int ⟨.int _, H, I.tok _, ⟨_, rfl⟩, q⟩
end
section
variable {X : Cx} {pos : Pos}
noncomputable def tWhile (c : TT) (tb : TS) : TS := fun D σ H => ∃ W : Nat → St → Hp → Prop, (∃ m, W m σ H) ∧ ∀ m σ H, W m σ H →
  c σ H fun b H1 => if b = true then ∃ N : St → Hp → Prop, (∀ σ' H', N σ' H' → ∃ m', m' < m ∧ W m' σ' H') ∧ tb { D with nx := N, ct := N, bk := D.nx } σ H1 else D.nx σ H1
theorem ps_while {c : Expr} {body : List Stmt} {tc : TT} {tb : TS} (hp : PassesOwn (model X.prog X.w) X.A X.env X.xe) (hc : PT X c tc) (hb : PSs X body tb) : PS X (.While c body [] pos) (tWhile tc tb) := by
  intro pins s σ H D I h
  obtain ⟨W, ⟨m0, w0⟩, turn⟩ := h
  refine wpAny_While (codeAny_whileLoop (fun n s' => ∃ σ' H', Inv X pins σ' H' s' ∧ W n σ' H') ?_ m0 ⟨σ, H, I, w0⟩)
  rintro n s1 ⟨σ1, H1, I1, w1⟩
  refine wpAny_passesOwn hp (thn (hc pins s1 σ1 H1 _ I1 (turn n σ1 H1 w1)) fun b s2 ⟨H2, I2, q2⟩ => ?_)
  cases b with
  | true =>
    obtain ⟨N, hN, q2⟩ := q2
    rw [if_pos rfl]
    refine wpAny_passesOwn hp (thn (hb pins s2 σ1 H2 _ I2 q2) fun f s3 q3 => ?_)
    cases f with
    | next =>
      obtain ⟨σ3, H3, I3, n3⟩ := q3
      obtain ⟨m', hm, w3⟩ := hN σ3 H3 n3
      exact ⟨m', hm, σ3, H3, I3, w3⟩
    | cont =>
      obtain ⟨σ3, H3, I3, n3⟩ := q3
      obtain ⟨m', hm, w3⟩ := hN σ3 H3 n3
      exact ⟨m', hm, σ3, H3, I3, w3⟩
    | brk => exact q3
    | ret v => exact q3
  | false =>
    rw [if_neg Bool.false_ne_true]
    exact wpAny_execs_nil ⟨σ1, H2, I2, q2⟩
end
structure It where
  go : Nat → Hp → Prop
  yld : Nat → Hp → V → Hp → Prop
  stop : Nat → Hp → Prop
noncomputable def FpOk (X : Cx) (pins : List (Addr × Obj)) (H : Hp) (b : Addr) : Prop :=
  H b = none ∧ b ≠ X.env.locals ∧ b ∉ X.fs ∧ (b ∈ X.ex ∨ X.s₀.heap.objs.size ≤ b) ∧ (∀ x c, X.env.cells.lookup x = some c → c ≠ b) ∧ ∀ p ∈ X.pn ++ pins, p.1 ≠ b
theorem Inv.fpOk {X : Cx} {pins : List (Addr × Obj)} {σ : St} {H H' : Hp} {s : Shared} {b : Addr} (I : Inv X pins σ H s) (hb : s.heap.objs.size ≤ b) (hn : H' b = none) : FpOk X pins H' b := by
  refine ⟨hn, Nat.ne_of_gt (Nat.lt_of_lt_of_le I.lt hb), I.nofs hb, .inr (Nat.le_trans I.sz hb), fun x c e z => ?_, fun p hp z => ?_⟩
  · obtain ⟨v, q⟩ := I.cell x c e
    exact absurd (Nat.lt_of_lt_of_le q.lt (by rw [z]; exact hb)) (Nat.lt_irrefl _)
  · exact absurd (Nat.lt_of_lt_of_le (Heap.lt_size (I.pin p hp).1) (by rw [z]; exact hb)) (Nat.lt_irrefl _)
structure Turn (P : Program) (w : World) (K : PySem.W.Frag) (tg : Expr) (J : It) (fp : List Addr) (it : Addr) (tn : Nat → Heap → Prop) : Prop where
  mem : it ∈ fp
  obj : ∀ i h, tn i h → ∀ b ∈ fp, ∃ o, h.get? b = some o ∧ ∀ v, o.data ≠ .cell v
  keep : ∀ i h h', tn i h → (∀ b ∈ fp, ∀ o, h.get? b = some o → h'.get? b = some o) → tn i h'
  item : ∀ (X : Cx), X.prog = P → X.w = w → X.K = K → X.calm = true → ∀ (i : Nat) (pins : List (Addr × Obj)) (s : Shared) (σ : St) (H : Hp) (E : Value → Shared → Prop), Inv X pins σ H s → (∀ b ∈ fp, FpOk X pins H b) → tn i s.heap → J.go i H →
    wpAny (model P w) X.A (pyNext (.ref it)) (fun r s1 => ∃ u, r = some u ∧
      wpAny (model P w) X.A (letOwnedTupleGo tg (.ref it) u) (fun _ s2 => ∃ x H', Inv X pins σ H' s2 ∧ RelV x u ∧ J.yld i H x H' ∧ tn (i + 1) s2.heap ∧ ∀ b ∈ fp, H' b = none) E s1) E s
  done : ∀ (X : Cx), X.prog = P → X.w = w → X.K = K → X.calm = true → ∀ (i : Nat) (pins : List (Addr × Obj)) (s : Shared) (σ : St) (H : Hp) (E : Value → Shared → Prop), Inv X pins σ H s → (∀ b ∈ fp, FpOk X pins H b) → tn i s.heap → J.stop i H →
    wpAny (model P w) X.A (pyNext (.ref it)) (fun r s1 => r = none ∧ Inv X pins σ H s1) E s
  self : ∀ (A : Around) (i : Nat) (s : Shared) (Q : Value → Shared → Prop) (E : Value → Shared → Prop), tn i s.heap → Q (.ref it) s → wpAny (model P w) A (pyIter (.ref it)) Q E s
noncomputable abbrev TI := St → Hp → (It → Hp → Prop) → Prop
noncomputable def PIE (X : Cx) (pins : List (Addr × Obj)) (σ : St) (tg : Expr) (R : It → Hp → Prop) (itv : Value) (s2 : Shared) : Prop :=
  ∃ (it : Addr) (fp : List Addr) (tn : Nat → Heap → Prop) (J : It) (H' : Hp), itv = .ref it ∧ Inv X pins σ H' s2 ∧ Turn X.prog X.w X.K tg J fp it tn ∧ tn 0 s2.heap ∧ (∀ b ∈ fp, FpOk X pins H' b) ∧ R J H'
noncomputable def PI (X : Cx) (tg iter : Expr) (wi : TI) : Prop :=
  ∀ (pins : List (Addr × Obj)) (s : Shared) (σ : St) (H : Hp) (R : It → Hp → Prop), Inv X pins σ H s → wi σ H R →
    wpAny (model X.prog X.w) X.A (eval iter X.env) (fun v s1 => wpAny (model X.prog X.w) X.A (pyIter v) (PIE X pins σ tg R) X.xe s1) X.xe s
theorem go_of {M : Model} {A : Around} {E : Value → Shared → Prop} {s : Shared} {tg : Expr} {it : Addr} {u : Value} {o : Obj} {n : String} {vs : Array Value} {Q : Unit → Shared → Prop} (ho : s.heap.get? it = some o) (hc : o.cls = .type n) (hd : o.data = .fields vs)
    (hn : ["enumerate", "zip", "dict_itemiterator", "dict_reverseitemiterator", "odict_iterator", "itertools.zip_longest", "itertools.pairwise"].contains n = false) (hQ : Q () s) : wpAny M A (letOwnedTupleGo tg (.ref it) u) Q E s := by
  unfold letOwnedTupleGo
  cases tg <;> first
    | exact wpAny_pure hQ
    | (cases u <;> first
        | exact wpAny_pure hQ
        | (refine wpAny_bind (wpAny_load ho ?_)
           rw [hc, hd]
           show wpAny M A (if (["enumerate", "zip", "dict_itemiterator", "dict_reverseitemiterator", "odict_iterator", "itertools.zip_longest", "itertools.pairwise"].contains n && vs[0]? == some (rawInt _)) = true then _ else _) Q E s
           rw [if_neg (by intro h; rw [hn, Bool.false_and] at h; cases h)]
           exact wpAny_pure hQ))
noncomputable def Itl (K : PySem.W.Frag) (a : Addr) : It :=
  ⟨fun i H => ∃ xs x, SqL K H a xs ∧ xs[i]? = some x, fun i H x H' => H' = H ∧ ∀ xs, SqL K H a xs → xs[i]? = some x, fun i H => ∃ xs, SqL K H a xs ∧ xs.length ≤ i⟩
noncomputable def Itt (K : PySem.W.Frag) (a : Addr) : It :=
  ⟨fun i H => ∃ xs x, SqT K H a xs ∧ xs[i]? = some x, fun i H x H' => H' = H ∧ ∀ xs, SqT K H a xs → xs[i]? = some x, fun i H => ∃ xs, SqT K H a xs ∧ xs.length ≤ i⟩
noncomputable def Itr (lo : Int) (n : Nat) : It := ⟨fun i _ => i < n, fun i H x H' => H' = H ∧ x = .int (lo + i), fun i _ => n ≤ i⟩
theorem turn_list {P : Program} {w : World} {K : PySem.W.Frag} {tg : Expr} (a it : Addr) : Turn P w K tg (Itl K a) [it] it (fun i h => h.IsListIter it a i) where
  mem := by simp
  obj := fun i h st b hb => by
    have e : b = it := by simpa using hb
    subst e
    obtain ⟨o, e, c, d⟩ := st
    exact ⟨o, e, fun v z => by rw [d] at z; cases z⟩
  keep := fun i h h' st k => st.at fun o e => k it (by simp) o e
  item := by
    intro X hP hw hK hc i pins s σ H E I hf st hg
    subst hP hw hK
    obtain ⟨xs, x, hq, hx⟩ := hg
    obtain ⟨its, rv, p, hz⟩ := I.list hq
    obtain ⟨u, hu, ru⟩ := rv.get hx
    obtain ⟨f0, f1, f2, f3, f4, f5⟩ := hf it (by simp)
    refine wpAny_pyNext_list_item st p.isList (x := u) (by simpa using hu) fun h' st' sb => ?_
    have I1 : Inv X pins σ H { s with heap := h' } := I.turned (t' := s.toks) (fun b o hb e => (sb.2 b hb).trans e) f0 f1 f3 f4 f5
    obtain ⟨o, e, c, d⟩ := id st'
    exact ⟨u, rfl, go_of (s := { s with heap := h' }) e c d (by decide) ⟨x, H, I1, ru, ⟨rfl, fun ys hy => by rw [I.list_inj hy hq]; exact hx⟩, st', fun b hb => (hf b hb).1⟩⟩
  done := by
    intro X hP hw hK hc i pins s σ H E I hf st hg
    subst hP hw hK
    obtain ⟨xs, hq, hx⟩ := hg
    obtain ⟨its, rv, p, hz⟩ := I.list hq
    obtain ⟨f0, f1, f2, f3, f4, f5⟩ := hf it (by simp)
    have hl := rv.length
    exact wpAny_pyNext_list_end (I.ok.hd hc) st p.isList (by simp; omega) fun h' eb => ⟨rfl, I.turned (t' := s.toks) (fun b o hb e => eb b o hb e) f0 f1 f3 f4 f5⟩
  self := fun _ _ _ _ _ st h => wpAny_pyIter_listiter st h
theorem turn_tuple {P : Program} {w : World} {K : PySem.W.Frag} {tg : Expr} (a it : Addr) : Turn P w K tg (Itt K a) [it] it (fun i h => h.IsTupleIter it a i) where
  mem := by simp
  obj := fun i h st b hb => by
    have e : b = it := by simpa using hb
    subst e
    obtain ⟨o, e, c, d⟩ := st
    exact ⟨o, e, fun v z => by rw [d] at z; cases z⟩
  keep := fun i h h' st k => st.at fun o e => k it (by simp) o e
  item := by
    intro X hP hw hK hc i pins s σ H E I hf st hg
    subst hP hw hK
    obtain ⟨xs, x, hq, hx⟩ := hg
    obtain ⟨its, rv, p, hz⟩ := I.tuple hq
    obtain ⟨u, hu, ru⟩ := rv.get hx
    obtain ⟨f0, f1, f2, f3, f4, f5⟩ := hf it (by simp)
    refine wpAny_pyNext_tuple_item st (show s.heap.IsTuple a its.toArray from p) (x := u) (by simpa using hu) fun h' st' sb => ?_
    have I1 : Inv X pins σ H { s with heap := h' } := I.turned (t' := s.toks) (fun b o hb e => (sb.2 b hb).trans e) f0 f1 f3 f4 f5
    obtain ⟨o, e, c, d⟩ := id st'
    exact ⟨u, rfl, go_of (s := { s with heap := h' }) e c d (by decide) ⟨x, H, I1, ru, ⟨rfl, fun ys hy => by rw [I.tuple_inj hy hq]; exact hx⟩, st', fun b hb => (hf b hb).1⟩⟩
  done := by
    intro X hP hw hK hc i pins s σ H E I hf st hg
    subst hP hw hK
    obtain ⟨xs, hq, hx⟩ := hg
    obtain ⟨its, rv, p, hz⟩ := I.tuple hq
    obtain ⟨f0, f1, f2, f3, f4, f5⟩ := hf it (by simp)
    have hl := rv.length
    exact wpAny_pyNext_tuple_end (I.ok.hd hc) st (show s.heap.IsTuple a its.toArray from p) (by simp; omega) fun h' eb => ⟨rfl, I.turned (t' := s.toks) (fun b o hb e => eb b o hb e) f0 f1 f3 f4 f5⟩
  self := fun _ _ _ _ _ st h => wpAny_pyIter_tupleiter st h
theorem turn_range {P : Program} {w : World} {K : PySem.W.Frag} {tg : Expr} (it : Addr) (lo : Int) (n : Nat) : Turn P w K tg (Itr lo n) [it] it (fun i h => IsRangeIter h it (lo + (i : Nat) * 1) ((n : Int) - (i : Nat)) 1) where
  mem := by simp
  obj := fun i h st b hb => by
    have e : b = it := by simpa using hb
    subst e
    exact ⟨_, st, fun v z => by
      have z' : Data.fields _ = Data.cell v := z
      cases z'⟩
  keep := fun i h h' st k => k it (by simp) _ st
  item := by
    intro X hP hw hK hc i pins s σ H E I hf st hg
    subst hP hw hK
    obtain ⟨f0, f1, f2, f3, f4, f5⟩ := hf it (by simp)
    have W := Walks.range (prog := X.prog) (w := X.w) (I.ok.hd hc) it lo 1 n
    refine W.item i s _ _ hg st fun v h' tk hv st' kk => ?_
    obtain ⟨t, rfl⟩ := hv
    have I1 : Inv X pins σ H { s with heap := h', toks := tk } := I.turned (fun b o hb e => kk b o (by simpa using hb) e) f0 f1 f3 f4 f5
    refine ⟨_, rfl, go_of (s := { s with heap := h', toks := tk }) (n := "range_iterator") st' rfl rfl (by decide) ⟨.int (lo + i), H, I1, ⟨t, ?_⟩, ⟨rfl, rfl⟩, st', fun b hb => (hf b hb).1⟩⟩
    rw [Int.mul_one]
  done := by
    intro X hP hw hK hc i pins s σ H E I hf st hg
    subst hP hw hK
    obtain ⟨f0, f1, f2, f3, f4, f5⟩ := hf it (by simp)
    exact wpAny_pyNext_range_end (I.ok.hd hc) st (by have : n ≤ i := hg; omega) fun h' eb => ⟨rfl, I.turned (t' := s.toks) (fun b o hb e => eb b o hb e) f0 f1 f3 f4 f5⟩
  self := fun _ _ _ _ _ st h => wpAny_pyIter_rangeiter st h
end L2
namespace L2
open PySem PySem.Spec PyProof.Rows
section
variable {X : Cx} {tg : Expr}
noncomputable def iList (K : PySem.W.Frag) (tl : TE) : TI := fun σ H R => tl σ H fun x H1 => ∃ a, x = .ref a ∧ (∃ xs, SqL K H1 a xs) ∧ R (Itl K a) H1
noncomputable def iTup (K : PySem.W.Frag) (tl : TE) : TI := fun σ H R => tl σ H fun x H1 => ∃ a, x = .ref a ∧ (∃ xs, SqT K H1 a xs) ∧ R (Itt K a) H1
theorem pi_list {l : Expr} {tl : TE} (hl : PE X l tl) : PI X tg l (iList X.K tl) := by
  intro pins s σ H R I h
  refine thn (hl pins s σ H _ I h) fun v s1 ⟨x, H1, I1, r1, q1⟩ => ?_
  obtain ⟨a, e, ⟨xs, hq⟩, q⟩ := q1
  subst e
  cases r1
  obtain ⟨its, rv, p, hz⟩ := I1.list hq
  refine wpAny_pyIter_list p.isList ?_
  refine ⟨s1.heap.objs.size, [s1.heap.objs.size], _, _, H1, rfl, I1.kept (t' := s1.toks) fun b o e => Heap.get?_push_of_some _ e, turn_list a _, ⟨_, Heap.get?_push_size _ rfl, rfl, rfl⟩, fun b hb => ?_, q⟩
  have e : b = s1.heap.objs.size := by simpa using hb
  subst e
  exact I1.fpOk (Nat.le_refl _) (I1.hok.fresh (Nat.le_refl _))
theorem pi_tup {l : Expr} {tl : TE} (hl : PE X l tl) : PI X tg l (iTup X.K tl) := by
  intro pins s σ H R I h
  refine thn (hl pins s σ H _ I h) fun v s1 ⟨x, H1, I1, r1, q1⟩ => ?_
  obtain ⟨a, e, ⟨xs, hq⟩, q⟩ := q1
  subst e
  cases r1
  obtain ⟨its, rv, p, hz⟩ := I1.tuple hq
  refine wpAny_pyIter_tuple (show s1.heap.IsTuple a its.toArray from p) ?_
  refine ⟨s1.heap.objs.size, [s1.heap.objs.size], _, _, H1, rfl, I1.kept (t' := s1.toks) fun b o e => Heap.get?_push_of_some _ e, turn_tuple a _, ⟨_, Heap.get?_push_size _ rfl, rfl, rfl⟩, fun b hb => ?_, q⟩
  have e : b = s1.heap.objs.size := by simpa using hb
  subst e
  exact I1.fpOk (Nat.le_refl _) (I1.hok.fresh (Nat.le_refl _))
theorem range_it {pins : List (Addr × Obj)} {σ : St} {H : Hp} {s : Shared} {R : It → Hp → Prop} {E : Value → Shared → Prop} {lo hi : Int} {t u v : Tok} {tk : Nat} (I : Inv X pins σ H s) (h1 : -(2 ^ 62) ≤ lo) (h2 : lo < 2 ^ 62) (h3 : -(2 ^ 62) ≤ hi) (h4 : hi < 2 ^ 62)
    (q : R (Itr lo (hi - lo).toNat) H) : wpAny (model X.prog X.w) X.A (pyIter (.ref s.heap.objs.size)) (PIE X pins σ tg R) E { s with heap := s.heap.push { cls := .type "range", data := .fields #[.int lo t, .int hi u, .int 1 v] }, toks := tk } := by
  refine wpAny_pyIter_range (IsRange.new ..) (small_one h1 h2 h3 h4) ?_
  have I1 : Inv X pins σ H { s with heap := s.heap.push { cls := .type "range", data := .fields #[.int lo t, .int hi u, .int 1 v] }, toks := tk } := I.kept fun b o e => Heap.get?_push_of_some _ e
  refine ⟨(s.heap.push { cls := .type "range", data := .fields #[.int lo t, .int hi u, .int 1 v] }).objs.size, [(s.heap.push { cls := .type "range", data := .fields #[.int lo t, .int hi u, .int 1 v] }).objs.size], _, _, H, rfl,
    I1.kept (t' := tk) fun b o e => Heap.get?_push_of_some _ e, turn_range _ lo (hi - lo).toNat, ?_, fun b hb => ?_, q⟩
  · have e1 : lo + ((0 : Nat) : Int) * 1 = lo := by simp
    have e2 : (((hi - lo).toNat : Nat) : Int) - ((0 : Nat) : Int) = Builtin.Range.rangeSize lo hi 1 := by rw [rangeSize_one]; split <;> omega
    show IsRangeIter _ _ (lo + ((0 : Nat) : Int) * 1) ((((hi - lo).toNat : Nat) : Int) - ((0 : Nat) : Int)) 1
    rw [e1, e2]
    exact Heap.get?_push_size _ rfl
  · have e : b = (s.heap.push { cls := .type "range", data := .fields #[.int lo t, .int hi u, .int 1 v] }).objs.size := by simpa using hb
    subst e
    exact I1.fpOk (Nat.le_refl _) (I1.hok.fresh (Nat.le_refl _))
noncomputable def iRng1 (ta : TA) : TI := fun σ H R => ta σ H fun vs H1 => ∃ j : Int, vs = [.int j] ∧ -(2 ^ 62) ≤ j ∧ j < 2 ^ 62 ∧ R (Itr 0 j.toNat) H1
theorem pi_range1 {a : Expr} {ta : TA} {p pos : Pos} (hg : Gl X "range") (hm : X.mg "range" = none) (ha : PA X [a] ta) (hs : autoParam (starEach [a] X.env = [(false, eval a X.env)]) L2.aRfl._auto_1) : PI X tg (.Call (.Name "range" p) [a] [] pos) (iRng1 ta) := by
  intro pins s σ H R I h
  refine Call_ (ld_blt I hg hm boot_range (PyProof.Rows.callWith_type1 (thn (ha pos pins s σ H _ I h) fun us s1 ⟨vs, H1, I1, r1, q1⟩ => ?_) hs rfl))
  obtain ⟨j, e, q1, q2, q⟩ := q1
  subst e
  cases r1 with
  | cons r rr =>
    cases rr
    obtain ⟨t, rfl⟩ := r
    exact call_range_1 (range_it I1 (by omega) (by omega) q1 q2 (by simpa using q))
noncomputable def tFor (wi : TI) (g : TG) (tb : TS) : TS := fun D σ H => wi σ H fun J H1 => ∃ W : Nat → Nat → St → Hp → Prop, (∃ m, W 0 m σ H1) ∧ ∀ i m σ H, W i m σ H →
  (J.stop i H ∧ D.nx σ H) ∨ (J.go i H ∧ ∃ N : St → Hp → Prop, (∀ σ' H', N σ' H' → ∃ m', m' < m ∧ W (i + 1) m' σ' H') ∧ ∀ x H', J.yld i H x H' → g x σ H' fun σ2 H2 => tb { D with nx := N, ct := N, bk := D.nx } σ2 H2)
noncomputable def pinsAt (fp : List Addr) (h : Heap) : List (Addr × Obj) := fp.filterMap fun b => (h.get? b).map fun o => (b, o)
theorem mem_pinsAt {fp : List Addr} {h : Heap} {b : Addr} {o : Obj} (hb : b ∈ fp) (e : h.get? b = some o) : (b, o) ∈ pinsAt fp h := List.mem_filterMap.mpr ⟨b, hb, by rw [e]; rfl⟩
theorem of_pinsAt {fp : List Addr} {h : Heap} {p : Addr × Obj} (hp : p ∈ pinsAt fp h) : p.1 ∈ fp ∧ h.get? p.1 = some p.2 := by
  obtain ⟨b, hb, e⟩ := List.mem_filterMap.mp hp
  cases q : h.get? b with
  | none => rw [q] at e; cases e
  | some o =>
    rw [q] at e
    have e' : (b, o) = p := Option.some.inj e
    subst e'
    exact ⟨hb, q⟩
theorem Inv.pinned {pins : List (Addr × Obj)} {σ : St} {H : Hp} {s : Shared} {fp : List Addr} (I : Inv X pins σ H s) (hf : ∀ b ∈ fp, FpOk X pins H b) (ho : ∀ b ∈ fp, ∃ o, s.heap.get? b = some o ∧ ∀ v, o.data ≠ .cell v) : Inv X (pins ++ pinsAt fp s.heap) σ H s :=
  I.pins_of fun p hp => (List.mem_append.mp hp).elim (fun z => I.pin p (List.mem_append_right _ z)) fun z => by
    obtain ⟨hb, e⟩ := of_pinsAt z
    obtain ⟨f0, f1, f2, _⟩ := hf p.1 hb
    obtain ⟨o, e', d⟩ := ho p.1 hb
    rw [e] at e'; cases e'
    exact ⟨e, f0, f1, f2, d⟩
theorem Inv.unpinned {pins pl : List (Addr × Obj)} {σ : St} {H : Hp} {s : Shared} (I : Inv X (pins ++ pl) σ H s) : Inv X pins σ H s := I.pins_of fun p hp => I.pin p (List.mem_append_right _ (List.mem_append_left _ hp))
theorem ps_for {iter : Expr} {body : List Stmt} {wi : TI} {g : TG} {tb : TS} {pos : Pos} (hp : PassesOwn (model X.prog X.w) X.A X.env X.xe) (hc : X.calm = true) (hi : PI X tg iter wi) (hg : PG X tg g) (hb : PSs X body tb)
    (hs : autoParam (∀ x, foldedSetIterable iter X.env x = pure x) L2.aIrf._auto_1) : PS X (.For tg iter body [] pos) (tFor wi g tb) := by
  intro pins s σ H D I h
  refine wpAny_For (thn (hi pins s σ H _ I h) fun v s1 h1 => thn h1 fun itv s2 h2 => ?_) hs
  obtain ⟨it, fp, tn, J, H2, e, I2, T, st2, f2, W, ⟨m0, w0⟩, turn⟩ := h2
  subst e
  -- what stays true of the iterator's objects through the loop
  have stat : ∀ {H' : Hp}, (∀ b ∈ fp, H' b = none) → ∀ b ∈ fp, FpOk X pins H' b := fun hn b hb => ⟨hn b hb, (f2 b hb).2⟩
  refine codeAny_forLoop_any (fun n s' => ∃ i σ' H', Inv X pins σ' H' s' ∧ tn i s'.heap ∧ (∀ b ∈ fp, H' b = none) ∧ W i n σ' H') ?_ m0 ⟨0, σ, H2, I2, st2, fun b hb => (f2 b hb).1, w0⟩
  rintro n s3 ⟨i, σ3, H3, I3, st3, fr3, w3⟩
  rcases turn i n σ3 H3 w3 with ⟨stop, qn⟩ | ⟨go, N, hN, step⟩
  · refine wpAny_passesOwn hp (thn (T.done X rfl rfl rfl hc i pins s3 σ3 H3 X.xe I3 (stat fr3) st3 stop) fun r s4 ⟨hr, I4⟩ => ?_)
    subst hr
    exact wpAny_execs_nil ⟨σ3, H3, I4, qn⟩
  · refine wpAny_passesOwn hp (thn (T.item X rfl rfl rfl hc i pins s3 σ3 H3 X.xe I3 (stat fr3) st3 go) fun r s4 ⟨u, hr, h4⟩ => ?_)
    subst hr
    refine wpAny_passesOwn hp (thn h4 fun _ s5 ⟨x, H5, I5, r5, y5, st5, fr5⟩ => ?_)
    have I5' := I5.pinned (stat fr5) (T.obj _ _ st5)
    refine wpAny_passesOwn hp (thn (hg _ s5 σ3 H5 x u _ I5' r5 (step x H5 y5)) fun _ s6 ⟨σ6, H6, I6, q6⟩ => ?_)
    refine wpAny_passesOwn hp (thn (hb _ s6 σ6 H6 _ I6 q6) fun f s7 q7 => ?_)
    have again : ∀ {σ7 : St} {H7 : Hp}, Inv X (pins ++ pinsAt fp s5.heap) σ7 H7 s7 → N σ7 H7 → ∃ m, m < n ∧ ∃ i σ' H', Inv X pins σ' H' s7 ∧ tn i s7.heap ∧ (∀ b ∈ fp, H' b = none) ∧ W i m σ' H' := fun {σ7 H7} I7 n7 => by
      obtain ⟨m', hm, w7⟩ := hN σ7 H7 n7
      refine ⟨m', hm, i + 1, σ7, H7, I7.unpinned, T.keep _ _ _ st5 fun b hb o e => (I7.pin (b, o) (List.mem_append_right _ (List.mem_append_right _ (mem_pinsAt hb e)))).1, fun b hb => ?_, w7⟩
      obtain ⟨o, e, d⟩ := T.obj _ _ st5 b hb
      exact (I7.pin (b, o) (List.mem_append_right _ (List.mem_append_right _ (mem_pinsAt hb e)))).2.1
    cases f with
    | next => obtain ⟨σ7, H7, I7, n7⟩ := q7; exact again I7 n7
    | cont => obtain ⟨σ7, H7, I7, n7⟩ := q7; exact again I7 n7
    | brk => obtain ⟨σ7, H7, I7, q7⟩ := q7; exact ⟨σ7, H7, I7.unpinned, q7⟩
    | ret v => obtain ⟨x7, σ7, H7, I7, r7, q7⟩ := q7; exact ⟨x7, σ7, H7, I7.unpinned, r7, q7⟩
end
theorem for_list {K : PySem.W.Frag} {a : Addr} {xs : List V} {g : TG} {tb : TS} {D : Ends} {σ : St} {H : Hp} (Pv : Nat → St → Hp → Prop) (h0 : Pv 0 σ H) (hl : ∀ i σ H, i ≤ xs.length → Pv i σ H → SqL K H a xs)
    (hs : ∀ i x σ H, xs[i]? = some x → Pv i σ H → g x σ H fun σ2 H2 => tb { D with nx := Pv (i + 1), ct := Pv (i + 1), bk := D.nx } σ2 H2) (hd : ∀ σ H, Pv xs.length σ H → D.nx σ H) :
    ∃ W : Nat → Nat → St → Hp → Prop, (∃ m, W 0 m σ H) ∧ ∀ i m σ H, W i m σ H →
      ((Itl K a).stop i H ∧ D.nx σ H) ∨ ((Itl K a).go i H ∧ ∃ N : St → Hp → Prop, (∀ σ' H', N σ' H' → ∃ m', m' < m ∧ W (i + 1) m' σ' H') ∧ ∀ x H', (Itl K a).yld i H x H' → g x σ H' fun σ2 H2 => tb { D with nx := N, ct := N, bk := D.nx } σ2 H2) := by
  refine ⟨fun i m σ H => m = xs.length - i ∧ i ≤ xs.length ∧ Pv i σ H, ⟨xs.length, by simp, Nat.zero_le _, h0⟩, ?_⟩
  rintro i m σ H ⟨rfl, hi, p⟩
  have q := hl i σ H hi p
  by_cases hlt : i < xs.length
  · refine .inr ⟨⟨xs, xs[i], q, by simp [hlt]⟩, Pv (i + 1), fun σ' H' p' => ⟨xs.length - (i + 1), by omega, rfl, hlt, p'⟩, fun x H' y => ?_⟩
    obtain ⟨e, y⟩ := y
    subst e
    exact hs i x σ _ (y xs q) p
  · have e : i = xs.length := by omega
    subst e
    exact .inl ⟨⟨xs, q, Nat.le_refl _⟩, hd σ H p⟩
theorem for_tup {K : PySem.W.Frag} {a : Addr} {xs : List V} {g : TG} {tb : TS} {D : Ends} {σ : St} {H : Hp} (Pv : Nat → St → Hp → Prop) (h0 : Pv 0 σ H) (hl : ∀ i σ H, i ≤ xs.length → Pv i σ H → SqT K H a xs)
    (hs : ∀ i x σ H, xs[i]? = some x → Pv i σ H → g x σ H fun σ2 H2 => tb { D with nx := Pv (i + 1), ct := Pv (i + 1), bk := D.nx } σ2 H2) (hd : ∀ σ H, Pv xs.length σ H → D.nx σ H) :
    ∃ W : Nat → Nat → St → Hp → Prop, (∃ m, W 0 m σ H) ∧ ∀ i m σ H, W i m σ H →
      ((Itt K a).stop i H ∧ D.nx σ H) ∨ ((Itt K a).go i H ∧ ∃ N : St → Hp → Prop, (∀ σ' H', N σ' H' → ∃ m', m' < m ∧ W (i + 1) m' σ' H') ∧ ∀ x H', (Itt K a).yld i H x H' → g x σ H' fun σ2 H2 => tb { D with nx := N, ct := N, bk := D.nx } σ2 H2) := by
  refine ⟨fun i m σ H => m = xs.length - i ∧ i ≤ xs.length ∧ Pv i σ H, ⟨xs.length, by simp, Nat.zero_le _, h0⟩, ?_⟩
  rintro i m σ H ⟨rfl, hi, p⟩
  have q := hl i σ H hi p
  by_cases hlt : i < xs.length
  · refine .inr ⟨⟨xs, xs[i], q, by simp [hlt]⟩, Pv (i + 1), fun σ' H' p' => ⟨xs.length - (i + 1), by omega, rfl, hlt, p'⟩, fun x H' y => ?_⟩
    obtain ⟨e, y⟩ := y
    subst e
    exact hs i x σ _ (y xs q) p
  · have e : i = xs.length := by omega
    subst e
    exact .inl ⟨⟨xs, q, Nat.le_refl _⟩, hd σ H p⟩
theorem for_range {lo : Int} {n : Nat} {g : TG} {tb : TS} {D : Ends} {σ : St} {H : Hp} (Pv : Nat → St → Hp → Prop) (h0 : Pv 0 σ H)
    (hs : ∀ i σ H, i < n → Pv i σ H → g (.int (lo + i)) σ H fun σ2 H2 => tb { D with nx := Pv (i + 1), ct := Pv (i + 1), bk := D.nx } σ2 H2) (hd : ∀ σ H, Pv n σ H → D.nx σ H) :
    ∃ W : Nat → Nat → St → Hp → Prop, (∃ m, W 0 m σ H) ∧ ∀ i m σ H, W i m σ H →
      ((Itr lo n).stop i H ∧ D.nx σ H) ∨ ((Itr lo n).go i H ∧ ∃ N : St → Hp → Prop, (∀ σ' H', N σ' H' → ∃ m', m' < m ∧ W (i + 1) m' σ' H') ∧ ∀ x H', (Itr lo n).yld i H x H' → g x σ H' fun σ2 H2 => tb { D with nx := N, ct := N, bk := D.nx } σ2 H2) := by
  refine ⟨fun i m σ H => m = n - i ∧ i ≤ n ∧ Pv i σ H, ⟨n, by simp, Nat.zero_le _, h0⟩, ?_⟩
  rintro i m σ H ⟨rfl, hi, p⟩
  by_cases hlt : i < n
  · refine .inr ⟨hlt, Pv (i + 1), fun σ' H' p' => ⟨n - (i + 1), by omega, rfl, hlt, p'⟩, fun x H' y => ?_⟩
    obtain ⟨e, y⟩ := y
    subst e y
    exact hs i σ _ hlt p
  · have e : i = n := by omega
    subst e
    exact .inl ⟨Nat.le_refl _, hd σ H p⟩
end L2
namespace L2
open PySem PySem.Spec PyProof.Rows
noncomputable abbrev R2 := V → V → Hp → VK → Prop
noncomputable def OpR (X : Cx) (f : Value → Value → Sem Value) (r : R2) : Prop :=
  ∀ (pins : List (Addr × Obj)) (s : Shared) (σ : St) (H : Hp) (x y : V) (v u : Value) (Q : VK), Inv X pins σ H s → RelV x v → RelV y u → r x y H Q →
    wpAny (model X.prog X.w) X.A (f v u) (EP X pins σ Q) X.xe s
noncomputable def UnR (X : Cx) (f : Value → Sem Value) (r : V → Hp → VK → Prop) : Prop :=
  ∀ (pins : List (Addr × Obj)) (s : Shared) (σ : St) (H : Hp) (x : V) (v : Value) (Q : VK), Inv X pins σ H s → RelV x v → r x H Q →
    wpAny (model X.prog X.w) X.A (f v) (EP X pins σ Q) X.xe s
noncomputable def CallR (X : Cx) (f : Value) (r : List V → Hp → VK → Prop) : Prop :=
  ∀ (pins : List (Addr × Obj)) (s : Shared) (σ : St) (H : Hp) (xs : List V) (us : List Value) (Q : VK), Inv X pins σ H s → Vals xs us → r xs H Q →
    wpAny (model X.prog X.w) X.A (call f us) (EP X pins σ Q) X.xe s
noncomputable def tOp (r : R2) (ta tb : TE) : TE := fun σ H Q => ta σ H fun x H1 => tb σ H1 fun y H2 => r x y H2 Q
noncomputable def tUn (r : V → Hp → VK → Prop) (ta : TE) : TE := fun σ H Q => ta σ H fun x H1 => r x H1 Q
noncomputable def rI (C : Int → Int → Prop) (g : Int → Int → V) : R2 := fun x y H Q => ∃ i j, x = .int i ∧ y = .int j ∧ C i j ∧ Q (g i j) H
noncomputable def rI0 (g : Int → Int → V) : R2 := fun x y H Q => ∃ i j, x = .int i ∧ y = .int j ∧ Q (g i j) H
noncomputable def rU (g : Int → V) : V → Hp → VK → Prop := fun x H Q => ∃ i, x = .int i ∧ Q (g i) H
section
variable {X : Cx} {a b c : Expr} {ta tb tc : TE} {pos : Pos}
theorem binT (ha : PE X a ta) (hb : PE X b tb) {pins : List (Addr × Obj)} {s : Shared} {σ : St} {H : Hp} {R : V → V → Hp → Prop} (I : Inv X pins σ H s)
    (h : ta σ H fun x H1 => tb σ H1 fun y H2 => R x y H2) {Q : Value → Shared → Prop} {f : Value → Value → Sem Value}
    (hf : ∀ v u s2 x y H2, Inv X pins σ H2 s2 → RelV x v → RelV y u → R x y H2 → wpAny (model X.prog X.w) X.A (f v u) Q X.xe s2) :
    wpAny (model X.prog X.w) X.A (eval a X.env) (fun v s₁ => wpAny (model X.prog X.w) X.A (eval b X.env) (fun u s₂ => wpAny (model X.prog X.w) X.A (f v u) Q X.xe s₂) X.xe s₁) X.xe s := by
  refine thn (ha pins s σ H _ I h) fun v s1 ⟨x, H1, I1, r1, q1⟩ => ?_
  refine thn (hb pins s1 σ H1 _ I1 q1) fun u s2 ⟨y, H2, I2, r2, q2⟩ => ?_
  exact hf v u s2 x y H2 I2 r1 r2 q2
theorem pe_op {op : Operator} {r : R2} (ho : OpR X (binaryOp op) r) (ha : PE X a ta) (hb : PE X b tb) : PE X (.BinOp a op b pos) (tOp r ta tb) := by
  intro pins s σ H Q I h
  exact wpAny_BinOp (binT ha hb I h fun v u s2 x y H2 I2 rx ry q => ho pins s2 σ H2 x y v u Q I2 rx ry q)
theorem pe_un {op : UnaryOp} {r : V → Hp → VK → Prop} (ho : UnR X (unaryOp op) r) (ha : PE X a ta) : PE X (.UnaryOp op a pos) (tUn r ta) := by
  intro pins s σ H Q I h
  exact UnaryOp_ (thn (ha pins s σ H _ I h) fun v s1 ⟨x, H1, I1, r1, q1⟩ => ho pins s1 σ H1 x v Q I1 r1 q1)
theorem opI {f : Value → Value → Sem Value} {C : Int → Int → Prop} {g : Int → Int → Int}
    (rule : ∀ (i j : Int) (t u : Tok) (s : Shared) (Q : Value → Shared → Prop) (E : Value → Shared → Prop), C i j → Q (.int (g i j) s.toks) { s with toks := s.toks + 1 } → wpAny (model X.prog X.w) X.A (f (.int i t) (.int j u)) Q E s) :
    OpR X f (rI C fun i j => .int (g i j)) := by
  intro pins s σ H x y v u Q I rx ry h
  obtain ⟨i, j, rfl, rfl, hc, q⟩ := h
  obtain ⟨t, rfl⟩ := rx
  obtain ⟨t', rfl⟩ := ry
  exact rule i j t t' s _ _ hc ⟨.int (g i j), H, I.tok _, ⟨_, rfl⟩, q⟩
theorem opI0 {f : Value → Value → Sem Value} {g : Int → Int → Int}
    (rule : ∀ (i j : Int) (t u : Tok) (s : Shared) (Q : Value → Shared → Prop) (E : Value → Shared → Prop), Q (.int (g i j) s.toks) { s with toks := s.toks + 1 } → wpAny (model X.prog X.w) X.A (f (.int i t) (.int j u)) Q E s) :
    OpR X f (rI0 fun i j => .int (g i j)) := by
  intro pins s σ H x y v u Q I rx ry h
  obtain ⟨i, j, rfl, rfl, q⟩ := h
  obtain ⟨t, rfl⟩ := rx
  obtain ⟨t', rfl⟩ := ry
  exact rule i j t t' s _ _ ⟨.int (g i j), H, I.tok _, ⟨_, rfl⟩, q⟩
theorem opB0 {f : Value → Value → Sem Value} {g : Int → Int → Bool}
    (rule : ∀ (i j : Int) (t u : Tok) (s : Shared) (Q : Value → Shared → Prop) (E : Value → Shared → Prop), Q (.bool (g i j)) s → wpAny (model X.prog X.w) X.A (f (.int i t) (.int j u)) Q E s) :
    OpR X f (rI0 fun i j => .bl (g i j)) := by
  intro pins s σ H x y v u Q I rx ry h
  obtain ⟨i, j, rfl, rfl, q⟩ := h
  obtain ⟨t, rfl⟩ := rx
  obtain ⟨t', rfl⟩ := ry
  exact rule i j t t' s _ _ ⟨.bl (g i j), H, I, rfl, q⟩
noncomputable def CDiv (i j : Int) : Prop := 0 < j ∧ j < 1073741824
noncomputable def CMul (i j : Int) : Prop := (-(2 ^ 64) < i ∧ i < 2 ^ 64) ∨ (-(2 ^ 64) < j ∧ j < 2 ^ 64)
theorem CMul.ok {i j : Int} (h : CMul i j) : IntMulOk i j := by
  rcases h with ⟨h1, h2⟩ | ⟨h1, h2⟩
  · exact .of_left (intBits_le_64 h1 h2)
  · exact .of_right (intBits_le_64 h1 h2)
theorem op_add : OpR X (binaryOp .Add) (rI0 fun i j => .int (i + j)) := opI0 fun _ _ _ _ _ _ _ q => add_int q
theorem op_sub : OpR X (binaryOp .Sub) (rI0 fun i j => .int (i - j)) := opI0 fun _ _ _ _ _ _ _ q => sub_int q
theorem op_mul : OpR X (binaryOp .Mult) (rI CMul fun i j => .int (i * j)) := opI fun _ _ _ _ _ _ _ hc q => mul_int q hc.ok
theorem op_fdiv : OpR X (binaryOp .FloorDiv) (rI CDiv fun i j => .int (i / j)) := opI fun i j _ _ _ _ _ hc q => by
  have h1 : (0 : Int) < j := hc.1
  have h2 : j < 1073741824 := hc.2
  exact floordiv_int (by omega) (by rw [Int.fdiv_eq_ediv_of_nonneg i (by omega)]; exact q) (.inl (PyProof.noPylong_small (by omega)))
theorem op_mod : OpR X (binaryOp .Mod) (rI (fun _ j => 0 < j) fun i j => .int (i % j)) := opI fun i j _ _ _ _ _ hc q => by
  have h1 : (0 : Int) < j := hc
  exact mod_int' (by omega) (by rw [Int.fmod_eq_emod_of_nonneg i (by omega)]; exact q)
theorem unI {f : Value → Sem Value} {g : Int → Int}
    (rule : ∀ (i : Int) (t : Tok) (s : Shared) (Q : Value → Shared → Prop) (E : Value → Shared → Prop), Q (.int (g i) s.toks) { s with toks := s.toks + 1 } → wpAny (model X.prog X.w) X.A (f (.int i t)) Q E s) :
    UnR X f (rU fun i => .int (g i)) := by
  intro pins s σ H x v Q I rx h
  obtain ⟨i, rfl, q⟩ := h
  obtain ⟨t, rfl⟩ := rx
  exact rule i t s _ _ ⟨.int (g i), H, I.tok _, ⟨_, rfl⟩, q⟩
theorem un_neg : UnR X (unaryOp .USub) (rU fun i => .int (-i)) := unI fun _ _ _ _ _ q => neg_int q
end
noncomputable def scal : V → V → Bool
  | .non, .non => true | .non, .int _ => true | .int _, .non => true | .non, .bl _ => true | .bl _, .non => true | .non, .str _ => true | .str _, .non => true
  | .int _, .int _ => true | .bl _, .bl _ => true | .str _, .str _ => true | .byt _, .byt _ => true
  | .int _, .str _ => true | .str _, .int _ => true | .bl _, .str _ => true | .str _, .bl _ => true
  | _, _ => false
noncomputable def rEq : R2 := fun x y H Q => scal x y = true ∧ Q (.bl (decide (x = y))) H
noncomputable def rNe : R2 := fun x y H Q => scal x y = true ∧ Q (.bl (!decide (x = y))) H
theorem dec_int {i j : Int} : decide (V.int i = V.int j) = (i == j) := by
  rw [Bool.eq_iff_iff]
  simp
theorem dec_bl {i j : Bool} : decide (V.bl i = V.bl j) = (i == j) := by
  rw [Bool.eq_iff_iff]
  simp
theorem dec_str {i j : Str} : decide (V.str i = V.str j) = (i == j) := by
  rw [Bool.eq_iff_iff]
  simp
theorem dec_byt {i j : Array UInt8} : decide (V.byt i = V.byt j) = (i.toList == j.toList) := by
  rw [Bool.eq_iff_iff]
  cases i
  cases j
  simp
section
variable {X : Cx} {a b c : Expr} {ta tb tc : TE} {pos : Pos}
theorem fin_bl {pins : List (Addr × Obj)} {σ : St} {H : Hp} {s : Shared} {Q : VK} {k k' : Bool} (I : Inv X pins σ H s) (q : Q (.bl k) H) (e : k = k') : EP X pins σ Q (.bool k') s := by
  subst e
  exact ⟨.bl k, H, I, rfl, q⟩
theorem op_eq : OpR X (compareOp .Eq) rEq := by
  intro pins s σ H x y v u Q I rx ry h
  obtain ⟨hs, q⟩ := h
  cases x with
  | non =>
    cases rx
    cases y with
    | non => cases ry; exact PySem.EqNone.eq_none_none (fin_bl I q (by simp))
    | bl j => cases ry; exact PySem.EqNone.eq_none_bool (fin_bl I q (by simp))
    | int j => obtain ⟨t', rfl⟩ := ry; exact PySem.EqNone.eq_none_int (fin_bl I q (by simp))
    | str j => obtain ⟨t', rfl⟩ := ry; exact PySem.EqNone.eq_none_str (fin_bl I q (by simp))
    | _ => exact absurd (show false = true from hs) Bool.false_ne_true
  | bl i =>
    cases rx
    cases y with
    | non => cases ry; exact PySem.EqNone.eq_bool_none (fin_bl I q (by simp))
    | bl j => cases ry; exact eq_bool (fin_bl I q dec_bl)
    | str j => obtain ⟨t', rfl⟩ := ry; exact PySem.EqMixed.eq_bool_str (fin_bl I q (by simp))
    | _ => exact absurd (show false = true from hs) Bool.false_ne_true
  | int i =>
    obtain ⟨t, rfl⟩ := rx
    cases y with
    | non => cases ry; exact PySem.EqNone.eq_int_none (fin_bl I q (by simp))
    | int j => obtain ⟨t', rfl⟩ := ry; exact eq_int (fin_bl I q dec_int)
    | str j => obtain ⟨t', rfl⟩ := ry; exact PySem.EqMixed.eq_int_str (fin_bl I q (by simp))
    | _ => exact absurd (show false = true from hs) Bool.false_ne_true
  | str i =>
    obtain ⟨t, rfl⟩ := rx
    cases y with
    | non => cases ry; exact PySem.EqNone.eq_str_none (fin_bl I q (by simp))
    | bl j => cases ry; exact PySem.EqMixed.eq_str_bool (fin_bl I q (by simp))
    | int j => obtain ⟨t', rfl⟩ := ry; exact PySem.EqMixed.eq_str_int (fin_bl I q (by simp))
    | str j => obtain ⟨t', rfl⟩ := ry; exact eq_str (fin_bl I q dec_str)
    | _ => exact absurd (show false = true from hs) Bool.false_ne_true
  | byt i =>
    obtain ⟨t, rfl⟩ := rx
    cases y with
    | byt j => obtain ⟨t', rfl⟩ := ry; exact PySem.W.eq_bytes (fin_bl I q dec_byt)
    | _ => exact absurd (show false = true from hs) Bool.false_ne_true
  | _ => cases y <;> exact absurd (show false = true from hs) Bool.false_ne_true
theorem op_ne : OpR X (compareOp .NotEq) rNe := by
  intro pins s σ H x y v u Q I rx ry h
  obtain ⟨hs, q⟩ := h
  cases x with
  | non =>
    cases rx
    cases y with
    | non => cases ry; exact PySem.EqNone.ne_none_none (fin_bl I q (by simp))
    | bl j => cases ry; exact PySem.EqNone.ne_none_bool (fin_bl I q (by simp))
    | int j => obtain ⟨t', rfl⟩ := ry; exact PySem.EqNone.ne_none_int (fin_bl I q (by simp))
    | str j => obtain ⟨t', rfl⟩ := ry; exact PySem.EqNone.ne_none_str (fin_bl I q (by simp))
    | _ => exact absurd (show false = true from hs) Bool.false_ne_true
  | bl i =>
    cases rx
    cases y with
    | non => cases ry; exact PySem.EqNone.ne_bool_none (fin_bl I q (by simp))
    | bl j => cases ry; exact ne_bool (fin_bl I q (congrArg not dec_bl))
    | str j => obtain ⟨t', rfl⟩ := ry; exact PySem.EqMixed.ne_bool_str (fin_bl I q (by simp))
    | _ => exact absurd (show false = true from hs) Bool.false_ne_true
  | int i =>
    obtain ⟨t, rfl⟩ := rx
    cases y with
    | non => cases ry; exact PySem.EqNone.ne_int_none (fin_bl I q (by simp))
    | int j => obtain ⟨t', rfl⟩ := ry; exact ne_int (fin_bl I q (congrArg not dec_int))
    | str j => obtain ⟨t', rfl⟩ := ry; exact PySem.EqMixed.ne_int_str (fin_bl I q (by simp))
    | _ => exact absurd (show false = true from hs) Bool.false_ne_true
  | str i =>
    obtain ⟨t, rfl⟩ := rx
    cases y with
    | non => cases ry; exact PySem.EqNone.ne_str_none (fin_bl I q (by simp))
    | bl j => cases ry; exact PySem.EqMixed.ne_str_bool (fin_bl I q (by simp))
    | int j => obtain ⟨t', rfl⟩ := ry; exact PySem.EqMixed.ne_str_int (fin_bl I q (by simp))
    | str j => obtain ⟨t', rfl⟩ := ry; exact ne_str (fin_bl I q (congrArg not dec_str))
    | _ => exact absurd (show false = true from hs) Bool.false_ne_true
  | byt i =>
    obtain ⟨t, rfl⟩ := rx
    cases y with
    | byt j => obtain ⟨t', rfl⟩ := ry; exact PySem.W.ne_bytes (fin_bl I q (congrArg not dec_byt))
    | _ => exact absurd (show false = true from hs) Bool.false_ne_true
  | _ => cases y <;> exact absurd (show false = true from hs) Bool.false_ne_true
theorem op_lt : OpR X (compareOp .Lt) (rI0 fun i j => .bl (decide (i < j))) := opB0 fun _ _ _ _ _ _ _ q => lt_int q
theorem op_gt : OpR X (compareOp .Gt) (rI0 fun i j => .bl (decide (j < i))) := opB0 fun _ _ _ _ _ _ _ q => gt_int q
theorem op_ge : OpR X (compareOp .GtE) (rI0 fun i j => .bl (decide (j ≤ i))) := opB0 fun _ _ _ _ _ _ _ q => ge_int q
theorem op_isN : OpR X (compareOp .Is) (fun x y H Q => y = .non ∧ Q (.bl (decide (x = .non))) H) := by
  intro pins s σ H x y v u Q I rx ry h
  obtain ⟨rfl, q⟩ := h
  cases ry
  refine is_none_gen (fin_bl I q ?_)
  cases x <;> first
    | (cases rx; rfl)
    | (obtain ⟨t, rfl⟩ := rx; rfl)
theorem op_notN : OpR X (compareOp .IsNot) (fun x y H Q => y = .non ∧ Q (.bl (!decide (x = .non))) H) := by
  intro pins s σ H x y v u Q I rx ry h
  obtain ⟨rfl, q⟩ := h
  cases ry
  refine isnot_none_gen (fin_bl I q ?_)
  cases x <;> first
    | (cases rx; rfl)
    | (obtain ⟨t, rfl⟩ := rx; rfl)
theorem nomark (b : Expr) {op : CmpOp} (h : autoParam (op ≠ .In) L2.aDec._auto_1) (h2 : autoParam (op ≠ .NotIn) L2.aDec._auto_1) : behindInMarks op b = false := by
  have e1 : (op == CmpOp.In) = false := by cases op <;> first | rfl | exact absurd rfl h
  have e2 : (op == CmpOp.NotIn) = false := by cases op <;> first | rfl | exact absurd rfl h2
  cases b <;> simp [behindInMarks, e1, e2]
theorem pe_cmpR {op : CmpOp} {r : R2} (ho : OpR X (compareOp op) r) (ha : PE X a ta) (hb : PE X b tb) (hm : behindInMarks op b = false) : PE X (.Compare a [op] [b] pos) (tOp r ta tb) := by
  intro pins s σ H Q I h
  exact wpAny_Compare1 (binT ha hb I h fun v u s2 x y H2 I2 rx ry q => ho pins s2 σ H2 x y v u Q I2 rx ry q) hm
noncomputable def tTest (t : TE) : TT := fun σ H Q => t σ H fun x H' => ∃ k, x = .bl k ∧ Q k H'
theorem pt_cmpR {op : CmpOp} {r : R2} (ho : OpR X (compareOp op) r) (ha : PE X a ta) (hb : PE X b tb) (hm : behindInMarks op b = false) : PT X (.Compare a [op] [b] pos) (tTest (tOp r ta tb)) := by
  intro pins s σ H Q I h
  refine wpAny_isTrue_Compare1 (thn (ha pins s σ H _ I h) fun v s1 ⟨x, H1, I1, r1, q1⟩ => thn (hb pins s1 σ H1 _ I1 q1) fun u s2 ⟨y, H2, I2, r2, q2⟩ =>
    thn (ho pins s2 σ H2 x y v u _ I2 r1 r2 q2) fun c s3 ⟨z, H3, I3, r3, k, e, q3⟩ => ?_) hm
  subst e
  cases r3
  exact wpAny_truthy_bool ⟨H3, I3, q3⟩
theorem line63 : (sizeLine : Nat) < 2 ^ 63 := by rw [sizeLine_eq]; decide
theorem vals1 {x : V} {us : List Value} (r : Vals [x] us) : ∃ u, us = [u] ∧ RelV x u := by
  cases r with
  | cons r1 r2 => cases r2; exact ⟨_, rfl, r1⟩
theorem vals2 {x y : V} {us : List Value} (r : Vals [x, y] us) : ∃ u w', us = [u, w'] ∧ RelV x u ∧ RelV y w' := by
  cases r with
  | cons r1 r2 =>
    cases r2 with
    | cons r3 r4 => cases r4; exact ⟨_, _, rfl, r1, r3⟩
theorem call_abs : CallR X (.builtin "abs") (fun xs H Q => ∃ i, xs = [.int i] ∧ Q (.int (if i < 0 then -i else i)) H) := by
  intro pins s σ H xs us Q I r h
  obtain ⟨i, rfl, q⟩ := h
  obtain ⟨u, rfl, t, rfl⟩ := vals1 r
  exact call_abs_int fun u tk => ⟨.int (if i < 0 then -i else i), H, I.tok _, ⟨_, rfl⟩, q⟩
theorem call_max2 (hc : X.calm = true) : CallR X (.builtin "max") (fun xs H Q => ∃ i j, xs = [.int i, .int j] ∧ Q (.int (if j > i then j else i)) H) := by
  intro pins s σ H xs us Q I r h
  obtain ⟨i, j, rfl, q⟩ := h
  obtain ⟨u, w', rfl, ⟨t, rfl⟩, ⟨t', rfl⟩⟩ := vals2 r
  refine max_two_ints (I.ok.hd hc) fun h' tk k => ⟨_, H, I.kept k, ?_, q⟩
  by_cases hj : j > i
  · rw [if_pos hj, if_pos hj]; exact ⟨_, rfl⟩
  · rw [if_neg hj, if_neg hj]; exact ⟨_, rfl⟩
theorem call_min2 (hc : X.calm = true) : CallR X (.builtin "min") (fun xs H Q => ∃ i j, xs = [.int i, .int j] ∧ Q (.int (if j < i then j else i)) H) := by
  intro pins s σ H xs us Q I r h
  obtain ⟨i, j, rfl, q⟩ := h
  obtain ⟨u, w', rfl, ⟨t, rfl⟩, ⟨t', rfl⟩⟩ := vals2 r
  refine min_two_ints (I.ok.hd hc) fun h' tk k => ⟨_, H, I.kept k, ?_, q⟩
  by_cases hj : j < i
  · rw [if_pos hj, if_pos hj]; exact ⟨_, rfl⟩
  · rw [if_neg hj, if_neg hj]; exact ⟨_, rfl⟩
theorem call_int1 : CallR X (.type "int") (fun xs H Q => (∃ i, xs = [.int i] ∧ Q (.int i) H) ∨ ∃ k, xs = [.bl k] ∧ Q (.int (if k then 1 else 0)) H) := by
  intro pins s σ H xs us Q I r h
  rcases h with ⟨i, rfl, q⟩ | ⟨k, rfl, q⟩
  · obtain ⟨u, rfl, t, rfl⟩ := vals1 r
    exact call_int_int ⟨.int i, H, I, ⟨_, rfl⟩, q⟩
  · obtain ⟨u, rfl, r1⟩ := vals1 r
    cases r1
    exact call_int_bool ⟨.int (if k then 1 else 0), H, I.tok _, ⟨_, rfl⟩, q⟩
end
end L2
namespace L2
open PySem PySem.Spec PyProof.Rows
structure ObjM (h : Heap) (x dx C : Addr) (mA : Str → Option Value) : Prop where
  obj : h.get? x = some (PySem.W.instObj C dx)
  ns : h.Ns1 dx mA
  ne : dx ≠ x
theorem lookIn_ns {h : Heap} {dx : Addr} {mA : Str → Option Value} (n : h.Ns1 dx mA) : ∃ od, h.get? dx = some od ∧ ∀ name, PySem.W.lookIn name od = some (mA name) := by
  obtain ⟨o, es, ep, ho, hd, hk, _, hm⟩ := n
  refine ⟨o, ho, fun name => ?_⟩
  have e := hm name
  unfold nsFind findBy at e
  rw [← Array.find?_toList] at e
  unfold PySem.W.lookIn
  rw [hd]
  dsimp only
  split
  · rename_i y q
    rw [q] at e
    exact congrArg some e
  · rename_i q
    rw [q] at e
    have a : es.toList.any (·.refKey) = false := by
      rw [List.any_eq_false]
      intro y hy
      obtain ⟨z, t, hkey⟩ := hk y (Array.mem_toList_iff.mp hy)
      simp [DictEntry.refKey, hkey]
    have a' : ¬ es.toList.any (·.refKey) = true := by rw [a]; exact Bool.false_ne_true
    rw [if_neg a']
    exact congrArg some e
theorem ObjM.look {h : Heap} {x dx C : Addr} {mA : Str → Option Value} (I : ObjM h x dx C mA) : ∃ od, PySem.W.InstAt h x (PySem.W.instObj C dx) C (some od) ∧ ∀ name, PySem.W.lookIn name od = some (mA name) :=
  let ⟨od, ho, hl⟩ := lookIn_ns I.ns
  ⟨od, ⟨I.obj, rfl, rfl, ho⟩, hl⟩
section
variable {prog : Program} {w : World} {A : Around} {E : Value → Shared → Prop} {s : Shared} {K : PySem.W.Frag} {x dx C f : Addr} {mA : Str → Option Value} {name : Str} {v : Value}
theorem get_map {expr : Bool} {Q : Value → Shared → Prop} (X : K.In s.heap) (I : ObjM s.heap x dx C mA) (hg : PySem.W.plainGet K C name = true) (hh : PySem.W.hasDictIn K C = true)
    (ha : PySem.W.findIn K (.ref C) name = some none) (hv : mA name = some v) (hv' : PySem.W.handedIn v = true) (h : Q v { s with toks := s.toks + 1 }) :
    wpAny (model prog w) A (getAttr (.ref x) name expr) Q E s := by
  obtain ⟨od, J, hl⟩ := I.look
  exact PySem.W.get_value X J (PySem.W.plainGet_of hg).1 (PySem.W.findObj_own hh ha rfl (by rw [hl, hv])) hv' h
theorem get_meth {pl : Sem Bool} {Q : Value × List Value → Shared → Prop} (X : K.In s.heap) (I : ObjM s.heap x dx C mA) (hg : PySem.W.plainGet K C name = true)
    (hf : PySem.W.findIn K (.ref C) name = some (some (.ref f))) (ht : PySem.W.isFn K (.ref f) = true) (hv : mA name = none) (h : Q (.ref f, [.ref x]) s) :
    wpAny (model prog w) A (getMethod (.ref x) name pl) Q E s := by
  obtain ⟨od, J, hl⟩ := I.look
  exact PySem.W.method_fn X J (PySem.W.plainGet_of hg).1 (PySem.W.plainGet_of hg).2 hf (beq_iff_eq.mp ht) (by show (PySem.W.lookIn name od).map (·.isSome) = some false; rw [hl, hv]; rfl) h
theorem set_map {ns : List Str} {Q : Unit → Shared → Prop} (X : K.In s.heap) (I : ObjM s.heap x dx C mA)
    (hs : PySem.W.findIn K (.ref C) "__setattr__" = some (some (.builtin "object.__setattr__"))) (hp : PySem.W.plainOver K C = true) (ht : PySem.W.takerIn K C name = some none) (hh : PySem.W.hasDictIn K C = true)
    (hw : PySem.Within mA ns) (hsz : ns.length ≤ sizeLine)
    (h : ∀ h', ObjM h' x dx C (fun y => if y = name then some v else mA y) → Heap.SameBut dx s.heap h' → Q () { s with heap := h', toks := s.toks + 2 }) :
    wpAny (model prog w) A (setAttr (.ref x) name v) Q E s := by
  obtain ⟨od, J, hl⟩ := I.look
  refine PySem.W.set_plain X J hs (PySem.W.osa_open (s := { s with toks := s.toks + 1 }) (r := none) X J hp ht fun b => ?_)
  obtain ⟨cd, hc, hd'⟩ := PySem.W.any_some hh
  have hx : s.heap.get? x = some ⟨.ref C, some dx, .plain, #[]⟩ := I.obj
  refine wpAny_bind (wpAny_pure (wpAny_bind (wpAny_bind (wpAny_loadPart hx (wpAny_bind (PySem.W.Looks.here (s := { s with toks := s.toks + 1 }) (PySem.W.looks_clsIn X hc) ?_))))))
  rw [hd']
  refine wpAny_pure (a := some dx) (wpAny_bind (wpAny_pure (wpAny_bind ?_)))
  refine wpAny_nsSet1 (s := { s with toks := s.toks + 1 }) I.ns fun h' hn2 hs2 => ?_
  obtain ⟨oD, esD, epD, hoD, hdD, hcD⟩ := hn2.count (PySem.Within.cons name v hw)
  refine wpAny_bind (wpAny_lookBehind hoD (by rw [hdD]; exact pastItsLine_dict (Nat.le_trans hcD (by rw [List.length_cons]; omega))) ?_)
  exact wpAny_pure (h _ ⟨(hs2.2 _ (Ne.symm I.ne)).trans I.obj, hn2, I.ne⟩ hs2)
theorem make_map {R : Result → Shared → Prop} {vs : List Value} {kw : List (Str × Value)} (X : K.In s.heap) (hm : PySem.W.makesIn K C = true)
    (hi : PySem.W.findIn K (.ref C) "__init__" = some (some (.ref f))) (hf : PySem.W.typeIn K (.ref f) = some (.type "function"))
    (h : codeAny (model prog w) (A.under (.builtin "type.__call__" ⟨.ref C :: vs, kw⟩)) (.call (.ref f) ⟨.ref (s.heap.objs.size + 1) :: vs, kw⟩) (PySem.W.InitBack (s.heap.objs.size + 1) R)
      { s with heap := (s.heap.push PySem.W.emptyDict).push (PySem.W.instObj C s.heap.objs.size) }) :
    codeAny (model prog w) A (.call (.ref C) ⟨vs, kw⟩) R s := by
  obtain ⟨hh, g, d, t, os⟩ := s
  exact PySem.W.make_core (PySem.W.makes_of X hm) (PySem.W.looks_findIn X hi) (fun self => PySem.W.bind_fn X self hf) (.inl rfl) h
end
noncomputable def putF (f : Str) (v : V) : List (Str × V) → List (Str × V)
  | [] => [(f, v)]
  | (g, x) :: r => if g = f then (g, v) :: r else (g, x) :: putF f v r
theorem lookup_putF (f g : Str) (v : V) : ∀ fs : List (Str × V), (putF f v fs).lookup g = if g = f then some v else fs.lookup g
  | [] => by
    show List.lookup g [(f, v)] = _
    by_cases h : g = f
    · have hb : (g == f) = true := beq_iff_eq.mpr h
      simp only [List.lookup, hb, if_pos h]
    · have hb : (g == f) = false := beq_eq_false_iff_ne.mpr h
      simp only [List.lookup, hb, if_neg h]
  | (k, x) :: r => by
    have ih := lookup_putF f g v r
    rw [show putF f v ((k, x) :: r) = (if k = f then (k, v) :: r else (k, x) :: putF f v r) from rfl]
    by_cases hk : k = f
    · rw [if_pos hk]
      by_cases h : g = k
      · have hb : (g == k) = true := beq_iff_eq.mpr h
        simp only [List.lookup, hb, if_pos (h.trans hk)]
      · have hb : (g == k) = false := beq_eq_false_iff_ne.mpr h
        simp only [List.lookup, hb, if_neg (fun e : g = f => h (e.trans hk.symm))]
    · rw [if_neg hk]
      by_cases h : g = k
      · have hb : (g == k) = true := beq_iff_eq.mpr h
        simp only [List.lookup, hb, if_neg (fun e : g = f => hk (h.symm.trans e))]
      · have hb : (g == k) = false := beq_eq_false_iff_ne.mpr h
        simp only [List.lookup, hb]
        exact ih
theorem keys_putF (f : Str) (v : V) : ∀ fs : List (Str × V), f ∈ (putF f v fs).map (·.1) ∧ ∀ g, g ∈ fs.map (·.1) → g ∈ (putF f v fs).map (·.1)
  | [] => ⟨by simp [putF], fun g h => by simp at h⟩
  | (k, x) :: r => by
    obtain ⟨i1, i2⟩ := keys_putF f v r
    rw [show putF f v ((k, x) :: r) = (if k = f then (k, v) :: r else (k, x) :: putF f v r) from rfl]
    by_cases hk : k = f
    · rw [if_pos hk]
      subst hk
      exact ⟨by simp, fun g h => by simpa using h⟩
    · rw [if_neg hk]
      refine ⟨?_, fun g h => ?_⟩
      · rw [List.map_cons]
        exact List.mem_cons_of_mem _ i1
      · rw [List.map_cons] at h ⊢
        rcases List.mem_cons.mp h with e | e
        · exact List.mem_cons.mpr (.inl e)
        · exact List.mem_cons_of_mem _ (i2 g e)
theorem length_putF (f : Str) (v : V) : ∀ fs : List (Str × V), (putF f v fs).length ≤ fs.length + 1
  | [] => by simp [putF]
  | (k, x) :: r => by
    have ih := length_putF f v r
    rw [show putF f v ((k, x) :: r) = (if k = f then (k, v) :: r else (k, x) :: putF f v r) from rfl]
    by_cases hk : k = f
    · rw [if_pos hk, List.length_cons, List.length_cons]; omega
    · rw [if_neg hk, List.length_cons, List.length_cons]; omega
theorem RelO.some_of {v : V} {o : Option Value} (r : RelO (some v) o) : ∃ u, o = some u ∧ RelV v u := by
  cases o with
  | none => exact (show False from r).elim
  | some u => exact ⟨u, rfl, r⟩
theorem RelO.none_of {o : Option Value} (r : RelO none o) : o = none := by
  cases o with
  | none => rfl
  | some u => exact (show False from r).elim
theorem handed_of {v : V} {u : Value} (r : RelV v u) : PySem.W.handedIn u = true := by
  cases v with
  | non => cases (show u = Value.none from r); rfl
  | bl b => cases (show u = Value.bool b from r); rfl
  | int i => obtain ⟨t, e⟩ := (show ∃ t, u = Value.int i t from r); cases e; rfl
  | str x => obtain ⟨t, e⟩ := (show ∃ t, u = Value.str x t from r); cases e; rfl
  | byt b => obtain ⟨t, e⟩ := (show ∃ t, u = Value.bytes b t from r); cases e; rfl
  | flt b => obtain ⟨t, e⟩ := (show ∃ t, u = Value.float b t from r); cases e; rfl
  | ref a => cases (show u = Value.ref a from r); rfl
  | ty n => cases (show u = Value.type n from r); rfl
section
variable {P : Program} {w : World} {H H' : Hp} {h h' : Heap} {a C dx : Addr} {fs fs' : List (Str × V)}
theorem ins_get (hok : HOk P w H h) (e : H a = some (.ins C dx fs)) : ∃ mA, ObjM h a dx C mA ∧ (∀ f, RelO (fs.lookup f) (mA f)) ∧ PySem.Within mA (fs.map (·.1)) ∧ fs.length ≤ 1000 ∧ H dx = some (.own a) := by
  obtain ⟨d, z, ne, ob, mA, n, r, q⟩ := (show ObjOk P w H h a (.ins C dx fs) from hok a _ e)
  exact ⟨mA, ⟨ob, n, ne⟩, r, q, z, d⟩
end
structure Cls (K : PySem.W.Frag) (C : Addr) : Prop where
  pg : PySem.W.plainGet K C Str.empty = true
  hd : PySem.W.hasDictIn K C = true
  po : PySem.W.plainOver K C = true
  sa : PySem.W.findIn K (.ref C) "__setattr__" = some (some (.builtin "object.__setattr__"))
theorem Cls.get {K : PySem.W.Frag} {C : Addr} (c : Cls K C) (f : Str) : PySem.W.plainGet K C f = true := c.pg
noncomputable def NoAttr (K : PySem.W.Frag) (C : Addr) (f : Str) : Prop := PySem.W.findIn K (.ref C) f = some none
theorem NoAttr.taker {K : PySem.W.Frag} {C : Addr} {f : Str} (n : NoAttr K C f) : PySem.W.takerIn K C f = some none := by
  unfold PySem.W.takerIn
  rw [show PySem.W.findIn K (.ref C) f = some none from n]
  rfl
structure Meth (K : PySem.W.Frag) (C : Addr) (m : Str) (f : Addr) : Prop where
  at_ : PySem.W.findIn K (.ref C) m = some (some (.ref f))
  fn : PySem.W.isFn K (.ref f) = true
  kp : PySem.W.keepIn K (.ref f) = true
section
variable {X : Cx} {pins : List (Addr × Obj)} {σ : St} {H : Hp} {s : Shared} {a C dx : Addr} {fs : List (Str × V)} {f : Str} {v : V} {A : Around} {E : Value → Shared → Prop}
theorem getattr_ok {b : Bool} {Q : Value → Shared → Prop} (I : Inv X pins σ H s) (e : H a = some (.ins C dx fs)) (c : Cls X.K C) (n : NoAttr X.K C f) (l : fs.lookup f = some v)
    (h : ∀ u s', Inv X pins σ H s' → RelV v u → Q u s') : wpAny (model X.prog X.w) A (getAttr (.ref a) f b) Q E s := by
  obtain ⟨mA, O, r, _, _, _⟩ := ins_get I.hok e
  obtain ⟨u, hu, ru⟩ := RelO.some_of (v := v) (o := mA f) (by rw [← l]; exact r f)
  exact get_map I.kIn O (c.get f) c.hd n hu (handed_of ru) (h u _ (I.tok _) ru)
theorem getmeth_ok {m : Str} {g : Addr} {pl : Sem Bool} {Q : Value × List Value → Shared → Prop} (I : Inv X pins σ H s) (e : H a = some (.ins C dx fs)) (c : Cls X.K C) (k : Meth X.K C m g) (l : fs.lookup m = none)
    (h : Q (.ref g, [.ref a]) s) : wpAny (model X.prog X.w) A (getMethod (.ref a) m pl) Q E s := by
  obtain ⟨mA, O, r, _, _, _⟩ := ins_get I.hok e
  have hn : mA m = none := RelO.none_of (by rw [← l]; exact r m)
  exact get_meth I.kIn O (c.get m) k.at_ k.fn hn h
theorem setattr_ok {y : V} {u : Value} {Q : Unit → Shared → Prop} (I : Inv X pins σ H s) (e : H a = some (.ins C dx fs)) (c : Cls X.K C) (n : NoAttr X.K C f) (hl : fs.length < 1000) (ry : RelV y u)
    (h : ∀ s', Inv X pins σ (upd H a (.ins C dx (putF f y fs))) s' → Q () s') : wpAny (model X.prog X.w) A (setAttr (.ref a) f u) Q E s := by
  obtain ⟨mA, O, r, wi, _, ho⟩ := ins_get I.hok e
  have hz : (fs.map (·.1)).length ≤ sizeLine := by rw [List.length_map, sizeLine_eq]; omega
  refine set_map I.kIn O c.sa c.po n.taker c.hd wi hz fun h' O' sb => h _ ?_
  have hd : ∃ o, h'.get? dx = some o := let ⟨o, _, _, e', _⟩ := O'.ns; ⟨o, e'⟩
  refine I.write (x := a) (e := dx) (by rw [e]; exact True.intro) (.inr ho) (fun b q hb z => (sb.2 b hb).trans z) hd ?_
  refine ⟨by rw [upd_ne O.ne]; exact ho, ?_, O.ne, O'.obj, _, O'.ns, fun g => ?_, fun g hg => ?_⟩
  · have := length_putF f y fs; omega
  · show RelO ((putF f y fs).lookup g) (if g = f then some u else mA g)
    rw [lookup_putF]
    by_cases q : g = f
    · rw [if_pos q, if_pos q]; exact ry
    · rw [if_neg q, if_neg q]; exact r g
  · by_cases q : g = f
    · rw [q]; exact (keys_putF f y fs).1
    · refine (keys_putF f y fs).2 g (wi g fun z => hg ?_)
      show (if g = f then some u else mA g) = none
      rw [if_neg q]; exact z
theorem Inv.made (I : Inv X pins σ H s) : Inv X pins σ (upd (upd H s.heap.objs.size (.own (s.heap.objs.size + 1))) (s.heap.objs.size + 1) (.ins C s.heap.objs.size []))
    { s with heap := (s.heap.push PySem.W.emptyDict).push (PySem.W.instObj C s.heap.objs.size) } := by
  have e1 : (s.heap.push PySem.W.emptyDict).get? s.heap.objs.size = some PySem.W.emptyDict := Heap.get?_push_size s.heap rfl
  have e2 : ((s.heap.push PySem.W.emptyDict).push (PySem.W.instObj C s.heap.objs.size)).get? (s.heap.objs.size + 1) = some (PySem.W.instObj C s.heap.objs.size) := by
    have := Heap.get?_push_size (s.heap.push PySem.W.emptyDict) (o := PySem.W.instObj C s.heap.objs.size) rfl
    rwa [Heap.size_push] at this
  have e3 : (s.heap.push PySem.W.emptyDict).Ns s.heap.objs.size (fun _ => none) := ⟨PySem.W.emptyDict, #[], _, e1, rfl, (fun e he => absurd he (by simp)), fun _ => rfl⟩
  have I1 := I.laid (a := s.heap.objs.size) (o := .own (s.heap.objs.size + 1)) (h' := s.heap.push PySem.W.emptyDict) (t' := s.toks) (fun b u q => Heap.get?_push_of_some _ q) (Nat.le_refl _) ⟨_, e1⟩
  refine I1.laid (a := s.heap.objs.size + 1) (o := .ins C s.heap.objs.size []) (t' := s.toks) (fun b u q => Heap.get?_push_of_some _ q) (Nat.le_of_eq (Heap.size_push _ _)) ?_
  have ne : s.heap.objs.size ≠ s.heap.objs.size + 1 := Nat.ne_of_lt (Nat.lt_succ_self _)
  refine ⟨by rw [upd_ne ne, upd_same], Nat.zero_le _, ne, e2, fun _ => none, (Heap.Ns1.of_empty e3).at fun o q => Heap.get?_push_of_some _ q, fun _ => True.intro, fun y hy => absurd rfl hy⟩
theorem attr_of {prog : Program} {w : World} {env : Env} {e : Expr} {f : Str} {pos : Pos} {s : Shared} {Q : Value → Shared → Prop} (hb : attributeBase e f env (eval e env) = eval e env)
    (h : wpAny (model prog w) A (eval e env) (fun o s₁ => wpAny (model prog w) A (getAttr o f true) Q E s₁) E s) : wpAny (model prog w) A (eval (.Attribute e f pos) env) Q E s :=
  Attribute_any_ h (by rw [arm_eval_Attribute, hb])
end
noncomputable def tFld (K : PySem.W.Frag) (ta : TE) (f : Str) : TE := fun σ H Q => ta σ H fun x H1 => ∃ a C dx fs v, x = .ref a ∧ H1 a = some (.ins C dx fs) ∧ Cls K C ∧ NoAttr K C f ∧ fs.lookup f = some v ∧ Q v H1
noncomputable def sFld (K : PySem.W.Frag) (ta tv : TE) (f : Str) : TS := fun D σ H => tv σ H fun y H1 => ta σ H1 fun x H2 => ∃ a C dx fs, x = .ref a ∧ H2 a = some (.ins C dx fs) ∧ Cls K C ∧ NoAttr K C f ∧ fs.length < 1000 ∧
  D.nx σ (upd H2 a (.ins C dx (putF f y fs)))
section
variable {X : Cx} {o e value : Expr} {f : Str} {pos pos' tpos : Pos} {ta tv : TE}
theorem pe_fld (he : PE X e ta) (hb : attributeBase e f X.env (eval e X.env) = eval e X.env) : PE X (.Attribute e f pos) (tFld X.K ta f) := by
  intro pins s σ H Q I h
  refine attr_of hb (thn (he pins s σ H _ I h) fun u s1 ⟨x, H1, I1, rx, a, C, dx, fs, v, ex, ea, c, n, l, q⟩ => ?_)
  subst ex
  obtain rfl : u = Value.ref a := rx
  exact getattr_ok I1 ea c n l fun u' s2 I2 ru => ⟨v, H1, I2, ru, q⟩
theorem ps_fld (ha : PE X o ta) (hv : PE X value tv) (hs : swapsWith value (some (.Attribute o f pos')) pos.line X.env = pure false) : PS X (.Assign [.Attribute o f pos'] value pos) (sFld X.K ta tv f) := by
  intro pins s σ H D I h
  refine plainObj_wpAny_Assign_Attribute (thn (hv pins s σ H _ I h) fun u s1 ⟨y, H1, I1, ry, q⟩ => thn (ha pins s1 σ H1 _ I1 q) fun ov s2 ⟨x, H2, I2, rx, a, C, dx, fs, ex, ea, c, n, l, q2⟩ => ?_) hs
  subst ex
  obtain rfl : ov = Value.ref a := rx
  exact setattr_ok I2 ea c n l ry fun s3 I3 => ⟨σ, _, I3, q2⟩
end
section
variable {X : Cx} {pins : List (Addr × Obj)} {σ : St} {H : Hp} {s : Shared} {A : Around} {E : Value → Shared → Prop} {Q : Value → Shared → Prop} {c : Value} {b : Bool}
end
end L2
namespace L2
open PySem PySem.Spec PyProof.Rows
structure Room (k : Nat) (A : Around) : Prop where
  hd : A.handled = none
  dp : A.depth + 3 * k + 5 < recursionLimit
  un : A.units + 16 * k + 200 < cLine
theorem Room.mono {j k : Nat} {A : Around} (r : Room k A) (h : j ≤ k) : Room j A := ⟨r.hd, by have := r.dp; omega, by have := r.un; omega⟩
theorem Room.deeper {k : Nat} {A : Around} (r : Room (k + 1) A) (env : Env) : Room k (A.deeper env) :=
  ⟨r.hd, by have := r.dp; show A.depth + 1 + 3 * k + 5 < _; omega, by have := r.un; show A.units + 3 + 16 * k + 200 < _; omega⟩
theorem make_depth {A : Around} {C : Addr} {us : List Value} {kw : List (Str × Value)} : (A.under (.builtin "type.__call__" ⟨.ref C :: us, kw⟩)).depth = A.depth + 1 := by
  first | rfl | simp [Around.under, Code.weight, Code.isCreation, Code.isGuard, Code.isCaller, Code.frames, Code.isFrame, guardIds]
theorem make_units {A : Around} {C : Addr} {us : List Value} {kw : List (Str × Value)} : (A.under (.builtin "type.__call__" ⟨.ref C :: us, kw⟩)).units = A.units + 1 := by
  first | rfl | simp [Around.under, Code.cUnits, Code.frames, Code.isFrame]
theorem Room.make {k : Nat} {A : Around} (r : Room (k + 1) A) (C : Addr) (us : List Value) (kw : List (Str × Value)) : Room k (A.under (.builtin "type.__call__" ⟨.ref C :: us, kw⟩)) :=
  ⟨r.hd, by have := r.dp; rw [make_depth]; omega, by have := r.un; rw [make_units]; omega⟩
theorem Room.depth {k : Nat} {A : Around} (r : Room k A) : A.depth < recursionLimit := by have := r.dp; omega
theorem Room.units {k : Nat} {A : Around} (r : Room k A) : A.units + 64 < cLine := by have := r.un; omega
noncomputable def tNil : TA := fun _ H Q => Q [] H
noncomputable def tCons (ta : TE) (tr : TA) : TA := fun σ H Q => ta σ H fun x H1 => tr σ H1 fun xs H2 => Q (x :: xs) H2
section
variable {X : Cx} {e : Expr} {es : List Expr} {te : TE} {t : TA} {pos : Pos}
theorem pa_nil : PA X [] tNil := fun _ _ _ _ H Q I h => Calls.spliced_nil ⟨[], H, I, .nil, h⟩
theorem pa_cons (ha : PE X e te) (hr : PA X es t) (hs : autoParam (starEach (e :: es) X.env = (false, eval e X.env) :: starEach es X.env) L2.aRfl._auto_1) : PA X (e :: es) (tCons te t) := by
  intro pos pins s σ H Q I h
  rw [hs]
  show wpAny _ _ (spliced ((false, eval e X.env) :: backTo pos (starEach es X.env))) _ _ s
  refine Calls.spliced_cons (thn (ha pins s σ H _ I h) fun u s1 ⟨x, H1, I1, r1, q1⟩ => ?_)
  exact thn (hr pos pins s1 σ H1 _ I1 q1) fun us s2 ⟨xs, H2, I2, r2, q2⟩ => ⟨x :: xs, H2, I2, .cons r1 r2, q2⟩
noncomputable def tTup (t : TA) : TE := fun σ H Q => t σ H fun xs H1 => xs.length ≤ sizeLine ∧ ∀ p, H1 p = none → Q (.ref p) (upd H1 p (.tup xs))
noncomputable def tLst (t : TA) : TE := fun σ H Q => t σ H fun xs H1 => xs.length ≤ sizeLine ∧ ∀ p, H1 p = none → Q (.ref p) (upd H1 p (.lst xs))
theorem pe_tup {x1} (h : PA X es t) : PE X (.Tuple es x1 pos) (tTup t) := by
  intro pins s σ H Q I hq
  refine wpAny_Tuple_spliced (thn (h pos pins s σ H _ I hq) fun us s1 ⟨xs, H1, I1, r, z, q⟩ => ⟨by rw [← r.length]; exact z, ?_⟩)
  have hf : H1 s1.heap.objs.size = none := I1.hok.fresh (Nat.le_refl _)
  refine ⟨.ref s1.heap.objs.size, upd H1 s1.heap.objs.size (.tup xs), I1.laid (t' := s1.toks) (fun b u e => Heap.get?_push_of_some _ e) (Nat.le_refl _) ?_, rfl, q _ hf⟩
  exact ⟨z, us, r, ⟨_, Heap.get?_push_size _ rfl, rfl, _, rfl⟩⟩
theorem pe_lst (h : PA X es t) : PE X (.List es pos) (tLst t) := by
  intro pins s σ H Q I hq
  refine wpAny_List_spliced (thn (h pos pins s σ H _ I hq) fun us s1 ⟨xs, H1, I1, r, z, q⟩ => ⟨by rw [← r.length]; exact z, ?_⟩)
  have hf : H1 s1.heap.objs.size = none := I1.hok.fresh (Nat.le_refl _)
  refine ⟨.ref s1.heap.objs.size, upd H1 s1.heap.objs.size (.lst xs), I1.laid (t' := s1.toks) (fun b u e => Heap.get?_push_of_some _ e) (Nat.le_refl _) ?_, rfl, q _ hf⟩
  exact ⟨z, us, 0, r, Heap.get?_push_size _ rfl⟩
end
noncomputable abbrev Sp := List V → Hp → VK → XK → Prop
noncomputable abbrev CXT := List Env → Hp → Shared → XK → Value → Shared → Prop
structure Env0 (P : Program) (w : World) (K : PySem.W.Frag) (mg : Str → Option Value) (base : Heap) (A : Around) (outer : List Env) (s : Shared) (H : Hp) : Prop where
  frames : A.frames = some outer
  mod : Mod K mg base
  bs : ∀ b o, base.get? b = some o → s.heap.get? b = some o ∧ H b = none
  bsz : base.objs.size ≤ s.heap.objs.size
  funs : s.heap.FunFrames base outer
  frf : ∀ b ∈ frs outer, H b = none
  hok : HOk P w H s.heap
  bare : AllBare s.gens
noncomputable def CE (outer : List Env) (P : Program) (w : World) (H : Hp) (s : Shared) (Q : VK) (u : Value) (s' : Shared) : Prop :=
  ∃ v H', s'.os = s.os ∧ AllBare s'.gens ∧ Un (frs outer) [] H H' s.heap s'.heap ∧ HOk P w H' s'.heap ∧ RelV v u ∧ Q v H'
noncomputable def CR (CX : CXT) (outer : List Env) (P : Program) (w : World) (H : Hp) (s : Shared) (Q : VK) (E : XK) (r : Result) (s' : Shared) : Prop :=
  match r with
  | .ok (.ret u) => CE outer P w H s Q u s'
  | .ok _ => False
  | .error e => CX outer H s E e s'
structure FnOk (P : Program) (w : World) (K : PySem.W.Frag) (mg : Str → Option Value) (base : Heap) (CX : CXT) (k : Nat) (f : Addr) (fd : FuncData) (ps : List Str) (sp : Sp) : Prop where
  len : ∀ vs H Q E, sp vs H Q E → vs.length = ps.length
  run : ∀ (A : Around) (outer : List Env) (s : Shared) (H : Hp) (args : Args) (us : List Value) (vs : List V) (Q : VK) (E : XK), Room k A → Env0 P w K mg base A outer s H → BindsTo s fd args (ps.zip us) → Vals vs us → sp vs H Q E →
    codeAny (model P w) A (.call (.ref f) args) (CR CX outer P w H s Q E) s
theorem Env0.make {P : Program} {w : World} {K : PySem.W.Frag} {mg : Str → Option Value} {base : Heap} {A : Around} {outer : List Env} {s : Shared} {H : Hp} (e : Env0 P w K mg base A outer s H) (C : Addr) (us : List Value) (kw : List (Str × Value)) :
    Env0 P w K mg base (A.under (.builtin "type.__call__" ⟨.ref C :: us, kw⟩)) outer s H := ⟨by first | exact e.frames | (simpa [Around.under, Code.envs, Code.isFrame, pushEnvs] using e.frames), e.mod, e.bs, e.bsz, e.funs, e.frf, e.hok, e.bare⟩
section
variable {X : Cx} {pins : List (Addr × Obj)} {σ : St} {H : Hp} {s s' : Shared}
theorem Inv.env0 (I : Inv X pins σ H s) : Env0 X.prog X.w X.K X.mg X.base X.A X.stack s H :=
  ⟨I.ok.frames, I.ok.mod, I.bs, Nat.le_trans I.ok.bsz I.sz, I.stack, I.stkFree, I.hok, I.bare⟩
theorem Inv.after {Q : VK} {u : Value} (I : Inv X pins σ H s) (h : CE X.stack X.prog X.w H s Q u s') : EP X pins σ Q u s' := by
  obtain ⟨v, H', os, bare, un, hok, r, q⟩ := h
  obtain ⟨hh, g, d, t, os'⟩ := s'
  obtain rfl : os' = s.os := os
  exact ⟨v, H', I.call (h' := hh) (g' := g) (d' := d) (t' := t) (ch := []) un hok bare (fun b z => absurd z (by simp)), r, q⟩
end
noncomputable def tCall (sp : Sp) (dvs : List V) (E : XK) (t : TA) : TE := fun σ H Q => t σ H fun vs H1 => sp (vs ++ dvs) H1 Q E
noncomputable def tMeth (C : Addr) (m : Str) (sp : Sp) (dvs : List V) (E : XK) (ta : TE) (t : TA) : TE := fun σ H Q => ta σ H fun x H1 => ∃ a dx fs, x = .ref a ∧ H1 a = some (.ins C dx fs) ∧ fs.lookup m = none ∧
  t σ H1 fun vs H2 => sp (x :: (vs ++ dvs)) H2 Q E
noncomputable def tMake (C : Addr) (sp : Sp) (dvs : List V) (E : XK) (t : TA) : TE := fun σ H Q => t σ H fun vs H1 => ∀ x dx, H1 x = none → H1 dx = none → dx ≠ x →
  sp (.ref x :: (vs ++ dvs)) (upd (upd H1 dx (.own x)) x (.ins C dx [])) (fun v H2 => v = .non ∧ Q (.ref x) H2) E
noncomputable def Binds (K : PySem.W.Frag) (fd : FuncData) (ps : List Str) (ds : List Value) : Prop :=
  ∀ (s : Shared) (us : List Value), K.In s.heap → (us ++ ds).length = ps.length → BindsTo s fd ⟨us, []⟩ (ps.zip (us ++ ds))
theorem Binds.all {K : PySem.W.Frag} {fd : FuncData} {ps : List Str} (h : ∀ us : List Value, us.length = ps.length → bindArgs fd ⟨us, []⟩ = pure (ps.zip us)) : Binds K fd ps [] := fun s us _ hl => by
  rw [List.append_nil] at hl ⊢
  exact .of_eq (h us hl)
noncomputable def Passes (CX : CXT) (X : Cx) (E : XK) : Prop := ∀ (pins : List (Addr × Obj)) (σ : St) (H : Hp) (s : Shared) (e : Value) (s' : Shared), Inv X pins σ H s → CX X.stack H s E e s' → X.xe e s'
section
variable {X : Cx} {CX : CXT} {k : Nat} {f C : Addr} {fd : FuncData} {ps : List Str} {sp : Sp} {dvs : List V} {ds : List Value} {E : XK} {x m : Str} {p pos apos : Pos} {e o : Expr} {es : List Expr} {ta : TE} {t : TA}
theorem run_fn {pins : List (Addr × Obj)} {σ : St} {H : Hp} {s : Shared} {Q : VK} {us : List Value} {vs : List V} (F : FnOk X.prog X.w X.K X.mg X.base CX k f fd ps sp) (hr : Room k X.A) (hb : Binds X.K fd ps ds) (hd : Vals dvs ds) (hx : Passes CX X E)
    (I : Inv X pins σ H s) (r : Vals vs us) (h : sp (vs ++ dvs) H Q E) : wpAny (model X.prog X.w) X.A (call (.ref f) us) (EP X pins σ Q) X.xe s := by
  have r2 : Vals (vs ++ dvs) (us ++ ds) := r.append hd
  have hl : (us ++ ds).length = ps.length := by rw [← r2.length]; exact F.len _ _ _ _ h
  refine wpAny_call (codeAny_mono (F.run X.A X.stack s H ⟨us, []⟩ (us ++ ds) (vs ++ dvs) Q E hr I.env0 (hb s us I.kIn hl) r2 h) fun r s' hq => ?_)
  cases r with
  | error e => exact hx pins σ H s e s' I hq
  | ok fl =>
    cases fl with
    | ret u => exact I.after hq
    | next => exact False.elim hq
    | brk => exact False.elim hq
    | cont => exact False.elim hq
theorem pe_call (F : FnOk X.prog X.w X.K X.mg X.base CX k f fd ps sp) (hr : Room k X.A) (hg : Gl X x) (hm : X.mg x = some (.ref f)) (hk : PySem.W.keepIn X.K (.ref f) = true) (hb : Binds X.K fd ps ds) (hd : Vals dvs ds) (hx : Passes CX X E)
    (ha : PA X (e :: es) t) (hdb : autoParam ((x == ("__debug__" : Str)) = false) L2.aDec._auto_1) (he : autoParam (starEach (e :: es) X.env = (false, eval e X.env) :: starEach es X.env) L2.aRfl._auto_1) (hpl : autoParam ((backTo pos (starEach es X.env)).any (·.1) = false) L2.aRfl._auto_1) :
    PE X (.Call (.Name x p) (e :: es) [] pos) (tCall sp dvs E t) := by
  intro pins s σ H Q I h
  refine wpAny_Call_Name_kw (ld_glob I hg hm ?_ hdb)
  refine PySem.W.callWith_K (h₀ := X.base) I.ok.mod.kin hk (thn (ha pos pins s σ H _ I h) fun us s1 ⟨vs, H1, I1, r, q⟩ => ⟨I1.kIn, ?_⟩) he hpl
  exact run_fn F hr hb hd hx I1 r q
theorem pe_meth {pl : Sem Bool} (he : PE X o ta) (c : Cls X.K C) (hm : Meth X.K C m f) (F : FnOk X.prog X.w X.K X.mg X.base CX k f fd ps sp) (hr : Room k X.A) (hb : Binds X.K fd ps ds) (hd : Vals dvs ds) (hx : Passes CX X E) (ha : PA X (e :: es) t)
    (hst : autoParam (starEach (e :: es) X.env = (false, eval e X.env) :: starEach es X.env) L2.aRfl._auto_1) (hpl : autoParam ((backTo pos (starEach es X.env)).any (·.1) = false) L2.aRfl._auto_1)
    (ht : eval (.Call (.Attribute o m apos) (e :: es) [] pos) X.env = (do
      let ov ← eval o X.env
      standAt apos.atName
      let (f, first) ← holding [ov] (getMethod ov m pl)
      callWith pos f first (backTo pos (starEach (e :: es) X.env)) (backToKw pos (keywordEach [] X.env))) := by rfl) :
    PE X (.Call (.Attribute o m apos) (e :: es) [] pos) (tMeth C m sp dvs E ta t) := by
  intro pins s σ H Q I h
  refine PySem.W.methodCall_KW (pl := pl) (thn (he pins s σ H _ I h) fun u s1 ⟨x, H1, I1, rx, a, dx, fs, ex, ea, l, q⟩ => ?_) ht
  subst ex
  obtain rfl : u = Value.ref a := rx
  refine getmeth_ok I1 ea c hm l ?_
  refine PySem.W.callWith_K (first := [.ref a]) (h₀ := X.base) I.ok.mod.kin hm.kp (thn (ha pos pins s1 σ H1 _ I1 q) fun us s2 ⟨vs, H2, I2, r, q2⟩ => ⟨I2.kIn, ?_⟩) hst hpl
  exact run_fn (us := .ref a :: us) (vs := .ref a :: vs) F hr hb hd hx I2 (.cons rfl r) q2
structure Mk (K : PySem.W.Frag) (C f : Addr) : Prop where
  makes : PySem.W.makesIn K C = true
  init : PySem.W.findIn K (.ref C) "__init__" = some (some (.ref f))
  fn : PySem.W.isFn K (.ref f) = true
  kp : PySem.W.keepIn K (.ref C) = true
theorem run_make {pins : List (Addr × Obj)} {σ : St} {H : Hp} {s : Shared} {Q : VK} {us : List Value} {vs : List V} (M : Mk X.K C f) (F : FnOk X.prog X.w X.K X.mg X.base CX k f fd ps sp) (hr : Room (k + 1) X.A) (hb : Binds X.K fd ps ds) (hd : Vals dvs ds)
    (hx : Passes CX X E) (I : Inv X pins σ H s) (r : Vals vs us)
    (h : ∀ x dx, H x = none → H dx = none → dx ≠ x → sp (.ref x :: (vs ++ dvs)) (upd (upd H dx (.own x)) x (.ins C dx [])) (fun v H2 => v = .non ∧ Q (.ref x) H2) E) :
    wpAny (model X.prog X.w) X.A (call (.ref C) us) (EP X pins σ Q) X.xe s := by
  have hq := h (s.heap.objs.size + 1) s.heap.objs.size (I.hok.fresh (Nat.le_succ _)) (I.hok.fresh (Nat.le_refl _)) (Nat.ne_of_lt (Nat.lt_succ_self _))
  have I2 := Inv.made (C := C) I
  have r2 : Vals (V.ref (s.heap.objs.size + 1) :: (vs ++ dvs)) (Value.ref (s.heap.objs.size + 1) :: (us ++ ds)) := .cons rfl (r.append hd)
  have hl : (Value.ref (s.heap.objs.size + 1) :: us ++ ds).length = ps.length := by
    have e := r2.length
    rw [F.len _ _ _ _ hq] at e
    exact e.symm
  refine wpAny_call (make_map (f := f) I.kIn M.makes M.init (beq_iff_eq.mp M.fn) (codeAny_mono (F.run _ X.stack _ _ ⟨Value.ref (s.heap.objs.size + 1) :: us, []⟩ (Value.ref (s.heap.objs.size + 1) :: (us ++ ds)) _ _ E (hr.make C us [])
    (I2.env0.make C us []) (hb _ (Value.ref (s.heap.objs.size + 1) :: us) I2.kIn hl) r2 hq) fun r s' hq' => ?_))
  cases r with
  | error e => exact hx pins σ _ _ e s' I2 hq'
  | ok fl =>
    cases fl with
    | ret u =>
      obtain ⟨v, H', I3, rv, ev, q3⟩ := I2.after hq'
      subst ev
      exact ⟨rv, ⟨V.ref (s.heap.objs.size + 1), H', I3, rfl, q3⟩⟩
    | next => exact False.elim hq'
    | brk => exact False.elim hq'
    | cont => exact False.elim hq'
theorem pe_make (M : Mk X.K C f) (F : FnOk X.prog X.w X.K X.mg X.base CX k f fd ps sp) (hr : Room (k + 1) X.A) (hg : Gl X x) (hm : X.mg x = some (.ref C)) (hb : Binds X.K fd ps ds) (hd : Vals dvs ds) (hx : Passes CX X E)
    (ha : PA X (e :: es) t) (hdb : autoParam ((x == ("__debug__" : Str)) = false) L2.aDec._auto_1) (he : autoParam (starEach (e :: es) X.env = (false, eval e X.env) :: starEach es X.env) L2.aRfl._auto_1) (hpl : autoParam ((backTo pos (starEach es X.env)).any (·.1) = false) L2.aRfl._auto_1) :
    PE X (.Call (.Name x p) (e :: es) [] pos) (tMake C sp dvs E t) := by
  intro pins s σ H Q I h
  refine wpAny_Call_Name_kw (ld_glob I hg hm ?_ hdb)
  refine PySem.W.callWith_K (h₀ := X.base) I.ok.mod.kin M.kp (thn (ha pos pins s σ H _ I h) fun us s1 ⟨vs, H1, I1, r, q⟩ => ⟨I1.kIn, ?_⟩) he hpl
  exact run_make M F hr hb hd hx I1 r q
end
section
variable {X : Cx} {CX : CXT} {k : Nat} {f C : Addr} {fd : FuncData} {ps ks : List Str} {sp : Sp} {E : XK} {x m : Str} {p pos apos kpos : Pos} {e o : Expr} {es : List Expr} {kws : List Keyword} {te ta : TE} {t tk : TA} {nm : Option Str}
variable {g : List Value → List Value → List Value} {gV : List V → List V → List V}
end
structure FnScope (N P : List Str) (sc : Scope) : Prop where
  kind : sc.kind = .function
  co : sc.isCoroutine = false
  gen : sc.isGenerator = false
  nd : N.Nodup
  pre : N.take P.length = P
  par : ∀ x ∈ P, sc.names.lookup x = some .local ∨ sc.names.lookup x = some .cell
  nofree : ∀ y ∈ sc.names, y.2 ≠ .free
theorem bindL_out {kindOf : Str → Option NameKind} {x : Str} : ∀ {binds : List (Str × Value)} {m : Str → Option Value}, (∀ v, (x, v) ∉ binds) → bindL kindOf binds m x = m x
  | [], _, _ => rfl
  | (n, v) :: r, m, h => by
    unfold bindL
    rw [bindL_out fun w hw => h w (List.mem_cons_of_mem _ hw)]
    split
    · have : x ≠ n := by rintro rfl; exact h v List.mem_cons_self
      simp [this]
    · rfl
theorem bindC_out {kindOf : Str → Option NameKind} {x : Str} : ∀ {binds : List (Str × Value)} {m : Str → Option Value}, (∀ v, (x, v) ∉ binds) → bindC kindOf binds m x = m x
  | [], _, _ => rfl
  | (n, v) :: r, m, h => by
    unfold bindC
    rw [bindC_out fun w hw => h w (List.mem_cons_of_mem _ hw)]
    split
    · rfl
    · have : x ≠ n := by rintro rfl; exact h v List.mem_cons_self
      simp [this]
theorem bindL_get {kindOf : Str → Option NameKind} {x : Str} {v : Value} : ∀ {P : List Str} {vs : List Value} {i : Nat} {m : Str → Option Value}, P.Nodup → P[i]? = some x → vs[i]? = some v → kindOf x = some .local →
    bindL kindOf (P.zip vs) m x = some v
  | [], _, _, _, _, h, _, _ => by simp at h
  | _ :: _, [], _, _, _, _, h, _ => by simp at h
  | p :: P, w :: vs, 0, m, nd, h1, h2, hk => by
    simp at h1 h2; subst h1; subst h2
    show bindL kindOf ((p, w) :: P.zip vs) m p = _
    unfold bindL
    rw [bindL_out fun v hv => (List.nodup_cons.mp nd).1 (List.of_mem_zip hv).1, if_pos hk]
    simp
  | p :: P, w :: vs, i + 1, m, nd, h1, h2, hk => by
    show bindL kindOf ((p, w) :: P.zip vs) m x = _
    unfold bindL
    exact bindL_get (i := i) (List.nodup_cons.mp nd).2 (by simpa using h1) (by simpa using h2) hk
theorem bindC_get {kindOf : Str → Option NameKind} {x : Str} {v : Value} : ∀ {P : List Str} {vs : List Value} {i : Nat} {m : Str → Option Value}, P.Nodup → P[i]? = some x → vs[i]? = some v → kindOf x ≠ some .local →
    bindC kindOf (P.zip vs) m x = some v
  | [], _, _, _, _, h, _, _ => by simp at h
  | _ :: _, [], _, _, _, _, h, _ => by simp at h
  | p :: P, w :: vs, 0, m, nd, h1, h2, hk => by
    simp at h1 h2; subst h1; subst h2
    show bindC kindOf ((p, w) :: P.zip vs) m p = _
    unfold bindC
    rw [bindC_out fun v hv => (List.nodup_cons.mp nd).1 (List.of_mem_zip hv).1, if_neg hk]
    simp
  | p :: P, w :: vs, i + 1, m, nd, h1, h2, hk => by
    show bindC kindOf ((p, w) :: P.zip vs) m x = _
    unfold bindC
    exact bindC_get (i := i) (List.nodup_cons.mp nd).2 (by simpa using h1) (by simpa using h2) hk
noncomputable def start (N : List Str) (vs : List V) : St := vs.map some ++ List.replicate (N.length - vs.length) none
noncomputable def cxOf (CX : CXT) (P : Program) (w : World) (K : PySem.W.Frag) (mg : Str → Option Value) (base : Heap) (N : List Str) (qual : Str) (scope : Scope) (f : Addr) (cd : Value) (A : Around) (outer : List Env) (s : Shared) (H : Hp) (E : XK) : Cx where
  prog := P
  w := w
  K := K
  mg := mg
  base := base
  A := A.deeper (envOfC qual scope s.heap.objs.size f cd)
  N := N
  s₀ := s
  H₀ := H
  env := envOfC qual scope s.heap.objs.size f cd
  outer := outer
  stack := envOfC qual scope s.heap.objs.size f cd :: outer
  ex := []
  calm := true
  fn := fun _ => true
  pn := []
  xe := fun e s' => wpAny (model P w) (A.deeper (envOfC qual scope s.heap.objs.size f cd)) (leaving (envOfC qual scope s.heap.objs.size f cd) e) (fun _ s'' => CX outer H s E e s'') (fun e' s'' => CX outer H s E e' s'') s'
theorem cell_has {sc : Scope} {n : Nat} {x : Str} (h : sc.names.lookup x = some .cell) : ∃ c, (cellsFrom n sc.names []).lookup x = some c := by
  have q := PySem.W.cellsFrom_some sc.names n [] (.inl h)
  exact Option.isSome_iff_exists.mp q
theorem inv_start {CX : CXT} {P : Program} {w : World} {K : PySem.W.Frag} {mg : Str → Option Value} {base : Heap} {N ps : List Str} {qual : Str} {scope : Scope} {f : Addr} {cd : Value} {A : Around} {outer : List Env} {s s1 : Shared} {H : Hp} {E : XK} {us : List Value} {vs : List V}
    (S : FnScope N ps scope) (hd : A.handled = none) (e0 : Env0 P w K mg base A outer s H) (hl : vs.length = ps.length) (r : Vals vs us)
    (x : InCallC s s.heap.objs.size (bindL (envOfC qual scope s.heap.objs.size f cd).kindOf (ps.zip us) fun _ => none) (cellsFrom (s.heap.objs.size + 1) scope.names []) (bindC (envOfC qual scope s.heap.objs.size f cd).kindOf (ps.zip us) fun _ => none) s1) :
    Inv (cxOf CX P w K mg base N qual scope f cd A outer s H E) [] (start N vs) H s1 := by
  have hpl : ps.length ≤ N.length := by have := congrArg List.length S.pre; rw [List.length_take] at this; omega
  obtain ⟨h1, tk, rfl, hk⟩ := x.done
  have noA : ∀ b : Addr, b ∉ (cxOf CX P w K mg base N qual scope f cd A outer s H E).ex := fun b z => absurd (show b ∈ ([] : List Addr) from z) (by simp)
  refine ⟨⟨e0.mod, S.kind, rfl, rfl, Nat.le_refl _, fun y z c h1 h2 => ?_, fun y hy => ?_, fun y c _ h => ?_, fun _ => hd, Around.frames_deeper e0.frames, .inr ⟨rfl, rfl⟩, fun b z => absurd z (noA b), e0.bs, e0.bsz, fun b _ _ => noA b, fun b z => absurd z (noA b), e0.funs, e0.frf⟩,
    rfl, e0.bare, Un.kept hk, ⟨_, x.toInCall.ns, fun i y v h1 h2 h3 => ?_⟩, fun y c h => ⟨_, x.cell y c h⟩, e0.hok.fresh (Nat.le_refl _), fun y c h => ?_, fun p hp => absurd (show p ∈ ([] : List (Addr × Obj)) from hp) (by simp), e0.hok.kept hk, ?_⟩
  · exact name_of_addr x.apart (PySem.mem_of_lookup h1) (PySem.mem_of_lookup h2)
  · have hy : scope.names.lookup y = some .cell ∨ scope.names.lookup y = some .free := hy
    rcases hy with hy | hy
    · exact cell_has hy
    · exact absurd rfl (S.nofree _ (PySem.mem_of_lookup hy))
  · exact Nat.le_of_lt (x.above y c (PySem.mem_of_lookup h))
  · have hi : i < vs.length := by
      unfold start at h2
      by_cases hi : i < vs.length
      · exact hi
      · rw [List.getElem?_append_right (by simpa using hi)] at h2
        rw [List.getElem?_replicate] at h2
        split at h2 <;> cases h2
    have ha : vs[i]? = some v := by
      unfold start at h2
      rw [List.getElem?_append_left (by simpa using hi), List.getElem?_map] at h2
      cases e : vs[i]? with
      | none => rw [e] at h2; cases h2
      | some a => rw [e] at h2; cases h2; rfl
    obtain ⟨u, hu, rv⟩ := r.get ha
    have hp : ps[i]? = some y := by
      rw [← S.pre, List.getElem?_take_of_lt (by omega)]; exact h1
    have ndP : ps.Nodup := by rw [← S.pre]; exact S.nd.sublist (List.take_sublist _ _)
    refine ⟨u, rv, ?_⟩
    rcases S.par y (List.mem_of_getElem? hp) with k | k
    · exact .inl ⟨k, bindL_get ndP hp hu k⟩
    · obtain ⟨c, e⟩ := cell_has (n := s.heap.objs.size + 1) k
      refine .inr ⟨.inl k, c, e, ?_⟩
      have q := x.cell y c e
      rw [bindC_get ndP hp hu (by show scope.names.lookup y ≠ _; rw [k]; decide)] at q
      exact q
  · exact e0.hok.fresh (Nat.le_of_lt (x.above y c (PySem.mem_of_lookup h)))
  · unfold start
    show _ = N.length
    rw [List.length_append, List.length_map, List.length_replicate]
    omega
theorem fn_of {CX : CXT} {P : Program} {w : World} {K : PySem.W.Frag} {mg : Str → Option Value} {base : Heap} {k : Nat} {f : Addr} {name qual : Str} {params : Arguments} {body : List Stmt} {scope : Scope} {dV kV doc pm cdv ct oc : Value} {an od : Option Addr}
    {osl : Array (Option Value)} {N ps : List Str} {sp : Sp} (lk : K.lookup f = some ⟨oc, od, .func (PySem.W.fnOf name qual params body scope dV kV doc pm an cdv ct), osl⟩) (hcd : PySem.W.codeIn K cdv qual = true) (S : FnScope N ps scope)
    (len : ∀ vs H Q E, sp vs H Q E → vs.length = ps.length)
    (hbody : ∀ (A : Around) (outer : List Env) (s : Shared) (H : Hp) (vs : List V) (Q : VK) (E : XK), Room k (A.deeper (envOfC qual scope s.heap.objs.size f cdv)) → sp vs H Q E →
      ∃ t, PSs (cxOf CX P w K mg base N qual scope f cdv A outer s H E) body t ∧ t { nx := fun _ H' => Q .non H', rt := Q } (start N vs) H) :
    FnOk P w K mg base CX (k + 1) f (PySem.W.fnOf name qual params body scope dV kV doc pm an cdv ct) ps sp := by
  refine ⟨len, fun A outer s H args us vs Q E hr e0 hb r hsp => ?_⟩
  have hl := len _ _ _ _ hsp
  have KX : K.In s.heap := e0.mod.kin.keeps fun b o e => (e0.bs b o e).1
  have lim : s.heap.NoLimit := e0.mod.nolimit.keeps fun b o e => (e0.bs b o e).1
  have hkind : ∀ y ∈ ps.zip us, scope.names.lookup y.1 = some .local ∨ (scope.names.lookup y.1 = some .cell ∧ ((cellsFrom (s.heap.objs.size + 1) scope.names []).lookup y.1).isSome = true) := fun ⟨n, v⟩ hy => by
    rcases S.par n (List.of_mem_zip hy).1 with q | q
    · exact .inl q
    · exact .inr ⟨q, PySem.W.cellsFrom_some _ _ _ (.inl q)⟩
  refine codeAny_call_function hr.depth (KX _ _ lk) rfl S.co S.gen rfl (PySem.W.codeRec_of KX hcd) (hb _ _ _ _ ?_)
  refine wpAny_newFunctionEnv_cells S.kind hkind fun env he s1 x => ?_
  subst he
  refine ⟨lim.keeps x.toInCall.keep, codeAny_func ?_⟩
  obtain ⟨t, ht, hq⟩ := hbody A outer s H vs Q E (hr.deeper _) hsp
  have I : Inv (cxOf CX P w K mg base N qual scope f cdv A outer s H E) [] (start N vs) H s1 := inv_start S hr.hd e0 hl r x
  refine wpAny_mono (ht [] s1 (start N vs) H _ I hq) (fun fl s' hs => ?_) fun e s' hs => hs
  have fin : ∀ {σ' : St} {H' : Hp} {v : V} {u : Value}, Inv (cxOf CX P w K mg base N qual scope f cdv A outer s H E) [] σ' H' s' → RelV v u → Q v H' → CE outer P w H s Q u s' :=
    fun {σ' H' v u} J rv q => ⟨v, H', J.os, J.bare, J.base, J.hok, rv, q⟩
  cases fl with
  | ret u =>
    obtain ⟨v, σ', H', J, rv, q⟩ := hs
    exact fin J rv q
  | next =>
    obtain ⟨σ', H', J, q⟩ := hs
    exact fin (v := V.non) (u := Value.none) J rfl q
  | brk =>
    obtain ⟨_, _, _, q⟩ := hs
    exact False.elim q
  | cont =>
    obtain ⟨_, _, _, q⟩ := hs
    exact False.elim q
end L2
namespace L2
open PySem PySem.Spec PyProof.Rows
section
variable {X : Cx} {x : Str} {p pos : Pos} {e : Expr} {es : List Expr} {t : TA} {id T : String} {r : List V → Hp → VK → Prop}
noncomputable def tCB (r : List V → Hp → VK → Prop) (t : TA) : TE := fun σ H Q => t σ H fun vs H1 => r vs H1 Q
theorem pe_callB (hc : CallR X (.builtin id) r) (hg : Gl X x) (hm : X.mg x = none) (hv : bootBuiltins x = some (.builtin id)) (ha : PA X (e :: es) t) (hn : autoParam (x ≠ "__name__") L2.aDec._auto_1) (hdb : autoParam ((x == ("__debug__" : Str)) = false) L2.aDec._auto_1)
    (he : autoParam (starEach (e :: es) X.env = (false, eval e X.env) :: starEach es X.env) L2.aRfl._auto_1) (hpl : autoParam ((backTo pos (starEach es X.env)).any (·.1) = false) L2.aRfl._auto_1) : PE X (.Call (.Name x p) (e :: es) [] pos) (tCB r t) := by
  intro pins s σ H Q I h
  refine wpAny_Call_Name_kw (ld_blt I hg hm hv ?_ hn hdb)
  exact PyProof.Rows.callWith_builtin1 (thn (ha pos pins s σ H _ I h) fun us s1 ⟨vs, H1, I1, r1, q1⟩ => hc pins s1 σ H1 vs us Q I1 r1 q1) he hpl
theorem pe_callTy (hc : CallR X (.type T) r) (hg : Gl X x) (hm : X.mg x = none) (hv : bootBuiltins x = some (.type T)) (ha : PA X (e :: es) t) (hn : autoParam (x ≠ "__name__") L2.aDec._auto_1) (hdb : autoParam ((x == ("__debug__" : Str)) = false) L2.aDec._auto_1)
    (he : autoParam (starEach (e :: es) X.env = (false, eval e X.env) :: starEach es X.env) L2.aRfl._auto_1) (hpl : autoParam ((backTo pos (starEach es X.env)).any (·.1) = false) L2.aRfl._auto_1) : PE X (.Call (.Name x p) (e :: es) [] pos) (tCB r t) := by
  intro pins s σ H Q I h
  refine wpAny_Call_Name_kw (ld_blt I hg hm hv ?_ hn hdb)
  exact PyProof.Rows.callWith_type1 (thn (ha pos pins s σ H _ I h) fun us s1 ⟨vs, H1, I1, r1, q1⟩ => hc pins s1 σ H1 vs us Q I1 r1 q1) he hpl
end
end L2
namespace HT
open PySem PyProof.Rows
section
open PySem.SeqAt
open PySem.AutoSeq1 (wpAny_loadPart')
open PySem.MeetsSeq PySem.MeetsSeq2 PySem.MeetsSeq3
end
section
variable {prog : Program} {w : World} {A : Around} {E : Value → Shared → Prop} {s : Shared}
theorem cat_tup {t b : Addr} {vs ws : List Value} {Q : Value → Shared → Prop} (ht : IsTup s.heap t vs.toArray) (hb : IsTup s.heap b ws.toArray) (hv : vs ≠ [])
    (h1 : ws = [] → Q (.ref t) s) (h2 : ws ≠ [] → Q (.ref s.heap.objs.size) { s with heap := s.heap.push { cls := .type "tuple", data := .seq (vs ++ ws).toArray } })
    (hsz : vs.length + ws.length ≤ sizeLine) : wpAny (model prog w) A (binaryOp .Add (.ref t) (.ref b)) Q E s := by
  obtain ⟨⟨cls, dd, data, sl⟩, ho, hc, n, hd⟩ := id ht
  obtain ⟨⟨cls2, dd2, data2, sl2⟩, ho2, hc2, n2, hd2⟩ := id hb
  simp only at hc hd hc2 hd2
  subst hc hd hc2 hd2
  have e : vs.toArray ++ ws.toArray = (vs ++ ws).toArray := by simp
  by_cases hw : ws = []
  · exact concat_meets ⟨_, ho, rfl⟩ ⟨_, ho2, rfl⟩ noFill_tuple_add seq_tuple_add PySem.F.slot_tuple_add PySem.F.entry_tuple_add (PySem.F.args_tuple_add_2 _ _)
      (tuple_addW1 t b vs.toArray ws.toArray n n2 dd dd2 sl sl2 (by simpa using hv) (by simp [hw])) ⟨ho, ho2, h1 hw⟩
  · refine concat_meets ⟨_, ho, rfl⟩ ⟨_, ho2, rfl⟩ noFill_tuple_add seq_tuple_add PySem.F.slot_tuple_add PySem.F.entry_tuple_add (PySem.F.args_tuple_add_2 _ _)
      (tuple_addW2 t b vs.toArray ws.toArray n n2 dd dd2 sl sl2 (by simpa using hv) (by simpa using hw) (by rw [List.size_toArray, List.size_toArray]; exact hsz)) ⟨ho, ho2, ?_⟩
    rw [e]
    exact h2 hw
noncomputable def sIx (n d : Nat) : Option Int → Nat
  | none => d
  | some v => if v < 0 then (v + (n : Int)).toNat else min v.toNat n
theorem sIx_le (n d : Nat) (hd : d ≤ n) (o : Option Int) : sIx n d o ≤ n := by
  cases o with
  | none => exact hd
  | some v =>
    show (if v < 0 then (v + (n : Int)).toNat else min v.toNat n) ≤ n
    by_cases hv : v < 0
    · rw [if_pos hv]; omega
    · rw [if_neg hv]; exact Nat.min_le_right _ _
theorem clip_eq (v : Int) (n d : Nat) : (if v < 0 then max (v + (n : Int)) 0 else min v (n : Int)) = ((sIx n d (some v) : Nat) : Int) := by
  show (if v < 0 then max (v + (n : Int)) 0 else min v (n : Int)) = (((if v < 0 then (v + (n : Int)).toNat else min v.toNat n) : Nat) : Int)
  by_cases hv : v < 0
  · simp only [if_pos hv]; omega
  · simp only [if_neg hv]; omega
theorem adjust_gen (lo hi : Option Int) (n : Nat) : Builtin.Slice.sliceAdjust lo hi 1 (n : Int) = (((sIx n 0 lo : Nat) : Int), ((sIx n n hi : Nat) : Int)) := by
  have h1 : ¬ ((1 : Int) < 0) := by omega
  unfold Builtin.Slice.sliceAdjust
  simp only [h1, if_false]
  refine Prod.ext ?_ ?_
  · cases lo with
    | none => rfl
    | some v => exact clip_eq v n 0
  · cases hi with
    | none => rfl
    | some v => exact clip_eq v n n
theorem places_gen (i j : Nat) : Builtin.Slice.slicePlaces (i : Int) (j : Int) 1 = j - i := by
  unfold Builtin.Slice.slicePlaces
  have h1 : (1 : Int) > 0 := by omega
  simp only [h1, if_true, Int.ediv_one]
  split <;> omega
theorem slicePart_ {v : Value} {o : Option Int} {Q : Option Int → Shared → Prop} (p : IsPart v o) (h : Q o s) : wpAny (model prog w) A (Builtin.Slice.slicePartIndex v) Q E s := by
  cases p with
  | none => exact slicePart_none h
  | int i t => exact slicePart_int h
theorem sliceApplied_gen {sl : Addr} {vl vu : Value} {lo hi : Option Int} {n : Nat} {Q : Int × Int × Nat → Shared → Prop} (hs : s.heap.IsSliceOf sl vl vu .none) (pl : IsPart vl lo) (pu : IsPart vu hi)
    (h : Q (((sIx n 0 lo : Nat) : Int), 1, sIx n n hi - sIx n 0 lo) s) : wpAny (model prog w) A (Builtin.Slice.sliceApplied (.ref sl) (pure (n : Int))) Q E s := by
  obtain ⟨os, hos, hcs, hds⟩ := id hs
  unfold Builtin.Slice.sliceApplied Builtin.Slice.sliceFields
  refine wpAny_bind (wpAny_bind (wpAny_field hos hds (x := vl) rfl (wpAny_bind (wpAny_field hos hds (x := vu) rfl (wpAny_bind (wpAny_field hos hds (x := .none) rfl (wpAny_pure ?_)))))))
  refine wpAny_bind (slicePart_none ?_)
  show wpAny _ _ (if ((1 : Int) == 0) = true then _ else _) _ _ s
  rw [if_neg (by decide)]
  refine wpAny_bind (slicePart_ pl (wpAny_bind (slicePart_ pu (wpAny_bind (wpAny_pure ?_)))))
  show wpAny _ _ (match Builtin.Slice.sliceAdjust lo hi 1 (n : Int) with | (lo, hi) => pure (lo, (1 : Int), Builtin.Slice.slicePlaces lo hi 1)) _ _ s
  rw [adjust_gen lo hi n]
  show wpAny _ _ (pure (((sIx n 0 lo : Nat) : Int), (1 : Int), Builtin.Slice.slicePlaces ((sIx n 0 lo : Nat) : Int) ((sIx n n hi : Nat) : Int) 1)) _ _ s
  rw [places_gen]
  exact wpAny_pure h
theorem pick_gen (xs : Array Value) (i k : Nat) : ((List.range k).filterMap fun (m : Nat) => xs[((i : Int) + (m : Int) * 1).toNat]?).toArray = ((xs.toList.drop i).take k).toArray := by
  have e : (fun (m : Nat) => xs[((i : Int) + (m : Int) * 1).toNat]?) = fun m => xs[i + m]? := by
    funext m
    have : ((i : Int) + (m : Int) * 1).toNat = i + m := by omega
    rw [this]
  rw [e]
  have := pick_run xs i k
  rw [List.filterMap_map] at this
  have e2 : ((fun x => xs[x]?) ∘ fun x => i + x) = fun m => xs[i + m]? := rfl
  rw [e2] at this
  rw [this]
theorem getItem_tuple_cut {t sl : Addr} {items : Array Value} {vl vu : Value} {lo hi : Option Int} {Q : Value → Shared → Prop} (ht : IsTup s.heap t items) (hs : s.heap.IsSliceOf sl vl vu .none) (pl : IsPart vl lo) (pu : IsPart vu hi)
    (hw : ¬ (sIx items.size 0 lo = 0 ∧ sIx items.size items.size hi = items.size))
    (h : Q (.ref s.heap.objs.size) { s with heap := s.heap.push { cls := .type "tuple", data := .seq ((items.toList.drop (sIx items.size 0 lo)).take (sIx items.size items.size hi - sIx items.size 0 lo)).toArray } })
    (hsz : items.size ≤ sizeLine) : wpAny (model prog w) A (getItem (.ref t) (.ref sl)) Q E s := by
  have htake : sizeOk (.seq ((items.toList.drop (sIx items.size 0 lo)).take (sIx items.size items.size hi - sIx items.size 0 lo)).toArray) := by
    show ((items.toList.drop (sIx items.size 0 lo)).take (sIx items.size items.size hi - sIx items.size 0 lo)).toArray.size ≤ sizeLine
    rw [List.size_toArray, List.length_take, List.length_drop, Array.length_toList]
    omega
  have hj : sIx items.size items.size hi ≤ items.size := sIx_le _ _ (Nat.le_refl _) hi
  obtain ⟨os, hos, hcs, hds⟩ := id hs
  have hTs : s.TypeIs (.ref sl) "slice" := ⟨os, hos, hcs⟩
  unfold getItem
  try with_reducible refine wpAny_holding ?_
  first | refine wpAny_bind (wpAny_pure ?_) | skip
  refine wpAny_bind (wpAny_sequenceKey ht.typeIs (by decide) ?_)
  refine wpAny_bind (wpAny_callSpecial?_slot (name := Str.ofString "__getitem__") ht.typeIs PyProof.Rows.slot_tuple_getitem
    (wpAny_call_entry PyProof.Rows.slot_tuple_getitem ht.typeIs entry_tuple_getitem ?_ (args_tuple_getitem _ _)))
  show wpAny _ _ (Builtin.Tuple.tupleItemsOf (.ref t) >>= _) _ _ s
  refine wpAny_bind (tupleItemsOf_ ht ?_)
  refine wpAny_bind (wpAny_typeOf hTs ?_)
  rw [if_pos (by decide)]
  refine wpAny_bind (sliceApplied_gen hs pl pu ?_)
  have hno : ¬ ((((sIx items.size 0 lo : Nat) : Int) == 0 && (1 : Int) == 1 && (sIx items.size items.size hi - sIx items.size 0 lo) == items.size) = true) := by
    intro q
    rw [Bool.and_eq_true, Bool.and_eq_true] at q
    have q1 : ((sIx items.size 0 lo : Nat) : Int) = 0 := eq_of_beq q.1.1
    have q2 : sIx items.size items.size hi - sIx items.size 0 lo = items.size := eq_of_beq q.2
    exact hw ⟨by omega, by omega⟩
  show wpAny _ _ (if (((sIx items.size 0 lo : Nat) : Int) == 0 && (1 : Int) == 1 && (sIx items.size items.size hi - sIx items.size 0 lo) == items.size) = true then _ else _) _ _ s
  rw [if_neg hno, pick_gen]
  first
    | exact wpAny_bind (m := Builtin.Tuple.tupleExact _) (wpAny_newObj_type (wpAny_pure ⟨_, rfl, wpAny_pure h⟩) htake)
    | exact wpAny_bind (m := Builtin.Tuple.tupleExact _) (wpAny_newObj_type (wpAny_bind (wpAny_pure (wpAny_pure ⟨_, rfl, wpAny_pure h⟩))) htake)
    | exact wpAny_bind (wpAny_bind (m := Builtin.Tuple.tupleExact _) (wpAny_newObj_type (wpAny_pure (wpAny_pure ⟨_, rfl, wpAny_pure h⟩)) htake))
    | exact wpAny_bind (wpAny_bind (m := Builtin.Tuple.tupleExact _) (wpAny_newObj_type (wpAny_pure ⟨_, rfl, wpAny_pure h⟩) htake))
end
end HT
namespace L2
open PySem PySem.Spec PyProof.Rows
noncomputable abbrev TO := St → Hp → (Option Int → Hp → Prop) → Prop
noncomputable def PO (X : Cx) (e : Option Expr) (t : TO) : Prop :=
  ∀ (pins : List (Addr × Obj)) (s : Shared) (σ : St) (H : Hp) (Q : Option Int → Hp → Prop), Inv X pins σ H s → t σ H Q →
    wpAny (model X.prog X.w) X.A (evalPart e X.env) (fun u s' => ∃ o H', Inv X pins σ H' s' ∧ IsPart u o ∧ Q o H') X.xe s
noncomputable def tNoPart : TO := fun _ H Q => Q none H
noncomputable def tPart (t : TE) : TO := fun σ H Q => t σ H fun x H1 => ∃ i, x = .int i ∧ Q (some i) H1
theorem intsAre_of {ns : List Int} : ∀ {us : List Value}, Vals (ns.map V.int) us → IntsAre us ns := by
  induction ns with
  | nil => intro us r; rw [List.map_nil] at r; cases r; exact .nil
  | cons n ns ih =>
    intro us r
    rw [List.map_cons] at r
    cases r with
    | cons r1 r2 =>
      obtain ⟨t, e⟩ := r1
      subst e
      exact .cons n t (ih r2)
section
variable {X : Cx} {e : Expr} {te : TE} {lo hi : Option Expr} {tl th : TO} {pos p2 : Pos}
theorem po_none : PO X none tNoPart := by
  intro pins s σ H Q I h
  rw [evalPart_none]
  exact wpAny_pure ⟨none, H, I, .none, h⟩
theorem po_some (h : PE X e te) : PO X (some e) (tPart te) := by
  intro pins s σ H Q I hw
  rw [evalPart_some]
  refine thn (h pins s σ H _ I hw) fun u s1 ⟨x, H1, I1, r1, q1⟩ => ?_
  obtain ⟨i, rfl, q⟩ := q1
  obtain ⟨t, rfl⟩ := r1
  exact ⟨some i, H1, I1, .int i t, q⟩
noncomputable def SlR (X : Cx) (r : V → Option Int → Option Int → Hp → VK → Prop) : Prop :=
  ∀ (pins : List (Addr × Obj)) (s : Shared) (σ : St) (H : Hp) (x : V) (v vl vu : Value) (lo hi : Option Int) (sl : Addr) (Q : VK), Inv X pins σ H s → RelV x v → s.heap.IsSliceOf sl vl vu .none → IsPart vl lo → IsPart vu hi → r x lo hi H Q →
    ∃ T id, typeLookup (.type T) "__getitem__" = pure (some (.builtin id)) ∧ s.TypeIs v T ∧ wpAny (model X.prog X.w) X.A (getItem v (.ref sl)) (EP X pins σ Q) X.xe s
noncomputable def tSl (r : V → Option Int → Option Int → Hp → VK → Prop) (te : TE) (tl th : TO) : TE := fun σ H Q => te σ H fun x H1 => tl σ H1 fun l H2 => th σ H2 fun u H3 => r x l u H3 Q
theorem pe_slice {r : V → Option Int → Option Int → Hp → VK → Prop} (hr : SlR X r) (he : PE X e te) (hl : PO X lo tl) (hu : PO X hi th) : PE X (.Subscript e (.Slice lo hi none p2) pos) (tSl r te tl th) := by
  intro pins s σ H Q I h
  refine Subscript_ (thn (he pins s σ H _ I h) fun v s1 ⟨x, H1, I1, r1, q1⟩ => ?_)
  refine wpAny_Slice (thn (hl pins s1 σ H1 _ I1 q1) fun vl s2 ⟨l, H2, I2, pl, q2⟩ => thn (hu pins s2 σ H2 _ I2 q2) fun vu s3 ⟨u, H3, I3, pu, q3⟩ => ?_)
  rw [evalPart_none]
  refine wpAny_pure ?_
  have I4 : Inv X pins σ H3 { s3 with heap := s3.heap.push { cls := .type "slice", data := .fields #[vl, vu, .none] } } := I3.kept (t' := s3.toks) fun b ob q => Heap.get?_push_of_some _ q
  obtain ⟨T, id, hT, ht, hg⟩ := hr pins { s3 with heap := s3.heap.push { cls := .type "slice", data := .fields #[vl, vu, .none] } } σ H3 x v vl vu l u s3.heap.objs.size Q I4 r1 (Heap.IsSliceOf.new ..) pl pu q3
  show wpAny (model X.prog X.w) X.A (subscriptTail e (.Slice lo hi none p2) v (.ref s3.heap.objs.size)) (EP X pins σ Q) X.xe { s3 with heap := s3.heap.push { cls := .type "slice", data := .fields #[vl, vu, .none] } }
  exact tail_any (ops := [.ref s3.heap.objs.size, v]) ht hT hg (by with_unfolding_all rfl)
noncomputable def cutV (xs : List V) (lo hi : Option Int) : List V := (xs.drop (HT.sIx xs.length 0 lo)).take (HT.sIx xs.length xs.length hi - HT.sIx xs.length 0 lo)
theorem cutV_length (xs : List V) (lo hi : Option Int) : (cutV xs lo hi).length ≤ xs.length := by
  unfold cutV
  rw [List.length_take, List.length_drop]
  omega
noncomputable def rSlT (K : PySem.W.Frag) : V → Option Int → Option Int → Hp → VK → Prop := fun x lo hi H Q => ∃ a xs, x = .ref a ∧ SqT K H a xs ∧
  ¬ (HT.sIx xs.length 0 lo = 0 ∧ HT.sIx xs.length xs.length hi = xs.length) ∧ ∀ p, H p = none → Q (.ref p) (upd H p (.tup (cutV xs lo hi)))
theorem sl_tup : SlR X (rSlT X.K) := by
  intro pins s σ H x v vl vu lo hi sl Q I rx hs pl pu h
  obtain ⟨a, xs, rfl, hx, hw, q⟩ := h
  cases rx
  obtain ⟨its, r, ht, hz⟩ := I.tuple hx
  have hlen : its.toArray.size = xs.length := by rw [List.size_toArray]; exact r.length.symm
  refine ⟨"tuple", _, PyProof.Rows.slot_tuple_getitem.lookup, ht.typeIs, ?_⟩
  refine HT.getItem_tuple_cut ht hs pl pu (by rw [hlen]; exact hw) ?_ (by rw [hlen]; exact hz)
  rw [hlen]
  refine ⟨.ref s.heap.objs.size, _, I.laid (t' := s.toks) (o := .tup (cutV xs lo hi)) (fun b ob q => Heap.get?_push_of_some _ q) (Nat.le_refl _) ?_, rfl, q _ (I.hok.fresh (Nat.le_refl _))⟩
  exact ⟨Nat.le_trans (cutV_length xs lo hi) hz, _, (r.drop (HT.sIx xs.length 0 lo)).take (HT.sIx xs.length xs.length hi - HT.sIx xs.length 0 lo), IsTup.new _ _⟩
noncomputable def rCatT (K : PySem.W.Frag) : R2 := fun x y H Q => ∃ a b xs ys, x = .ref a ∧ y = .ref b ∧ SqT K H a xs ∧ SqT K H b ys ∧ xs ≠ [] ∧ xs.length + ys.length ≤ sizeLine ∧
  (ys = [] → Q (.ref a) H) ∧ (ys ≠ [] → ∀ p, H p = none → Q (.ref p) (upd H p (.tup (xs ++ ys))))
theorem Vals.nil_iff {xs : List V} {us : List Value} (r : Vals xs us) : us = [] ↔ xs = [] := by
  cases r with
  | nil => simp
  | cons _ _ => simp
theorem op_catT : OpR X (binaryOp .Add) (rCatT X.K) := by
  intro pins s σ H x y v u Q I rx ry h
  obtain ⟨a, b, xs, ys, rfl, rfl, ha, hb, hx, hz, q1, q2⟩ := h
  cases rx
  cases ry
  obtain ⟨its, r1, p1, _⟩ := I.tuple ha
  obtain ⟨its2, r2, p2, _⟩ := I.tuple hb
  refine HT.cat_tup p1 p2 (fun z => hx (r1.nil_iff.mp z)) (fun z => ⟨.ref a, H, I, rfl, q1 (r2.nil_iff.mp z)⟩) (fun z => ?_) (by rw [← r1.length, ← r2.length]; exact hz)
  refine ⟨.ref s.heap.objs.size, _, I.laid (t' := s.toks) (o := .tup (xs ++ ys)) (fun b ob q => Heap.get?_push_of_some _ q) (Nat.le_refl _) ?_, rfl, q2 (fun w => z (r2.nil_iff.mpr w)) _ (I.hok.fresh (Nat.le_refl _))⟩
  exact ⟨by rw [List.length_append]; exact hz, _, r1.append r2, IsTup.new _ _⟩
end
end L2
namespace L2
open PySem PySem.Spec PyProof.Rows
noncomputable def ixN (n : Nat) (i : Int) : Option Nat := if 0 ≤ i then (if i < n then some i.toNat else none) else if -(n : Int) ≤ i then some (i + n).toNat else none
noncomputable def atI {α : Type} (xs : List α) (i : Int) : Option α := (ixN xs.length i).bind fun j => xs[j]?
theorem ixN_seq {n : Nat} {i : Int} {j : Nat} (h : ixN n i = some j) : seqIndex? i n = some j ∧ j < n ∧ -(n : Int) ≤ i ∧ i < n := by
  unfold ixN at h
  by_cases h0 : 0 ≤ i
  · rw [if_pos h0] at h
    by_cases h1 : i < n
    · rw [if_pos h1] at h
      have e : i.toNat = j := Option.some.inj h
      exact ⟨by rw [seqIndex_of h0 h1, e], by omega, by omega, h1⟩
    · rw [if_neg h1] at h; cases h
  · rw [if_neg h0] at h
    by_cases h1 : -(n : Int) ≤ i
    · rw [if_pos h1] at h
      have e : (i + n).toNat = j := Option.some.inj h
      exact ⟨by rw [seqIndex_neg (by omega) h1, e], by omega, h1, by omega⟩
    · rw [if_neg h1] at h; cases h
theorem atI_get {α : Type} {xs : List α} {i : Int} {v : α} (h : atI xs i = some v) : ∃ j, seqIndex? i xs.length = some j ∧ xs[j]? = some v ∧ j < xs.length ∧ -(xs.length : Int) ≤ i ∧ i < xs.length := by
  unfold atI at h
  cases e : ixN xs.length i with
  | none => rw [e] at h; cases h
  | some j =>
    rw [e] at h
    obtain ⟨h1, h2, h3, h4⟩ := ixN_seq e
    exact ⟨j, h1, h, h2, h3, h4⟩
theorem atI_nat {α : Type} {xs : List α} {j : Nat} {v : α} (h : xs[j]? = some v) : atI xs (j : Int) = some v := by
  have hj : j < xs.length := (List.getElem?_eq_some_iff.mp h).1
  have e : ixN xs.length (j : Int) = some j := by
    unfold ixN
    rw [if_pos (by omega), if_pos (by omega)]; simp
  unfold atI; rw [e]; exact h
theorem atI_last {α : Type} (xs : List α) (v : α) : atI (xs ++ [v]) (-1) = some v := by
  have hl : (xs ++ [v]).length = xs.length + 1 := by simp
  have e : ixN (xs ++ [v]).length (-1) = some xs.length := by
    unfold ixN
    rw [hl, if_neg (by decide), if_pos (by omega)]
    congr 1
    omega
  unfold atI
  rw [e]
  show (xs ++ [v])[xs.length]? = some v
  simp
noncomputable def PlainIx (b : Expr) : Prop := ∀ o i, subscripted b false o i = operate [o, i] (getItem o i)
noncomputable def IxR (X : Cx) (r : R2) : Prop :=
  ∀ (value slice : Expr) (pins : List (Addr × Obj)) (s : Shared) (σ : St) (H : Hp) (x y : V) (v u : Value) (Q : VK), Inv X pins σ H s → RelV x v → RelV y u → r x y H Q →
    subscripted slice false v u = operate [v, u] (getItem v u) → wpAny (model X.prog X.w) X.A (subscriptTail value slice v u) (EP X pins σ Q) X.xe s
noncomputable def MtR (X : Cx) (id : String) (r : V → List V → Hp → VK → Prop) : Prop :=
  ∀ (pins : List (Addr × Obj)) (s : Shared) (σ : St) (H : Hp) (x : V) (xs : List V) (v : Value) (us : List Value) (Q : VK), Inv X pins σ H s → RelV x v → Vals xs us → r x xs H Q →
    wpAny (model X.prog X.w) X.A (call (.builtin id) (v :: us)) (EP X pins σ Q) X.xe s
section
variable {X : Cx} {a b : Expr} {ta tb : TE} {pos : Pos}
theorem pe_ix {r : R2} (hr : IxR X r) (ha : PE X a ta) (hb : PE X b tb) (hs : PlainIx b) : PE X (.Subscript a b pos) (tOp r ta tb) := by
  intro pins s σ H Q I h
  exact Subscript_ (binT ha hb I h fun v u s2 x y H2 I2 rx ry q => hr a b pins s2 σ H2 x y v u Q I2 rx ry q (hs _ _))
noncomputable def rIxL (K : PySem.W.Frag) : R2 := fun x y H Q => ∃ p xs i v, x = .ref p ∧ y = .int i ∧ SqL K H p xs ∧ atI xs i = some v ∧ Q v H
noncomputable def rIxT (K : PySem.W.Frag) : R2 := fun x y H Q => ∃ p xs i v, x = .ref p ∧ y = .int i ∧ SqT K H p xs ∧ atI xs i = some v ∧ Q v H
theorem ix_list : IxR X (rIxL X.K) := by
  intro value slice pins s σ H x y v u Q I rx ry h hs
  obtain ⟨p, xs, i, z, rfl, rfl, hq, he, q⟩ := h
  cases rx
  obtain ⟨t, rfl⟩ := ry
  obtain ⟨its, r, pl, hz⟩ := I.list hq
  obtain ⟨j, h1, h2, h3, h4, h5⟩ := atI_get he
  obtain ⟨w, ew, rw'⟩ := r.get h2
  have hl := r.length
  have hn := line63
  have fin : EP X pins σ Q w s := ⟨z, H, I, rw', q⟩
  by_cases h0 : 0 ≤ i
  · have hj : i.toNat = j := by
      rw [seqIndex_of h0 h5] at h1
      exact Option.some.inj h1
    exact item_listR pl.isList h0 (by omega) (by rw [hj]; simpa using ew) fin hs
  · have hj : (i + (its.toArray.size : Int)).toNat = j := by
      rw [seqIndex_neg (by omega) h4] at h1
      rw [List.size_toArray, ← hl]
      exact Option.some.inj h1
    exact subscriptTail_builtinR (x := w) pl.isList.typeIs slot_list_getitem.lookup
      (wpAny_getItem_list_neg (Q := fun r s' => r = w ∧ EP X pins σ Q r s') pl.isList (by omega) (by rw [List.size_toArray] <;> omega) (by omega) (by rw [hj]; simpa using ew) ⟨rfl, fin⟩) hs
theorem ix_tup : IxR X (rIxT X.K) := by
  intro value slice pins s σ H x y v u Q I rx ry h hs
  obtain ⟨p, xs, i, z, rfl, rfl, hq, he, q⟩ := h
  cases rx
  obtain ⟨t, rfl⟩ := ry
  obtain ⟨its, r, pl, hz⟩ := I.tuple hq
  obtain ⟨j, h1, h2, h3, h4, h5⟩ := atI_get he
  obtain ⟨w, ew, rw'⟩ := r.get h2
  have hl := r.length
  have hn := line63
  have fin : EP X pins σ Q w s := ⟨z, H, I, rw', q⟩
  exact subscriptTail_builtinR (x := w) pl.typeIs slot_tuple_getitem.lookup
    (getItem_tuple (j := j) (Q := fun r s' => r = w ∧ EP X pins σ Q r s') pl (by omega) (by omega) (by rw [List.size_toArray, ← hl]; exact h1) (by simpa using ew) ⟨rfl, fin⟩) hs
theorem mapSeq_set (its : List Value) (n j : Nat) (u : Value) : Obj.mapSeq (·.setIfInBounds j u) { cls := .type "list", data := .seq its.toArray n } = { cls := .type "list", data := .seq (its.set j u).toArray n } := by
  simp [Obj.mapSeq]
theorem Inv.lst {pins : List (Addr × Obj)} {σ : St} {H : Hp} {s : Shared} {p : Addr} {xs : List V} (I : Inv X pins σ H s) (h : H p = some (.lst xs)) :
    ∃ (its : List Value) (n : Nat), Vals xs its ∧ s.heap.get? p = some { cls := .type "list", data := .seq its.toArray n } ∧ xs.length ≤ sizeLine := by
  obtain ⟨z, its, n, r, e⟩ := I.hok p _ h
  exact ⟨its, n, r, e, z⟩
theorem Inv.lstUpd {pins : List (Addr × Obj)} {σ : St} {H : Hp} {s : Shared} {p : Addr} {xs ys : List V} {its its' : List Value} {n n' : Nat} {f : Obj → Obj} (I : Inv X pins σ H s) (h : H p = some (.lst xs))
    (ho : s.heap.get? p = some { cls := .type "list", data := .seq its.toArray n }) (hf : f { cls := .type "list", data := .seq its.toArray n } = { cls := .type "list", data := .seq its'.toArray n' }) (r : Vals ys its') (hz : ys.length ≤ sizeLine) (t : Nat) :
    Inv X pins σ (upd H p (.lst ys)) { s with heap := s.heap.update p f, toks := t } := by
  have e : (s.heap.update p f).get? p = some { cls := .type "list", data := .seq its'.toArray n' } := by
    rw [Heap.get?_update_self f ho (by rw [hf] <;> rfl), hf]
  refine I.write (x := p) (e := p) (by rw [h]; trivial) (.inl rfl) (fun b u hb q => (Heap.get?_update_other _ _ (Ne.symm hb)).trans q) ⟨_, e⟩ ?_
  exact ⟨hz, its', n', r, e⟩
noncomputable def rSetL : V → V → V → Hp → (Hp → Prop) → Prop := fun o i v H Q => ∃ p xs k j, o = .ref p ∧ i = .int k ∧ H p = some (.lst xs) ∧ ixN xs.length k = some j ∧ Q (upd H p (.lst (xs.set j v)))
theorem set_list : PSet X rSetL := by
  intro pins s σ H o i v ov iv u Q I ro ri rv h
  obtain ⟨p, xs, k, j, rfl, rfl, hp, hj, q⟩ := h
  cases ro
  obtain ⟨t, rfl⟩ := ri
  obtain ⟨its, n, r, ho, hz⟩ := I.lst hp
  obtain ⟨h1, h2, h3, h4⟩ := ixN_seq hj
  have hl := r.length
  have hn := line63
  have I' : Inv X pins σ (upd H p (.lst (xs.set j v))) { s with heap := s.heap.update p (Obj.mapSeq (·.setIfInBounds j u)) } :=
    I.lstUpd hp ho (mapSeq_set its n j u) (r.set rv j) (by rw [List.length_set]; exact hz) s.toks
  by_cases h0 : 0 ≤ k
  · have hk : k.toNat = j := by
      rw [seqIndex_of h0 h4] at h1
      exact Option.some.inj h1
    exact PySem.W.ki_setAt ho h0 (by omega) (by rw [List.size_toArray, ← hl]; exact h4) (by rw [hk]; exact ⟨_, I', q⟩)
  · have hk : (k + (its.toArray.size : Int)).toNat = j := by
      rw [seqIndex_neg (by omega) h3] at h1
      rw [List.size_toArray, ← hl]
      exact Option.some.inj h1
    exact PySem.W.ki_setBack ho (by omega) (by rw [List.size_toArray, ← hl]; exact h3) (by omega) (by rw [hk]; exact ⟨_, I', q⟩)
noncomputable def flatV : V → Bool
  | .non => true
  | .bl _ => true
  | .int _ => true
  | .str _ => true
  | _ => false
noncomputable def eqV : V → V → Bool
  | .non, .non => true
  | .bl a, .bl b => a == b
  | .bl a, .int b => (if a then 1 else 0) == b
  | .int a, .bl b => a == (if b then 1 else 0)
  | .int a, .int b => a == b
  | .str a, .str b => a == b
  | _, _ => false
theorem eqAt_V {A : Around} {s : Shared} {y x : V} {u v : Value} (ry : RelV y u) (rx : RelV x v) (fy : flatV y = true) (fx : flatV x = true) : SeqAt.EqAt A s u v (eqV y x) := by
  cases y with
  | non =>
    cases ry
    cases x with
    | non => cases rx; exact SeqAt.EqAt.same _
    | bl b => cases rx; exact SeqAt.EqAt.none_bool b
    | int b => obtain ⟨t, rfl⟩ := rx; exact SeqAt.EqAt.none_int b t
    | str b => obtain ⟨t, rfl⟩ := rx; exact SeqAt.EqAt.none_str b t
    | _ => exact absurd (show false = true from fx) Bool.false_ne_true
  | bl a =>
    cases ry
    cases x with
    | non => cases rx; exact SeqAt.EqAt.bool_none a
    | bl b => cases rx; exact SeqAt.EqAt.bool_bool a b
    | int b => obtain ⟨t, rfl⟩ := rx; exact SeqAt.EqAt.bool_int a b t
    | str b => obtain ⟨t, rfl⟩ := rx; exact SeqAt.EqAt.bool_str a b t
    | _ => exact absurd (show false = true from fx) Bool.false_ne_true
  | int a =>
    obtain ⟨t', rfl⟩ := ry
    cases x with
    | non => cases rx; exact SeqAt.EqAt.int_none a t'
    | bl b => cases rx; exact SeqAt.EqAt.int_bool a t' b
    | int b => obtain ⟨t, rfl⟩ := rx; exact SeqAt.EqAt.int_int a t' b t
    | str b => obtain ⟨t, rfl⟩ := rx; exact SeqAt.EqAt.int_str a t' b t
    | _ => exact absurd (show false = true from fx) Bool.false_ne_true
  | str a =>
    obtain ⟨t', rfl⟩ := ry
    cases x with
    | non => cases rx; exact SeqAt.EqAt.str_none a t'
    | bl b => cases rx; exact SeqAt.EqAt.str_bool a t' b
    | int b => obtain ⟨t, rfl⟩ := rx; exact SeqAt.EqAt.str_int a t' b t
    | str b => obtain ⟨t, rfl⟩ := rx; exact SeqAt.EqAt.str_str a t' b t
    | _ => exact absurd (show false = true from fx) Bool.false_ne_true
  | _ => exact absurd (show false = true from fy) Bool.false_ne_true
noncomputable def eqU (x : V) (u : Value) : Bool := match u with
  | .none => eqV .non x
  | .bool b => eqV (.bl b) x
  | .int i _ => eqV (.int i) x
  | .str z _ => eqV (.str z) x
  | _ => false
theorem eqU_of {x y : V} {u : Value} (r : RelV y u) (f : flatV y = true) : eqU x u = eqV y x := by
  cases y with
  | non => cases r; rfl
  | bl b => cases r; rfl
  | int i => obtain ⟨t, rfl⟩ := r; rfl
  | str z => obtain ⟨t, rfl⟩ := r; rfl
  | _ => exact absurd (show false = true from f) Bool.false_ne_true
theorem any_eqU {x : V} : ∀ {xs : List V} {us : List Value}, Vals xs us → xs.all flatV = true → us.any (eqU x) = xs.any fun y => eqV y x
  | _, _, .nil, _ => rfl
  | y :: xs, u :: us, .cons r t, f => by
    rw [List.all_cons, Bool.and_eq_true] at f
    rw [List.any_cons, List.any_cons, eqU_of r f.1, any_eqU t f.2]
theorem mem_eqAt {A : Around} {s : Shared} {x : V} {v : Value} (rx : RelV x v) (fx : flatV x = true) : ∀ {xs : List V} {us : List Value}, Vals xs us → xs.all flatV = true → ∀ u ∈ us, SeqAt.EqAt A s u v (eqU x u)
  | _, _, .nil, _ => fun u hu => by cases hu
  | y :: xs, u :: us, .cons r t, f => fun u' hu => by
    rw [List.all_cons, Bool.and_eq_true] at f
    rcases List.mem_cons.mp hu with rfl | hu
    · rw [eqU_of r f.1]; exact eqAt_V r rx f.1 fx
    · exact mem_eqAt rx fx t f.2 u' hu
noncomputable def inV (x : V) (xs : List V) : Bool := xs.any fun y => eqV y x
noncomputable def rIn (K : PySem.W.Frag) (neg : Bool) : R2 := fun x y H Q => ∃ p xs, y = .ref p ∧ (SqL K H p xs ∨ SqT K H p xs) ∧ flatV x = true ∧ xs.all flatV = true ∧ Q (.bl (if neg then !inV x xs else inV x xs)) H
theorem op_in_seq : OpR X (compareOp .In) (rIn X.K false) := by
  intro pins s σ H x y v u Q I rx ry h
  obtain ⟨p, xs, rfl, hq, fx, fs, q⟩ := h
  cases ry
  rcases hq with hq | hq
  · obtain ⟨its, r, pl, hz⟩ := I.list hq
    refine SeqAt.in_listAt (eqU x) pl.isList (fun w hw => mem_eqAt rx fx r fs w (by simpa using hw)) ⟨.bl _, H, I, rfl, ?_⟩
    rw [show its.toArray.any (eqU x) = its.any (eqU x) by simp, any_eqU r fs]
    exact q
  · obtain ⟨its, r, pl, hz⟩ := I.tuple hq
    refine SeqAt.in_tupleAt (eqU x) pl (fun w hw => mem_eqAt rx fx r fs w (by simpa using hw)) ⟨.bl _, H, I, rfl, ?_⟩
    rw [show its.toArray.any (eqU x) = its.any (eqU x) by simp, any_eqU r fs]
    exact q
theorem op_notIn_seq : OpR X (compareOp .NotIn) (rIn X.K true) := by
  intro pins s σ H x y v u Q I rx ry h
  obtain ⟨p, xs, rfl, hq, fx, fs, q⟩ := h
  cases ry
  rcases hq with hq | hq
  · obtain ⟨its, r, pl, hz⟩ := I.list hq
    refine SeqAt.notIn_listAt (eqU x) pl.isList (fun w hw => mem_eqAt rx fx r fs w (by simpa using hw)) ⟨.bl _, H, I, rfl, ?_⟩
    rw [show its.toArray.any (eqU x) = its.any (eqU x) by simp, any_eqU r fs]
    exact q
  · obtain ⟨its, r, pl, hz⟩ := I.tuple hq
    refine SeqAt.notIn_tupleAt (eqU x) pl (fun w hw => mem_eqAt rx fx r fs w (by simpa using hw)) ⟨.bl _, H, I, rfl, ?_⟩
    rw [show its.toArray.any (eqU x) = its.any (eqU x) by simp, any_eqU r fs]
    exact q
theorem call_len_seq : CallR X (.builtin "len") (fun xs H Q => ∃ p ys, xs = [.ref p] ∧ (SqL X.K H p ys ∨ SqT X.K H p ys) ∧ Q (.int ys.length) H) := by
  intro pins s σ H xs us Q I r h
  obtain ⟨p, ys, rfl, hq, q⟩ := h
  obtain ⟨u, rfl, rx⟩ := vals1 r
  cases rx
  have hn := line63
  rcases hq with hq | hq
  · obtain ⟨its, r', pl, hz⟩ := I.list hq
    have hlen := r'.length
    exact Calls.call_len_list pl.isList (by simp only [List.size_toArray] <;> omega) ⟨.int ys.length, H, I.tok _, ⟨s.toks + 1, by rw [List.size_toArray, hlen]⟩, q⟩
  · obtain ⟨its, r', pl, hz⟩ := I.tuple hq
    have hlen := r'.length
    exact len_tuple pl (by simp only [List.size_toArray] <;> omega) ⟨.int ys.length, H, I.tok _, ⟨s.toks + 1, by rw [List.size_toArray, hlen]⟩, q⟩
theorem call_list_of : CallR X (.type "list") (fun xs H Q => ∃ p ys, xs = [.ref p] ∧ (SqL X.K H p ys ∨ SqT X.K H p ys) ∧ ∀ l, H l = none → Q (.ref l) (upd H l (.lst ys))) := by
  intro pins s σ H xs us Q I r h
  obtain ⟨p, ys, rfl, hq, q⟩ := h
  obtain ⟨u, rfl, rx⟩ := vals1 r
  cases rx
  have fin : ∀ (its : List Value), Vals ys its → ys.length ≤ sizeLine → ∀ (h' : Heap) (c' : Nat), (∀ b o', s.heap.get? b = some o' → h'.get? b = some o') →
      h'.get? s.heap.objs.size = some { cls := .type "list", dict := none, data := .seq its.toArray c', slots := #[] } → EP X pins σ Q (.ref s.heap.objs.size) { s with heap := h' } := fun its r' hz h' c' kp e =>
    ⟨.ref s.heap.objs.size, _, I.laid (t' := s.toks) kp (Nat.le_refl _) (show ObjOk X.prog X.w _ h' _ (.lst ys) from ⟨hz, its, c', r', e⟩), rfl, q _ (I.hok.fresh (Nat.le_refl _))⟩
  rcases hq with hq | hq
  · obtain ⟨its, r', pl, hz⟩ := I.list hq
    have hlen := r'.length
    obtain ⟨o, ho, hc, n, hd⟩ := pl.isList
    exact call_list_seq p (.inl rfl) ho hc hd (fun h' c' kp e => fin its r' hz h' c' kp e) (by simp only [List.size_toArray] <;> omega)
  · obtain ⟨its, r', pl, hz⟩ := I.tuple hq
    have hlen := r'.length
    obtain ⟨o, ho, hc, n, hd⟩ := pl
    exact call_list_seq p (.inr rfl) ho hc hd (fun h' c' kp e => fin its r' hz h' c' kp e) (by simp only [List.size_toArray] <;> omega)
theorem call_tuple_of : CallR X (.type "tuple") (fun xs H Q => ∃ p ys, xs = [.ref p] ∧ ((SqL X.K H p ys ∧ ∀ l, H l = none → Q (.ref l) (upd H l (.tup ys))) ∨ (SqT X.K H p ys ∧ Q (.ref p) H))) := by
  intro pins s σ H xs us Q I r h
  obtain ⟨p, ys, rfl, h⟩ := h
  obtain ⟨u, rfl, rx⟩ := vals1 r
  cases rx
  rcases h with ⟨hq, q⟩ | ⟨hq, q⟩
  · obtain ⟨its, r', pl, hz⟩ := I.list hq
    have hlen := r'.length
    refine call_tuple_list pl.isList (fun h' kp => ?_) (by simp only [List.size_toArray] <;> omega)
    have I1 : Inv X pins σ H { s with heap := h' } := I.kept (t' := s.toks) kp
    have I2 : Inv X pins σ (upd H h'.objs.size (.tup ys)) { s with heap := h'.push { cls := .type "tuple", data := .seq its.toArray } } :=
      I1.laid (t' := s.toks) (fun b o e => Heap.get?_push_of_some _ e) (Nat.le_refl _) (show ObjOk X.prog X.w _ _ _ (.tup ys) from ⟨hz, its, r', IsTup.new _ _⟩)
    exact ⟨.ref h'.objs.size, _, I2, rfl, q _ (I1.hok.fresh (Nat.le_refl _))⟩
  · obtain ⟨its, r', pl, hz⟩ := I.tuple hq
    exact call_tuple_same pl ⟨.ref p, H, I, rfl, q⟩
noncomputable def tyV (K : PySem.W.Frag) (T : String) (x : V) (H : Hp) : Prop := match x with
  | .str _ => T = "str"
  | .int _ => T = "int"
  | .ref p => (T = "list" ∧ ∃ xs, SqL K H p xs) ∨ (T = "tuple" ∧ ∃ o, K.lookup p = some o ∧ o.cls = .type "tuple" ∧ o.dict = none) ∨
      (T = "dict" ∧ ((∃ kvs, H p = some (.dK kvs)) ∨ ∃ kvs, H p = some (.dT kvs))) ∨ (T = "set" ∧ ∃ S n, H p = some (.set S n))
  | _ => False
theorem tyV_is {pins : List (Addr × Obj)} {σ : St} {H : Hp} {s : Shared} {T : String} {x : V} {v : Value} (I : Inv X pins σ H s) (r : RelV x v) (ty : tyV X.K T x H) :
    s.TypeIs v T ∧ ∀ a, v = .ref a → ∃ ob, s.heap.get? a = some ob ∧ ob.dict = none := by
  cases x with
  | str z =>
    obtain ⟨t, rfl⟩ := r
    cases (show T = "str" from ty)
    exact ⟨typeIs_str s z t, fun _ e => nomatch e⟩
  | int i =>
    obtain ⟨t, rfl⟩ := r
    cases (show T = "int" from ty)
    exact ⟨typeIs_int s i t, fun _ e => nomatch e⟩
  | ref p =>
    cases r
    rcases ty with ⟨rfl, xs, hq⟩ | ⟨rfl, o, hk, hc, hd⟩ | ⟨rfl, hk⟩ | ⟨rfl, S, n, hk⟩
    · obtain ⟨its, _, pl, _⟩ := I.list hq
      refine ⟨pl.isList.typeIs, fun a e => ?_⟩
      cases e
      obtain ⟨o, n, e, c, hd, _⟩ := pl
      exact ⟨o, e, hd⟩
    · refine ⟨⟨o, I.kIn p o hk, hc⟩, fun a e => ?_⟩
      cases e
      exact ⟨o, I.kIn _ o hk, hd⟩
    · have z : ∃ o, s.heap.get? p = some o ∧ o.ExactDict := by
        rcases hk with ⟨kvs, hk⟩ | ⟨kvs, hk⟩
        · obtain ⟨_, _, _, _, o, _, _, e, ex, _⟩ := I.hok p _ hk
          exact ⟨o, e, ex⟩
        · obtain ⟨_, _, _, _, o, _, _, e, ex, _⟩ := I.hok p _ hk
          exact ⟨o, e, ex⟩
      obtain ⟨o, e, ex⟩ := z
      refine ⟨⟨o, e, ex.1⟩, fun a e2 => ?_⟩
      cases e2
      exact ⟨o, e, ex.2.1⟩
    · obtain ⟨o, _, _, _, e, ex, _⟩ := I.hok p _ hk
      refine ⟨⟨o, e, ex.1⟩, fun a e2 => ?_⟩
      cases e2
      exact ⟨o, e, ex.2.1⟩
  | _ => exact False.elim ty
noncomputable def tBM0 (K : PySem.W.Frag) (T : String) (r : V → List V → Hp → VK → Prop) (to : TE) : TE := fun σ H Q => to σ H fun x H1 => tyV K T x H1 ∧ r x [] H1 Q
noncomputable def tBM (K : PySem.W.Frag) (T : String) (r : V → List V → Hp → VK → Prop) (to : TE) (t : TA) : TE := fun σ H Q => to σ H fun x H1 => tyV K T x H1 ∧ t σ H1 fun xs H2 => r x xs H2 Q
variable {o e : Expr} {es : List Expr} {to : TE} {t : TA} {name : Str} {apos cpos : Pos} {T id : String} {r : V → List V → Hp → VK → Prop}
theorem pe_bm0 (pa : PlainAttrs T) (slot : Slot T name id) (hty : typeOf (.builtin id) = pure (.type "method_descriptor")) (hm : MtR X id r) (ho : PE X o to)
    (hbase : autoParam (attributeBase o name X.env (eval o X.env) = eval o X.env) L2.aRfl._auto_1) (hline : autoParam ((apos.endLine == cpos.line) = true) L2.aRfl._auto_1) : PE X (.Call (.Attribute o name apos) [] [] cpos) (tBM0 X.K T r to) := by
  intro pins s σ H Q I h
  refine wpAny_Call_method0_late hbase hline (thn (ho pins s σ H _ I h) fun v s1 ⟨x, H1, I1, r1, ty, q1⟩ => ?_)
  obtain ⟨h1, h2⟩ := tyV_is I1 r1 ty
  exact ⟨T, id, pa, slot, hty, h1, h2, Calls.callWith_builtin rfl (PySem.evalArgs_none (hm pins s1 σ H1 x [] v [] Q I1 r1 .nil q1))⟩
theorem pe_bm (pa : PlainAttrs T) (slot : Slot T name id) (hty : typeOf (.builtin id) = pure (.type "method_descriptor")) (hm : MtR X id r) (ho : PE X o to) (ha : PA X (e :: es) t)
    (hbase : autoParam (attributeBase o name X.env (eval o X.env) = eval o X.env) L2.aRfl._auto_1)
    (hfew : ((backTo cpos (starEach (e :: es) X.env)).all (fun x => !x.1) && (backToKw cpos (keywordEach [] X.env)).all (fun x => x.1.isSome)
      && decide ((e :: es).length + ([] : List Keyword).length + (if ([] : List Keyword).isEmpty then 0 else 1) < 30)) = true := by rfl)
    (hline : autoParam ((apos.endLine == cpos.line) = true) L2.aRfl._auto_1) (hs : autoParam (starEach (e :: es) X.env = (false, eval e X.env) :: starEach es X.env) L2.aRfl._auto_1) (hplain : autoParam ((backTo cpos (starEach es X.env)).any (·.1) = false) L2.aRfl._auto_1) :
    PE X (.Call (.Attribute o name apos) (e :: es) [] cpos) (tBM X.K T r to t) := by
  intro pins s σ H Q I h
  refine wpAny_Call_method_late hbase hfew hline rfl (thn (ho pins s σ H _ I h) fun v s1 ⟨x, H1, I1, r1, ty, q1⟩ => ?_)
  obtain ⟨h1, h2⟩ := tyV_is I1 r1 ty
  refine ⟨T, id, pa, slot, hty, h1, h2, ?_⟩
  have hA := ha cpos pins s1 σ H1 _ I1 q1
  rw [hs] at hA ⊢
  refine Calls.callWith_builtin (by show (false || (backTo cpos (starEach es X.env)).any (·.1)) = false; rw [hplain] <;> rfl) (Calls.evalArgs_plain ?_)
  exact thn hA fun us s2 ⟨vs, H2, I2, r2, q2⟩ => hm pins s2 σ H2 x vs v us Q I2 r1 r2 q2
/- xs.append(e), list.index on a module's tuple .. are MtR facts of 06m -/
end
end L2
namespace L2
open PySem PySem.Spec PyProof.Rows
noncomputable def MtM (X : Cx) (id : String) (r : V → List V → Hp → VK → Prop) : Prop :=
  ∀ (pins : List (Addr × Obj)) (s : Shared) (σ : St) (H : Hp) (x : V) (xs : List V) (v : Value) (us : List Value) (Q : VK), Inv X pins σ H s → RelV x v → Vals xs us → r x xs H Q →
    wpAny (model X.prog X.w) X.A (call (.builtin id) (v :: us)) (EP X pins σ Q) X.xe s
theorem Vals.one {x : V} {us : List Value} (h : Vals [x] us) : ∃ u, us = [u] ∧ RelV x u := by
  cases h with
  | cons r t => cases t; exact ⟨_, rfl, r⟩
theorem Vals.two {x y : V} {us : List Value} (h : Vals [x, y] us) : ∃ u v, us = [u, v] ∧ RelV x u ∧ RelV y v := by
  cases h with
  | cons r t =>
    cases t with
    | cons q t => cases t; exact ⟨_, _, rfl, r, q⟩
theorem Vals.zero : ∀ {us : List Value}, Vals [] us → us = []
  | _, .nil => rfl
theorem Vals.dropLast {xs : List V} {us : List Value} (h : Vals xs us) : Vals xs.dropLast us.dropLast := by
  induction h with
  | nil => exact .nil
  | cons r t ih =>
    cases t with
    | nil => exact .nil
    | cons q t' => exact .cons r ih
theorem Vals.rep {xs : List V} {us : List Value} (h : Vals xs us) : ∀ k : Nat, Vals (List.replicate k xs).flatten (List.replicate k us).flatten
  | 0 => .nil
  | k + 1 => by
    rw [List.replicate_succ, List.replicate_succ, List.flatten_cons, List.flatten_cons]
    exact Vals.append h (Vals.rep h k)
theorem erase_last {α : Type} (l : List α) : l.eraseIdx (l.length - 1) = l.dropLast := by
  induction l with
  | nil => rfl
  | cons a r ih =>
    cases r with
    | nil => rfl
    | cons b r =>
      have e : (a :: b :: r).length - 1 = ((b :: r).length - 1) + 1 := by
        have h1 : (a :: b :: r).length = r.length + 2 := rfl
        have h2 : (b :: r).length = r.length + 1 := rfl
        omega
      rw [e, List.eraseIdx_cons_succ, ih]
      all_goals rfl
theorem foldl_rep (its : List Value) : ∀ (k : Nat) (acc : List Value),
    List.foldl (fun x1 x2 => x1 ++ x2) acc.toArray (List.replicate k its.toArray) = (acc ++ (List.replicate k its).flatten).toArray
  | 0, acc => by simp
  | k + 1, acc => by
    have e : acc.toArray ++ its.toArray = (acc ++ its).toArray := by simp
    have e2 : (acc ++ its) ++ (List.replicate k its).flatten = acc ++ (List.replicate (k + 1) its).flatten := by
      rw [List.replicate_succ, List.flatten_cons, List.append_assoc]
    rw [← e2, ← foldl_rep its k (acc ++ its), ← e, List.replicate_succ, List.foldl_cons]
section
variable {X : Cx} {pins : List (Addr × Obj)} {σ : St} {H : Hp} {s : Shared} {l b : Addr} {xs ys zs : List V}
theorem Inv.lset {its its' : List Value} {n : Nat} {f : Array Value → Array Value} {t' : Nat} (I : Inv X pins σ H s) (hH : H l = some (.lst xs))
    (e : s.heap.get? l = some { cls := .type "list", data := .seq its.toArray n }) (hf : f its.toArray = its'.toArray) (hv : Vals ys its') (hz : ys.length ≤ sizeLine) :
    Inv X pins σ (upd H l (.lst ys)) { s with heap := s.heap.update l (Obj.mapSeq f), toks := t' } := by
  have q := PySem.IsL.update e f
  rw [hf] at q
  refine I.write (x := l) (e := l) (by rw [hH]; exact trivial) (.inl rfl) (fun b' u hb hu => (Heap.get?_update_other s.heap (Obj.mapSeq f) (Ne.symm hb)).trans hu) ⟨_, q⟩ ?_
  exact ⟨hz, its', _, hv, q⟩
theorem Inv.lnew {its : List Value} {t' : Nat} (I : Inv X pins σ H s) (hv : Vals ys its) (hz : ys.length ≤ sizeLine) :
    Inv X pins σ (upd H s.heap.objs.size (.lst ys)) { s with heap := s.heap.push { cls := .type "list", data := .seq its.toArray }, toks := t' } :=
  I.laid (fun _ _ q => Heap.get?_push_of_some _ q) (Nat.le_refl _) ⟨hz, its, 0, hv, Heap.get?_push_size _ rfl⟩
theorem Inv.fresh (I : Inv X pins σ H s) : H s.heap.objs.size = none := I.hok.fresh (Nat.le_refl _)
theorem Inv.lstM (I : Inv X pins σ H s) (hH : H l = some (.lst xs)) : xs.length ≤ sizeLine ∧ ∃ (its : List Value) (n : Nat), Vals xs its ∧ xs.length = its.length ∧ s.heap.get? l = some { cls := .type "list", data := .seq its.toArray n } := by
  obtain ⟨z, its, n, r, e⟩ := I.hok l _ hH
  exact ⟨z, its, n, r, r.length, e⟩
theorem notLongL {n : Nat} (h : n ≤ sizeLine) : Builtin.List.listTooLong n = false := by
  unfold Builtin.List.listTooLong
  exact decide_eq_false (by omega)
end
section
variable {X : Cx}
noncomputable def rAppend : V → List V → Hp → VK → Prop := fun x vs H Q => ∃ l xs y, x = .ref l ∧ vs = [y] ∧ H l = some (.lst xs) ∧ xs.length < sizeLine ∧ Q .non (upd H l (.lst (xs ++ [y])))
theorem mt_append : MtM X "list.append" rAppend := by
  intro pins s σ H x vs v us Q I rx rv h
  obtain ⟨l, xs, y, rfl, rfl, hH, hz, q⟩ := h
  cases rx
  obtain ⟨u, rfl, ru⟩ := rv.one
  obtain ⟨z, its, n, r, hl, e⟩ := I.lstM hH
  refine call_meets F.slot_list_append ⟨_, e, rfl⟩ F.entry_list_append (F.args_list_append_2 _ _) (PySem.list_append l its.toArray n u (by rw [List.size_toArray]; omega)) ⟨e, ?_⟩
  refine ⟨.non, _, I.lset (its' := its ++ [u]) hH e (by simp) (r.append (.cons ru .nil)) ?_, rfl, q⟩
  rw [List.length_append, List.length_singleton]
  omega
noncomputable def rPop : V → List V → Hp → VK → Prop := fun x vs H Q => ∃ l xs y, x = .ref l ∧ vs = [] ∧ H l = some (.lst xs) ∧ xs[xs.length - 1]? = some y ∧ Q y (upd H l (.lst xs.dropLast))
theorem mt_pop : MtM X "list.pop" rPop := by
  intro pins s σ H x vs v us Q I rx rv h
  obtain ⟨l, xs, y, rfl, rfl, hH, hy, q⟩ := h
  cases rx
  have hus := rv.zero
  subst hus
  obtain ⟨z, its, n, r, hl, e⟩ := I.lstM hH
  obtain ⟨u, hu, ru⟩ := r.get hy
  have hy' : its.toArray[its.toArray.size - 1]? = some u := by
    show its.toArray[its.length - 1]? = some u
    rw [← Array.getElem?_toList, ← hl]
    exact hu
  refine call_meets F.slot_list_pop ⟨_, e, rfl⟩ F.entry_list_pop (F.args_list_pop_1 _) (MeetsSeq.list_pop_last l its.toArray n u hy' (by rw [List.size_toArray]; omega)) ⟨e, ?_⟩
  refine ⟨y, _, I.lset (its' := its.dropLast) hH e ?_ r.dropLast ?_, ru, q⟩
  · show its.toArray.eraseIdxIfInBounds (its.toArray.size - 1) = its.dropLast.toArray
    rw [List.size_toArray, List.eraseIdxIfInBounds_toArray, erase_last]
  · rw [List.length_dropLast]
    omega
noncomputable def rClear : V → List V → Hp → VK → Prop := fun x vs H Q => ∃ l xs, x = .ref l ∧ vs = [] ∧ H l = some (.lst xs) ∧ Q .non (upd H l (.lst []))
theorem mt_clear : MtM X "list.clear" rClear := by
  intro pins s σ H x vs v us Q I rx rv h
  obtain ⟨l, xs, rfl, rfl, hH, q⟩ := h
  cases rx
  have hus := rv.zero
  subst hus
  obtain ⟨z, its, n, r, hl, e⟩ := I.lstM hH
  refine call_meets F.slot_list_clear ⟨_, e, rfl⟩ F.entry_list_clear (F.args_list_clear_1 _) (AutoSeq1.list_clear_list_0 l its.toArray n (by rw [List.size_toArray]; omega)) ⟨e, ?_⟩
  exact ⟨.non, _, I.lset (its' := []) (ys := []) hH e rfl .nil (Nat.zero_le _), rfl, q⟩
noncomputable def rCat : R2 := fun x y H Q => ∃ l b xs zs, x = .ref l ∧ y = .ref b ∧ H l = some (.lst xs) ∧ H b = some (.lst zs) ∧ xs.length + zs.length ≤ sizeLine ∧ ∀ p, H p = none → Q (.ref p) (upd H p (.lst (xs ++ zs)))
theorem op_cat : OpR X (binaryOp .Add) rCat := by
  intro pins s σ H x y v u Q I rx ry h
  obtain ⟨l, b, xs, zs, rfl, rfl, hH, hB, hz, q⟩ := h
  cases rx
  cases ry
  obtain ⟨z, its, n, r, hl, e⟩ := I.lstM hH
  obtain ⟨z2, its2, n2, r2, hl2, e2⟩ := I.lstM hB
  refine PySem.P.add_list e e2 ?_ (by rw [List.size_toArray, List.size_toArray]; omega)
  have ea : its.toArray ++ its2.toArray = (its ++ its2).toArray := by simp
  rw [ea]
  exact ⟨.ref _, _, I.lnew (t' := s.toks) (r.append r2) (by rw [List.length_append]; omega), rfl, q _ I.fresh⟩
noncomputable def rRep : R2 := fun x y H Q => ∃ l k xs, x = .ref l ∧ y = .int k ∧ H l = some (.lst xs) ∧ -(2 ^ 63) ≤ k ∧ k < 2 ^ 63 ∧ xs.length * k.toNat ≤ sizeLine ∧
  ∀ p, H p = none → Q (.ref p) (upd H p (.lst (List.replicate k.toNat xs).flatten))
theorem len_rep {α : Type} (xs : List α) (k : Nat) : (List.replicate k xs).flatten.length = k * xs.length := by
  induction k with
  | zero => simp
  | succ k ih => rw [List.replicate_succ, List.flatten_cons, List.length_append, ih, Nat.succ_mul, Nat.add_comm]
theorem op_rep : OpR X (binaryOp .Mult) rRep := by
  intro pins s σ H x y v u Q I rx ry h
  obtain ⟨l, k, xs, rfl, rfl, hH, h1, h2, hz, q⟩ := h
  cases rx
  obtain ⟨t, rfl⟩ := ry
  obtain ⟨z, its, n, r, hl, e⟩ := I.lstM hH
  have hlen : its.toArray.size * k.toNat ≤ sizeLine := by rw [List.size_toArray, ← hl]; exact hz
  have hcap : ¬ its.toArray.size * k.toNat > (2 ^ 63 - 1) / 8 := by
    have : (sizeLine : Nat) ≤ (2 ^ 63 - 1) / 8 := by decide
    omega
  have hfit : ¬ (!Builtin.List.listFitsIndex k) = true := by
    rw [fitsIndex_both h1 h2]
    exact Bool.false_ne_true
  have hlong : ¬ Builtin.List.listTooLong (its.toArray.size * k.toNat) = true := by
    rw [notLongL hlen]
    exact Bool.false_ne_true
  have hnew : List.foldl (fun x1 x2 => x1 ++ x2) #[] (List.replicate (if its.toArray.isEmpty = true then 0 else k.toNat) its.toArray) = (List.replicate k.toNat its).flatten.toArray := by
    have f0 : ∀ m : Nat, List.foldl (fun x1 x2 => x1 ++ x2) #[] (List.replicate m its.toArray) = (List.replicate m its).flatten.toArray := fun m => by
      have := foldl_rep its m []
      rw [List.nil_append] at this
      exact this
    rw [f0]
    cases its with
    | nil => simp
    | cons a r' => rw [if_neg (by simp)]
  refine wpAny_binaryOp_repeat_ref (T := "list") (U := "int") (by decide) ⟨_, e, rfl⟩ (fun s' => typeIs_int s' k t) noFill_list_mul F.fills_int_mul F.slot_int_rmul repeat_list F.slot_int_index.lookup
    (call_meets F.slot_int_rmul (typeIs_int s k t) F.entry_int_rmul (F.args_int_rmul_2 _ _) (int___rmul___int_list k t l its.toArray n)
      ⟨e, rfl, ⟨_, e, rfl⟩, call_meets F.slot_list_mul ⟨_, e, rfl⟩ F.entry_list_mul (F.args_list_mul_2 _ _) (AutoListH.list___mul___list_int_3 l its.toArray n k t hfit hcap hlong) ⟨e, ?_⟩⟩)
  rw [hnew]
  exact ⟨.ref _, _, I.lnew (t' := s.toks) (r.rep k.toNat) (by rw [len_rep, Nat.mul_comm]; exact hz), rfl, q _ I.fresh⟩
end
section
variable {prog : Program} {w : World} {A : Around} {E : Value → Shared → Prop} {s : Shared}
end
section
variable {X : Cx}
end
end L2
namespace Att
open PySem PySem.W PySem.Calls PyProof.Rows
theorem ints_of_wellAll {P : Params} {h : Heap} : ∀ (ns : List Int) (vs : List Value), WellAll P h vs (ns.map WData.int) → IntsAre vs ns := by
  intro ns
  induction ns with
  | nil =>
    intro vs w
    rw [List.map_nil] at w
    cases w
    exact .nil
  | cons n ns ih =>
    intro vs w
    rw [List.map_cons] at w
    cases w with
    | cons a b =>
      cases a
      exact .cons _ _ (ih _ b)
theorem script_of {l : OpenLaw} {n : Nat} (hn : l.most = some n) {P : Params} {h : Heap} {args : List WData} {vals : List Value}
    (hpre : l.row.toRowW.claim.pre args = true) (hwl : WellAll P h vals args) :
    ∃ a vs ns, vals = [Value.ref a] ∧ args = [WData.list (ns.map WData.int)] ∧ h.get? a = some { cls := .type "list", data := .seq vs.toArray } ∧ IntsAre vs ns ∧ ns.length ≤ n := by
  have hsh : WShape.hasAll [] args [.list .int] = true := (pre_splitW hpre).1
  have hc : l.pre.holds [] { args := args } = true := (pre_splitW hpre).2
  obtain ⟨d, r, rfl, h1, h2⟩ := hasAllW_cons hsh
  obtain rfl := hasAllW_nil h2
  obtain ⟨xs, rfl, h3⟩ := hasW_list h1
  obtain ⟨ns, rfl⟩ := items_int h3
  have hlen : ns.length ≤ n := by
    unfold OpenLaw.pre at hc
    have h4 : (WTm.not (.lt (.lit (.int (n : Int))) (.len (.arg 0)))).holds [] { args := [.list (ns.map .int)] } = true := by
      have h4 := (holds_andW hc).1
      rw [hn] at h4
      exact h4
    have h5 := condW_of h4 (w_not (w_lt w_lit (w_len_list (w_arg rfl))))
    rw [List.length_map] at h5
    refine Nat.le_of_not_lt fun q => ?_
    have q' : (n : Int) < ((ns.length : Nat) : Int) := by omega
    first
      | (rw [decide_eq_true q'] at h5; exact absurd h5 (by decide))
      | (simp at h5; omega)
  cases hwl with
  | cons w1 w2 =>
    cases w2
    cases w1 with
    | list ho hall => exact ⟨_, _, ns, rfl, rfl, ho, ints_of_wellAll ns _ hall, hlen⟩
theorem post_true (l : OpenLaw) (args : List WData) : l.row.toRowW.claim.post args (.bool true) args = true :=
  postW_of (r := l.row.toRowW) (X := (true == true))
    (show WShape.has [] (.bool true) .bool = true by first | rfl | decide | simp [WShape.has, WShape.arms, WShape.armsAll])
    (show (WTm.eq .res (.lit (.bool true))).value [] { args := args, res := some (.bool true), after := args } = some (.bool (true == true)) from w_eq_bool (w_res rfl) w_lit) rfl
section
variable {prog : Program} {w : World} {A : Around} {E : Value → Shared → Prop} {s : Shared} {K : Frag}
end
end Att
namespace L2
open PySem PySem.Spec PyProof.Rows
theorem vals_ints : ∀ {vs : List Value} {ns : List Int}, IntsAre vs ns → Vals (ns.map V.int) vs
  | _, _, .nil => .nil
  | _, _, .cons n t h => .cons ⟨t, rfl⟩ (vals_ints h)
noncomputable def Only (H : Hp) : Prop := ∀ b, H b = none ∨ ∃ o xs, H b = some (.frz o (.lst xs))
theorem law_call {P : Program} {w : World} {K : PySem.W.Frag} {mg mb : Str → Option Value} {CX : CXT} {k : Nat} {fa a : Addr} {fd : FuncData} {x : Str} {sp : Sp} {s₁ : Shared} {vs : List Value} {ns : List Int}
    (KX : K.In s₁.heap) (hns : s₁.heap.Ns mainGlobals mg) (hb : s₁.heap.Ns builtinsNs mb) (hbb : ∀ x : Str, x ≠ "__name__" → mb x = bootBuiltins x) (hlim : s₁.heap.NoLimit) (hg : s₁.gens = #[])
    (ha : s₁.heap.get? a = some { cls := .type "list", data := .seq vs.toArray }) (hi : IntsAre vs ns) (hl : ns.length ≤ sizeLine) (hr : Room k callerA)
    (F : ∀ base : Heap, K.In base → base.Ns mainGlobals mg → FnOk P w K mg base CX k fa fd [x] sp) (hbind : ∀ (s : Shared) (u : Value), BindsTo s fd ⟨[u], []⟩ [(x, u)])
    (hsp : ∀ H : Hp, Only H → SqL K H a (ns.map V.int) → sp [.ref a] H (fun v _ => v = .bl true) fun _ _ _ => False)
    (hCX : ∀ H e s', CX [] H s₁ (fun _ _ _ => False) e s' → False) :
    codeAny (model P w) callerA (.call (.ref fa) ⟨[.ref a], []⟩) (fun r s' => r = .ok (.ret (.bool true)) ∧ OldK s₁.heap s'.heap ∧ s'.os = s₁.os ∧ AllBare s'.gens) s₁ := by
  have rv := vals_ints hi
  have lenV := hi.length
  -- from an abstract heap in which nothing but the script may be tracked
  have core : ∀ H : Hp, Only H → SqL K H a (ns.map V.int) → HOk P w H s₁.heap → (∀ b, H b ≠ none → b = a) → (H a ≠ none → K.lookup a = none) →
      codeAny (model P w) callerA (.call (.ref fa) ⟨[.ref a], []⟩) (fun r s' => r = .ok (.ret (.bool true)) ∧ OldK s₁.heap s'.heap ∧ s'.os = s₁.os ∧ AllBare s'.gens) s₁ := by
    intro H hO hS hok hA hK
    have base_of : ∀ {b : Addr} {o : Obj}, s₁.heap.get? b = some o → H b = none → (hidT s₁.heap H).get? b = some o := fun e n => hidT_get e n
    have noA : ∀ {b : Addr} {o : Obj} {es : Array DictEntry} {ep : Nat}, s₁.heap.get? b = some o → o.data = .dict es ep → H b = none := fun {b o es ep} e d => by
      cases q : H b with
      | none => rfl
      | some u =>
        have e' : b = a := hA b (by rw [q]; simp)
        subst e'
        rw [ha] at e; cases e
        have d' : Data.seq vs.toArray _ = Data.dict es ep := d
        cases d'
    have nsK : ∀ {b : Addr} {m : Str → Option Value}, s₁.heap.Ns b m → (hidT s₁.heap H).Ns b m := fun {b m} ⟨o, es, ep, e, d, r⟩ => ⟨o, es, ep, base_of e (noA e d), d, r⟩
    have hKb : K.In (hidT s₁.heap H) := fun b o e => base_of (KX b o e) (by
      cases q : H b with
      | none => rfl
      | some u =>
        have e' : b = a := hA b (by rw [q]; simp)
        subst e'
        rw [hK (by rw [q]; simp)] at e; cases e)
    have hM : Mod K mg (hidT s₁.heap H) := ⟨hKb, nsK hns, ⟨mb, nsK hb, hbb⟩, let ⟨mc, h1, h2⟩ := hlim; ⟨mc, nsK h1, h2⟩⟩
    have e0 : Env0 P w K mg (hidT s₁.heap H) callerA [] s₁ H := ⟨rfl, hM, fun b o e => of_hidT e, Nat.le_of_eq (hidT_size _ _), trivial, fun b hb => absurd (show b ∈ ([] : List Addr) from hb) (by simp), hok, .of_eq hg⟩
    refine codeAny_mono ((F _ hKb (nsK hns)).run callerA [] s₁ H ⟨[.ref a], []⟩ [.ref a] [.ref a] _ _ hr e0 (hbind s₁ (.ref a)) (.cons rfl .nil) (hsp H hO hS)) fun r s' h => ?_
    cases r with
    | error e => exact (hCX H e s' h).elim
    | ok fl =>
      cases fl with
      | next => exact False.elim h
      | brk => exact False.elim h
      | cont => exact False.elim h
      | ret u =>
        obtain ⟨v, H', os, bare, un, hok', r', q⟩ := h
        have q' : v = .bl true := q
        subst q'
        obtain rfl : u = Value.bool true := r'
        refine ⟨rfl, OldK.of_keep fun b o e => ?_, os, bare⟩
        cases q : H b with
        | none => exact un.keep b o e q (by intro z; exact absurd (show b ∈ ([] : List Addr) from z) (by simp)) (by simp)
        | some u =>
          rcases hO b with z | ⟨ob, xs, z⟩
          · rw [q] at z; cases z
          · have z2 := un.frzs b ob _ z
            obtain ⟨e1, _⟩ := hok b _ z
            obtain ⟨e2, _⟩ := hok' b _ z2
            rw [e] at e1; cases e1
            exact e2
  cases hk : K.lookup a with
  | some o =>
    -- the script is one of the module's own objects
    have e := KX a o hk
    rw [ha] at e
    cases e
    refine core (fun _ => none) (fun _ => .inl rfl) (.inr ⟨_, vs.toArray, _, hk, rfl, rfl, rfl, by rw [List.size_toArray, lenV]; exact hl, by simpa using rv⟩) (fun b u z => by have z' : (none : Option HO) = some u := z; cases z') (fun b z => absurd rfl z) fun z => absurd rfl z
  | none =>
    refine core (fun b => if b = a then some (.frz { cls := .type "list", data := .seq vs.toArray } (.lst (ns.map V.int))) else none) (fun b => ?_) (.inl (.inr ⟨{ cls := .type "list", data := .seq vs.toArray }, if_pos rfl⟩)) (fun b u z => ?_) (fun b z => ?_) fun _ => hk
    · by_cases hb : b = a
      · exact .inr ⟨_, _, if_pos hb⟩
      · exact .inl (if_neg hb)
    · by_cases hb : b = a
      · have z' := (if_pos hb).symm.trans z
        cases z'
        subst hb
        exact ⟨ha, by rw [List.length_map]; exact hl, vs, _, rv, ha⟩
      · have z' := (if_neg hb).symm.trans z
        cases z'
    · by_cases hb : b = a
      · exact hb
      · exact absurd (if_neg hb) z
end L2
namespace L2
open PySem PySem.Spec PyProof.Rows
noncomputable abbrev KOf {K : PySem.W.Frag} {h : Heap} (_ : K.In h) : PySem.W.Frag := K
end L2
/- THE LAST THEOREM (shape; LID, My.* are yours):
   My.Adr: a structure of the addresses that your layer names (classes, functions); My.Txt K t: a structure (Prop) of the equations over K;
   My.txt_mk : {K} {implicit addresses ..} (e1 : nsIn K mainGlobals "law" = some (some (.ref f))) (e2 : K.lookup f = some ⟨oc, od, .func (fnOf "law" "law" params body scope dV kV doc pm an cdv ct), sl⟩) (e3 : codeIn K cdv "law" = true) .. : ∃ t, My.Txt K t
set_option maxRecDepth 100000 in
set_option maxHeartbeats 0 in
theorem PySem.Challenge.cw_LID_holds : PySem.Challenge.rw_LID.Holds := by
  w_on; o_law; k_head; (case hw => w_witness2)
  k_fill
  refine L2.walk_of (l := PySem.Challenge.rw_LID) (n := 63) (k := 40) (x := "script") (CX := fun w => ..) (sp := fun _ => My.sp_law) rfl (by decide) rfl ⟨rfl, by decide, by decide⟩ (fun w h Y => PySem.W.kIn_of Y) ?F ?S ?C
  case F =>
    intro w mg fa h KX G hmg
    have T : ∃ t, My.Txt (L2.KOf KX) t := by
      dsimp only [L2.KOf]                          -- K must stand as «<heap const> w.params» for k_is
      refine' My.txt_mk ?e1 ?e2 ?e3 ..
      (case e1 => PySem.W.k_is)                    -- in the order: a name -> its address -> its object -> its parts
      (case e2 => PySem.W.k_is)
      ..
    obtain ⟨t, T⟩ := T
    have e0 := hmg.symm.trans (PySem.W.mg_of KX G T.law)
    cases e0                                       -- fa is the law's own address
    exact ⟨_, fun s u => .of_eq rfl, fun base kb nb => My.law_fn T kb nb⟩     -- if «.of_eq rfl» comes too early: refine' ⟨_, ?b, fun base kb nb => My.law_fn T kb nb⟩; exact fun s u => .of_eq rfl
  case S => exact fun w H a ns hl hO hS => ..
  case C => exact ..
(the tactic k_is has no namespace: write k_is) -/
namespace L2
open PySem PySem.Spec PyProof.Rows
noncomputable def inClass (s : Stmt) (j : Nat) : Stmt := match s with
  | .ClassDef _ _ _ body _ _ _ _ _ _ _ => body.getD j (.Pass ⟨0, 0, 0, 0⟩)
  | _ => .Pass ⟨0, 0, 0, 0⟩
noncomputable def defArgs (s : Stmt) : Arguments := match s with
  | .FunctionDef _ a _ _ _ _ _ _ _ _ => a
  | _ => { posonlyargs := [], args := [], vararg := none, kwonlyargs := [], kw_defaults := [], kwarg := none, defaults := [] }
noncomputable def defBody (s : Stmt) : List Stmt := match s with
  | .FunctionDef _ _ b _ _ _ _ _ _ _ => b
  | _ => []
noncomputable def defScope (s : Stmt) : Scope := match s with
  | .FunctionDef _ _ _ _ _ _ sc _ _ _ => sc
  | _ => { kind := .function, names := [], isGenerator := false, isCoroutine := false }
noncomputable abbrev CX0 : CXT := fun _ _ _ _ _ _ => False
noncomputable abbrev E0 : XK := fun _ _ _ => False
theorem pass0 {X : Cx} : Passes CX0 X E0 := fun _ _ _ _ _ _ _ h => h.elim
structure Fun (K : PySem.W.Frag) (x qual : Str) (st : Stmt) (f : Addr) (fd : FuncData) : Prop where
  ex : ∃ (oc : Value) (od : Option Addr) (kV doc pm : Value) (an : Option Addr) (cdv ct : Value) (osl : Array (Option Value)),
    fd = PySem.W.fnOf x qual (defArgs st) (defBody st) (defScope st) .none kV doc pm an cdv ct ∧ K.lookup f = some ⟨oc, od, .func fd, osl⟩ ∧ PySem.W.codeIn K cdv qual = true
  kp : PySem.W.keepIn K (.ref f) = true
section
variable {P : Program} {w : World} {K : PySem.W.Frag} {mg : Str → Option Value} {base : Heap}
theorem Fun.ok {x qual : Str} {st : Stmt} {f : Addr} {fd : FuncData} {N ps : List Str} {k : Nat} {sp : Sp} (F : Fun K x qual st f fd) (S : FnScope N ps (defScope st)) (len : ∀ vs H Q E, sp vs H Q E → vs.length = ps.length)
    (hbody : ∀ (cdv : Value) (A : Around) (outer : List Env) (s : Shared) (H : Hp) (vs : List V) (Q : VK) (E : XK), Room k (A.deeper (envOfC qual (defScope st) s.heap.objs.size f cdv)) → sp vs H Q E →
      ∃ t, PSs (cxOf CX0 P w K mg base N qual (defScope st) f cdv A outer s H E).nox (defBody st) t ∧ t { nx := fun _ H' => Q .non H', rt := Q } (start N vs) H) : FnOk P w K mg base CX0 (k + 1) f fd ps sp := by
  obtain ⟨oc, od, kV, doc, pm, an, cdv, ct, osl, rfl, lk, hcd⟩ := F.ex
  refine fn_of lk hcd S len fun A outer s H vs Q E hr hsp => ?_
  obtain ⟨t, h, q⟩ := hbody cdv A outer s H vs Q E hr hsp
  exact ⟨t, h.nox, q⟩
theorem Fun.binds {x qual : Str} {st : Stmt} {f : Addr} {fd : FuncData} {ps : List Str} (F : Fun K x qual st f fd)
    (h : ∀ (kV doc pm : Value) (an : Option Addr) (cdv ct : Value) (us : List Value), us.length = ps.length → bindArgs (PySem.W.fnOf x qual (defArgs st) (defBody st) (defScope st) .none kV doc pm an cdv ct) ⟨us, []⟩ = pure (ps.zip us)) : Binds K fd ps [] := by
  obtain ⟨oc, od, kV, doc, pm, an, cdv, ct, osl, rfl, lk, hcd⟩ := F.ex
  exact .all (h kV doc pm an cdv ct)
theorem fun_mk {x qual : Str} {st : Stmt} {f : Addr} {oc : Value} {od an : Option Addr} {osl : Array (Option Value)} {kV doc pm cdv ct : Value} (l : K.lookup f = some ⟨oc, od, .func (PySem.W.fnOf x qual (defArgs st) (defBody st) (defScope st) .none kV doc pm an cdv ct), osl⟩)
    (c : PySem.W.codeIn K cdv qual = true) (k : PySem.W.keepIn K (.ref f) = true) : Fun K x qual st f (PySem.W.fnOf x qual (defArgs st) (defBody st) (defScope st) .none kV doc pm an cdv ct) := ⟨⟨oc, od, kV, doc, pm, an, cdv, ct, osl, rfl, l, c⟩, k⟩
end
theorem hu_of {A : Around} {k : Nat} (hr : Room k A) : A.units + 1 < cLine := Nat.lt_of_le_of_lt (Nat.add_le_add_left (by decide : 1 ≤ 64) _) hr.units
section
variable {X : Cx}
theorem pv (i : Nat) {x : Str} {pos : Pos} (hN : autoParam (X.N[i]? = some x) L2.aRfl._auto_1) (hv : Vis X.env.scope x := by first | exact Or.inl rfl | exact Or.inr (Or.inl rfl) | exact Or.inr (Or.inr rfl)) (hd : autoParam ((x == ("__debug__" : Str)) = false) L2.aDec._auto_1)
    (hcd : autoParam ((x == ("__classdict__" : Str)) = false) L2.aDec._auto_1) : PE X (.Name x pos) (tVar i) := pe_var hN hv hd hcd
end
theorem iteF {A B : Prop} (h : B) : if false = true then A else B := by
  rw [if_neg Bool.false_ne_true]
  exact h
theorem iteT {A B : Prop} (h : A) : if true = true then A else B := by
  rw [if_pos rfl]
  exact h
theorem ite2 {c A B : Prop} [Decidable c] (h1 : c → A) (h2 : ¬ c → B) : if c then A else B := by
  by_cases h : c
  · rw [if_pos h]
    exact h1 h
  · rw [if_neg h]
    exact h2 h
noncomputable def Same (H H' : Hp) : Prop := ∀ b o, H b = some o → H' b = some o
theorem Same.refl (H : Hp) : Same H H := fun _ _ h => h
theorem Same.trans {H H1 H2 : Hp} (a : Same H H1) (b : Same H1 H2) : Same H H2 := fun c o h => b c o (a c o h)
theorem Same.seq {K : PySem.W.Frag} {H H' : Hp} {a : Addr} {xs : List V} (e : Same H H') (h : SqL K H a xs) : SqL K H' a xs := by
  rcases h with (h | ⟨o, h⟩) | h
  · exact .inl (.inl (e _ _ h))
  · exact .inl (.inr ⟨o, e _ _ h⟩)
  · exact .inr h
end L2
namespace L2
open PySem PySem.Spec PyProof.Rows
theorem compLoop_any {prog : Program} {w : World} {A : Around} {R : Result → Shared → Prop} {s : Shared} {elt target iter : Expr} {ifs : List Expr} {scope : Scope} {pos : Pos} {it acc : Value} {env : Env} (I : Nat → Shared → Prop)
    (turn : ∀ n s, I n s → wpAny (model prog w) A (pyNext it) (fun r s1 => match r with
      | none => R (.ok .next) s1
      | some v => wpAny (model prog w) A (letOwnedTupleGo target it v) (fun _ s1' => wpAny (model prog w) A (assign target env v) (fun _ s2 =>
          wpAny (model prog w) A (forIn ifs true fun c r => if r = true then do let ok ← isTrue c env (eval c env); pure (ForInStep.yield ok) else pure (ForInStep.yield r)) (fun ok s3 =>
            if ok = true then wpAny (model prog w) A (eval elt env) (fun x s4 =>
              wpAny (model prog w) A (call (.builtin "list.append") [acc, x]) (fun _ s5 => ∃ m, m < n ∧ I m s5) (fun _ _ => False) s4) (fun _ _ => False) s3
            else ∃ m, m < n ∧ I m s3) (fun _ _ => False) s2) (fun _ _ => False) s1') (fun _ _ => False) s1) (fun _ _ => False) s)
    (n : Nat) (h : I n s) :
    codeAny (model prog w) A (.compLoop (.ListComp elt [⟨target, iter, ifs, 0⟩] scope pos) 0 it acc env) R s := by
  refine codeAny_loop rfl I (fun n s hI => ?_) n h
  show wpAny _ A ((compTurn (.ListComp elt [⟨target, iter, ifs, 0⟩] scope pos) 0 it acc env).onRaise (fun x => do noteFrame x env; theTreesLotGoes x)) _ _ s
  refine wpAny_noted ?_
  rw [compTurn_list]
  refine wpAny_bind (wpAny_standAt (wpAny_bind (wpAny_mono (turn n s hI) (fun r s1 h1 => ?_) fun _ _ h' => h'.elim)))
  cases r with
  | none => exact wpAny_pure h1
  | some v =>
    refine wpAny_bind (wpAny_mono h1 (fun _ s1' h1' => ?_) fun _ _ h' => h'.elim)
    refine wpAny_bind (wpAny_mono h1' (fun _ s2 h2 => wpAny_bind (wpAny_mono h2 (fun ok s3 h3 => ?_) fun _ _ h' => h'.elim)) fun _ _ h' => h'.elim)
    cases ok with
    | false => exact wpAny_pure ⟨rfl, h3⟩
    | true =>
      exact wpAny_bind (wpAny_bind (wpAny_mono h3 (fun x s4 h4 => wpAny_bind (wpAny_mono h4 (fun _ s5 h5 => wpAny_pure (wpAny_pure ⟨rfl, h5⟩)) fun _ _ h' => h'.elim)) fun _ _ h' => h'.elim))
noncomputable def freeOk (sc : Scope) : List (Str × NameKind) → Bool
  | [] => true
  | (n, k) :: r => (k != .free || sc.names.lookup n == some .cell || sc.names.lookup n == some .free) && freeOk sc r
noncomputable def cellsIn (env : Env) : List (Str × NameKind) → List (Str × Addr) → List (Str × Addr)
  | [], cs => cs
  | (n, k) :: r, cs => cellsIn env r (if k = .free then (n, (env.cells.lookup n).getD 0) :: cs else cs)
theorem cellsIn_sub {env : Env} : ∀ (l : List (Str × NameKind)) (cs : List (Str × Addr)), (∀ n, (n, NameKind.free) ∈ l → ∃ c, env.cells.lookup n = some c) → (∀ x c, cs.lookup x = some c → env.cells.lookup x = some c) →
    ∀ x c, (cellsIn env l cs).lookup x = some c → env.cells.lookup x = some c
  | [], cs, _, h => h
  | (n, k) :: r, cs, hl, h => by
    refine cellsIn_sub r _ (fun m hm => hl m (List.mem_cons_of_mem _ hm)) fun x c e => ?_
    by_cases hk : k = .free
    · rw [if_pos hk] at e
      subst hk
      obtain ⟨c', hc⟩ := hl n List.mem_cons_self
      rw [List.lookup_cons] at e
      cases hx : x == n with
      | true =>
        rw [hx] at e
        have : x = n := by simpa using hx
        subst this
        rw [hc] at e
        simp at e
        rw [hc, e]
      | false => rw [hx] at e; exact h x c e
    · rw [if_neg hk] at e
      exact h x c e
theorem cellsIn_has {env : Env} : ∀ (l : List (Str × NameKind)) (cs : List (Str × Addr)) (x : Str), ((cs.lookup x).isSome = true ∨ (x, NameKind.free) ∈ l) → ((cellsIn env l cs).lookup x).isSome = true
  | [], cs, x, h => by
    rcases h with h | h
    · exact h
    · exact nomatch h
  | (n, k) :: r, cs, x, h => by
    refine cellsIn_has r _ x ?_
    rcases h with h | h
    · left
      split
      · rw [List.lookup_cons]
        split
        · rfl
        · exact h
      · exact h
    · rcases List.mem_cons.mp h with e | e
      · cases e
        left
        rw [if_pos rfl, List.lookup_cons]
        simp
      · exact .inr e
theorem closureFor_cells {scope : Scope} {env : Env} (h : ∀ n, (n, NameKind.free) ∈ scope.names → ∃ c, env.cells.lookup n = some c) : closureFor scope env = pure (cellsIn env scope.names []) := by
  unfold closureFor
  suffices ∀ (l : List (Str × NameKind)) (cs : List (Str × Addr)), (∀ n, (n, NameKind.free) ∈ l → ∃ c, env.cells.lookup n = some c) → (forIn l cs fun x r =>
      if (x.2 == NameKind.free) = true then do let a ← cellOf env x.1; pure (ForInStep.yield ((x.1, a) :: r)) else pure (ForInStep.yield r) : Sem _) = pure (cellsIn env l cs) by
    have := this scope.names [] h
    simp only at this ⊢
    rw [this]
    rfl
  intro l
  induction l with
  | nil => intro cs _; rfl
  | cons p r ih =>
    intro cs hl
    obtain ⟨n, k⟩ := p
    rw [List.forIn_cons]
    by_cases hk : k = .free
    · subst hk
      obtain ⟨c, hc⟩ := hl n List.mem_cons_self
      have e : cellOf env n = pure c := by unfold cellOf; rw [hc]
      have hb : (NameKind.free == NameKind.free) = true := rfl
      simp only [hb, if_true, e, cellsIn, hc, Option.getD_some]
      exact ih _ fun m hm => hl m (List.mem_cons_of_mem _ hm)
    · have hb : (k == NameKind.free) = false := by simpa using hk
      simp only [hb, Bool.false_eq_true, if_false, cellsIn, if_neg hk]
      exact ih _ fun m hm => hl m (List.mem_cons_of_mem _ hm)
theorem freeOk_mem {sc : Scope} : ∀ {l : List (Str × NameKind)}, freeOk sc l = true → ∀ n, (n, NameKind.free) ∈ l → sc.names.lookup n = some .cell ∨ sc.names.lookup n = some .free
  | [], _, n, h => nomatch h
  | (m, k) :: r, h, n, hm => by
    simp only [freeOk, Bool.and_eq_true] at h
    rcases List.mem_cons.mp hm with e | e
    · cases e
      have h1 := h.1
      have hb : (NameKind.free != NameKind.free) = false := rfl
      rw [hb] at h1
      simp only [Bool.false_or, Bool.or_eq_true, beq_iff_eq] at h1
      exact h1
    · exact freeOk_mem h.2 n e
theorem relabel_lookup {env : Env} : ∀ {names : List (Str × NameKind)} {x : Str} {k : NameKind}, (names.map fun (n, k) => if (k == NameKind.free && env.scope.kind == .function && env.kindOf n == some .cell) then (n, NameKind.cell) else (n, k)).lookup x = some k →
    ∃ k0, names.lookup x = some k0 ∧ (k = k0 ∨ (k = .cell ∧ k0 = .free))
  | [], _, _, h => by simp at h
  | (n, k0) :: r, x, k, h => by
    rw [List.map_cons] at h
    by_cases hc : (k0 == NameKind.free && env.scope.kind == .function && env.kindOf n == some .cell) = true
    · simp only [hc, if_true, List.lookup_cons] at h
      rw [List.lookup_cons]
      cases hx : x == n with
      | true =>
        rw [hx] at h
        refine ⟨k0, rfl, .inr ⟨(Option.some.inj h).symm, ?_⟩⟩
        simp only [Bool.and_eq_true, beq_iff_eq] at hc
        exact hc.1.1
      | false => rw [hx] at h; exact relabel_lookup h
    · simp only [hc, Bool.false_eq_true, if_false, List.lookup_cons] at h
      rw [List.lookup_cons]
      cases hx : x == n with
      | true => rw [hx] at h; exact ⟨k0, rfl, .inl (Option.some.inj h).symm⟩
      | false => rw [hx] at h; exact relabel_lookup h
theorem lookup_mem {α : Type} : ∀ {l : List (Str × α)} {x : Str} {k : α}, l.lookup x = some k → (x, k) ∈ l
  | [], _, _, h => by simp at h
  | (n, k0) :: r, x, k, h => by
    rw [List.lookup_cons] at h
    cases hx : x == n with
    | true =>
      rw [hx] at h
      have e1 : x = n := by simpa using hx
      have e2 : k0 = k := Option.some.inj h
      subst e1 e2
      exact List.mem_cons_self
    | false => rw [hx] at h; exact List.mem_cons_of_mem _ (lookup_mem h)
noncomputable def capSt (cp : List (Option Nat)) (σ : St) : St := cp.map fun (o : Option Nat) => match o with
  | none => none
  | some j => match σ[(j : Nat)]? with
    | some v => v
    | none => none
noncomputable def capOk (X : Cx) (scope : Scope) : List Str → List (Option Nat) → Bool
  | [], [] => true
  | x :: N, o :: cp => (match o with | none => true | some j => X.N[j]? == some x && scope.names.lookup x == some .free) && capOk X scope N cp
  | _, _ => false
theorem capOk_len {X : Cx} {scope : Scope} : ∀ {N : List Str} {cp : List (Option Nat)}, capOk X scope N cp = true → cp.length = N.length
  | [], [], _ => rfl
  | _ :: N, _ :: cp, h => by
    simp only [capOk, Bool.and_eq_true] at h
    simp [capOk_len h.2]
  | [], _ :: _, h => by simp [capOk] at h
  | _ :: _, [], h => by simp [capOk] at h
theorem capOk_get {X : Cx} {scope : Scope} : ∀ {N : List Str} {cp : List (Option Nat)} {i : Nat} {x : Str} {v : V} {σ : St}, capOk X scope N cp = true → N[i]? = some x → (capSt cp σ)[i]? = some (some v) →
    ∃ j : Nat, X.N[j]? = some x ∧ σ[j]? = some (some v) ∧ scope.names.lookup x = some .free
  | [], [], i, x, v, σ, _, h, _ => by simp at h
  | y :: N, o :: cp, 0, x, v, σ, h, e, e2 => by
    simp only [capOk, Bool.and_eq_true] at h
    have e' : y = x := by simpa using e
    subst e'
    cases o with
    | none => simp [capSt] at e2
    | some j =>
      have h1 := h.1
      simp only [Bool.and_eq_true, beq_iff_eq] at h1
      refine ⟨j, h1.1, ?_, h1.2⟩
      simp only [capSt, List.map_cons, List.getElem?_cons_zero, Option.some.injEq] at e2
      cases q : σ[j]? with
      | none => rw [q] at e2; cases e2
      | some z => rw [q] at e2; exact congrArg some e2
  | y :: N, o :: cp, i + 1, x, v, σ, h, e, e2 => by
    simp only [capOk, Bool.and_eq_true] at h
    exact capOk_get (i := i) h.2 (by simpa using e) (by simpa [capSt] using e2)
  | [], _ :: _, _, _, _, _, h, _, _ => by simp [capOk] at h
  | _ :: _, [], _, _, _, _, h, _, _ => by simp [capOk] at h
noncomputable def cxBlock (X : Cx) (N : List Str) (scope : Scope) (fp : List Addr) (H : Hp) (s : Shared) : Cx :=
  { X with N := N, s₀ := s, H₀ := H, env := compEnvC scope (cellsIn X.env scope.names []) s.heap.objs.size X.env, outer := X.stack, stack := X.stack, ex := fp, fn := fun _ => false, pn := [], xe := fun _ _ => False }
section
variable {X : Cx}
theorem noCell_mem {l : List (Str × NameKind)} (h : (l.all fun p => p.2 != .cell) = true) : ∀ y ∈ l, y.2 ≠ .cell := fun y hy => by
  have := List.all_eq_true.mp h y hy
  simpa using this
theorem cxBlock_ok {pins : List (Addr × Obj)} {σ : St} {H : Hp} {s : Shared} {N : List Str} {scope : Scope} {fp : List Addr} (I : Inv X pins σ H s) (hf : ∀ b ∈ fp, FpOk X pins H b) (hlt : ∀ b ∈ fp, b < s.heap.objs.size) (hk : scope.kind = .function)
    (hcell : (scope.names.all fun p => p.2 != .cell) = true) (hfree : freeOk X.env.scope scope.names = true) : (cxBlock X N scope fp H s).Ok := by
  have has : ∀ n, (n, NameKind.free) ∈ scope.names → ∃ c, X.env.cells.lookup n = some c := fun n hn => I.ok.has n (freeOk_mem hfree n hn)
  have sub : ∀ x c, (cellsIn X.env scope.names []).lookup x = some c → X.env.cells.lookup x = some c := cellsIn_sub _ _ has fun x c e => by simp at e
  have fs : ∀ b ∈ fp, b ∉ frs X.stack := fun b hb z => by
    obtain ⟨_, f1, f2, _⟩ := hf b hb
    rcases List.mem_cons.mp (I.stkSub b z) with e | e
    · exact f1 e
    · exact f2 e
  refine ⟨I.ok.mod, hk, I.ok.glob, I.ok.blt, Nat.le_refl _, fun x y c h1 h2 => I.ok.inj x y c (sub x c h1) (sub y c h2), fun x hx => ?_, (fun x c h => nomatch h), I.ok.hd, I.ok.frames, .inl rfl, fun b hb => ⟨Nat.ne_of_lt (hlt b hb), fun x c e => (hf b hb).2.2.2.2.1 x c (sub x c e)⟩,
    I.bs, Nat.le_trans I.ok.bsz I.sz, fun b o e hb => ?_, fs, I.stack, I.stkFree⟩
  · have hx' : (scope.names.map fun (n, k) => if (k == NameKind.free && X.env.scope.kind == .function && X.env.kindOf n == some .cell) then (n, NameKind.cell) else (n, k)).lookup x = some .cell ∨
        (scope.names.map fun (n, k) => if (k == NameKind.free && X.env.scope.kind == .function && X.env.kindOf n == some .cell) then (n, NameKind.cell) else (n, k)).lookup x = some .free := hx
    have fr : (x, NameKind.free) ∈ scope.names := by
      rcases hx' with e | e
      · obtain ⟨k0, e0, z | z⟩ := relabel_lookup e
        · subst z
          exact absurd rfl (noCell_mem hcell _ (lookup_mem e0))
        · obtain ⟨_, z⟩ := z
          subst z
          exact lookup_mem e0
      · obtain ⟨k0, e0, z | z⟩ := relabel_lookup e
        · subst z
          exact lookup_mem e0
        · exact nomatch z.1
    exact Option.isSome_iff_exists.mp (cellsIn_has _ _ x (.inr fr))
  · obtain ⟨_, _, _, f3, _⟩ := hf b hb
    rcases f3 with z | z
    · exact I.ok.noex b o e z
    · exact absurd (Nat.lt_of_lt_of_le (Heap.lt_size (I.ok.bs b o e).1) z) (Nat.lt_irrefl _)
theorem block_inv {pins : List (Addr × Obj)} {σ : St} {H : Hp} {s : Shared} {N : List Str} {scope : Scope} {fp : List Addr} {cp : List (Option Nat)} {h' : Heap} {m : Str → Option Value} {t' : Nat} (I : Inv X pins σ H s) (hf : ∀ b ∈ fp, FpOk X pins H b) (hlt : ∀ b ∈ fp, b < s.heap.objs.size) (hk : scope.kind = .function)
    (hcell : (scope.names.all fun p => p.2 != .cell) = true) (hfree : freeOk X.env.scope scope.names = true) (hcap : capOk X scope N cp = true)
    (hns : h'.Ns s.heap.objs.size m) (hx : ∀ b o, s.heap.get? b = some o → h'.get? b = some o) : Inv (cxBlock X N scope fp H s) [] (capSt cp σ) H { s with heap := h', toks := t' } := by
  have has : ∀ n, (n, NameKind.free) ∈ scope.names → ∃ c, X.env.cells.lookup n = some c := fun n hn => I.ok.has n (freeOk_mem hfree n hn)
  have sub : ∀ x c, (cellsIn X.env scope.names []).lookup x = some c → X.env.cells.lookup x = some c := cellsIn_sub _ _ has fun x c e => by simp at e
  refine ⟨cxBlock_ok I hf hlt hk hcell hfree, rfl, I.bare, ⟨fun b o e n _ _ => hx b o e, fun b o e n _ _ => ⟨o.slots, hx b o e⟩, fun b o e n _ => n, fun b o e _ => ⟨o, hx b o e⟩, fun b xs e => e, fun b o xs e => e, fun b ps e => ⟨#[], by rw [Array.append_empty]; exact e⟩⟩, ⟨m, hns, fun i x v e1 e2 e3 => ?_⟩, fun x c e => ?_, I.hok.fresh (Nat.le_refl _), fun x c e => I.freeC x c (sub x c e), (fun p hp => nomatch hp), I.hok.kept hx, ?_⟩
  · obtain ⟨j, h1, h2, h3⟩ := capOk_get hcap e1 e2
    obtain ⟨m', _, hl⟩ := I.loc
    have hkx := freeOk_mem hfree x (lookup_mem h3)
    obtain ⟨u, r, l⟩ := hl j x v h1 h2 (.inr hkx)
    rcases l with ⟨l, _⟩ | ⟨_, c, hc, hcell'⟩
    · rcases hkx with z | z
      · exact nomatch (Option.some.inj (l.symm.trans z))
      · exact nomatch (Option.some.inj (l.symm.trans z))
    · obtain ⟨c', hc'⟩ := Option.isSome_iff_exists.mp (cellsIn_has (env := X.env) scope.names [] x (.inr (lookup_mem h3)))
      have ec := sub x c' hc'
      rw [hc] at ec
      cases ec
      refine ⟨u, r, .inr ⟨?_, c, hc', ?_⟩⟩
      · rcases e3 with z | z | z
        · obtain ⟨k0, e0, y | y⟩ := relabel_lookup (show (scope.names.map fun (n, k) => if (k == NameKind.free && X.env.scope.kind == .function && X.env.kindOf n == some .cell) then (n, NameKind.cell) else (n, k)).lookup x = some .local from z)
          · rw [h3] at e0; cases e0; cases y
          · exact nomatch y.1
        · exact .inl z
        · exact .inr z
      · obtain ⟨o, ho, hd⟩ := hcell'
        exact ⟨o, hx c o ho, hd⟩
  · obtain ⟨v, o, ho, hd⟩ := I.cell x c (sub x c e)
    exact ⟨v, o, hx c o ho, hd⟩
  · show (capSt cp σ).length = N.length
    unfold capSt
    rw [List.length_map]
    exact capOk_len hcap
theorem block_after {pins : List (Addr × Obj)} {σ σ' : St} {H H' : Hp} {s s' : Shared} {N : List Str} {scope : Scope} {fp : List Addr} {pins' : List (Addr × Obj)} (I : Inv X pins σ H s) (hf : ∀ b ∈ fp, FpOk X pins H b)
    (J : Inv (cxBlock X N scope fp H s) pins' σ' H' s') : Inv X pins σ H' s' :=
  I.call' (ch := fp) J.os J.base J.hok J.bare fun b hb => ⟨(hf b hb).2.2.2.1, (hf b hb).2.1, (hf b hb).2.2.2.2.1, (hf b hb).2.2.2.2.2⟩
noncomputable def PF (X : Cx) (ifs : List Expr) (t : TT) : Prop :=
  ∀ (pins : List (Addr × Obj)) (s : Shared) (σ : St) (H : Hp) (Q : Bool → Hp → Prop), Inv X pins σ H s → t σ H Q →
    wpAny (model X.prog X.w) X.A (forIn ifs true fun c r => if r = true then do let ok ← isTrue c X.env (eval c X.env); pure (ForInStep.yield ok) else pure (ForInStep.yield r)) (TP X pins σ Q) X.xe s
noncomputable def tYes : TT := fun _ H Q => Q true H
theorem pf_nil : PF X [] tYes := fun _ _ _ H _ I h => wpAny_tests_nil ⟨H, I, h⟩
theorem pf_one {c : Expr} {t : TT} (hc : PT X c t) : PF X [c] t := fun pins s σ H Q I h => wpAny_tests_one (hc pins s σ H Q I h)
noncomputable def LcW (J : It) (D : Addr) (τ0 : St) (H : Hp) (g : TG) (tt : TT) (te : TE) (Q : Addr → Hp → Prop) : Prop := ∃ W : Nat → Nat → St → List V → Hp → Prop, (∃ m, W 0 m τ0 [] (upd H D (.lst []))) ∧ ∀ i m τ ys H, W i m τ ys H →
  H D = some (.lst ys) ∧ ((J.stop i H ∧ Q D H) ∨ (J.go i H ∧ ys.length < sizeLine ∧ ∃ (N1 : St → V → Hp → Prop) (N2 : St → Hp → Prop), (∀ τ v H, N1 τ v H → ∃ m', m' < m ∧ W (i + 1) m' τ (ys ++ [v]) (upd H D (.lst (ys ++ [v])))) ∧ (∀ τ H, N2 τ H → ∃ m', m' < m ∧ W (i + 1) m' τ ys H) ∧
    ∀ x H', J.yld i H x H' → g x τ H' fun σ2 H2 => tt σ2 H2 fun ok H3 => if ok = true then te σ2 H3 fun v H4 => H4 D = some (.lst ys) ∧ N1 σ2 v H4 else N2 σ2 H3))
noncomputable def tLC (cp : List (Option Nat)) (wi : TI) (g : TG) (tt : TT) (te : TE) (σ : St) (H : Hp) (Q : Addr → Hp → Prop) : Prop := wi σ H fun J H1 => ∀ D, H1 D = none → LcW J D (capSt cp σ) H1 g tt te Q
theorem lc_block {elt iter target : Expr} {ifs : List Expr} {scope : Scope} {pos : Pos} {N : List Str} {cp : List (Option Nat)} {g : TG} {tt : TT} {te : TE} {pins : List (Addr × Obj)} {σ : St} {H : Hp} {s : Shared} {E : Value → Shared → Prop} {Q : Addr → Hp → Prop}
    {it : Addr} {fp : List Addr} {tn : Nat → Heap → Prop} {J : It} {RR : Value → Addr → Result → Shared → Prop} (hc : X.calm = true) (hk : scope.kind = .function) (hcell : (scope.names.all fun p => p.2 != .cell) = true) (hfree : freeOk X.env.scope scope.names = true) (hcap : capOk X scope N cp = true)
    (hg : ∀ fp H s, PG (cxBlock X N scope fp H s) target g) (ht : ∀ fp H s, PF (cxBlock X N scope fp H s) ifs tt) (he : ∀ fp H s, PE (cxBlock X N scope fp H s) elt te)
    (I : Inv X pins σ H s) (T : Turn X.prog X.w X.K target J fp it tn) (st : tn 0 s.heap) (hf : ∀ b ∈ fp, FpOk X pins H b)
    (h : ∀ D, H D = none → LcW J D (capSt cp σ) H g tt te Q)
    (hRR : ∀ D C s' H' m, Inv X pins σ H' s' → FpOk X pins H' C → s'.heap.Ns C m → Q D H' → RR (.ref D) C (.ok .next) s') :
    wpAny (model X.prog X.w) X.A (newList []) (fun acc s3 => wpAny (model X.prog X.w) X.A (newFunctionEnv scope X.env.globals (cellsIn X.env scope.names []) [] X.env.qual none .none (some X.env)) (fun cenv s4 =>
      codeAny (model X.prog X.w) X.A (.compStart (.ListComp elt [⟨target, iter, ifs, 0⟩] scope pos) 0 (.ref it) acc { cenv with scope := relabel scope X.env }) (RR acc cenv.locals) s4) E s3) E s := by
  have hlt : ∀ b ∈ fp, b < s.heap.objs.size := fun b hb => by
    obtain ⟨o, e, _⟩ := T.obj _ _ st b hb
    exact Heap.lt_size e
  refine wpAny_newObj_type (wpAny_newFunctionEnv (noCell_mem hcell) (by intro y hy; simp at hy) (fun h1 hns1 hsb1 => ?_) hk)
  dsimp only at hns1 hsb1 ⊢
  have hD : H s.heap.objs.size = none := I.hok.fresh (Nat.le_refl _)
  have I3 : Inv X pins σ (upd H s.heap.objs.size (.lst [])) { s with heap := s.heap.push { cls := .type "list", dict := none, data := .seq ([] : List Value).toArray } } :=
    I.laid (t' := s.toks) (fun b u e => Heap.get?_push_of_some _ e) (Nat.le_refl _) ⟨Nat.zero_le _, [], 0, .nil, Heap.get?_push_size _ rfl⟩
  have hf3 : ∀ b ∈ fp, FpOk X pins (upd H s.heap.objs.size (.lst [])) b := fun b hb => ⟨by rw [upd_ne (Nat.ne_of_lt (hlt b hb))]; exact (hf b hb).1, (hf b hb).2⟩
  have hlt3 : ∀ b ∈ fp, b < (s.heap.push { cls := .type "list", dict := none, data := .seq ([] : List Value).toArray }).objs.size := fun b hb => by rw [Heap.size_push]; exact Nat.lt_succ_of_lt (hlt b hb)
  generalize hH2 : s.heap.push { cls := .type "list", dict := none, data := .seq ([] : List Value).toArray } = H2 at hns1 hsb1 I3 hlt3 ⊢
  generalize hs3 : ({ s with heap := H2 } : Shared) = s3 at I3
  have hs3h : s3.heap = H2 := by rw [← hs3]
  have ext1 : ∀ b o, s3.heap.get? b = some o → h1.get? b = some o := fun b o e => by
    rw [hs3h] at e
    exact hsb1.extBut b o (Nat.ne_of_lt (Heap.lt_size e)) (Heap.get?_push_of_some _ e)
  have J0 : Inv (cxBlock X N scope fp (upd H s.heap.objs.size (.lst [])) s3) [] (capSt cp σ) (upd H s.heap.objs.size (.lst [])) { s3 with heap := h1, toks := s.toks + ([] : List (Str × Value)).length } :=
    block_inv I3 hf3 (by rw [hs3h]; exact hlt3) hk hcell hfree hcap (by rw [hs3h]; exact hns1) ext1
  have st1 : tn 0 h1 := T.keep _ _ _ st fun b hb o e => ext1 b o (by rw [hs3h, ← hH2]; exact Heap.get?_push_of_some _ e)
  obtain ⟨W, ⟨m0, w0⟩, turn⟩ := h s.heap.objs.size hD
  have stat : ∀ {H' : Hp}, (∀ b ∈ fp, H' b = none) → ∀ b ∈ fp, FpOk (cxBlock X N scope fp (upd H s.heap.objs.size (.lst [])) s3) [] H' b := fun {H'} hn b hb =>
    ⟨hn b hb, (J0.ok.exf b hb).1, J0.ok.exfs b hb, .inl hb, (J0.ok.exf b hb).2, fun p hp => nomatch hp⟩
  have loop : codeAny (model X.prog X.w) X.A (.compLoop (.ListComp elt [⟨target, iter, ifs, 0⟩] scope pos) 0 (.ref it) (.ref s.heap.objs.size) (compEnvC scope (cellsIn X.env scope.names []) H2.objs.size X.env))
      (RR (.ref s.heap.objs.size) H2.objs.size) { s3 with heap := h1, toks := s.toks + ([] : List (Str × Value)).length } := by
    have eEnv : compEnvC scope (cellsIn X.env scope.names []) H2.objs.size X.env = (cxBlock X N scope fp (upd H s.heap.objs.size (.lst [])) s3).env := by
      rw [← hs3h]; rfl
    rw [eEnv]
    refine compLoop_any (fun n s' => ∃ i τ ys H', Inv (cxBlock X N scope fp (upd H s.heap.objs.size (.lst [])) s3) [] τ H' s' ∧ tn i s'.heap ∧ (∀ b ∈ fp, H' b = none) ∧ W i n τ ys H') ?_ m0 ⟨0, capSt cp σ, [], _, J0, st1, fun b hb => (hf3 b hb).1, w0⟩
    rintro n s4 ⟨i, τ, ys, H4, I4, st4, fr4, w4⟩
    obtain ⟨hD4, hh⟩ := turn i n τ ys H4 w4
    rcases hh with ⟨stop, qn⟩ | ⟨go, hlen, N1, N2, hN1, hN2, step⟩
    · refine thn (T.done (cxBlock X N scope fp (upd H s.heap.objs.size (.lst [])) s3) rfl rfl rfl hc i [] s4 τ H4 _ I4 (stat fr4) st4 stop) fun r s5 ⟨hr, I5⟩ => ?_
      subst hr
      obtain ⟨m, hm, _⟩ := I5.loc
      have e5 : H2.objs.size = (cxBlock X N scope fp (upd H s.heap.objs.size (.lst [])) s3).env.locals := by rw [← eEnv]; rfl
      refine hRR _ _ s5 H4 m (block_after I3 hf3 I5) ?_ (by rw [e5]; exact hm) qn
      exact I3.fpOk (by rw [hs3h]; exact Nat.le_refl _) (by rw [e5]; exact I5.free)
    · refine thn (T.item (cxBlock X N scope fp (upd H s.heap.objs.size (.lst [])) s3) rfl rfl rfl hc i [] s4 τ H4 _ I4 (stat fr4) st4 go) fun r s5 ⟨u, hr, h5⟩ => ?_
      subst hr
      refine thn h5 fun _ s6 ⟨x, H6, I6, r6, y6, st6, fr6⟩ => ?_
      have I6' := I6.pinned (stat fr6) (T.obj _ _ st6)
      refine thn (hg fp _ _ _ s6 τ H6 x u _ I6' r6 (step x H6 y6)) fun _ s7 ⟨σ7, H7, I7, q7⟩ => ?_
      refine thn (ht fp _ _ _ s7 σ7 H7 _ I7 q7) fun ok s8 ⟨H8, I8, q8⟩ => ?_
      have back : ∀ {σ' : St} {H' : Hp} {s' : Shared}, Inv (cxBlock X N scope fp (upd H s.heap.objs.size (.lst [])) s3) ([] ++ pinsAt fp s6.heap) σ' H' s' → Inv (cxBlock X N scope fp (upd H s.heap.objs.size (.lst [])) s3) [] σ' H' s' ∧ tn (i + 1) s'.heap ∧ ∀ b ∈ fp, H' b = none := fun {σ' H' s'} I' => by
        refine ⟨I'.unpinned, T.keep _ _ _ st6 fun b hb o e => (I'.pin (b, o) (List.mem_append_right _ (List.mem_append_right _ (mem_pinsAt hb e)))).1, fun b hb => ?_⟩
        obtain ⟨o, e, d⟩ := T.obj _ _ st6 b hb
        exact (I'.pin (b, o) (List.mem_append_right _ (List.mem_append_right _ (mem_pinsAt hb e)))).2.1
      cases ok with
      | false =>
        rw [if_neg Bool.false_ne_true] at q8 ⊢
        obtain ⟨m', hm, w8⟩ := hN2 _ _ q8
        obtain ⟨b1, b2, b3⟩ := back I8
        exact ⟨m', hm, i + 1, σ7, ys, H8, b1, b2, b3, w8⟩
      | true =>
        rw [if_pos rfl] at q8 ⊢
        refine thn (he fp _ _ _ s8 σ7 H8 _ I8 q8) fun y s9 ⟨v, H9, I9, r9, hD9, n9⟩ => ?_
        obtain ⟨m', hm, w9⟩ := hN1 _ _ _ n9
        refine thn (mt_append _ s9 σ7 H9 (.ref s.heap.objs.size) [v] (.ref s.heap.objs.size) [y] (fun _ H' => H' = upd H9 s.heap.objs.size (.lst (ys ++ [v]))) I9 rfl (.cons r9 .nil) ⟨_, ys, v, rfl, rfl, hD9, hlen, rfl⟩) fun _ s10 ⟨_, H10, I10, _, e10⟩ => ?_
        subst e10
        obtain ⟨b1, b2, b3⟩ := back I10
        exact ⟨m', hm, i + 1, σ7, _, _, b1, b2, b3, w9⟩
  have e3 : ({ s with heap := h1, toks := s.toks + ([] : List (Str × Value)).length } : Shared) = { s3 with heap := h1, toks := s.toks + ([] : List (Str × Value)).length } := by rw [← hs3]
  rw [e3]
  exact codeAny_compStart_list loop (T.self _ 0 _ _ _ st1 loop)
theorem pe_lc {elt iter target : Expr} {ifs : List Expr} {scope : Scope} {pos : Pos} (N : List Str) (cp : List (Option Nat)) {wi : TI} {g : TG} {tt : TT} {te : TE} (hc : X.calm = true) (hi : PI X target iter wi)
    (hg : ∀ fp H s, PG (cxBlock X N scope fp H s) target g) (ht : ∀ fp H s, PF (cxBlock X N scope fp H s) ifs tt) (he : ∀ fp H s, PE (cxBlock X N scope fp H s) elt te)
    (hk : autoParam (scope.kind = .function) L2.aRfl._auto_1) (hcell : autoParam ((scope.names.all fun p => p.2 != .cell) = true) L2.aRfl._auto_1) (hfree : autoParam (freeOk X.env.scope scope.names = true) L2.aRfl._auto_1) (hcap : autoParam (capOk X scope N cp = true) L2.aRfl._auto_1)
    (hnames : autoParam ((scope.names.all fun p => p.2 != .local || scope.names.lookup p.1 == some .local) = true) L2.aRfl._auto_1) (hs : autoParam (∀ x, foldedSetIterable iter X.env x = pure x) L2.aIrf._auto_1) :
    PE X (.ListComp elt [⟨target, iter, ifs, 0⟩] scope pos) (fun σ H Q => tLC cp wi g tt te σ H fun D H' => Q (.ref D) H') := by
  intro pins s σ H Q I h
  rw [eval_ListComp]
  have has : ∀ n, (n, NameKind.free) ∈ scope.names → ∃ c, X.env.cells.lookup n = some c := fun n hn => I.ok.has n (freeOk_mem hfree n hn)
  refine wpAny_comprehension_free (use := none) rfl hs (closureFor_cells has) hk (fun x hx hl => ?_) (thn (hi pins s σ H _ I h) fun xv s1 h1 => thn h1 fun itv s2 h2 => ?_)
  · have := List.all_eq_true.mp hnames x hx
    simp only [Bool.or_eq_true, bne_iff_ne, beq_iff_eq] at this
    exact this.resolve_left fun z => z hl
  · obtain ⟨it, fp, tn, J, H2, e, I2, T, st2, f2, hW⟩ := h2
    subst e
    refine lc_block (N := N) (cp := cp) hc hk hcell hfree hcap hg ht he I2 T st2 f2 hW fun D C s' H' m I' fC hm q => ⟨m, hm, fun h' hsb => ?_⟩
    exact ⟨.ref D, H', I'.turned (t' := s'.toks) (fun b o hb e => hsb.extBut b o hb e) fC.1 fC.2.1 fC.2.2.2.1 fC.2.2.2.2.1 fC.2.2.2.2.2, rfl, q⟩
theorem ps_setC {i : Nat} {x : Str} {px : Pos} {elt iter target : Expr} {ifs : List Expr} {scope : Scope} {pos spos : Pos} (N : List Str) (cp : List (Option Nat)) {wi : TI} {g : TG} {tt : TT} {te : TE} (hc : X.calm = true) (hN : X.N.Nodup) (hi' : X.N[i]? = some x) (hx : Loc X.env.scope x) (hi : PI X target iter wi)
    (hg : ∀ fp H s, PG (cxBlock X N scope fp H s) target g) (ht : ∀ fp H s, PF (cxBlock X N scope fp H s) ifs tt) (he : ∀ fp H s, PE (cxBlock X N scope fp H s) elt te)
    (hsw : autoParam (swapsWith (.ListComp elt [⟨target, iter, ifs, 0⟩] scope pos) (some (.Name x px)) spos.line X.env = pure true) L2.aRfl._auto_1)
    (hk : autoParam (scope.kind = .function) L2.aRfl._auto_1) (hcell : autoParam ((scope.names.all fun p => p.2 != .cell) = true) L2.aRfl._auto_1) (hfree : autoParam (freeOk X.env.scope scope.names = true) L2.aRfl._auto_1) (hcap : autoParam (capOk X scope N cp = true) L2.aRfl._auto_1)
    (hnames : autoParam ((scope.names.all fun p => p.2 != .local || scope.names.lookup p.1 == some .local) = true) L2.aRfl._auto_1) (hs : autoParam (∀ x, foldedSetIterable iter X.env x = pure x) L2.aIrf._auto_1)
    (hf : autoParam (X.fn x = true ∨ X.env.scope.names.lookup x = some .local) L2.aFst._auto_1) :
    PS X (.Assign [.Name x px] (.ListComp elt [⟨target, iter, ifs, 0⟩] scope pos) spos) (fun D σ H => tLC cp wi g tt te σ H fun a H' => D.nx (σ.set i (some (.ref a))) H') := by
  intro pins s σ H D I h
  have has : ∀ n, (n, NameKind.free) ∈ scope.names → ∃ c, X.env.cells.lookup n = some c := fun n hn => I.ok.has n (freeOk_mem hfree n hn)
  rw [exec_Assign_Name_used _ _ _ _ hsw]
  refine wpAny_bind (wpAny_standAt (wpAny_bind ?_))
  show wpAny _ _ (do let _ ← comprehension (.ListComp elt [⟨target, iter, ifs, 0⟩] scope pos) scope X.env _ (newList []) false (eval iter X.env) (some (assign (.Name x px) X.env))) _ _ s
  refine wpAny_bind (wpAny_mono (wpAny_comprehension_free (use := some (assign (.Name x px) X.env)) (Q := fun _ s' => SP X pins D .next s') rfl hs (closureFor_cells has) hk (fun x hx hl => ?_)
    (thn (hi pins s σ H _ I h) fun xv s1 h1 => thn h1 fun itv s2 h2 => ?_)) (fun _ s' hq => wpAny_pure (wpAny_pure hq)) fun _ _ e => e)
  · have := List.all_eq_true.mp hnames x hx
    simp only [Bool.or_eq_true, bne_iff_ne, beq_iff_eq] at this
    exact this.resolve_left fun z => z hl
  · obtain ⟨it, fp, tn, J, H2, e, I2, T, st2, f2, hW⟩ := h2
    subst e
    refine lc_block (N := N) (cp := cp) hc hk hcell hfree hcap hg ht he I2 T st2 f2 hW fun D' C s' H' m I' fC hm q => ?_
    show wpAny _ _ (assign (.Name x px) X.env (.ref D')) _ _ _
    refine wpAny_assign_Name (store_ok2 I' hN hi' hx (v := .ref D') rfl (fun s'' I'' hsb => ?_) hf)
    obtain ⟨a, hsb, ha⟩ := hsb
    have hCa : C ≠ a := by
      rcases ha with e | e
      · rw [e]; exact fC.2.1
      · exact fun z => fC.2.2.2.2.1 x a e z.symm
    refine ⟨m, hm.sameBut hsb hCa, fun h' hsb' => ?_⟩
    exact ⟨_, H', I''.turned (t' := s''.toks) (fun b o hb e => hsb'.extBut b o hb e) fC.1 fC.2.1 fC.2.2.2.1 fC.2.2.2.2.1 fC.2.2.2.2.2, q⟩
end
end L2
namespace L2
open PySem PySem.Spec PyProof.Rows
structure Drw (P : Program) (w : World) (it l : Addr) (st : Nat → Heap → Prop) (src : List Value → Heap → Prop) : Prop where
  obj : ∀ i h, st i h → ∃ o, h.get? it = some o ∧ ∀ v, o.data ≠ .cell v
  keep : ∀ i h h', st i h → (∀ o, h.get? it = some o → h'.get? it = some o) → st i h'
  srck : ∀ xs h h', src xs h → (∀ o, h.get? l = some o → h'.get? l = some o) → src xs h'
  item : ∀ (A : Around) (E : Value → Shared → Prop) (s : Shared) (i : Nat) (xs : List Value) (x : Value) (Q : Value → Shared → Prop), st i s.heap → src xs s.heap → xs[i]? = some x →
    (∀ h', st (i + 1) h' → Heap.SameBut it s.heap h' → Q x { s with heap := h' }) → wpAny (model P w) A (Builtin.SmallTypes.nextOf (.ref it)) Q E s
  done : ∀ (A : Around) (E : Value → Shared → Prop) (s : Shared) (i : Nat) (xs : List Value) (Q : Value → Shared → Prop), A.handled = none → st i s.heap → src xs s.heap → xs[i]? = none →
    (∀ h' e, Heap.ExtBut it s.heap h' → (∃ o, h'.get? e = some o ∧ o.cls = .type "StopIteration") → E (.ref e) { s with heap := h' }) → wpAny (model P w) A (Builtin.SmallTypes.nextOf (.ref it)) Q E s
theorem drw_list {P : Program} {w : World} (it l : Addr) : Drw P w it l (fun i h => h.IsListIter it l i) (fun xs h => h.IsList l xs.toArray) where
  obj := fun i h st => by
    obtain ⟨o, e, c, d⟩ := st
    exact ⟨o, e, fun v z => by rw [d] at z; cases z⟩
  keep := fun i h h' st k => st.at k
  srck := fun xs h h' sr k => sr.at k
  item := fun A E s i xs x Q st sr hx hQ => wpAny_nextOf_list_item st sr (by simpa using hx) hQ
  done := fun A E s i xs Q hh st sr hx hE => wpAny_nextOf_list_end hh st sr (by simpa using hx) hE
section
variable {P : Program} {w : World} {A : Around} {E : Value → Shared → Prop} {s : Shared}
theorem nextOf_tup_item {it t : Addr} {i : Nat} {xs : Array Value} {x : Value} {Q : Value → Shared → Prop} (hI : s.heap.IsTupleIter it t i) (hT : s.heap.IsTuple t xs) (hx : xs[i]? = some x)
    (hQ : ∀ h', h'.IsTupleIter it t (i + 1) → Heap.SameBut it s.heap h' → Q x { s with heap := h' }) : wpAny (model P w) A (Builtin.SmallTypes.nextOf (.ref it)) Q E s := by
  obtain ⟨oI, gI, cI, dI⟩ := id hI
  obtain ⟨oT, gT, _, nT, dT⟩ := hT
  unfold Builtin.SmallTypes.nextOf
  refine wpAny_bind (wpAny_callSpecial?_slot (name := Str.ofString "__next__") hI.typeIs F.slot_tuple_iterator_next (wpAny_call_entry F.slot_tuple_iterator_next hI.typeIs F.entry_tuple_iterator_next ?_ (F.args_tuple_iterator_next_1 _)))
  show wpAny _ _ (field (.ref it) 0 >>= _) _ _ s
  refine wpAny_bind (wpAny_field gI dI (x := .ref t) rfl ?_)
  show wpAny _ _ (if (Value.ref t == Value.none) = true then _ else _) _ _ s
  rw [if_neg (show ¬ ((Value.ref t == Value.none) = true) from Bool.false_ne_true)]
  show wpAny _ _ (field (.ref it) 1 >>= _) _ _ s
  refine wpAny_bind (wpAny_field gI dI (x := .int i 0) rfl ?_)
  show wpAny _ _ (seqItems? (.ref t) >>= _) _ _ s
  refine wpAny_bind (wpAny_seqItems gT dT ?_)
  simp only [Int.toNat_natCast, hx]
  refine wpAny_bind (wpAny_setField gI dI (by simp) (wpAny_pure ⟨x, rfl, wpAny_pure (hQ _ ?_ (Heap.SameBut.update ..))⟩))
  refine ⟨_, Heap.get?_update_self _ gI (Obj.isFreed_of_fields (Obj.data_mapFields dI _)), (Obj.cls_mapFields ..).trans cI, ?_⟩
  rw [Obj.data_mapFields dI]; simp [rawInt]
theorem nextOf_tup_end {it t : Addr} {i : Nat} {xs : Array Value} {Q : Value → Shared → Prop} (hh : A.handled = none) (hI : s.heap.IsTupleIter it t i) (hT : s.heap.IsTuple t xs) (hx : xs[i]? = none)
    (hE : ∀ h' e, Heap.ExtBut it s.heap h' → (∃ o, h'.get? e = some o ∧ o.cls = .type "StopIteration") → E (.ref e) { s with heap := h' }) : wpAny (model P w) A (Builtin.SmallTypes.nextOf (.ref it)) Q E s := by
  obtain ⟨oI, gI, cI, dI⟩ := id hI
  obtain ⟨oT, gT, _, nT, dT⟩ := hT
  unfold Builtin.SmallTypes.nextOf
  refine wpAny_bind (wpAny_callSpecial?_slot (name := Str.ofString "__next__") hI.typeIs F.slot_tuple_iterator_next (wpAny_call_entry F.slot_tuple_iterator_next hI.typeIs F.entry_tuple_iterator_next ?_ (F.args_tuple_iterator_next_1 _)))
  show wpAny _ _ (field (.ref it) 0 >>= _) _ _ s
  refine wpAny_bind (wpAny_field gI dI (x := .ref t) rfl ?_)
  show wpAny _ _ (if (Value.ref t == Value.none) = true then _ else _) _ _ s
  rw [if_neg (show ¬ ((Value.ref t == Value.none) = true) from Bool.false_ne_true)]
  show wpAny _ _ (field (.ref it) 1 >>= _) _ _ s
  refine wpAny_bind (wpAny_field gI dI (x := .int i 0) rfl ?_)
  show wpAny _ _ (seqItems? (.ref t) >>= _) _ _ s
  refine wpAny_bind (wpAny_seqItems gT dT ?_)
  simp only [Int.toNat_natCast, hx]
  refine wpAny_bind (wpAny_rule (wpAny_bind (wpAny_setField gI dI (by simp) ?_)))
  show wpAny _ _ (newExc (.type "StopIteration") [] >>= _) _ _ _
  refine wpAny_bind ?_
  simp only [newExc, newTuple]
  refine wpAny_bind (wpAny_newObj_type ?_ (by size_fits))
  refine wpAny_bind (m := firstArgMember _ _) (wpAny_of_eq (a := Value.none) (by first | rfl | (simp only [firstArgMember]; rfl)) ?_)
  refine wpAny_newObj_type ?_ (by size_fits)
  simp only [raiseNew]
  refine wpAny_bind (wpAny_handled ?_)
  first | rw [show A.in1.handled = none from hh] | rw [hh]
  exact wpAny_bind (wpAny_pure (wpAny_throw (hE _ _ (((Heap.SameBut.update ..).extBut.push _).push _) ⟨_, Heap.get?_push_size _ rfl, rfl⟩)))
end
theorem drw_tup {P : Program} {w : World} (it l : Addr) : Drw P w it l (fun i h => h.IsTupleIter it l i) (fun xs h => h.IsTuple l xs.toArray) where
  obj := fun i h st => by
    obtain ⟨o, e, c, d⟩ := st
    exact ⟨o, e, fun v z => by rw [d] at z; cases z⟩
  keep := fun i h h' st k => st.at k
  srck := fun xs h h' sr k => sr.at k
  item := fun A E s i xs x Q st sr hx hQ => nextOf_tup_item st sr (by simpa using hx) hQ
  done := fun A E s i xs Q hh st sr hx hE => nextOf_tup_end hh st sr (by simpa using hx) hE
section
variable {P : Program} {w : World} {A : Around} {E : Value → Shared → Prop} {s : Shared} {z u o i1 i2 l1 l2 : Addr} {st1 st2 : Nat → Heap → Prop} {src1 src2 : List Value → Heap → Prop} {k1 k2 : Nat} {xs ys : List Value} {a b : Value}
end
noncomputable def itObj (n : String) (l : Addr) : Obj := { cls := .type n, data := .fields #[.ref l, .int 0 0] }
structure Itr0 (n : String) (l : Addr) (pr : Heap → Prop) : Prop where
  go : ∀ (P : Program) (w : World) (A : Around) (E : Value → Shared → Prop) (s : Shared) (Q : Value → Shared → Prop), pr s.heap → Q (.ref s.heap.objs.size) { s with heap := s.heap.push (itObj n l) } → wpAny (model P w) A (pyIter (.ref l)) Q E s
  push : ∀ h o, pr h → pr (h.push o)
theorem itr0_list (l : Addr) (xs : Array Value) : Itr0 "list_iterator" l (fun h => h.IsList l xs) := ⟨fun _ _ _ _ _ _ hl h => wpAny_pyIter_list hl h, fun _ _ hl => hl.push _⟩
theorem itr0_tup (l : Addr) (xs : Array Value) : Itr0 "tuple_iterator" l (fun h => h.IsTuple l xs) := ⟨fun _ _ _ _ _ _ hl h => wpAny_pyIter_tuple hl h, fun _ _ hl => hl.push _⟩
end L2
namespace L2
open PySem PySem.Spec PyProof.Rows
noncomputable def Sq (K : PySem.W.Frag) (m : Bool) (H : Hp) (a : Addr) (xs : List V) : Prop := if m = true then SqL K H a xs else SqT K H a xs
noncomputable def itN (m : Bool) : String := if m = true then "list_iterator" else "tuple_iterator"
noncomputable def itSt (m : Bool) (it l : Addr) (i : Nat) (h : Heap) : Prop := if m = true then h.IsListIter it l i else h.IsTupleIter it l i
noncomputable def itSrc (m : Bool) (l : Addr) (xs : List Value) (h : Heap) : Prop := if m = true then h.IsList l xs.toArray else h.IsTuple l xs.toArray
theorem drw_of {P : Program} {w : World} (m : Bool) (it l : Addr) : Drw P w it l (itSt m it l) (itSrc m l) := by
  cases m
  · exact drw_tup it l
  · exact drw_list it l
theorem itr0_of (m : Bool) (l : Addr) (xs : List Value) : Itr0 (itN m) l (itSrc m l xs) := by
  cases m
  · exact itr0_tup l xs.toArray
  · exact itr0_list l xs.toArray
theorem itSt_new (m : Bool) {h : Heap} {it l : Addr} (e : h.get? it = some (itObj (itN m) l)) : itSt m it l 0 h := by
  cases m
  · exact ⟨_, e, rfl, rfl⟩
  · exact ⟨_, e, rfl, rfl⟩
section
variable {X : Cx} {pins : List (Addr × Obj)} {σ : St} {H : Hp} {s : Shared}
theorem Inv.sq {m : Bool} {a : Addr} {xs : List V} (I : Inv X pins σ H s) (h : Sq X.K m H a xs) : ∃ its : List Value, Vals xs its ∧ itSrc m a its s.heap ∧ xs.length ≤ sizeLine := by
  cases m
  · obtain ⟨its, rv, p, hz⟩ := I.tuple h
    exact ⟨its, rv, p, by first | exact hz | omega⟩
  · obtain ⟨its, rv, p, hz⟩ := I.list h
    exact ⟨its, rv, p.isList, by first | exact hz | omega⟩
theorem Inv.sq_inj {m : Bool} {a : Addr} {xs ys : List V} (I : Inv X pins σ H s) (h : Sq X.K m H a xs) (h' : Sq X.K m H a ys) : xs = ys := by
  cases m
  · exact I.tuple_inj h h'
  · exact I.list_inj h h'
theorem Inv.tupNew {xs : List V} {its : List Value} {h' : Heap} {ch : List Addr} {T : Addr} (I : Inv X pins σ H s) (hT : s.heap.objs.size ≤ T) (r : Vals xs its) (hz : xs.length ≤ sizeLine) (e : h'.get? T = some { cls := .type "tuple", data := .seq its.toArray })
    (hf : ∀ b ∈ ch, FpOk X pins H b) (k : ∀ b o, b ∉ ch → s.heap.get? b = some o → h'.get? b = some o) (th : ∀ b ∈ ch, ∃ o, h'.get? b = some o) : Inv X pins σ (upd H T (.tup xs)) { s with heap := h' } := by
  have hn : H T = none := I.hok.fresh hT
  have tr : ∀ b o, H b = some o → b ∉ ch := fun b o e z => by rw [(hf b z).1] at e; cases e
  refine I.step (g' := s.gens) (t' := s.toks) (d' := s.drawn) (ch := ch) (fun b hb => ⟨(hf b hb).2.2.2.1, (hf b hb).2.1, (hf b hb).2.2.2.2.1, (hf b hb).2.2.2.2.2⟩) (fun b o _ _ hc q _ => k b o hc q) (fun b o _ _ hc q _ => ⟨o.slots, k b o hc q⟩) (fun b o _ q n => ?_) (fun b o hc q => ⟨o, k b o hc q⟩)
    (fun b xs q => ?_) (fun b o u q => ?_) (fun b ps q => ⟨#[], ?_⟩) (fun m hm => ?_) (fun b ob q => ?_) I.bare
  · rw [upd_ne (Nat.ne_of_lt (Nat.lt_of_lt_of_le (Heap.lt_size q) hT))]; exact n
  · rw [upd_ne (ne_of_none q hn)]; exact q
  · rw [upd_ne (ne_of_none q hn)]; exact q
  · rw [upd_ne (ne_of_none q hn), Array.append_empty]; exact q
  · obtain ⟨o, es, ep, q, d, r⟩ := hm
    exact ⟨o, es, ep, k _ o (fun z => (hf _ z).2.1 rfl) q, d, r⟩
  · by_cases hb : b = T
    · subst hb
      rw [upd_same] at q; cases q
      exact ⟨hz, its, r, _, e, rfl, _, rfl⟩
    · rw [upd_ne hb] at q
      refine (I.hok b ob q).stay (fun c v hc r => k c v ?_ r) (fun c r => by rw [upd_ne (ne_of_none r hn)]; exact r) fun c xs r => by rw [upd_ne (ne_of_none r hn)]; exact r
      rcases hc with rfl | hc
      · exact tr _ _ q
      · exact tr _ _ hc
end
section
variable {X : Cx}
theorem itSrc_lt {m : Bool} {a : Addr} {xs : List Value} {h : Heap} (e : itSrc m a xs h) : a < h.objs.size := by
  cases m
  · obtain ⟨o, e, _⟩ := e; exact Heap.lt_size e
  · obtain ⟨o, e, _⟩ := e; exact Heap.lt_size e
end
end L2
namespace L2
open PySem PySem.Spec PyProof.Rows
section
variable {X : Cx}
noncomputable def isiV (K : PySem.W.Frag) (H : Hp) : V → String → Bool → Prop
  | .int _, T, b => (T = "int" ∧ b = true) ∨ (T = "bool" ∧ b = false) ∨ (T = "tuple" ∧ b = false)
  | .bl _, T, b => (T = "int" ∧ b = true) ∨ (T = "bool" ∧ b = true) ∨ (T = "tuple" ∧ b = false)
  | .ref a, T, b => (∃ xs, SqT K H a xs) ∧ ((T = "tuple" ∧ b = true) ∨ (T = "int" ∧ b = false) ∨ (T = "bool" ∧ b = false))
  | _, _, _ => False
theorem call_isi : CallR X (.builtin "isinstance") (fun xs H Q => ∃ x T b, xs = [x, .ty T] ∧ isiV X.K H x T b ∧ Q (.bl b) H) := by
  intro pins s σ H xs us Q I rv h
  obtain ⟨x, T, b, rfl, hi, q⟩ := h
  obtain ⟨u, v, rfl, ru, rT⟩ := rv.two
  cases rT
  have fin : ∀ (tk : Nat), EP X pins σ Q (.bool b) { s with toks := tk } := fun tk => ⟨.bl b, H, I.tok tk, rfl, q⟩
  cases x with
  | int n =>
    obtain ⟨t, rfl⟩ := ru
    rcases hi with ⟨rfl, rfl⟩ | ⟨rfl, rfl⟩ | ⟨rfl, rfl⟩
    · exact IsiPair.int_int (fin s.toks)
    · exact IsiPair.int_bool (fin _)
    · exact IsiPair.int_tuple (fin _)
  | bl n =>
    cases ru
    rcases hi with ⟨rfl, rfl⟩ | ⟨rfl, rfl⟩ | ⟨rfl, rfl⟩
    · exact IsiPair.bool_int (fin s.toks)
    · exact IsiPair.bool_bool (fin s.toks)
    · exact IsiPair.bool_tuple (fin _)
  | ref a =>
    cases ru
    obtain ⟨⟨xs, hq⟩, hi⟩ := hi
    obtain ⟨its, r, ⟨o, e, c, _⟩, _⟩ := I.tuple hq
    rcases hi with ⟨rfl, rfl⟩ | ⟨rfl, rfl⟩ | ⟨rfl, rfl⟩
    · exact IsiPair.tuple_tuple e c (fin s.toks)
    · exact IsiPair.tuple_int e c (fin _)
    · exact IsiPair.tuple_bool e c (fin _)
  | non => exact hi.elim
  | str _ => exact hi.elim
  | byt _ => exact hi.elim
  | flt _ => exact hi.elim
  | ty _ => exact hi.elim
theorem call_sumI (hc : X.calm = true) : CallR X (.builtin "sum") (fun xs H Q => ∃ (a : Addr) (ns : List Int), xs = [.ref a] ∧ SqL X.K H a (ns.map V.int) ∧ Q (.int ns.sum) H) := by
  intro pins s σ H xs us Q I rv h
  obtain ⟨a, ns, rfl, hq, q⟩ := h
  obtain ⟨u, rfl, ru⟩ := rv.one
  cases ru
  obtain ⟨its, r, p, hz⟩ := I.list hq
  have hi : IntsAre its.toArray.toList ns := intsAre_of r
  have hall : AllInts its.toArray := hi.allInts
  obtain ⟨xs, hx⟩ := hall.items
  have hl' : s.heap.IsList a (intItems xs) := hx ▸ p.isList
  refine sum_intListG (I.ok.hd hc) hl' fun h' tk t' hk => ?_
  have e1 : ns = xs.toList.map (·.1) := by
    rw [← nums_intItems, ← hx]
    exact (show numsOf its.toArray.toList = ns from hi.numsOf).symm
  have e2 : preSum (numAt xs) xs.size = ns.sum := by
    rw [preSum_eq, List.take_of_length_le (by simp), e1]
  rw [e2]
  exact ⟨.int ns.sum, H, I.kept hk, ⟨_, rfl⟩, q⟩
theorem boolsAt {bs : List Bool} {its : List Value} (r : Vals (bs.map V.bl) its) {i : Nat} {v : Value} (h : its[i]? = some v) : ∃ b, bs[i]? = some b ∧ v = .bool b := by
  have hl := r.length
  obtain ⟨hi, _⟩ := List.getElem?_eq_some_iff.mp h
  rw [List.length_map] at hl
  have hb : bs[i]? = some bs[i] := List.getElem?_eq_getElem (by omega)
  obtain ⟨u, h1, h2⟩ := r.get (i := i) (x := .bl bs[i]) (by rw [List.getElem?_map, hb]; rfl)
  rw [h] at h1; cases h1
  exact ⟨_, hb, h2⟩
theorem rangeAny (bs : List Bool) : ((List.range bs.length).any fun i => (bs[i]?).getD false) = bs.any id := by
  rw [Bool.eq_iff_iff]
  simp only [List.any_eq_true, List.mem_range, id]
  constructor
  · rintro ⟨i, hi, h⟩
    rw [List.getElem?_eq_getElem hi] at h
    exact ⟨_, List.getElem_mem hi, h⟩
  · rintro ⟨b, hb, h⟩
    obtain ⟨i, hi, e⟩ := List.getElem_of_mem hb
    exact ⟨i, hi, by rw [List.getElem?_eq_getElem hi]; simpa [e] using h⟩
theorem keptNew {h h' : Heap} {o : Obj} (hk : ∀ b x, b ∉ [h.objs.size] → (h.push o).get? b = some x → h'.get? b = some x) : ∀ b x, h.get? b = some x → h'.get? b = some x := fun b x e =>
  hk b x (fun hm => by rw [List.mem_singleton.mp hm] at e; exact Nat.lt_irrefl _ (Heap.lt_size e)) (Heap.get?_push_of_some _ e)
theorem call_anyB (hc : X.calm = true) : CallR X (.builtin "any") (fun xs H Q => ∃ (a : Addr) (bs : List Bool), xs = [.ref a] ∧ SqL X.K H a (bs.map V.bl) ∧ Q (.bl (bs.any id)) H) := by
  intro pins s σ H xs us Q I rv h
  obtain ⟨a, bs, rfl, hq, q⟩ := h
  obtain ⟨u, rfl, ru⟩ := rv.one
  cases ru
  obtain ⟨its, r, p, hz⟩ := I.list hq
  have hlt : a < s.heap.objs.size := by obtain ⟨_, e, _⟩ := p.isList; exact Heap.lt_size e
  have hl := r.length
  rw [List.length_map] at hl
  refine call_any_walk (wpAny_pyIter_list p.isList ?_)
  refine ⟨s.heap.objs.size, [s.heap.objs.size, a], [s.heap.objs.size], its.toArray.size, _, _, fun i => (bs[i]?).getD false, rfl, Walks.list (A := X.A.in1) (I.ok.hd hc) _ a (Nat.ne_of_lt hlt) its.toArray, ⟨⟨_, Heap.get?_push_size _ rfl, rfl, rfl⟩, p.isList.push _⟩, fun i v s' Q' E' hP hQ => ?_, fun h' tk hk => ?_⟩
  · obtain ⟨b, e, rfl⟩ := boolsAt r (by simpa using hP)
    simp only [e, Option.getD_some] at hQ
    exact wpAny_truthy_bool hQ
  · rw [List.size_toArray, ← hl, rangeAny]
    exact ⟨.bl (bs.any id), H, I.kept (keptNew hk), rfl, q⟩
end
inductive D where
  | non | bl (b : Bool) | int (i : Int) | tup (xs : List D) | lst (xs : List D)
inductive HasD (K : PySem.W.Frag) (H : Hp) : V → D → Prop
  | non : HasD K H .non .non
  | bl (b) : HasD K H (.bl b) (.bl b)
  | int (i) : HasD K H (.int i) (.int i)
  | tup {a vs xs} : SqT K H a vs → vs.length = xs.length → (∀ (i : Nat) v x, vs[i]? = some v → xs[i]? = some x → HasD K H v x) → HasD K H (.ref a) (.tup xs)
  | lst {a vs xs} : SqL K H a vs → vs.length = xs.length → (∀ (i : Nat) v x, vs[i]? = some v → xs[i]? = some x → HasD K H v x) → HasD K H (.ref a) (.lst xs)
inductive Alike : Nat → D → D → Prop
  | non {n} : Alike n .non .non
  | bl {n} (a b) : Alike n (.bl a) (.bl b)
  | int {n} (a b) : Alike n (.int a) (.int b)
  | tup {n xs ys} : (∀ (i : Nat) x y, xs[i]? = some x → ys[i]? = some y → Alike n x y) → Alike (n + 1) (.tup xs) (.tup ys)
  | lst {n xs ys} : (∀ (i : Nat) x y, xs[i]? = some x → ys[i]? = some y → Alike n x y) → Alike (n + 1) (.lst xs) (.lst ys)
section
variable {X : Cx} {pins : List (Addr × Obj)} {σ : St} {H : Hp} {s : Shared}
theorem ext_all {α : Type} {xs ys : List α} (hl : xs.length = ys.length) (h : ∀ (i : Nat) x y, xs[i]? = some x → ys[i]? = some y → x = y) : xs = ys := by
  refine List.ext_getElem? fun i => ?_
  by_cases hi : i < xs.length
  · rw [List.getElem?_eq_getElem hi, List.getElem?_eq_getElem (by omega : i < ys.length)]
    exact congrArg some (h i _ _ (List.getElem?_eq_getElem hi) (List.getElem?_eq_getElem (by omega)))
  · rw [List.getElem?_eq_none (by omega), List.getElem?_eq_none (by omega)]
theorem Inv.noTL {a : Addr} {xs ys : List V} (I : Inv X pins σ H s) (h : SqT X.K H a xs) (h' : SqL X.K H a ys) : False := by
  obtain ⟨_, _, ⟨o, e, c, _⟩, _⟩ := I.tuple h
  obtain ⟨_, _, p, _⟩ := I.list h'
  obtain ⟨o', e', c', _⟩ := p.isList
  rw [e] at e'; cases e'
  rw [c] at c'
  injection c' with z
  exact absurd z (by decide)
theorem hasD_inj (I : Inv X pins σ H s) {x : V} {d : D} (h : HasD X.K H x d) : ∀ e, HasD X.K H x e → d = e := by
  induction h with
  | non => intro e h; cases h; rfl
  | bl b => intro e h; cases h; rfl
  | int i => intro e h; cases h; rfl
  | tup hq hl hs ih =>
    intro e h
    cases h with
    | tup hq' hl' hs' =>
      obtain rfl := I.tuple_inj hq hq'
      refine congrArg D.tup (ext_all (hl.symm.trans hl') fun i x y ex ey => ?_)
      have hi : i < _ := (List.getElem?_eq_some_iff.mp ex).1
      rw [← hl] at hi
      exact ih i _ x (List.getElem?_eq_getElem hi) ex y (hs' i _ y (List.getElem?_eq_getElem hi) ey)
    | lst hq' hl' hs' => exact (I.noTL hq hq').elim
  | lst hq hl hs ih =>
    intro e h
    cases h with
    | lst hq' hl' hs' =>
      obtain rfl := I.list_inj hq hq'
      refine congrArg D.lst (ext_all (hl.symm.trans hl') fun i x y ex ey => ?_)
      have hi : i < _ := (List.getElem?_eq_some_iff.mp ex).1
      rw [← hl] at hi
      exact ih i _ x (List.getElem?_eq_getElem hi) ex y (hs' i _ y (List.getElem?_eq_getElem hi) ey)
    | tup hq' hl' hs' => exact (I.noTL hq' hq).elim
theorem allRange {n : Nat} {e : Nat → Bool} : (List.range n).all e = true ↔ ∀ i, i < n → e i = true := by simp [List.all_eq_true]
open PySem.SeqAt Classical in
theorem eqAt_D {n : Nat} {d e : D} (h : Alike n d e) : ∀ {A : Around} {x y : V} {u v : Value}, A.units + n < cLine → Inv X pins σ H s → RelV x u → RelV y v → HasD X.K H x d → HasD X.K H y e →
    ∃ b : Bool, (b = true ↔ d = e) ∧ EqAt A s u v b ∧ (∀ a c, u = .ref a → v = .ref c → RcAt A s u v b ∧ RcNeAt A s u v (!b)) := by
  induction h with
  | non =>
    intro A x y u v hu I ru rv hd he
    cases hd
    cases he
    cases ru
    cases rv
    exact ⟨true, by simp, EqAt.same _, fun a c e _ => nomatch e⟩
  | bl a b =>
    intro A x y u v hu I ru rv hd he
    cases hd
    cases he
    cases ru
    cases rv
    exact ⟨a == b, by simp, EqAt.bool_bool a b, fun a c e _ => nomatch e⟩
  | int a b =>
    intro A x y u v hu I ru rv hd he
    cases hd
    cases he
    obtain ⟨t, rfl⟩ := ru
    obtain ⟨t', rfl⟩ := rv
    exact ⟨a == b, by simp, EqAt.int_int a t b t', fun a c e _ => nomatch e⟩
  | @tup m xs ys hs ih =>
    intro A x y u v hu I ru rv hd he
    have hd' := hd
    have he' := he
    cases hd with
    | @tup p vs _ hq hl hv =>
    cases he with
    | @tup q ws _ hq' hl' hv' =>
    cases ru
    cases rv
    obtain ⟨its, r, pt, _⟩ := I.tuple hq
    obtain ⟨its', r', pt', _⟩ := I.tuple hq'
    have l1 := r.length
    have l2 := r'.length
    have key : ∀ j (h1 : j < its.toArray.size) (h2 : j < its'.toArray.size), EqAt A.in1 s its.toArray[j] its'.toArray[j] (decide (xs[j]? = ys[j]?)) := fun j h1 h2 => by
      rw [List.size_toArray] at h1 h2
      have j1 : j < vs.length := by omega
      have j2 : j < ws.length := by omega
      have j3 : j < xs.length := by omega
      have j4 : j < ys.length := by omega
      obtain ⟨u1, e1, ru1⟩ := r.get (List.getElem?_eq_getElem j1)
      obtain ⟨u2, e2, ru2⟩ := r'.get (List.getElem?_eq_getElem j2)
      obtain ⟨b, hb, eq, _⟩ := ih j _ _ (List.getElem?_eq_getElem j3) (List.getElem?_eq_getElem j4) (A := A.in1) (by show A.units + 1 + m < cLine; omega) I ru1 ru2 (hv j _ _ (List.getElem?_eq_getElem j1) (List.getElem?_eq_getElem j3)) (hv' j _ _ (List.getElem?_eq_getElem j2) (List.getElem?_eq_getElem j4))
      have z1 : its.toArray[j] = u1 := by rw [List.getElem?_eq_getElem (by omega)] at e1; simpa using e1
      have z2 : its'.toArray[j] = u2 := by rw [List.getElem?_eq_getElem (by omega)] at e2; simpa using e2
      rw [z1, z2]
      have : (decide (xs[j]? = ys[j]?)) = b := by
        rw [Bool.eq_iff_iff, decide_eq_true_iff, hb, List.getElem?_eq_getElem j3, List.getElem?_eq_getElem j4]
        exact ⟨fun z => Option.some.inj z, fun z => congrArg some z⟩
      rw [this]
      exact eq
    have hb : ((List.range (min its.toArray.size its'.toArray.size)).all (fun j => decide (xs[j]? = ys[j]?)) && its.toArray.size == its'.toArray.size) = true ↔ D.tup xs = D.tup ys := by
      rw [Bool.and_eq_true, allRange, List.size_toArray, List.size_toArray, beq_iff_eq]
      constructor
      · rintro ⟨z1, z2⟩
        refine congrArg D.tup (ext_all (by omega) fun i x y ex ey => ?_)
        have hi := (List.getElem?_eq_some_iff.mp ex).1
        have := of_decide_eq_true (z1 i (by omega))
        rw [ex, ey] at this
        exact Option.some.inj this
      · intro z
        injection z with z
        subst z
        exact ⟨fun i _ => decide_eq_true rfl, by omega⟩
    refine ⟨_, hb, ?_, fun a c _ _ => ⟨RcAt.tuples pt pt' (by omega) key, RcNeAt.tuples pt pt' (by omega) key⟩⟩
    by_cases hpq : p = q
    · subst hpq
      rw [hb.mpr (hasD_inj I hd' _ he')]
      exact EqAt.same _
    · exact EqAt.of_refs hpq (RcAt.tuples pt pt' (by omega) key)
  | @lst m xs ys hs ih =>
    intro A x y u v hu I ru rv hd he
    have hd' := hd
    have he' := he
    cases hd with
    | @lst p vs _ hq hl hv =>
    cases he with
    | @lst q ws _ hq' hl' hv' =>
    cases ru
    cases rv
    obtain ⟨its, r, pt, _⟩ := I.list hq
    obtain ⟨its', r', pt', _⟩ := I.list hq'
    have l1 := r.length
    have l2 := r'.length
    have key : ∀ j (h1 : j < its.toArray.size) (h2 : j < its'.toArray.size), EqAt A.in1 s its.toArray[j] its'.toArray[j] (decide (xs[j]? = ys[j]?)) := fun j h1 h2 => by
      rw [List.size_toArray] at h1 h2
      have j1 : j < vs.length := by omega
      have j2 : j < ws.length := by omega
      have j3 : j < xs.length := by omega
      have j4 : j < ys.length := by omega
      obtain ⟨u1, e1, ru1⟩ := r.get (List.getElem?_eq_getElem j1)
      obtain ⟨u2, e2, ru2⟩ := r'.get (List.getElem?_eq_getElem j2)
      obtain ⟨b, hb, eq, _⟩ := ih j _ _ (List.getElem?_eq_getElem j3) (List.getElem?_eq_getElem j4) (A := A.in1) (by show A.units + 1 + m < cLine; omega) I ru1 ru2 (hv j _ _ (List.getElem?_eq_getElem j1) (List.getElem?_eq_getElem j3)) (hv' j _ _ (List.getElem?_eq_getElem j2) (List.getElem?_eq_getElem j4))
      have z1 : its.toArray[j] = u1 := by rw [List.getElem?_eq_getElem (by omega)] at e1; simpa using e1
      have z2 : its'.toArray[j] = u2 := by rw [List.getElem?_eq_getElem (by omega)] at e2; simpa using e2
      rw [z1, z2]
      have : (decide (xs[j]? = ys[j]?)) = b := by
        rw [Bool.eq_iff_iff, decide_eq_true_iff, hb, List.getElem?_eq_getElem j3, List.getElem?_eq_getElem j4]
        exact ⟨fun z => Option.some.inj z, fun z => congrArg some z⟩
      rw [this]
      exact eq
    by_cases hsz : its.toArray.size = its'.toArray.size
    · have hb : ((List.range its.toArray.size).all (fun j => decide (xs[j]? = ys[j]?))) = true ↔ D.lst xs = D.lst ys := by
        rw [List.size_toArray, List.size_toArray] at hsz
        rw [allRange, List.size_toArray]
        constructor
        · intro z1
          refine congrArg D.lst (ext_all (by omega) fun i x y ex ey => ?_)
          have hi := (List.getElem?_eq_some_iff.mp ex).1
          have := of_decide_eq_true (z1 i (by omega))
          rw [ex, ey] at this
          exact Option.some.inj this
        · intro z
          injection z with z
          subst z
          exact fun i _ => decide_eq_true rfl
      refine ⟨_, hb, ?_, fun a c _ _ => ⟨RcAt.lists pt.isList pt'.isList hsz (by omega) key, RcNeAt.lists pt.isList pt'.isList hsz (by omega) key⟩⟩
      by_cases hpq : p = q
      · subst hpq
        rw [hb.mpr (hasD_inj I hd' _ he')]
        exact EqAt.same _
      · exact EqAt.of_refs hpq (RcAt.lists pt.isList pt'.isList hsz (by omega) key)
    · have hne : (its.toArray.size != its'.toArray.size) = true := by simpa using hsz
      have hb : false = true ↔ D.lst xs = D.lst ys := by
        rw [List.size_toArray, List.size_toArray] at hsz
        constructor
        · intro z; cases z
        · intro z
          injection z with z
          subst z
          omega
      refine ⟨false, hb, ?_, fun a c _ _ => ⟨RcAt.lists_lengths pt.isList pt'.isList hne (by omega), RcNeAt.lists_lengths pt.isList pt'.isList hne (by omega)⟩⟩
      by_cases hpq : p = q
      · subst hpq
        obtain rfl := I.list_inj hq hq'
        rw [List.size_toArray, List.size_toArray] at hsz
        omega
      · exact EqAt.of_refs hpq (RcAt.lists_lengths pt.isList pt'.isList hne (by omega))
theorem op_neD {n : Nat} (hu : X.A.units + n < cLine) : OpR X (compareOp .NotEq) (fun x y H Q => ∃ a b d e, x = .ref a ∧ y = .ref b ∧ HasD X.K H x d ∧ HasD X.K H y e ∧ Alike n d e ∧ ∀ c : Bool, (c = true ↔ d = e) → Q (.bl (!c)) H) := by
  intro pins s σ H x y v u Q I rx ry h
  obtain ⟨a, b, d, e, rfl, rfl, h1, h2, al, q⟩ := h
  cases rx
  cases ry
  obtain ⟨c, hc, _, hr⟩ := eqAt_D al (A := X.A) (x := .ref a) (y := .ref b) (u := .ref a) (v := .ref b) hu I rfl rfl h1 h2
  exact (hr a b rfl rfl).2 _ _ _ _ ⟨.bl (!c), H, I, rfl, q c hc⟩
end
end L2
namespace L2
open PySem PySem.Spec PyProof.Rows
noncomputable def Fn (K : PySem.W.Frag) (mg : Str → Option Value) (x : Str) (st : Stmt) : Prop := ∃ f fd, Fun K x x st f fd ∧ mg x = some (.ref f)
theorem fn_mk {K : PySem.W.Frag} {h : Heap} {mg : Str → Option Value} {x : Str} {st : Stmt} {f : Addr} {oc : Value} {od an : Option Addr} {osl : Array (Option Value)} {kV doc pm cdv ct : Value} (X : K.In h) (G : h.Ns mainGlobals mg)
    (a : PySem.W.nsIn K mainGlobals x = some (some (.ref f))) (l : K.lookup f = some ⟨oc, od, .func (PySem.W.fnOf x x (defArgs st) (defBody st) (defScope st) .none kV doc pm an cdv ct), osl⟩) (c : PySem.W.codeIn K cdv x = true) (k : PySem.W.keepIn K (.ref f) = true) : Fn K mg x st :=
  ⟨f, _, fun_mk l c k, PySem.W.mg_of X G a⟩
structure Cal (P : Program) (w : World) (K : PySem.W.Frag) (mg : Str → Option Value) (base : Heap) (k : Nat) (x : Str) (ps : List Str) (sp : Sp) : Prop where
  ex : ∃ f fd, FnOk P w K mg base CX0 k f fd ps sp ∧ mg x = some (.ref f) ∧ PySem.W.keepIn K (.ref f) = true ∧ Binds K fd ps []
theorem cal_of {P : Program} {w : World} {K : PySem.W.Frag} {mg : Str → Option Value} {base : Heap} {k : Nat} {x : Str} {st : Stmt} {N ps : List Str} {sp : Sp} (F : Fn K mg x st) (S : FnScope N ps (defScope st))
    (hb : ∀ (kV doc pm : Value) (an : Option Addr) (cdv ct : Value) (us : List Value), us.length = ps.length → bindArgs (PySem.W.fnOf x x (defArgs st) (defBody st) (defScope st) .none kV doc pm an cdv ct) ⟨us, []⟩ = pure (ps.zip us)) (len : ∀ vs H Q E, sp vs H Q E → vs.length = ps.length)
    (hbody : ∀ (f : Addr) (cdv : Value) (A : Around) (outer : List Env) (s : Shared) (H : Hp) (vs : List V) (Q : VK) (E : XK), Room k (A.deeper (envOfC x (defScope st) s.heap.objs.size f cdv)) → sp vs H Q E →
      ∃ t, PSs (cxOf CX0 P w K mg base N x (defScope st) f cdv A outer s H E).nox (defBody st) t ∧ t { nx := fun _ H' => Q .non H', rt := Q } (start N vs) H) : Cal P w K mg base (k + 1) x ps sp := by
  obtain ⟨f, fd, F, m⟩ := F
  exact ⟨f, fd, F.ok S len (hbody f), m, F.kp, F.binds hb⟩
section
variable {X : Cx}
theorem pe_fn {k : Nat} {x : Str} {ps : List Str} {sp : Sp} {e : Expr} {es : List Expr} {t : TA} {p pos : Pos} (C : Cal X.prog X.w X.K X.mg X.base k x ps sp) (hr : Room k X.A) (ha : PA X (e :: es) t) (hg : autoParam (Gl X x) L2.aRfl._auto_1)
    (hdb : autoParam ((x == ("__debug__" : Str)) = false) L2.aDec._auto_1) (he : autoParam (starEach (e :: es) X.env = (false, eval e X.env) :: starEach es X.env) L2.aRfl._auto_1) (hpl : autoParam ((backTo pos (starEach es X.env)).any (·.1) = false) L2.aRfl._auto_1) :
    PE X (.Call (.Name x p) (e :: es) [] pos) (tCall sp [] E0 t) := by
  obtain ⟨f, fd, F, m, kp, b⟩ := C.ex
  exact pe_call F hr hg m kp b .nil pass0 ha hdb he hpl
theorem pe_ty {x : Str} {T : String} {pos : Pos} (hm : X.mg x = none) (hv : bootBuiltins x = some (.type T)) (hg : autoParam (Gl X x) L2.aRfl._auto_1) (hn : autoParam (x ≠ "__name__") L2.aDec._auto_1) (hd : autoParam ((x == ("__debug__" : Str)) = false) L2.aDec._auto_1) : PE X (.Name x pos) (tC (.ty T)) :=
  pe_bltn hg hm hv (v := .ty T) rfl hn hd
end
noncomputable def gPair (K : PySem.W.Frag) (i j : Nat) : TG := gTup K 2 (gCons (gName i) (gCons (gName j) gNil))
theorem pg_pair {X : Cx} {K : PySem.W.Frag} {i j : Nat} {x y : Str} {px py pos : Pos} {k : Nat} (hK : X.K = K) (hc : X.calm = true) (hN : X.N.Nodup) (hi : X.N[i]? = some x) (hj : X.N[j]? = some y) (hx : X.env.scope.names.lookup x = some .local) (hy : X.env.scope.names.lookup y = some .local) :
    PG X (.Tuple [.Name x px, .Name y py] k pos) (gPair K i j) := by
  subst hK
  exact pg_tup hc (pgs_cons (pg_name hN hi (.inl hx) (.inr hx)) (pgs_cons (pg_name hN hj (.inl hy) (.inr hy)) pgs_nil))
theorem bt_len : bootBuiltins "len" = some (.builtin "len") := by decide +kernel
theorem bt_sum : bootBuiltins "sum" = some (.builtin "sum") := by decide +kernel
theorem bt_any : bootBuiltins "any" = some (.builtin "any") := by decide +kernel
theorem bt_isinstance : bootBuiltins "isinstance" = some (.builtin "isinstance") := by decide +kernel
theorem bt_abs : bootBuiltins "abs" = some (.builtin "abs") := by decide +kernel
theorem bt_min : bootBuiltins "min" = some (.builtin "min") := by decide +kernel
theorem bt_max : bootBuiltins "max" = some (.builtin "max") := by decide +kernel
theorem bt_int : bootBuiltins "int" = some (.type "int") := by decide +kernel
theorem bt_bool : bootBuiltins "bool" = some (.type "bool") := by decide +kernel
theorem bt_tuple : bootBuiltins "tuple" = some (.type "tuple") := by decide +kernel
theorem bt_list : bootBuiltins "list" = some (.type "list") := by decide +kernel
theorem bt_dict : bootBuiltins "dict" = some (.type "dict") := by decide +kernel
theorem bt_enumerate : bootBuiltins "enumerate" = some (.type "enumerate") := by decide +kernel
theorem bt_reversed : bootBuiltins "reversed" = some (.type "reversed") := by decide +kernel
theorem same_new' {H : Hp} {p : Addr} (h : H p = none) (o : HO) : Same H (upd H p o) := fun b u q => by rw [upd_ne (ne_of_none q h)]; exact q
theorem Same.tup {K : PySem.W.Frag} {H H' : Hp} {a : Addr} {xs : List V} (e : Same H H') (h : SqT K H a xs) : SqT K H' a xs := by
  rcases h with (h | ⟨o, h⟩) | h
  · exact .inl (.inl (e _ _ h))
  · exact .inl (.inr ⟨o, e _ _ h⟩)
  · exact .inr h
theorem sqT_new {K : PySem.W.Frag} {H : Hp} {a : Addr} {xs : List V} (h : H a = some (.tup xs)) : SqT K H a xs := .inl (.inl h)
theorem sqL_new {K : PySem.W.Frag} {H : Hp} {a : Addr} {xs : List V} (h : H a = some (.lst xs)) : SqL K H a xs := .inl (.inl h)
theorem lc_any {J : It} {n : Nat} {τ0 : St} {g : TG} {tt : TT} {te : TE} {H : Hp} {Q : Addr → Hp → Prop} {D : Addr} (Pv : Nat → St → List V → Hp → Prop)
    (h0 : Pv 0 τ0 [] (upd H D (.lst []))) (hD : ∀ i τ ys H, i ≤ n → Pv i τ ys H → H D = some (.lst ys) ∧ ys.length < sizeLine) (go : ∀ i τ ys H, i < n → Pv i τ ys H → J.go i H) (stop : ∀ τ ys H, Pv n τ ys H → J.stop n H)
    (hs : ∀ i τ ys H x H', i < n → Pv i τ ys H → J.yld i H x H' → g x τ H' fun σ2 H2 => tt σ2 H2 fun ok H3 => if ok = true then te σ2 H3 fun v H4 => H4 D = some (.lst ys) ∧ Pv (i + 1) σ2 (ys ++ [v]) (upd H4 D (.lst (ys ++ [v]))) else Pv (i + 1) σ2 ys H3)
    (hd : ∀ τ ys H, Pv n τ ys H → Q D H) :
    LcW J D τ0 H g tt te Q := by
  refine ⟨fun i m τ ys H => m = n - i ∧ i ≤ n ∧ Pv i τ ys H, ⟨n, by simp, Nat.zero_le _, h0⟩, ?_⟩
  rintro i m τ ys H ⟨rfl, hi, p⟩
  obtain ⟨z1, z2⟩ := hD i τ ys H hi p
  refine ⟨z1, ?_⟩
  by_cases hlt : i < n
  · refine .inr ⟨go i τ ys H hlt p, z2, fun τ v H => Pv (i + 1) τ (ys ++ [v]) (upd H D (.lst (ys ++ [v]))), fun τ H => Pv (i + 1) τ ys H, fun τ v H q => ⟨n - (i + 1), by omega, rfl, hlt, q⟩, fun τ H q => ⟨n - (i + 1), by omega, rfl, hlt, q⟩, fun x H' y => hs i τ ys H x H' hlt p y⟩
  · have e : i = n := by omega
    subst e
    exact .inl ⟨stop τ ys H p, hd τ ys H p⟩
end L2
namespace L2
open PySem PySem.Spec PyProof.Rows
theorem Vals.of_get : ∀ {xs : List V} {us : List Value}, xs.length = us.length → (∀ (i : Nat) x u, xs[i]? = some x → us[i]? = some u → RelV x u) → Vals xs us
  | [], [], _, _ => .nil
  | x :: xs, u :: us, hl, h => .cons (h 0 x u rfl rfl) (Vals.of_get (by simpa using hl) fun i y v e1 e2 => h (i + 1) y v (by simpa using e1) (by simpa using e2))
  | [], _ :: _, hl, _ => by simp at hl
  | _ :: _, [], hl, _ => by simp at hl
section
variable {X : Cx}
noncomputable def insV (xs : List V) (k : Nat) (y : V) : List V := xs.take k ++ y :: xs.drop k
theorem Vals.ins {xs : List V} {us : List Value} {y : V} {u : Value} (r : Vals xs us) (ry : RelV y u) (k : Nat) : Vals (insV xs k y) (us.take k ++ u :: us.drop k) :=
  (Vals.take k r).append (.cons ry (Vals.drop k r))
theorem mt_insert : MtM X "list.insert" (fun x vs H Q => ∃ l xs k y, x = .ref l ∧ vs = [.int k, y] ∧ H l = some (.lst xs) ∧ 0 ≤ k ∧ k ≤ (xs.length : Int) ∧ xs.length < sizeLine ∧ Q .non (upd H l (.lst (insV xs k.toNat y)))) := by
  intro pins s σ H x vs v us Q I rx rv h
  obtain ⟨l, xs, k, y, rfl, rfl, hH, h0, h1, hz, q⟩ := h
  cases rx
  obtain ⟨u1, u2, rfl, ⟨t, rfl⟩, ru⟩ := rv.two
  obtain ⟨z, its, n, r, hl, e⟩ := I.lstM hH
  have fit : ¬ (!Builtin.List.listFitsIndex k) = true := by
    have : Builtin.List.listFitsIndex k = true := by
      unfold Builtin.List.listFitsIndex
      have : (sizeLine : Nat) = 16777216 := by decide
      simp only [Bool.and_eq_true, decide_eq_true_eq]
      constructor <;> omega
    rw [this]; simp
  refine call_meets F.slot_list_insert ⟨_, e, rfl⟩ F.entry_list_insert (F.args_list_insert_3 _ _ _) (PySem.AutoListH.list_insert_list_int_val_1 l its.toArray n k t u2 fit (by rw [List.size_toArray]; omega)) ⟨e, ?_⟩
  refine ⟨.non, _, I.lset (its' := its.take k.toNat ++ u2 :: its.drop k.toNat) hH e ?_ (Vals.ins r ru k.toNat) ?_, rfl, q⟩
  · have e1 : (if k < 0 then (k + ((its.toArray.size : Nat) : Int)).toNat else min k.toNat its.toArray.size) = k.toNat := by
      rw [if_neg (by omega), List.size_toArray]; omega
    simp only [e1]
    apply Array.toList_inj.mp
    simp
    rw [List.take_of_length_le (by simp)]
  · unfold insV
    rw [List.length_append, List.length_cons, List.length_take, List.length_drop]
    omega
theorem ix_tupK {K : PySem.W.Frag} (hK : X.K = K) : IxR X (rIxT K) := by subst hK; exact ix_tup
theorem op_notIn_seqK {K : PySem.W.Frag} (hK : X.K = K) : OpR X (compareOp .NotIn) (rIn K true) := by subst hK; exact op_notIn_seq
end
end L2
namespace Nb
open PySem L2
structure Mg (mg : Str → Option Value) : Prop where
  len : mg "len" = none
  min : mg "min" = none
  max : mg "max" = none
  sum : mg "sum" = none
  all : mg "all" = none
  any : mg "any" = none
  abs : mg "abs" = none
  isinstance : mg "isinstance" = none
  sorted : mg "sorted" = none
  range_ : mg "range" = none
  zip_ : mg "zip" = none
  tuple_ : mg "tuple" = none
  list_ : mg "list" = none
  int_ : mg "int" = none
  bool_ : mg "bool" = none
  dict_ : mg "dict" = none
  enumerate_ : mg "enumerate" = none
  reversed_ : mg "reversed" = none
  ValueError_ : mg "ValueError" = none
  set_ : mg "set" = none
  str_ : mg "str" = none
theorem SqT_upd {K : PySem.W.Frag} {H : Hp} {D a : Addr} {ys zs xs : List V} (hD : H D = some (.lst ys)) (h : SqT K H a xs) : SqT K (upd H D (.lst zs)) a xs := by
  rcases h with (h | ⟨o, h⟩) | h
  · exact .inl (.inl (by rw [upd_ne (ne_of h hD (by intro z; cases z))]; exact h))
  · exact .inl (.inr ⟨o, by rw [upd_ne (ne_of h hD (by intro z; cases z))]; exact h⟩)
  · exact .inr h
noncomputable def RowAt (K : PySem.W.Frag) (H : Hp) (t : Addr) (r : List Int × Int) : Prop := ∃ p, SqT K H t [.ref p, .int r.2] ∧ SqT K H p (r.1.map V.int)
theorem RowAt.same {K : PySem.W.Frag} {H H' : Hp} {t : Addr} {r : List Int × Int} (e : Same H H') (h : RowAt K H t r) : RowAt K H' t r := let ⟨p, h1, h2⟩ := h; ⟨p, e.tup h1, e.tup h2⟩
theorem RowAt.upd {K : PySem.W.Frag} {H : Hp} {D t : Addr} {ys zs : List V} {r : List Int × Int} (hD : H D = some (.lst ys)) (h : RowAt K H t r) : RowAt K (upd H D (.lst zs)) t r := let ⟨p, h1, h2⟩ := h; ⟨p, SqT_upd hD h1, SqT_upd hD h2⟩
noncomputable def RowsAre (K : PySem.W.Frag) (H : Hp) : List V → List (List Int × Int) → Prop := Paired fun v r => ∃ t, v = .ref t ∧ RowAt K H t r
theorem RowsAre.imp {K : PySem.W.Frag} {H H' : Hp} {vs : List V} {rs : List (List Int × Int)} (f : ∀ t r, RowAt K H t r → RowAt K H' t r) (h : RowsAre K H vs rs) : RowsAre K H' vs rs := by
  induction h with
  | nil => exact .nil
  | cons r t ih => obtain ⟨a, e, z⟩ := r; exact .cons ⟨a, e, f _ _ z⟩ ih
theorem RowsAre.snoc {K : PySem.W.Frag} {H : Hp} {vs : List V} {rs : List (List Int × Int)} {t : Addr} {r : List Int × Int} (h : RowsAre K H vs rs) (z : RowAt K H t r) : RowsAre K H (vs ++ [.ref t]) (rs ++ [r]) := by
  induction h with
  | nil => exact .cons ⟨t, rfl, z⟩ .nil
  | cons q t ih => exact .cons q ih
theorem RowsAre.get {K : PySem.W.Frag} {H : Hp} {vs : List V} {rs : List (List Int × Int)} (h : RowsAre K H vs rs) : ∀ {i : Nat} {v : V}, vs[i]? = some v → ∃ t r, v = .ref t ∧ rs[i]? = some r ∧ RowAt K H t r := by
  induction h with
  | nil => intro i v e; simp at e
  | cons q t ih =>
    intro i v e
    cases i with
    | zero => obtain ⟨a, e1, z⟩ := q; simp at e; subst e; exact ⟨a, _, e1, rfl, z⟩
    | succ i => obtain ⟨a, r, e1, e2, z⟩ := ih (i := i) (v := v) (by simpa using e); exact ⟨a, r, e1, by simpa using e2, z⟩
theorem RowsAre.length {K : PySem.W.Frag} {H : Hp} {vs : List V} {rs : List (List Int × Int)} (h : RowsAre K H vs rs) : vs.length = rs.length := Paired.length h
noncomputable def ProbAt (K : PySem.W.Frag) (H : Hp) (t : Addr) (rs : List (List Int × Int)) (cs : List Int) : Prop := ∃ l c vs, SqT K H t [.ref l, .ref c] ∧ SqL K H l vs ∧ RowsAre K H vs rs ∧ SqT K H c (cs.map V.int)
theorem ProbAt.same {K : PySem.W.Frag} {H H' : Hp} {t : Addr} {rs : List (List Int × Int)} {cs : List Int} (e : Same H H') (h : ProbAt K H t rs cs) : ProbAt K H' t rs cs :=
  let ⟨l, c, vs, h1, h2, h3, h4⟩ := h; ⟨l, c, vs, e.tup h1, e.seq h2, h3.imp fun _ _ z => z.same e, e.tup h4⟩
theorem at0 {x y : V} : atI [x, y] 0 = some x := by rfl
theorem at1 {x y : V} : atI [x, y] 1 = some y := by rfl
theorem takeS {α : Type} {l : List α} {i : Nat} {x : α} (h : l[i]? = some x) : l.take (i + 1) = l.take i ++ [x] := by rw [List.take_succ, h]; rfl
theorem getMapI {ns : List Int} {i : Nat} {v : V} (h : (ns.map V.int)[i]? = some v) : ∃ n, ns[i]? = some n ∧ v = .int n := by
  rw [List.getElem?_map] at h
  cases e : ns[i]? with
  | none => rw [e] at h; cases h
  | some n => rw [e] at h; exact ⟨n, rfl, (Option.some.inj h).symm⟩
noncomputable def rowD (r : List Int × Int) : D := .tup [.tup (r.1.map .int), .int r.2]
noncomputable def probD (rs : List (List Int × Int)) (cs : List Int) : D := .tup [.lst (rs.map rowD), .tup (cs.map .int)]
theorem intsD {K : PySem.W.Frag} {H : Hp} {a : Addr} {ns : List Int} (h : SqT K H a (ns.map V.int)) : HasD K H (.ref a) (.tup (ns.map .int)) := by
  refine .tup h (by rw [List.length_map, List.length_map]) fun i v x e1 e2 => ?_
  obtain ⟨n, en, rfl⟩ := getMapI e1
  rw [List.getElem?_map, en] at e2
  cases e2
  exact .int n
theorem pairD {K : PySem.W.Frag} {H : Hp} {a : Addr} {v w : V} {d e : D} (h : SqT K H a [v, w]) (h1 : HasD K H v d) (h2 : HasD K H w e) : HasD K H (.ref a) (.tup [d, e]) := by
  refine .tup h rfl fun i v x e1 e2 => ?_
  match i with
  | 0 => simp at e1 e2; subst e1 e2; exact h1
  | 1 => simp at e1 e2; subst e1 e2; exact h2
  | i + 2 => simp at e1
theorem RowAt.hasD {K : PySem.W.Frag} {H : Hp} {t : Addr} {r : List Int × Int} (h : RowAt K H t r) : HasD K H (.ref t) (rowD r) := by
  obtain ⟨p, h1, h2⟩ := h
  exact pairD h1 (intsD h2) (.int _)
theorem RowsAre.hasD {K : PySem.W.Frag} {H : Hp} {l : Addr} {vs : List V} {rs : List (List Int × Int)} (hl : SqL K H l vs) (h : RowsAre K H vs rs) : HasD K H (.ref l) (.lst (rs.map rowD)) := by
  refine .lst hl (by rw [List.length_map]; exact h.length) fun i v x e1 e2 => ?_
  obtain ⟨t, r, rfl, er, hr⟩ := h.get e1
  rw [List.getElem?_map, er] at e2
  cases e2
  exact hr.hasD
theorem ProbAt.hasD {K : PySem.W.Frag} {H : Hp} {t : Addr} {rs : List (List Int × Int)} {cs : List Int} (h : ProbAt K H t rs cs) : HasD K H (.ref t) (probD rs cs) := by
  obtain ⟨l, c, vs, h1, h2, h3, h4⟩ := h
  exact pairD h1 (RowsAre.hasD h2 h3) (intsD h4)
theorem alikeInts {n : Nat} (ns ms : List Int) : Alike (n + 1) (.tup (ns.map .int)) (.tup (ms.map .int)) := by
  refine .tup fun i x y e1 e2 => ?_
  rw [List.getElem?_map] at e1 e2
  obtain ⟨a, _, rfl⟩ := Option.map_eq_some_iff.mp e1
  obtain ⟨b, _, rfl⟩ := Option.map_eq_some_iff.mp e2
  exact .int a b
theorem alikePair {n : Nat} {a b c d : D} (h1 : Alike n a c) (h2 : Alike n b d) : Alike (n + 1) (.tup [a, b]) (.tup [c, d]) := by
  refine .tup fun i x y e1 e2 => ?_
  match i with
  | 0 => simp at e1 e2; subst e1 e2; exact h1
  | 1 => simp at e1 e2; subst e1 e2; exact h2
  | i + 2 => simp at e1
theorem alikeRow {n : Nat} (r r' : List Int × Int) : Alike (n + 2) (rowD r) (rowD r') := alikePair (alikeInts _ _) (.int _ _)
theorem alikeRows {n : Nat} (rs rs' : List (List Int × Int)) : Alike (n + 3) (.lst (rs.map rowD)) (.lst (rs'.map rowD)) := by
  refine .lst fun i x y e1 e2 => ?_
  rw [List.getElem?_map] at e1 e2
  obtain ⟨a, _, rfl⟩ := Option.map_eq_some_iff.mp e1
  obtain ⟨b, _, rfl⟩ := Option.map_eq_some_iff.mp e2
  exact alikeRow a b
theorem alikeProb {n : Nat} (rs rs' : List (List Int × Int)) (cs cs' : List Int) : Alike (n + 4) (probD rs cs) (probD rs' cs') := alikePair (alikeRows rs rs') (alikeInts _ _)
theorem ixNat {n k : Nat} (h : k < n) : ixN n (k : Int) = some k := by
  unfold ixN
  rw [if_pos (by omega), if_pos (by omega)]
  simp
theorem atNat {α : Type} {xs : List α} {k : Nat} {x : α} (h : xs[k]? = some x) : atI xs (k : Int) = some x := atI_nat h
end Nb
namespace L2
open PySem PySem.Spec PyProof.Rows
end L2
namespace L2
open PySem PySem.Spec PyProof.Rows
section
variable (P : Program) (w : World)
end
section
variable {P : Program} {w : World} {H H' : Hp} {h h' : Heap} {a : Addr} {o : HO}
end
section
variable {P : Program} {w : World} {H : Hp} {h h' : Heap} {x e : Addr} {o' : HO}
end
section
variable {fs fs' ex ex' : List Addr} {H H1 H2 : Hp} {h h1 h2 h' : Heap} {a x e : Addr} {o : HO}
end
end L2
namespace L2
open PySem PySem.Spec PyProof.Rows
section
variable {X : Cx} {pins : List (Addr × Obj)} {σ : List (Option V)} {H H' : Hp} {s : Shared} {h' : Heap}
end
end L2
namespace L2
open PySem PySem.Spec PyProof.Rows
section
variable {X : Cx}
variable {a b : Expr} {ta tb : TE} {pos : Pos}
variable {tA tB' : TT} {rest : List Expr}
end
end L2
namespace L2
open PySem PySem.Spec PyProof.Rows
section
variable {X : Cx} {pins : List (Addr × Obj)} {σ : St} {H : Hp} {s : Shared} {a : Addr} {xs ys : List V}
end
section
variable {X : Cx} {pins : List (Addr × Obj)} {σ : St} {H : Hp} {s : Shared} {E : Value → Shared → Prop}
end
section
variable {X : Cx} {st : Stmt} {rest : List Stmt} {t u : TS} {e : Expr} {te : TE} {pos : Pos}
end
section
variable {X : Cx} {pos : Pos}
end
section
variable {X : Cx} {pos : Pos}
end
end L2
namespace L2
open PySem PySem.Spec PyProof.Rows
section
variable {X : Cx} {tg : Expr}
end
end L2
namespace L2
open PySem PySem.Spec PyProof.Rows
section
variable {X : Cx} {a b c : Expr} {ta tb tc : TE} {pos : Pos}
end
section
variable {X : Cx} {a b c : Expr} {ta tb tc : TE} {pos : Pos}
end
end L2
namespace L2
open PySem PySem.Spec PyProof.Rows
section
variable {prog : Program} {w : World} {A : Around} {E : Value → Shared → Prop} {s : Shared} {K : PySem.W.Frag} {x dx C f : Addr} {mA : Str → Option Value} {name : Str} {v : Value}
end
section
variable {P : Program} {w : World} {H H' : Hp} {h h' : Heap} {a C dx : Addr} {fs fs' : List (Str × V)}
end
section
variable {X : Cx} {pins : List (Addr × Obj)} {σ : St} {H : Hp} {s : Shared} {a C dx : Addr} {fs : List (Str × V)} {f : Str} {v : V} {A : Around} {E : Value → Shared → Prop}
end
section
variable {X : Cx} {o e value : Expr} {f : Str} {pos pos' tpos : Pos} {ta tv : TE}
end
section
variable {X : Cx} {pins : List (Addr × Obj)} {σ : St} {H : Hp} {s : Shared} {A : Around} {E : Value → Shared → Prop} {Q : Value → Shared → Prop} {c : Value} {b : Bool}
end
end L2
namespace L2
open PySem PySem.Spec PyProof.Rows
section
variable {X : Cx} {e : Expr} {es : List Expr} {te : TE} {t : TA} {pos : Pos}
end
section
variable {X : Cx} {pins : List (Addr × Obj)} {σ : St} {H : Hp} {s s' : Shared}
end
section
variable {X : Cx} {CX : CXT} {k : Nat} {f C : Addr} {fd : FuncData} {ps : List Str} {sp : Sp} {dvs : List V} {ds : List Value} {E : XK} {x m : Str} {p pos apos : Pos} {e o : Expr} {es : List Expr} {ta : TE} {t : TA}
end
section
variable {X : Cx} {CX : CXT} {k : Nat} {f C : Addr} {fd : FuncData} {ps ks : List Str} {sp : Sp} {E : XK} {x m : Str} {p pos apos kpos : Pos} {e o : Expr} {es : List Expr} {kws : List Keyword} {te ta : TE} {t tk : TA} {nm : Option Str}
variable {g : List Value → List Value → List Value} {gV : List V → List V → List V}
end
end L2
namespace L2
open PySem PySem.Spec PyProof.Rows
section
variable {X : Cx} {x : Str} {p pos : Pos} {e : Expr} {es : List Expr} {t : TA} {id T : String} {r : List V → Hp → VK → Prop}
end
end L2
namespace L2
open PySem PySem.Spec PyProof.Rows
section
variable {κ : Type} [DecidableEq κ]
noncomputable def valV (kvs : List (κ × V)) (k : κ) : Option V := (kvs.find? fun kv => decide (kv.1 = k)).map (·.2)
noncomputable def putK (kvs : List (κ × V)) (k : κ) (v : V) : List (κ × V) :=
  if (kvs.any fun kv => decide (kv.1 = k)) = true then kvs.map (fun kv => if kv.1 = k then (kv.1, v) else kv) else kvs ++ [(k, v)]
theorem valV_pos {p : κ × V} {r : List (κ × V)} {k : κ} (e : p.1 = k) : valV (p :: r) k = some p.2 := by simp [valV, List.find?_cons, e]
theorem valV_neg {p : κ × V} {r : List (κ × V)} {k : κ} (e : ¬ p.1 = k) : valV (p :: r) k = valV r k := by simp [valV, List.find?_cons, e]
theorem valV_any (k : κ) : ∀ kvs : List (κ × V), (kvs.any fun kv => decide (kv.1 = k)) = (valV kvs k).isSome
  | [] => rfl
  | p :: r => by
    rw [List.any_cons]
    by_cases e : p.1 = k
    · simp only [valV_pos e, decide_eq_true e, Bool.true_or, Option.isSome_some]
    · rw [valV_neg e, decide_eq_false e, Bool.false_or]; exact valV_any k r
theorem valV_map (k j : κ) (y : V) : ∀ kvs : List (κ × V), valV (kvs.map fun kv => if kv.1 = k then (kv.1, y) else kv) j = (valV kvs j).map fun x => if j = k then y else x
  | [] => rfl
  | p :: r => by
    have ih := valV_map k j y r
    rw [List.map_cons]
    by_cases h : p.1 = k
    · rw [if_pos h]
      by_cases e : p.1 = j
      · rw [valV_pos (p := (p.1, y)) e, valV_pos e, Option.map_some, if_pos (e.symm.trans h)]
      · rw [valV_neg (p := (p.1, y)) e, valV_neg e, ih]
    · rw [if_neg h]
      by_cases e : p.1 = j
      · rw [valV_pos (p := p) e, valV_pos e, Option.map_some, if_neg (fun z => h (e.trans z))]
      · rw [valV_neg (p := p) e, valV_neg e, ih]
theorem valV_snoc (k j : κ) (y : V) : ∀ kvs : List (κ × V), valV kvs k = none → valV (kvs ++ [(k, y)]) j = if j = k then some y else valV kvs j
  | [], _ => by
    by_cases e : k = j
    · rw [if_pos e.symm]; exact valV_pos (p := (k, y)) e
    · rw [if_neg (fun z => e z.symm)]; exact valV_neg (p := (k, y)) e
  | p :: r, hn => by
    rw [List.cons_append]
    have hk : ¬ p.1 = k := fun z => by rw [valV_pos z] at hn; cases hn
    rw [valV_neg hk] at hn
    have ih := valV_snoc k j y r hn
    by_cases e : p.1 = j
    · rw [valV_pos e, valV_pos e, if_neg (fun z => hk (e.trans z))]
    · rw [valV_neg e, valV_neg e, ih]
theorem valV_put (kvs : List (κ × V)) (k j : κ) (y : V) : valV (putK kvs k y) j = if j = k then some y else valV kvs j := by
  unfold putK
  by_cases a : (kvs.any fun kv => decide (kv.1 = k)) = true
  · rw [if_pos a, valV_map]
    rw [valV_any] at a
    by_cases e : j = k
    · obtain ⟨x, hx⟩ := Option.isSome_iff_exists.mp a
      rw [if_pos e, e, hx, Option.map_some, if_pos rfl]
    · rw [if_neg e]
      cases valV kvs j with
      | none => rfl
      | some x => rw [Option.map_some, if_neg e]
  · rw [if_neg a]
    refine valV_snoc k j y kvs ?_
    rw [valV_any] at a
    cases q : valV kvs k with
    | none => rfl
    | some x => rw [q] at a; exact (a rfl).elim
theorem length_putK (kvs : List (κ × V)) (k : κ) (v : V) : (putK kvs k v).length ≤ kvs.length + 1 := by
  unfold putK
  split
  · rw [List.length_map]; omega
  · rw [List.length_append, List.length_cons, List.length_nil]; omega
theorem RelO.isSome_eq {o : Option V} {u : Option Value} (r : RelO o u) : o.isSome = u.isSome := by
  cases o with
  | none => cases u with
    | none => rfl
    | some _ => exact (show False from r).elim
  | some _ => cases u with
    | none => exact (show False from r).elim
    | some _ => rfl
theorem RelO.getD {o : Option V} {u : Option Value} {d : V} {d' : Value} (r : RelO o u) (rd : RelV d d') : RelV (o.getD d) (u.getD d') := by
  cases o with
  | none => cases u with
    | none => exact rd
    | some _ => exact (show False from r).elim
  | some _ => cases u with
    | none => exact (show False from r).elim
    | some _ => exact r
theorem KV.val {kvs : List (κ × V)} {vs : List (κ × Value)} (r : KV kvs vs) (k : κ) : RelO (valV kvs k) (valueAt vs k) := by
  unfold KV at r
  induction r with
  | nil => exact True.intro
  | @cons p q ps qs h t ih =>
    obtain ⟨h1, h2⟩ := h
    by_cases e : p.1 = k
    · have e' : q.1 = k := h1.symm.trans e
      have b : valueAt (q :: qs) k = some q.2 := by simp [valueAt, List.find?_cons, e']
      rw [valV_pos e, b]; exact h2
    · have e' : ¬ q.1 = k := fun z => e (h1.trans z)
      have b : valueAt (q :: qs) k = valueAt qs k := by simp [valueAt, List.find?_cons, e']
      rw [valV_neg e, b]; exact ih
theorem KV.any {kvs : List (κ × V)} {vs : List (κ × Value)} (r : KV kvs vs) (k : κ) : (kvs.any fun kv => decide (kv.1 = k)) = vs.any fun kv => decide (kv.1 = k) := by
  unfold KV at r
  induction r with
  | nil => rfl
  | cons h t ih => rw [List.any_cons, List.any_cons, ih, h.1]
theorem KV.repl {kvs : List (κ × V)} {vs : List (κ × Value)} (r : KV kvs vs) (k : κ) {y : V} {u : Value} (ry : RelV y u) :
    KV (kvs.map fun kv => if kv.1 = k then (kv.1, y) else kv) (vs.map fun kv => if kv.1 = k then (kv.1, u) else kv) := by
  unfold KV at r ⊢
  induction r with
  | nil => exact .nil
  | @cons p q ps qs h t ih =>
    rw [List.map_cons, List.map_cons]
    refine .cons ?_ ih
    obtain ⟨h1, h2⟩ := h
    by_cases e : p.1 = k
    · rw [if_pos e, if_pos (h1.symm.trans e)]; exact ⟨h1, ry⟩
    · rw [if_neg e, if_neg (fun z => e (h1.trans z))]; exact ⟨h1, h2⟩
theorem KV.put {kvs : List (κ × V)} {vs : List (κ × Value)} (r : KV kvs vs) (k : κ) {y : V} {u : Value} (ry : RelV y u) : KV (putK kvs k y) (stored vs k u) := by
  unfold putK stored
  rw [r.any k]
  by_cases e : (vs.any fun kv => decide (kv.1 = k)) = true
  · rw [if_pos e, if_pos e]; exact r.repl k ry
  · rw [if_neg e, if_neg e]; exact Paired.snoc r ⟨rfl, ry⟩
theorem KV.length {kvs : List (κ × V)} {vs : List (κ × Value)} (r : KV kvs vs) : kvs.length = vs.length := Paired.length r
end
theorem kV_is {P : Program} {w : World} {k : Key} {u : Value} (r : RelV (kV k) u) : (mixKind P w).is k u = true := by
  cases k with
  | inl i => obtain ⟨t, e⟩ := (show ∃ t, u = Value.int i t from r); subst e; exact mixKind_int P w i t
  | inr x => obtain ⟨t, e⟩ := (show ∃ t, u = Value.str x t from r); subst e; exact mixKind_str P w x t
theorem items_are {P : Program} {w : World} : ∀ {ks : List Key} {us : List Value}, Vals (ks.map kV) us → ItemsAre (mixKind P w) ks us
  | [], _, r => by rw [List.map_nil] at r; cases r; exact .nil
  | k :: ks, _, r => by
    rw [List.map_cons] at r
    cases r with
    | cons h t => exact .cons (kV_is h) (items_are t)
noncomputable abbrev KT (H : Hp) : List (List Key × V) → List (List Key × Addr × Value) → Prop := Paired fun p q => p.1 = q.1 ∧ H q.2.1 = some (.tup (p.1.map kV)) ∧ RelV p.2 q.2.2
theorem KT.val {H : Hp} {kvs : List (List Key × V)} {xs : List (List Key × Addr × Value)} (r : KT H kvs xs) (k : List Key) : RelO (valV kvs k) ((atKey xs k).map (·.2)) := by
  induction r with
  | nil => exact True.intro
  | @cons p q ps qs h t ih =>
    obtain ⟨h1, _, h2⟩ := h
    by_cases e : p.1 = k
    · have e' : q.1 = k := h1.symm.trans e
      have b : atKey (q :: qs) k = some q.2 := by simp [atKey, List.find?_cons, e']
      rw [valV_pos e, b]; exact h2
    · have e' : ¬ q.1 = k := fun z => e (h1.trans z)
      have b : atKey (q :: qs) k = atKey qs k := by simp [atKey, List.find?_cons, e']
      rw [valV_neg e, b]; exact ih
theorem KT.repl {H : Hp} {kvs : List (List Key × V)} {xs : List (List Key × Addr × Value)} (r : KT H kvs xs) (k : List Key) {y : V} {u : Value} (ry : RelV y u) :
    KT H (kvs.map fun kv => if kv.1 = k then (kv.1, y) else kv) (xs.map (putAt k u)) := by
  induction r with
  | nil => exact .nil
  | @cons p q ps qs h t ih =>
    rw [List.map_cons, List.map_cons]
    refine .cons ?_ ih
    obtain ⟨h1, h2, h3⟩ := h
    unfold putAt
    by_cases e : p.1 = k
    · rw [if_pos e, if_pos (h1.symm.trans e)]; exact ⟨h1, h2, ry⟩
    · rw [if_neg e, if_neg (fun z => e (h1.trans z))]; exact ⟨h1, h2, h3⟩
theorem KT.put {H : Hp} {kvs : List (List Key × V)} {xs : List (List Key × Addr × Value)} (r : KT H kvs xs) (k : List Key) {b : Addr} {y : V} {u : Value} (hb : H b = some (.tup (k.map kV))) (ry : RelV y u) :
    KT H (putK kvs k y) (storedH xs k b u) := by
  have e : (kvs.any fun kv => decide (kv.1 = k)) = (atKey xs k).isSome := by
    rw [valV_any, (r.val k).isSome_eq, Option.isSome_map]
  unfold putK storedH
  rw [e]
  by_cases q : (atKey xs k).isSome = true
  · rw [if_pos q, if_pos q]; exact r.repl k ry
  · rw [if_neg q, if_neg q]; exact Paired.snoc r ⟨rfl, hb, ry⟩
theorem KT.keeps {H H' : Hp} {kvs : List (List Key × V)} {xs : List (List Key × Addr × Value)} (r : KT H kvs xs) (ht : ∀ b ys, H b = some (.tup ys) → H' b = some (.tup ys)) : KT H' kvs xs :=
  Paired.mapP r fun _ _ z => ⟨z.1, ht _ _ z.2.1, z.2.2⟩
section
variable {P : Program} {w : World} {H : Hp} {h : Heap} {a : Addr}
theorem rd_of {u : HO} (ok : HOk P w H h) (e : Rd H a u) : ObjOk P w H h a u := e.ok ok
theorem dk_rd {kvs : List (Key × V)} (ok : HOk P w H h) (e : Rd H a (.dK kvs)) : kvs.length ≤ sizeLine ∧ (a == sysModules) = false ∧ ∃ vs, KV kvs vs ∧ h.DictOf (mixKind P w) a vs :=
  show ObjOk P w H h a (.dK kvs) from rd_of ok e
theorem dk_of {kvs : List (Key × V)} (ok : HOk P w H h) (e : H a = some (.dK kvs)) : kvs.length ≤ sizeLine ∧ (a == sysModules) = false ∧ ∃ vs, KV kvs vs ∧ h.DictOf (mixKind P w) a vs := dk_rd ok (.inl e)
theorem key_of {ks : List Key} (ok : HOk P w H h) (e : H a = some (.tup (ks.map kV))) : (tupleKind (mixKind P w)).is h ks a := by
  obtain ⟨_, its, r, o, h1, h2, n, h3⟩ := (show ObjOk P w H h a (.tup (ks.map kV)) from ok a _ e)
  exact ⟨o, its.toArray, n, h1, h2, h3, by simpa using items_are r⟩
theorem dt_rd {kvs : List (List Key × V)} (ok : HOk P w H h) (e : Rd H a (.dT kvs)) : kvs.length ≤ sizeLine ∧ (a == sysModules) = false ∧
    ∃ xs, KT H kvs xs ∧ h.DictOfH (tupleKind (mixKind P w)) a xs := by
  obtain ⟨z, y, xs, r, o, es, ep, h1, h2, h3, h4, h5⟩ := (show ObjOk P w H h a (.dT kvs) from rd_of ok e)
  refine ⟨z, y, xs, r, o, es, ep, h1, h2, h3, h4, fun x hx => ?_, h5⟩
  have all : ∀ {l : List (List Key × V)} {m : List (List Key × Addr × Value)}, KT H l m → ∀ x ∈ m, (tupleKind (mixKind P w)).is h x.1 x.2.1 := by
    intro l m q
    induction q with
    | nil => intro x hx; exact nomatch hx
    | @cons p q ps qs hq t ih =>
      intro x hx
      rcases List.mem_cons.mp hx with e | hx
      · subst e
        exact key_of ok (by rw [← hq.1]; exact hq.2.1)
      · exact ih x hx
  exact all r x hx
theorem dt_of {kvs : List (List Key × V)} (ok : HOk P w H h) (e : H a = some (.dT kvs)) : kvs.length ≤ sizeLine ∧ (a == sysModules) = false ∧
    ∃ xs, KT H kvs xs ∧ h.DictOfH (tupleKind (mixKind P w)) a xs := dt_rd ok (.inl e)
end
noncomputable def DGet (H : Hp) (a : Addr) (y : V) (r : Option V) : Prop :=
  (∃ kvs k, Rd H a (.dK kvs) ∧ y = kV k ∧ r = valV kvs k) ∨ ∃ kvs k b, Rd H a (.dT kvs) ∧ y = .ref b ∧ H b = some (.tup (k.map kV)) ∧ r = valV kvs k
noncomputable def DPut (H : Hp) (a : Addr) (y v : V) (H' : Hp) : Prop :=
  (∃ kvs k, H a = some (.dK kvs) ∧ y = kV k ∧ kvs.length < sizeLine ∧ H' = upd H a (.dK (putK kvs k v))) ∨
  ∃ kvs k b, H a = some (.dT kvs) ∧ y = .ref b ∧ H b = some (.tup (k.map kV)) ∧ kvs.length < sizeLine ∧ H' = upd H a (.dT (putK kvs k v))
theorem DGet.k {H : Hp} {a : Addr} {kvs : List (Key × V)} {k : Key} (e : H a = some (.dK kvs)) : DGet H a (kV k) (valV kvs k) := .inl ⟨kvs, k, .inl e, rfl, rfl⟩
theorem DPut.k {H : Hp} {a : Addr} {kvs : List (Key × V)} {k : Key} {v : V} (e : H a = some (.dK kvs)) (hl : kvs.length < sizeLine) : DPut H a (kV k) v (upd H a (.dK (putK kvs k v))) := .inl ⟨kvs, k, e, rfl, hl, rfl⟩
section
variable {X : Cx} {pins : List (Addr × Obj)} {σ : St} {H : Hp} {s : Shared} {a : Addr} {y v : V} {u r : Value} {o : Option V} {A : Around} {E : Value → Shared → Prop}
theorem Inv.big (I : Inv X pins σ H s) : sysModules < s.heap.objs.size := by
  have h : mainGlobals < s.heap.objs.size := (I.mod.glob.keeps I.bk).lt
  exact Nat.lt_trans (by decide) h
theorem d_getItem {Q : Value → Shared → Prop} (hu : A.units + 1 < cLine) (I : Inv X pins σ H s) (g : DGet H a y (some v)) (ry : RelV y u) (h : ∀ w' s', Inv X pins σ H s' → RelV v w' → Q w' s') :
    wpAny (model X.prog X.w) A (getItem (.ref a) u) Q E s := by
  rcases g with ⟨kvs, k, e, ey, l⟩ | ⟨kvs, k, b, e, ey, eb, l⟩
  · subst ey
    obtain ⟨z, hd, vs, rel, dd⟩ := dk_rd I.hok e
    obtain ⟨w', hw, rw'⟩ := RelO.some_of (v := v) (o := valueAt vs k) (by rw [l]; exact rel.val k)
    exact wpAny_getItem_of (kV_is ry) dd.mapOf hw (h w' _ (I.tok _) rw')
  · subst ey
    cases (show u = Value.ref b from ry)
    obtain ⟨z, hd, xs, rel, dd⟩ := dt_rd I.hok e
    obtain ⟨w', hw, rw'⟩ := RelO.some_of (v := v) (o := (atKey xs k).map (·.2)) (by rw [l]; exact rel.val k)
    obtain ⟨p, hp, hp2⟩ := Option.map_eq_some_iff.mp hw
    refine wpAny_getItem_heap (tupleKind_room_in1 hu) (key_of I.hok eb) dd hp ?_
    rw [hp2]
    exact h w' _ (I.tok _) rw'
theorem d_notIn {Q : Value → Shared → Prop} (hu : A.units + 1 < cLine) (I : Inv X pins σ H s) (g : DGet H a y o) (ry : RelV y u) (h : ∀ s', Inv X pins σ H s' → Q (.bool (!o.isSome)) s') :
    wpAny (model X.prog X.w) A (compareOp .NotIn u (.ref a)) Q E s := by
  rcases g with ⟨kvs, k, e, ey, l⟩ | ⟨kvs, k, b, e, ey, eb, l⟩
  · subst ey
    obtain ⟨z, hd, vs, rel, dd⟩ := dk_rd I.hok e
    refine wpAny_notIn_of (kV_is ry) hd dd.mapOf ?_
    rw [← (rel.val k).isSome_eq, ← l]
    exact h _ (I.tok _)
  · subst ey
    cases (show u = Value.ref b from ry)
    obtain ⟨z, hd, xs, rel, dd⟩ := dt_rd I.hok e
    refine wpAny_notIn_heap (tupleKind_room_in1 hu) (key_of I.hok eb) hd dd ?_
    have q := (rel.val k).isSome_eq
    rw [Option.isSome_map] at q
    rw [← q, ← l]
    exact h _ (I.tok _)
theorem d_write {h' : Heap} {t' : Nat} {ob : HO} (I : Inv X pins σ H s) (mu : Mut (H a)) (hs : Heap.SameBut a s.heap h') (he : ∃ q, h'.get? a = some q) (new : ObjOk X.prog X.w (upd H a ob) h' a ob) :
    Inv X pins σ (upd H a ob) { s with heap := h', toks := t' } :=
  I.write (x := a) (e := a) mu (.inl rfl) (fun b q hb z => (hs.2 b hb).trans z) he new
theorem dk_new {P : Program} {w : World} {H' : Hp} {h' : Heap} {kvs : List (Key × V)} {vs : List (Key × Value)} (z : kvs.length ≤ sizeLine) (hd : (a == sysModules) = false) (rel : KV kvs vs) (dd : h'.DictOf (mixKind P w) a vs) :
    ObjOk P w H' h' a (.dK kvs) := ⟨z, hd, vs, rel, dd⟩
theorem d_setItem {H' : Hp} {Q : Unit → Shared → Prop} (hu : A.units + 1 < cLine) (I : Inv X pins σ H s) (g : DPut H a y v H') (ry : RelV y u) (rv : RelV v r) (h : ∀ s', Inv X pins σ H' s' → Q () s') :
    wpAny (model X.prog X.w) A (setItem (.ref a) u r) Q E s := by
  rcases g with ⟨kvs, k, e, ey, l, eH⟩ | ⟨kvs, k, b, e, ey, eb, l, eH⟩
  · subst ey eH
    obtain ⟨z, hd, vs, rel, dd⟩ := dk_of I.hok e
    have hz : vs.length ≤ sizeLine := by rw [← rel.length]; exact z
    have hl : (putK kvs k v).length ≤ sizeLine := by have := length_putK kvs k v; omega
    refine wpAny_setItem_pairs (hsz := hz) (kV_is ry) dd fun h' dd' hs => h _ ?_
    have he : ∃ q, h'.get? a = some q := let ⟨q, _, _, hq, _⟩ := dd'; ⟨q, hq⟩
    exact d_write I (by rw [e]; exact True.intro) hs he (dk_new hl hd (rel.put k rv) dd')
  · subst ey eH
    cases (show u = Value.ref b from ry)
    obtain ⟨z, hd, xs, rel, dd⟩ := dt_of I.hok e
    have hz : xs.length ≤ sizeLine := by rw [← Paired.length rel]; exact z
    have hl : (putK kvs k v).length ≤ sizeLine := by have := length_putK kvs k v; omega
    refine wpAny_setItem_heap (hsz := hz) (tupleKind_room_in1 hu) (key_of I.hok eb) dd fun h' dd' hs => h _ ?_
    obtain ⟨q, es, ep, hq, h2, h3, h4, _, h5⟩ := dd'
    refine d_write I (by rw [e]; exact True.intro) hs ⟨q, hq⟩ ⟨hl, hd, _, (rel.put k eb rv).keeps fun c ys ec => ?_, q, es, ep, hq, h2, h3, h4, h5⟩
    rw [upd_ne (ne_of ec e (fun z => nomatch z))]
    exact ec
end
section
variable {X : Cx} {pins : List (Addr × Obj)} {σ : St} {H : Hp} {s : Shared} {a : Addr} {kvs : List (Key × V)} {k : Key} {u : Value} {A : Around} {E : Value → Shared → Prop}
end
noncomputable def NoSl (i : Expr) : Prop := ∀ ov iv, subscripted i false ov iv = operate [ov, iv] (getItem ov iv)
theorem subD_of {prog : Program} {w : World} {A : Around} {E : Value → Shared → Prop} {s : Shared} {env : Env} {value slice : Expr} {pos : Pos} {T id : String} {Q : Value → Shared → Prop}
    (hl : typeLookup (.type T) "__getitem__" = pure (some (.builtin id))) (hs : NoSl slice)
    (h : wpAny (model prog w) A (eval value env) (fun o s₁ => wpAny (model prog w) A (eval slice env) (fun i s₂ => s₂.TypeIs o T ∧ wpAny (model prog w) A (getItem o i) Q E s₂) E s₁) E s) :
    wpAny (model prog w) A (eval (.Subscript value slice pos) env) Q E s := by
  refine Subscript_ (wpAny_mono h (fun o s₁ h₁ => wpAny_mono h₁ (fun i s₂ h₂ => ?_) fun _ _ x => x) fun _ _ x => x)
  obtain ⟨hT, h₂⟩ := h₂
  unfold subscriptTail
  refine wpAny_bind ?_
  rw [getitemInPython_of_ne hT.not_modules]
  refine wpAny_bind (wpAny_specialOf hT hl ?_)
  have fin : wpAny (model prog w) A (subscripted slice false o i) (fun r s₃ => wpAny (model prog w) A (letTemporaryGo value o r >>= fun _ => pure r) Q E s₃) E s₂ := by
    rw [hs o i]
    exact wpAny_operating (wpAny_mono h₂ (fun r s₃ h₃ => wpAny_bind (wpAny_letTemporaryGo (wpAny_pure h₃))) fun _ _ x => x)
  first
    | exact wpAny_pure (wpAny_bind fin)
    | exact wpAny_bind (wpAny_pure (wpAny_bind fin))
    | exact wpAny_bind fin
theorem dict_typeIs {X : Cx} {pins : List (Addr × Obj)} {σ : St} {H : Hp} {s : Shared} {a : Addr} {y : V} {o : Option V} (I : Inv X pins σ H s) (g : DGet H a y o) : s.TypeIs (.ref a) "dict" := by
  rcases g with ⟨kvs, k, e, _, _⟩ | ⟨kvs, k, b, e, _, _, _⟩
  · obtain ⟨_, _, vs, _, dd⟩ := dk_rd I.hok e
    exact dd.typeIs
  · obtain ⟨_, _, xs, _, dd⟩ := dt_rd I.hok e
    exact dd.typeIs
noncomputable def tDGet (td ty : TE) : TE := fun σ H Q => td σ H fun x H1 => ty σ H1 fun y H2 => ∃ a v, x = .ref a ∧ DGet H2 a y (some v) ∧ Q v H2
noncomputable def tDNotIn (ty td : TE) : TE := fun σ H Q => ty σ H fun y H1 => td σ H1 fun x H2 => ∃ a o, x = .ref a ∧ DGet H2 a y o ∧ Q (.bl (!o.isSome)) H2
noncomputable def sDPut (td ty tv : TE) : TS := fun D σ H => tv σ H fun v H1 => td σ H1 fun x H2 => ty σ H2 fun y H3 => ∃ a H4, x = .ref a ∧ DPut H3 a y v H4 ∧ D.nx σ H4
section
variable {X : Cx} {o i e value : Expr} {pos pos' tpos : Pos} {td ty tv : TE}
theorem pe_dget (hu : X.A.units + 1 < cLine) (ho : PE X o td) (hi : PE X i ty) (hs : NoSl i) : PE X (.Subscript o i pos) (tDGet td ty) := by
  intro pins s σ H Q I h
  refine subD_of PySem.F.slot_dict_getitem.lookup hs (thn (ho pins s σ H _ I h) fun u s1 ⟨x, H1, I1, rx, q1⟩ => thn (hi pins s1 σ H1 _ I1 q1) fun iv s2 ⟨y, H2, I2, ry, a, v, ex, g, q2⟩ => ?_)
  subst ex
  obtain rfl : u = Value.ref a := rx
  exact ⟨dict_typeIs I2 g, d_getItem hu I2 g ry fun w' s3 I3 rw' => ⟨v, H2, I3, rw', q2⟩⟩
theorem pc_dnotin (hu : X.A.units + 1 < cLine) (hi : PE X i ty) (ho : PE X o td) : PC X .NotIn i o (tDNotIn ty td) := by
  intro pins s σ H Q I h
  refine thn (hi pins s σ H _ I h) fun iv s1 ⟨y, H1, I1, ry, q1⟩ => thn (ho pins s1 σ H1 _ I1 q1) fun u s2 ⟨x, H2, I2, rx, a, ov, ex, g, q2⟩ => ?_
  subst ex
  obtain rfl : u = Value.ref a := rx
  exact d_notIn hu I2 g ry fun s3 I3 => ⟨.bl (!ov.isSome), H2, I3, rfl, q2⟩
theorem ps_dput (hu : X.A.units + 1 < cLine) (ho : PE X o td) (hi : PE X i ty) (hv : PE X value tv) (hs : swapsWith value (some (.Subscript o i pos')) pos.line X.env = pure false) :
    PS X (.Assign [.Subscript o i pos'] value pos) (sDPut td ty tv) := by
  intro pins s σ H D I h
  refine wpAny_Assign_Subscript (thn (hv pins s σ H _ I h) fun r s1 ⟨v, H1, I1, rv, q1⟩ => thn (ho pins s1 σ H1 _ I1 q1) fun u s2 ⟨x, H2, I2, rx, q2⟩ => thn (hi pins s2 σ H2 _ I2 q2) fun iv s3 ⟨y, H3, I3, ry, a, H4, ex, g, q3⟩ => ?_) hs
  subst ex
  obtain rfl : u = Value.ref a := rx
  exact d_setItem hu I3 g ry rv fun s4 I4 => ⟨σ, H4, I4, q3⟩
end
theorem dk_empty {P : Program} {w : World} {H : Hp} (h : Heap) (hb : sysModules < h.objs.size) : ObjOk P w H (h.push { cls := .type "dict", data := .dict #[] }) h.objs.size (.dK []) :=
  ⟨Nat.zero_le _, beq_eq_false_iff_ne.mpr (Ne.symm (Nat.ne_of_lt hb)), [], .nil, Heap.DictOf.new h⟩
noncomputable def tDNewK : TE := fun _ H Q => ∀ p, H p = none → Q (.ref p) (upd H p (.dK []))
section
variable {X : Cx} {pos : Pos}
theorem pe_dnewK : PE X (.Dict [] [] pos) tDNewK := fun pins s σ H Q I h =>
  wpAny_Dict_empty ⟨.ref s.heap.objs.size, _, I.laid (a := s.heap.objs.size) (o := .dK []) (t' := s.toks) (fun _ _ q => Heap.get?_push_of_some _ q) (Nat.le_refl _) (dk_empty s.heap I.big), rfl, h _ (I.hok.fresh (Nat.le_refl _))⟩
end
structure M1 (X : Cx) (o : Expr) (m : Str) (apos : Pos) (e : Expr) (cpos : Pos) : Prop where
  base : attributeBase o m X.env (eval o X.env) = eval o X.env
  few : ((backTo cpos (starEach [e] X.env)).all (fun x => !x.1) && (backToKw cpos (keywordEach [] X.env)).all (fun x => x.1.isSome)
    && decide (([e] : List Expr).length + ([] : List Keyword).length + (if ([] : List Keyword).isEmpty then 0 else 1) < 30)) = true
  line : (apos.endLine == cpos.line) = true
  trees : backTo cpos (starEach [e] X.env) = [(false, eval e X.env)]
noncomputable def IsD (H : Hp) (a : Addr) : Prop := (∃ kvs, Rd H a (.dK kvs)) ∨ ∃ kvs, Rd H a (.dT kvs)
theorem isD_at {X : Cx} {pins : List (Addr × Obj)} {σ : St} {H : Hp} {s : Shared} {a : Addr} (I : Inv X pins σ H s) (d : IsD H a) :
    s.TypeIs (.ref a) "dict" ∧ (∀ b, Value.ref a = .ref b → ∃ ob, s.heap.get? b = some ob ∧ ob.dict = none) ∧ (a == sysModules) = false := by
  rcases d with ⟨kvs, e⟩ | ⟨kvs, e⟩
  · obtain ⟨_, hd, vs, _, dd⟩ := dk_rd I.hok e
    refine ⟨dd.typeIs, fun b q => ?_, hd⟩
    cases q
    obtain ⟨ob, _, _, h1, h2, _⟩ := dd
    exact ⟨ob, h1, h2.2.1⟩
  · obtain ⟨_, hd, xs, _, dd⟩ := dt_rd I.hok e
    refine ⟨dd.typeIs, fun b q => ?_, hd⟩
    cases q
    obtain ⟨ob, _, _, h1, h2, _⟩ := dd
    exact ⟨ob, h1, h2.2.1⟩
section
variable {X : Cx} {pins : List (Addr × Obj)} {σ : St} {H : Hp} {s : Shared} {a : Addr} {y d : V} {u r : Value} {o : Option V} {A : Around} {E : Value → Shared → Prop}
theorem d_get1 {Q : Value → Shared → Prop} (hu : A.units + 1 < cLine) (I : Inv X pins σ H s) (g : DGet H a y o) (ry : RelV y u) (h : ∀ w' s', Inv X pins σ H s' → RelV (o.getD .non) w' → Q w' s') :
    wpAny (model X.prog X.w) A (call (.builtin "dict.get") [.ref a, u]) Q E s := by
  rcases g with ⟨kvs, k, e, ey, l⟩ | ⟨kvs, k, b, e, ey, eb, l⟩
  · subst ey
    obtain ⟨z, hd, vs, rel, dd⟩ := dk_rd I.hok e
    refine call_meetsIn PySem.F.slot_dict_get dd.typeIs PySem.F.entry_dict_get (PySem.F.args_dict_get_2 _ _) (meets_dict_get (mixKind X.prog X.w) a (kV_is ry) hd) ⟨_, dd.mapOf, h _ _ (I.tok _) ?_⟩
    rw [l]
    exact (rel.val k).getD rfl
  · subst ey
    cases (show u = Value.ref b from ry)
    obtain ⟨z, hd, xs, rel, dd⟩ := dt_rd I.hok e
    refine call_meetsIn PySem.F.slot_dict_get dd.typeIs PySem.F.entry_dict_get (PySem.F.args_dict_get_2 _ _) (meetsH_dict_get (tupleKind (mixKind X.prog X.w)) a b hd) ⟨tupleKind_room_in1 hu, k, xs, key_of I.hok eb, dd, h _ _ (I.tok _) ?_⟩
    rw [l]
    exact (rel.val k).getD rfl
end
noncomputable def tDGet1 (td ty : TE) : TE := fun σ H Q => td σ H fun x H1 => ∃ a, x = .ref a ∧ IsD H1 a ∧ ty σ H1 fun y H2 => ∃ o, DGet H2 a y o ∧ Q (o.getD .non) H2
section
variable {X : Cx} {o e f : Expr} {apos cpos : Pos} {td ty tx : TE}
theorem pe_dget1 (hu : X.A.units + 1 < cLine) (ho : PE X o td) (he : PE X e ty) (m : M1 X o "get" apos e cpos) : PE X (.Call (.Attribute o "get" apos) [e] [] cpos) (tDGet1 td ty) := by
  intro pins s σ H Q I h
  refine wpAny_Call_method m.base m.few m.line PySem.F.plainAttrs_dict PySem.F.slot_dict_get PySem.F.type_dict_get (thn (ho pins s σ H _ I h) fun u s1 ⟨x, H1, I1, rx, a, ex, d, q1⟩ => ?_)
  subst ex
  obtain rfl : u = Value.ref a := rx
  obtain ⟨t1, t2, _⟩ := isD_at I1 d
  refine ⟨t1, t2, ?_⟩
  rw [m.trees]
  refine Calls.callWith_builtin rfl (Calls.evalArgs_plain (Calls.spliced_cons (thn (he pins s1 σ H1 _ I1 q1) fun iv s2 ⟨y, H2, I2, ry, ov, g, q2⟩ => Calls.spliced_nil ?_)))
  exact d_get1 hu I2 g ry fun w' s3 I3 rw' => ⟨_, H2, I3, rw', q2⟩
end
section
variable {X : Cx} {pins : List (Addr × Obj)} {σ : St} {H : Hp} {s : Shared} {a : Addr} {kvs : List (Key × V)} {A : Around} {E : Value → Shared → Prop}
end
section
variable {X : Cx} {pins : List (Addr × Obj)} {σ : St} {H : Hp} {s : Shared} {a : Addr} {y : V} {u : Value} {A : Around} {E : Value → Shared → Prop}
end
end L2
namespace Att
open PySem PySem.W PySem.Calls PyProof.Rows
section
variable {prog : Program} {w : World} {A : Around} {E : Value → Shared → Prop} {s : Shared} {K : Frag}
end
end Att
namespace L2
open PySem PySem.Spec PyProof.Rows
end L2
namespace L2
open PySem PySem.Spec PyProof.Rows
end L2
namespace L2
open PySem PySem.Spec PyProof.Rows
section
variable {P : Program} {w : World} {K : PySem.W.Frag} {mg : Str → Option Value} {base : Heap}
end
section
variable {X : Cx}
end
section
variable {κ : Type} [DecidableEq κ]
end
end L2
namespace L2
open PySem PySem.Spec PyProof.Rows
theorem lk_list_keys : typeLookup (.type "list") "keys" = pure none := by rw [typeLookup_type, builtinLookup_eq_fast]; kernel_rfl
section
variable {prog : Program} {w : World} {A : Around} {E : Value → Shared → Prop}
theorem getAttrQ_keys {s : Shared} {a : Addr} {xs : Array Value} {k : Nat} {sl : Array (Option Value)} {Q : Option Value → Shared → Prop} (hx : s.heap.get? a = some { cls := .type "list", dict := none, data := .seq xs k, slots := sl }) (hA : A.handled = none)
    (h : ∀ h' tk, (∀ b o, s.heap.get? b = some o → h'.get? b = some o) → Q none { s with heap := h', toks := tk }) : wpAny (model prog w) A (getAttr? (.ref a) "keys") Q E s := by
  obtain ⟨hp, g, d, tk, os⟩ := s
  have hT : ∀ tk', (⟨hp, g, d, tk', os⟩ : Shared).TypeIs (.ref a) "list" := fun _ => ⟨_, hx, rfl⟩
  have f1 := sub_AttributeError
  have f3 := F.slot_list_getattribute.lookup
  have f4 := F.slot_list_getattribute.bind (.ref a)
  have f5 := am_list_getattr_none
  have hname : (["__module__", "__name__", "__qualname__", "__doc__", "__annotations__"] : List Str).contains "keys" = false := by decide +kernel
  unfold getAttr? getAttrBy? getAttrBy
  repeat (any_goals (first | assumption | exact hT _ | ((with_reducible show wpAny _ _ (call (Value.builtin "list.__getattribute__") _ _) _ _ _); refine call_meets F.slot_list_getattribute (hT _) am_entry_list_getattribute (F.args_list_getattribute_2 _ _) (meets_getattribute_miss_list a xs k sl "keys" _ lk_list_keys hname (by decide +kernel)) ⟨hx, hA, fun h' tk' e hx' => ?_⟩) | wp_step))
  have hxo := hx'.of
  obtain ⟨⟨cl, dc, da, sl2⟩, vs, he, hc, _, _⟩ := hxo.there
  simp only at hc
  subst hc
  have hE : ∀ tk2, (⟨h', g, d, tk2, os⟩ : Shared).TypeIs (.ref e) "AttributeError" := fun _ => ⟨_, he, rfl⟩
  show wpAny _ _ (getattributeRaised _ _ _ _ _ _ _) _ _ _
  unfold getattributeRaised
  repeat (any_goals (first | assumption | exact hE _ | wp_step))
  all_goals exact h _ _ hxo.keeps
end
noncomputable def entry_dul : entryFor table "dict.update.loop" = some Builtin.«dict.update.loop» := entryFor_of_tree (by kernel_rfl)
theorem plain_dul : plainId "dict.update.loop" = true := by decide +kernel
section
variable {X : Cx}
noncomputable def PairsAre (K : PySem.W.Frag) (H : Hp) : List V → List (Int × V) → Prop := Paired fun v p => ∃ t, v = .ref t ∧ SqT K H t [.int p.1, p.2]
theorem PairsAre.get {K : PySem.W.Frag} {H : Hp} {vs : List V} {ps : List (Int × V)} (h : PairsAre K H vs ps) : ∀ {i : Nat} {v : V}, vs[i]? = some v → ∃ t p, v = .ref t ∧ ps[i]? = some p ∧ SqT K H t [.int p.1, p.2] := by
  induction h with
  | nil => intro i v e; simp at e
  | cons q t ih =>
    intro i v e
    cases i with
    | zero => obtain ⟨a, e1, z⟩ := q; simp at e; subst e; exact ⟨a, _, e1, rfl, z⟩
    | succ i => obtain ⟨a, r, e1, e2, z⟩ := ih (i := i) (v := v) (by simpa using e); exact ⟨a, r, e1, by simpa using e2, z⟩
theorem PairsAre.imp {K : PySem.W.Frag} {H H' : Hp} {vs : List V} {ps : List (Int × V)} (f : ∀ t xs, SqT K H t xs → SqT K H' t xs) (h : PairsAre K H vs ps) : PairsAre K H' vs ps := by
  induction h with
  | nil => exact .nil
  | cons r t ih => obtain ⟨a, e, z⟩ := r; exact .cons ⟨a, e, f _ _ z⟩ ih
theorem PairsAre.length {K : PySem.W.Frag} {H : Hp} {vs : List V} {ps : List (Int × V)} (h : PairsAre K H vs ps) : vs.length = ps.length := Paired.length h
noncomputable def dictOf2 (ps : List (Int × V)) : List (Key × V) := ps.foldl (fun d p => putK d (Sum.inl p.1) p.2) []
theorem dictOf2_snoc {ps : List (Int × V)} {i : Nat} {p : Int × V} (h : ps[i]? = some p) : dictOf2 (ps.take (i + 1)) = putK (dictOf2 (ps.take i)) (Sum.inl p.1) p.2 := by
  unfold dictOf2
  rw [List.take_succ, h, List.foldl_append]
  rfl
theorem dictOf2_len (ps : List (Int × V)) : (dictOf2 ps).length ≤ ps.length := by
  have : ∀ (l : List (Int × V)) (d : List (Key × V)), (l.foldl (fun d p => putK d (Sum.inl p.1) p.2) d).length ≤ d.length + l.length := by
    intro l
    induction l with
    | nil => intro d; simp
    | cons p r ih => intro d; have := ih (putK d (Sum.inl p.1) p.2); have h2 := length_putK d (Sum.inl p.1 : Key) p.2; simp only [List.foldl_cons, List.length_cons] at *; omega
  exact Nat.le_trans (this ps []) (by simp)
theorem upd_loop {pins : List (Addr × Obj)} {σ : St} {H : Hp} {d it l : Addr} {vs : List V} {ps : List (Int × V)} {A : Around} {R : Result → Shared → Prop} (hh : A.handled = none) (hd : H d = none) (hl : SqL X.K H l vs) (hp : PairsAre X.K H vs ps) (hz : ps.length < sizeLine)
    (hR : ∀ s', Inv X pins σ (upd H d (.dK (dictOf2 ps))) s' → R (.ok (.ret .none)) s') :
    ∀ (k i : Nat) (s : Shared), ps.length - i = k → i ≤ ps.length → Inv X pins σ (upd H d (.dK (dictOf2 (ps.take i)))) s → s.heap.IsListIter it l i → FpOk X pins (upd H d (.dK (dictOf2 (ps.take i)))) it →
      codeAny (model X.prog X.w) A (.builtin "dict.update.loop" ⟨[.ref d, .ref it, rawInt i, .none], []⟩) R s := by
  intro k
  induction k with
  | zero =>
    intro i s hk hi I st f
    have ei : i = ps.length := by omega
    subst ei
    rw [List.take_length] at I f
    have sm : Same H (upd H d (.dK (dictOf2 ps))) := same_new' hd _
    obtain ⟨its, r, p, _⟩ := I.list (sm.seq hl)
    have lv := hp.length
    have lr := r.length
    refine codeAny_builtin entry_dul ?_
    rw [Around.under_plainId plain_dul _]
    show wpAny _ A.in1 (pyNext (.ref it) >>= _) _ _ s
    refine wpAny_bind (wpAny_pyNext_list_end (A := A.in1) hh st p.isList (by simp; omega) fun h' eb => ?_)
    refine wpAny_bind (wpAny_pure (wpAny_pure ?_))
    exact hR _ (I.turned (t' := s.toks) (fun b o hb e => eb b o hb e) f.1 f.2.1 f.2.2.2.1 f.2.2.2.2.1 f.2.2.2.2.2)
  | succ k ih =>
    intro i s hk hi I st f
    have sm : Same H (upd H d (.dK (dictOf2 (ps.take i)))) := same_new' hd _
    obtain ⟨its, r, p, _⟩ := I.list (sm.seq hl)
    have lv := hp.length
    have hlt : i < vs.length := by omega
    obtain ⟨t, pr, ev, ep, hT⟩ := hp.get (List.getElem?_eq_getElem hlt)
    obtain ⟨u, hu, ru⟩ := r.get (List.getElem?_eq_getElem hlt)
    rw [ev] at ru
    cases ru
    refine codeAny_builtin entry_dul ?_
    rw [Around.under_plainId plain_dul _]
    show wpAny _ A.in1 (pyNext (.ref it) >>= _) _ _ s
    refine wpAny_bind (wpAny_pyNext_list_item st p.isList (x := .ref t) (by simpa using hu) fun h' st' sb => ?_)
    have I1 : Inv X pins σ (upd H d (.dK (dictOf2 (ps.take i)))) { s with heap := h' } := I.turned (t' := s.toks) (fun b o hb e => (sb.2 b hb).trans e) f.1 f.2.1 f.2.2.2.1 f.2.2.2.2.1 f.2.2.2.2.2
    obtain ⟨its2, r2, ⟨ot, gt, ct, nt, dt⟩, _⟩ := I1.tuple (sm.tup hT)
    obtain ⟨u1, u2, rfl, ⟨tk1, rfl⟩, ru2⟩ := r2.two
    refine wpAny_bind (wpAny_holding ?_)
    refine wpAny_bind (wpAny_tryCatch ?_)
    unfold Builtin.Dict.pairItems
    refine wpAny_bind (wpAny_typeOf (T := "tuple") ⟨ot, gt, ct⟩ ?_)
    rw [if_pos (by simp)]
    refine wpAny_bind (wpAny_seqItems gt dt (wpAny_pure ?_))
    show wpAny _ _ (holding [Value.int pr.1 tk1, u2] (dictSet d (Value.int pr.1 tk1) u2)) _ _ _
    obtain ⟨z, hdS, kv, rel, dd⟩ := dk_of I1.hok (upd_same (H := H) (a := d) (o := .dK (dictOf2 (ps.take i))))
    have l1 := dictOf2_len (ps.take i)
    rw [List.length_take] at l1
    have hz2 : kv.length ≤ sizeLine := by rw [← rel.length]; exact z
    refine wpAny_holding (wpAny_dictSet_pairs (hsz := hz2) (knd := mixKind X.prog X.w) (k := (Sum.inl pr.1 : Key)) (mixKind_int _ _ _ _) dd fun h2 dd' hs2 => ?_)
    have he2 : ∃ q, h2.get? d = some q := let ⟨q, _, _, hq, _⟩ := dd'; ⟨q, hq⟩
    have l2 := length_putK (dictOf2 (ps.take i)) (Sum.inl pr.1 : Key) pr.2
    have I2 : Inv X pins σ (upd (upd H d (.dK (dictOf2 (ps.take i)))) d (.dK (putK (dictOf2 (ps.take i)) (Sum.inl pr.1) pr.2))) { s with heap := h2, toks := s.toks + 1 } :=
      d_write (s := { s with heap := h' }) I1 (by rw [upd_same]; exact True.intro) hs2 he2 (dk_new (by omega) hdS (rel.put _ ru2) dd')
    rw [upd_upd, ← dictOf2_snoc ep] at I2
    have nit : it ≠ d := fun e => by have := f.1; rw [e, upd_same] at this; cases this
    refine wpAny_pure ⟨plainId_quiet plain_dul _, ?_⟩
    have ei : rawInt ((i : Int) + 1) = rawInt ((i + 1 : Nat) : Int) := by push_cast; rfl
    rw [ei]
    refine ih (i + 1) _ (by omega) (by omega) I2 (st'.at fun o e => hs2.extBut _ _ nit e) ⟨?_, f.2⟩
    have := f.1
    rw [upd_ne nit] at this ⊢
    exact this
theorem call_dict_of (hc : X.calm = true) : CallR X (.type "dict") (fun xs H Q => ∃ (l : Addr) (vs : List V) (ps : List (Int × V)), xs = [.ref l] ∧ SqL X.K H l vs ∧ PairsAre X.K H vs ps ∧ ps.length < sizeLine ∧ ∀ d, H d = none → Q (.ref d) (upd H d (.dK (dictOf2 ps)))) := by
  intro pins s σ H xs us Q I rv h
  obtain ⟨l, vs, ps, rfl, hl, hp, hz, q⟩ := h
  obtain ⟨u, rfl, ru⟩ := rv.one
  cases ru
  refine callType_codes (Q₁ := fun obj s1 => obj = .ref s.heap.objs.size ∧ s1 = { s with heap := s.heap.push { cls := .type "dict", data := .dict #[] } }) F.kt_called_dict (F.kt_typeCall_dict_1 _) F.entry_dict_init (kt_code_dict_new _ ⟨rfl, rfl⟩) ?_
  rintro obj s1 ⟨rfl, rfl⟩
  have hd : H s.heap.objs.size = none := I.hok.fresh (Nat.le_refl _)
  have I1 : Inv X pins σ (upd H s.heap.objs.size (.dK [])) { s with heap := s.heap.push { cls := .type "dict", data := .dict #[] } } := I.laid (t' := s.toks) (fun _ _ q => Heap.get?_push_of_some _ q) (Nat.le_refl _) (dk_empty s.heap I.big)
  have sm : Same H (upd H s.heap.objs.size (.dK [])) := same_new' hd _
  obtain ⟨z, hdS, kv, rel, dd⟩ := dk_of I1.hok (upd_same (H := H) (a := s.heap.objs.size) (o := .dK []))
  refine ⟨dd.typeIs, F.args_dict_init_2 _ _, ?_⟩
  unfold Builtin.«dict.__init__»
  refine wpAny_bind ?_
  unfold Builtin.Dict.selfAndRest
  refine wpAny_bind (wpAny_notOrdered_dict dd.typeIs ?_)
  show wpAny _ _ (pure (s.heap.objs.size, [Value.ref l])) _ _ _
  refine wpAny_pure ?_
  show wpAny _ _ (Builtin.Dict.updateFrom "dict.__init__" s.heap.objs.size (.ref l) [] .none) _ _ _
  unfold Builtin.Dict.updateFrom
  obtain ⟨its, r, ⟨o, n, e, c, dn, sl⟩, _⟩ := I1.list (sm.seq hl)
  obtain ⟨cls, dct, dat, sls⟩ := o
  simp only at c dn sl
  subst c dn sl
  refine wpAny_bind (wpAny_typeOf (T := "list") ⟨_, e, rfl⟩ ?_)
  rw [if_pos (by decide)]
  refine wpAny_bind (getAttrQ_keys (s := { s with heap := s.heap.push { cls := .type "dict", data := .dict #[] } }) e (by exact I.ok.hd hc) fun h2 tk2 hk2 => ?_)
  have I2 : Inv X pins σ (upd H s.heap.objs.size (.dK [])) { s with heap := h2, toks := tk2 } := I1.kept hk2
  rw [if_pos (by rfl)]
  refine wpAny_bind (wpAny_rule (wpAny_bind ?_))
  obtain ⟨its2, r2, p2, _⟩ := I2.list (sm.seq hl)
  refine wpAny_pyIter_list (s := { s with heap := h2, toks := tk2 }) p2.isList ?_
  refine wpAny_pure ⟨plainId_quiet plain_dul _, ?_⟩
  have I3 : Inv X pins σ (upd H s.heap.objs.size (.dK [])) { s with heap := h2.push { cls := .type "list_iterator", data := .fields #[.ref l, .int 0 0] }, toks := tk2 } := I2.kept (t' := tk2) fun b o e => Heap.get?_push_of_some _ e
  have hfr := I2.hok.fresh (a := h2.objs.size) (Nat.le_refl _)
  refine upd_loop (X := X) (pins := pins) (σ := σ) (H := H) (vs := vs) (ps := ps) (A := X.A.in1) (by exact I.ok.hd hc) hd hl hp hz (fun s' I' => ⟨rfl, .ref s.heap.objs.size, _, I', rfl, q _ hd⟩) ps.length 0 _ (by omega) (Nat.zero_le _) I3 ⟨_, Heap.get?_push_size _ rfl, rfl, rfl⟩ (I2.fpOk (Nat.le_refl _) hfr)
end
end L2
namespace L2
open PySem PySem.Spec PyProof.Rows
section
variable {P : Program} {w : World} {A : Around} {E : Value → Shared → Prop} {s : Shared} {e it l : Addr} {st : Nat → Heap → Prop} {src : List Value → Heap → Prop} {i : Nat} {xs : List Value} {old : Value}
theorem enumNext_item {x : Value} {Q : Option Value → Shared → Prop} (dr : Drw P w it l st src) (hE : IsEnum s.heap e it i old) (hI : st i s.heap) (hl : src xs s.heap) (hx : xs[i]? = some x) (hne : e ≠ it)
    (hQ : ∀ h', IsEnumOut h' e it ((i : Int) + 1) x s.heap.objs.size → st (i + 1) h' → h'.get? s.heap.objs.size = some { cls := .type "tuple", data := .seq #[.int i s.toks, x] } →
      (∀ b o, b ≠ e → b ≠ it → s.heap.get? b = some o → h'.get? b = some o) → Q (some (.ref s.heap.objs.size)) { s with heap := h', toks := s.toks + 1 }) : wpAny (model P w) A (pyNext (.ref e)) Q E s := by
  have hTy : s.TypeIs (.ref e) "enumerate" := ⟨_, hE, rfl⟩
  unfold pyNext
  refine wpAny_bind (wpAny_attempt (wpAny_callSpecial?_slot (name := Str.ofString "__next__") hTy F.slot_enumerate_next (wpAny_call_entry F.slot_enumerate_next hTy F.entry_enumerate_next ?_ (F.args_enumerate_next_1 _))))
  obtain ⟨hp, g, d, tk, os⟩ := s
  show wpAny _ _ (field (.ref e) 2 >>= _) _ _ _
  refine wpAny_bind (wpAny_field hE rfl (x := .ref it) rfl ?_)
  refine wpAny_bind (dr.item _ _ ⟨hp, g, d, tk, os⟩ i xs x _ hI hl hx fun g1 hI1 e1 => ?_)
  replace e1 : Heap.SameBut it hp g1 := e1
  have hE1 : IsEnum g1 e it i old := (e1.2 e hne).trans hE
  show wpAny _ _ (field (.ref e) 3 >>= _) _ _ ⟨g1, g, d, tk, os⟩
  refine wpAny_bind (wpAny_field hE1 rfl (x := rawInt i) rfl ?_)
  show wpAny _ _ (field (.ref e) 4 >>= _) _ _ ⟨g1, g, d, tk, os⟩
  refine wpAny_bind (wpAny_field hE1 rfl (x := .none) rfl ?_)
  show wpAny _ _ (mkInt i >>= _) _ _ ⟨g1, g, d, tk, os⟩
  refine wpAny_bind (wpAny_mkInt ?_)
  show wpAny _ _ (setField (.ref e) 3 (rawInt ((i : Int) + 1)) >>= _) _ _ ⟨g1, g, d, tk + 1, os⟩
  refine wpAny_bind (wpAny_setField_rec hE1 (by simp) fun g2 hE2 e2 => ?_)
  replace e2 : Heap.SameBut e g1 g2 := e2
  replace hE2 : IsEnum g2 e it ((i : Int) + 1) old := hE2
  show wpAny _ _ (setField (.ref e) 4 .none >>= _) _ _ ⟨g2, g, d, tk + 1, os⟩
  refine wpAny_bind (wpAny_setField_rec hE2 (by simp) fun g3 hE3 e3 => ?_)
  replace e3 : Heap.SameBut e g2 g3 := e3
  replace hE3 : IsEnum g3 e it ((i : Int) + 1) old := hE3
  show wpAny _ _ (newTuple [.int i tk, x] >>= _) _ _ ⟨g3, g, d, tk + 1, os⟩
  refine wpAny_bind (wpAny_newTuple ?_)
  have hE4 : IsEnum (g3.push { cls := .type "tuple", data := .seq #[.int i tk, x] }) e it ((i : Int) + 1) old := Heap.get?_push_of_some _ hE3
  generalize hg4 : g3.push { cls := .type "tuple", data := .seq #[.int i tk, x] } = g4 at hE4
  have hsz : g3.objs.size = hp.objs.size := by rw [e3.1, e2.1, e1.1]
  have hel : e < hp.objs.size := Heap.lt_size hE
  have hT4 : g4.get? hp.objs.size = some { cls := .type "tuple", data := .seq #[.int i tk, x] } := by rw [← hg4, ← hsz]; exact Heap.get?_push_size _ rfl
  have hk4 : ∀ b o, b ≠ e → b ≠ it → hp.get? b = some o → g4.get? b = some o := fun b o hbe hbi hb => by
    rw [← hg4]; exact Heap.get?_push_of_some _ (e3.extBut b o hbe (e2.extBut b o hbe (e1.extBut b o hbi hb)))
  have hI4 : st (i + 1) g4 := dr.keep _ _ _ hI1 fun q z => by rw [← hg4]; exact Heap.get?_push_of_some _ (e3.extBut _ _ hne.symm (e2.extBut _ _ hne.symm z))
  show wpAny _ _ (Builtin.SmallTypes.ownedTupleIsFree (.ref e) >>= _) _ _ ⟨g4, g, d, tk + 1, os⟩
  rw [hsz]
  clear hg4 hE3 e3 hE2 e2 hE1 e1 hI1 hsz
  refine wpAny_bind ?_
  unfold Builtin.SmallTypes.ownedTupleIsFree
  refine wpAny_bind (wpAny_field hE4 rfl (x := .none) rfl (wpAny_pure ?_))
  simp only [if_true]
  refine wpAny_bind (wpAny_rule (wpAny_bind (wpAny_field hE4 rfl (x := old) rfl (wpAny_bind (wpAny_setField_rec hE4 (by simp) fun g5 hE5 e5 => ?_)))))
  replace e5 : Heap.SameBut e g4 g5 := e5
  replace hE5 : IsEnum g5 e it ((i : Int) + 1) x := hE5
  show wpAny _ _ (Builtin.SmallTypes.ownedTupleHandOut (.ref e) (.ref hp.objs.size) >>= _) _ _ ⟨g5, g, d, tk + 1, os⟩
  refine wpAny_bind ?_
  unfold Builtin.SmallTypes.ownedTupleHandOut
  refine wpAny_bind (wpAny_setField_rec hE5 (by simp) fun g6 hE6 e6 => ?_)
  replace e6 : Heap.SameBut e g5 g6 := e6
  replace hE6 : IsEnumOut g6 e it ((i : Int) + 1) x hp.objs.size := hE6
  refine wpAny_setField_rec hE6 (by simp) fun g7 hE7 e7 => ?_
  replace e7 : Heap.SameBut e g6 g7 := e7
  replace hE7 : IsEnumOut g7 e it ((i : Int) + 1) x hp.objs.size := hE7
  have up : ∀ b o, b ≠ e → g4.get? b = some o → g7.get? b = some o := fun b o hb z => e7.extBut b o hb (e6.extBut b o hb (e5.extBut b o hb z))
  refine wpAny_bind (wpAny_letGo (wpAny_pure ⟨_, rfl, wpAny_pure (hQ g7 hE7 ?_ ?_ ?_)⟩))
  · exact dr.keep _ _ _ hI4 fun q z => up _ _ hne.symm z
  · exact up _ _ (Nat.ne_of_gt hel) hT4
  · exact fun b o hbe hbi hb => up b o hbe (hk4 b o hbe hbi hb)
theorem enumNext_end {Q : Option Value → Shared → Prop} (hh : A.handled = none) (dr : Drw P w it l st src) (hE : IsEnum s.heap e it i old) (hI : st i s.heap) (hl : src xs s.heap) (hx : xs[i]? = none)
    (hQ : ∀ h', Heap.ExtBut it s.heap h' → Q none { s with heap := h' }) : wpAny (model P w) A (pyNext (.ref e)) Q E s := by
  have hTy : s.TypeIs (.ref e) "enumerate" := ⟨_, hE, rfl⟩
  unfold pyNext
  refine wpAny_bind (wpAny_attempt (wpAny_callSpecial?_slot (name := Str.ofString "__next__") hTy F.slot_enumerate_next (wpAny_call_entry F.slot_enumerate_next hTy F.entry_enumerate_next ?_ (F.args_enumerate_next_1 _))))
  show wpAny _ _ (field (.ref e) 2 >>= _) _ _ _
  refine wpAny_bind (wpAny_field hE rfl (x := .ref it) rfl ?_)
  refine wpAny_bind (dr.done _ _ s i xs _ hh hI hl hx fun h' x eb hx' => ?_)
  obtain ⟨o, ho, hc⟩ := hx'
  refine wpAny_bind (wpAny_isInstance (T := "StopIteration") (b := true) ⟨o, ho, hc⟩ isSubtype_stop (wpAny_pure (hQ _ eb)))
end
theorem meets_enum {n : String} {l : Addr} {p : Heap → Prop} (I : Itr0 n l p) :
    Meets (Builtin.«enumerate.__new__» ⟨[.type "enumerate", .ref l], []⟩) (fun _ R s => p s.heap ∧ R (.ok (.ret (.ref (s.heap.push (itObj n l)).objs.size))) { s with heap := (s.heap.push (itObj n l)).push { cls := .type "enumerate", data := .fields #[.none, .bool false, .ref s.heap.objs.size, rawInt 0, .none, .none] } }) :=
  .of_wp fun prog w A R s h => by
    obtain ⟨hp, g, d, tk, os⟩ := s
    obtain ⟨q, h⟩ := h
    have hsub := sub_enumerate
    have f1 := fun (A : Around) (E : Value → Shared → Prop) (Q : Value → Shared → Prop) => I.go prog w A E ⟨hp, g, d, tk, os⟩ Q q
    wp_walk
    refine wpAny_stack_any fun stk => wpAny_pure ?_
    split
    · rename_i c _ _ _ _ _
      cases (c == Value.type "enumerate")
      · wp_walk using f1 _ _ _
        exact ⟨_, rfl, h⟩
      · wp_walk using f1 _ _ _
        exact ⟨_, rfl, h⟩
    · wp_walk using f1 _ _ _
      exact ⟨_, rfl, h⟩
noncomputable def Ite (K : PySem.W.Frag) (m : Bool) (a : Addr) : It :=
  ⟨fun i H => ∃ xs x, Sq K m H a xs ∧ xs[i]? = some x,
   fun i H v H' => ∃ T x, v = .ref T ∧ H T = none ∧ H' = upd H T (.tup [.int (i : Nat), x]) ∧ (∀ xs, Sq K m H a xs → xs[i]? = some x),
   fun i H => ∃ xs, Sq K m H a xs ∧ xs.length ≤ i⟩
noncomputable def eTn (m : Bool) (e it a : Addr) (i : Nat) (h : Heap) : Prop := (∃ old, IsEnum h e it i old) ∧ itSt m it a i h
theorem turn_enum {P : Program} {w : World} {K : PySem.W.Frag} {es : List Expr} {kk : Nat} {tp : Pos} {m : Bool} {e it a : Addr} (hne : e ≠ it) (hea : a ≠ e) (hia : a ≠ it) :
    Turn P w K (.Tuple es kk tp) (Ite K m a) [e, it] e (eTn m e it a) where
  mem := by simp
  obj := fun i h st c hc => by
    obtain ⟨⟨old, h1⟩, h2⟩ := st
    simp only [List.mem_cons, List.mem_nil_iff, or_false] at hc
    rcases hc with rfl | rfl
    · exact ⟨_, h1, fun v z => by cases z⟩
    · exact (drw_of (P := P) (w := w) m c a).obj i h h2
  keep := fun i h h' st k => by
    obtain ⟨⟨old, h1⟩, h2⟩ := st
    exact ⟨⟨old, k e (by simp) _ h1⟩, (drw_of (P := P) (w := w) m it a).keep i h h' h2 (k it (by simp))⟩
  item := by
    intro X hP hw hK hc i pins s σ H E I hf st hg
    subst hP hw hK
    obtain ⟨xs, x, q1, hx⟩ := hg
    obtain ⟨is1, r1, p1, z1⟩ := I.sq q1
    obtain ⟨v1, e1, rv1⟩ := r1.get hx
    obtain ⟨⟨old, hE⟩, s1⟩ := st
    refine enumNext_item (drw_of m it a) hE s1 p1 e1 hne fun h' a1 a2 a3 a4 => ⟨_, rfl, ?_⟩
    have kk : ∀ c q, c ∉ [e, it] → s.heap.get? c = some q → h'.get? c = some q := fun c q hc e => by
      simp only [List.mem_cons, List.mem_nil_iff, or_false, not_or] at hc
      exact a4 c q hc.1 hc.2 e
    have I1 : Inv X pins σ (upd H s.heap.objs.size (.tup [.int (i : Nat), x])) { s with heap := h' } := I.tupNew (ch := [e, it]) (its := [.int i s.toks, v1]) (Nat.le_refl _) (.cons ⟨_, rfl⟩ (.cons rv1 .nil)) (by show 2 ≤ sizeLine; decide) a3 hf kk (fun c hc => by
      simp only [List.mem_cons, List.mem_nil_iff, or_false] at hc
      rcases hc with rfl | rfl
      · exact ⟨_, a1⟩
      · obtain ⟨q, z, _⟩ := (drw_of (P := X.prog) (w := X.w) m c a).obj _ _ a2; exact ⟨q, z⟩)
    refine wpAny_letOwnedTupleGo_enum (s := { s with heap := h', toks := s.toks + 1 }) a1 fun h2 g1 g2 => ?_
    obtain ⟨f0, f1, f2, f3, f4, f5⟩ := hf e (by simp)
    have lte : e < s.heap.objs.size := Heap.lt_size hE
    have I2 : Inv X pins σ (upd H s.heap.objs.size (.tup [.int (i : Nat), x])) { s with heap := h2, toks := s.toks + 1 } := I1.turned (h' := h2) (t' := s.toks + 1) (fun c q hc z => g2.extBut c q hc z) (by rw [upd_ne (Nat.ne_of_lt lte)]; exact f0) f1 f3 f4 f5
    refine ⟨.ref s.heap.objs.size, _, I2, rfl, ⟨_, x, rfl, I.hok.fresh (Nat.le_refl _), rfl, fun xs' hq => by rw [I.sq_inj hq q1]; exact hx⟩, ⟨⟨_, by exact_mod_cast g1⟩, (drw_of (P := X.prog) (w := X.w) m it a).keep _ _ _ a2 fun q z => g2.extBut _ _ hne.symm z⟩, fun c hc => ?_⟩
    have hlt : c ≠ s.heap.objs.size := by
      simp only [List.mem_cons, List.mem_nil_iff, or_false] at hc
      rcases hc with rfl | rfl
      · exact Nat.ne_of_lt lte
      · obtain ⟨q, z, _⟩ := (drw_of (P := X.prog) (w := X.w) m c a).obj _ _ s1; exact Nat.ne_of_lt (Heap.lt_size z)
    rw [upd_ne hlt]
    exact (hf c hc).1
  done := by
    intro X hP hw hK hc i pins s σ H E I hf st hg
    subst hP hw hK
    obtain ⟨xs, q1, hx⟩ := hg
    obtain ⟨is1, r1, p1, z1⟩ := I.sq q1
    obtain ⟨⟨old, hE⟩, s1⟩ := st
    have l1 := r1.length
    obtain ⟨f0, f1, f2, f3, f4, f5⟩ := hf it (by simp)
    exact enumNext_end (I.ok.hd hc) (drw_of m it a) hE s1 p1 (List.getElem?_eq_none_iff.mpr (by omega)) fun h' eb => ⟨rfl, I.turned (t' := s.toks) (fun b o hb z => eb b o hb z) f0 f1 f3 f4 f5⟩
  self := fun _ _ _ _ _ st h => by
    obtain ⟨⟨old, h1⟩, _⟩ := st
    exact wpAny_pyIter_enum h1 h
section
variable {X : Cx}
noncomputable def iEnum (K : PySem.W.Frag) (m : Bool) (ta : TA) : TI := fun σ H R => ta σ H fun vs H1 => ∃ a, vs = [.ref a] ∧ (∃ xs, Sq K m H1 a xs) ∧ R (Ite K m a) H1
theorem pi_enum {a : Expr} {ta : TA} {p pos tp : Pos} {es : List Expr} {kk : Nat} (m : Bool) (hg : Gl X "enumerate") (hm : X.mg "enumerate" = none) (ha : PA X [a] ta) (hs : autoParam (starEach [a] X.env = [(false, eval a X.env)]) L2.aRfl._auto_1) :
    PI X (.Tuple es kk tp) (.Call (.Name "enumerate" p) [a] [] pos) (iEnum X.K m ta) := by
  intro pins s σ H R I h
  refine Call_ (ld_blt I hg hm bt_enumerate (PyProof.Rows.callWith_type1 (thn (ha pos pins s σ H _ I h) fun us s1 ⟨vs, H1, I1, r1, q1⟩ => ?_) hs rfl))
  obtain ⟨l1, e, ⟨xs, q1⟩, q⟩ := q1
  subst e
  obtain ⟨u1, rfl, e1⟩ := r1.one
  cases e1
  obtain ⟨is1, r1, p1, z1⟩ := I1.sq q1
  refine callType_new F.called_enumerate (by decide) (F.typeCall_enumerate_1 _) (F.newCall_enumerate_1 _) (fun obj => F.args_object_init_2 obj _) F.entry_enumerate_new (meets_enum (itr0_of m l1 is1)) ⟨p1, ?_⟩
  have z2 : (s1.heap.push (itObj (itN m) l1)).objs.size = s1.heap.objs.size + 1 := Heap.size_push ..
  have g2 : ((s1.heap.push (itObj (itN m) l1)).push { cls := .type "enumerate", data := .fields #[.none, .bool false, .ref s1.heap.objs.size, rawInt 0, .none, .none] }).get? (s1.heap.push (itObj (itN m) l1)).objs.size = some { cls := .type "enumerate", data := .fields #[.none, .bool false, .ref s1.heap.objs.size, rawInt 0, .none, .none] } := Heap.get?_push_size _ rfl
  have g1 : ((s1.heap.push (itObj (itN m) l1)).push { cls := .type "enumerate", data := .fields #[.none, .bool false, .ref s1.heap.objs.size, rawInt 0, .none, .none] }).get? s1.heap.objs.size = some (itObj (itN m) l1) := Heap.get?_push_of_some _ (Heap.get?_push_size _ rfl)
  rw [z2] at g2
  show _ ∧ _
  rw [z2]
  have kp : ∀ b o, s1.heap.get? b = some o → ((s1.heap.push (itObj (itN m) l1)).push { cls := .type "enumerate", data := .fields #[.none, .bool false, .ref s1.heap.objs.size, rawInt 0, .none, .none] }).get? b = some o := fun b o z => Heap.get?_push_of_some _ (Heap.get?_push_of_some _ z)
  generalize (s1.heap.push (itObj (itN m) l1)).push { cls := .type "enumerate", data := .fields #[.none, .bool false, .ref s1.heap.objs.size, rawInt 0, .none, .none] } = h' at g1 g2 kp
  have I2 : Inv X pins σ H1 { s1 with heap := h' } := I1.kept (t' := s1.toks) kp
  have ltl : l1 < s1.heap.objs.size := itSrc_lt p1
  refine ⟨⟨_, g2, rfl⟩, wpAny_pyIter_enum (s := { s1 with heap := h' }) g2 ⟨_, [s1.heap.objs.size + 1, s1.heap.objs.size], _, _, H1, rfl, I2, turn_enum (m := m) (a := l1) (Nat.succ_ne_self _) (Nat.ne_of_lt (Nat.lt_succ_of_lt ltl)) (Nat.ne_of_lt ltl), ⟨⟨_, g2⟩, itSt_new m g1⟩, fun c hc => ?_, q⟩⟩
  have hle : s1.heap.objs.size ≤ c := by
    simp only [List.mem_cons, List.mem_nil_iff, or_false] at hc
    rcases hc with rfl | rfl
    · exact Nat.le_add_right _ _
    · exact Nat.le_refl _
  exact I1.fpOk hle (I1.hok.fresh hle)
end
theorem for_enum {K : PySem.W.Frag} {m : Bool} {a : Addr} {xs : List V} {g : TG} {tb : TS} {D : Ends} {σ : St} {H : Hp} (Pv : Nat → St → Hp → Prop) (h0 : Pv 0 σ H) (hl : ∀ i σ H, i ≤ xs.length → Pv i σ H → Sq K m H a xs)
    (hs : ∀ i x σ H T, xs[i]? = some x → Pv i σ H → H T = none → g (.ref T) σ (upd H T (.tup [.int (i : Nat), x])) fun σ2 H2 => tb { D with nx := Pv (i + 1), ct := Pv (i + 1), bk := D.nx } σ2 H2) (hd : ∀ σ H, Pv xs.length σ H → D.nx σ H) :
    ∃ W : Nat → Nat → St → Hp → Prop, (∃ m, W 0 m σ H) ∧ ∀ i n σ H, W i n σ H →
      ((Ite K m a).stop i H ∧ D.nx σ H) ∨ ((Ite K m a).go i H ∧ ∃ N : St → Hp → Prop, (∀ σ' H', N σ' H' → ∃ m', m' < n ∧ W (i + 1) m' σ' H') ∧ ∀ x H', (Ite K m a).yld i H x H' → g x σ H' fun σ2 H2 => tb { D with nx := N, ct := N, bk := D.nx } σ2 H2) := by
  refine ⟨fun i n σ H => n = xs.length - i ∧ i ≤ xs.length ∧ Pv i σ H, ⟨_, rfl, Nat.zero_le _, h0⟩, ?_⟩
  rintro i n σ H ⟨rfl, hi, p⟩
  have q1 := hl i σ H hi p
  by_cases hlt : i < xs.length
  · refine .inr ⟨⟨xs, xs[i], q1, by simp [hlt]⟩, Pv (i + 1), fun σ' H' p' => ⟨xs.length - (i + 1), by omega, rfl, hlt, p'⟩, fun x H' y => ?_⟩
    obtain ⟨T, u, rfl, hT, rfl, y1⟩ := y
    exact hs i u σ H T (y1 xs q1) p hT
  · have e : i = xs.length := by omega
    subst e
    exact .inl ⟨⟨xs, q1, Nat.le_refl _⟩, hd σ H p⟩
end L2
namespace L2
open PySem PySem.Spec PyProof.Rows
theorem lk_lri_len : typeLookup (.type "list_reverseiterator") "__len__" = pure none := by rw [typeLookup_type, builtinLookup_eq_fast]; kernel_rfl
theorem lk_lri_hint : typeLookup (.type "list_reverseiterator") "__length_hint__" = pure (some (.builtin "list_reverseiterator.__length_hint__")) := by rw [typeLookup_type, builtinLookup_eq_fast]; kernel_rfl
section
variable {prog : Program} {w : World} {A : Around} {E : Value → Shared → Prop} {s : Shared}
theorem hint_rev {r : Addr} {Q : Bool → Shared → Prop} (hr : s.TypeIs (.ref r) "list_reverseiterator") (q : Q false s) : wpAny (model prog w) A (Builtin.List.listLengthHint (.ref r)) Q E s := by
  unfold Builtin.List.listLengthHint
  refine wpAny_bind (wpAny_specialOf hr lk_lri_len ?_)
  wp_delta
  refine wpAny_ite_split (fun z => absurd z (by decide +kernel)) (fun _ => ?_)
  refine wpAny_ite_split (fun z => absurd z (by decide +kernel)) (fun _ => ?_)
  refine wpAny_bind (wpAny_specialOf hr lk_lri_hint ?_)
  generalize hid : ("list_reverseiterator.__length_hint__" : String) = id0
  wp_delta
  rw [show splitId id0 = some ("list_reverseiterator", "__length_hint__") from by subst hid; decide +kernel]
  subst hid
  refine wpAny_bind (wpAny_isInstance (T := "list_reverseiterator") (b := true) hr (by rw [isSubtype_type]; kernel_rfl) ?_)
  refine wpAny_ite_split (fun z => absurd z (by decide)) (fun _ => ?_)
  refine wpAny_ite_split (fun _ => ?_) (fun z => absurd (by decide +kernel) z)
  refine wpAny_ite_split (fun z => absurd z (by decide +kernel)) (fun _ => ?_)
  exact wpAny_pure q
theorem ext_rev {R : Result → Shared → Prop} {it l S : Addr} {items : Array Value} {c₀ : Nat} (ha : A.handled = none) (hi : s.heap.IsRevIter it l ((items.size : Int) - 1)) (hl : s.heap.IsList l items) (hli : l ≠ it) (hSi : S ≠ it) (hSl : S ≠ l) (hz : items.size ≤ sizeLine)
    (hS : s.heap.get? S = some { cls := .type "list", data := .seq #[] c₀ })
    (hR : ∀ h' tk ys c', (∀ b o, b ≠ S → b ≠ it → s.heap.get? b = some o → h'.get? b = some o) → h'.get? S = some { cls := .type "list", dict := none, data := .seq ys c', slots := #[] } → ItemsOf (fun i v => items[items.size - 1 - i]? = some v) ys items.size → R (.ok (.ret .none)) { s with heap := h', toks := tk }) :
    wpAny (model prog w) A.in1 (Builtin.List.listExtendWith (.ref S) (.ref it) .none) (fun fin s' => match fin with | .done f => R (.ok f) s' | .again c' => c'.quiet = true ∧ codeAny (model prog w) A c' R s') (fun e s' => R (.error e) s') s := by
  have W := (Walks.listRev (prog := prog) (w := w) (A := A.in1) ha it l hli items).toS
  have hSf : S ∉ [it, l] := by simp only [List.mem_cons, List.not_mem_nil, or_false, not_or]; exact ⟨hSi, hSl⟩
  unfold Builtin.List.listExtendWith
  refine wpAny_bind (wpAny_typeOf (T := "list_reverseiterator") hi.typeIs ?_)
  have n1 : Builtin.List.listSameRef (.ref S) (.ref it) = false := by simp [Builtin.List.listSameRef, hSi]
  have n2 : (Value.type "list_reverseiterator" == Value.type "list") = false := by decide
  have n3 : (Value.type "list_reverseiterator" == Value.type "tuple") = false := by decide
  simp only [n1, n2, n3, Bool.or_false, Bool.false_eq_true, if_false]
  refine wpAny_bind (wpAny_pyIter_revIter hi ?_)
  refine wpAny_bind (wpAny_holding (hint_rev hi.typeIs ?_))
  refine wpAny_ite_split (fun z => absurd z Bool.false_ne_true) (fun _ => ?_)
  refine wpAny_pure ⟨plainId_quiet PySem.F.plain_extend_loop _, ?_⟩
  refine codeAny_extend_loopS W hz S hSf .none items.size 0 _ #[] c₀ rfl (Nat.zero_le _) ⟨Nat.zero_le _, by simpa using hi, hl⟩ hS (ItemsOf.nil _) fun s' ys c' hm hS' hy => ?_
  rw [Moved.eq_with hm]
  refine hR s'.heap s'.toks ys c' (fun b o b1 b2 e => hm.heap b o (fun z => ?_) e) hS' hy
  rcases List.mem_cons.mp z with z | z
  · exact b1 z
  · exact b2 (List.mem_singleton.mp z)
theorem list_of_rev {it l : Addr} {items : Array Value} {Q : Value → Shared → Prop} (ha : A.handled = none) (hi : s.heap.IsRevIter it l ((items.size : Int) - 1)) (hl : s.heap.IsList l items) (hli : l ≠ it) (hz : items.size ≤ sizeLine)
    (hQ : ∀ h' tk ys c', (∀ b o, b ≠ it → s.heap.get? b = some o → h'.get? b = some o) → h'.get? s.heap.objs.size = some { cls := .type "list", dict := none, data := .seq ys c', slots := #[] } → ItemsOf (fun i v => items[items.size - 1 - i]? = some v) ys items.size → Q (.ref s.heap.objs.size) { s with heap := h', toks := tk }) :
    wpAny (model prog w) A (call (.type "list") [.ref it]) Q E s := by
  have l1 : it < s.heap.objs.size := by obtain ⟨_, e, _⟩ := hi; exact Heap.lt_size e
  have l2 : l < s.heap.objs.size := by obtain ⟨_, e, _⟩ := hl; exact Heap.lt_size e
  refine callType_codes (Q₁ := fun obj s₁ => obj = .ref s.heap.objs.size ∧ s₁ = { s with heap := s.heap.push { cls := .type "list", data := .seq #[] } }) PySem.F.called_list (PySem.F.typeCall_list_1 _) PySem.F.entry_list_init (code_list_new _ ⟨rfl, rfl⟩) ?_
  rintro obj s₁ ⟨rfl, rfl⟩
  have g0 : (s.heap.push { cls := .type "list", data := .seq #[] }).get? s.heap.objs.size = some { cls := .type "list", data := .seq #[] } := Heap.get?_push_size _ rfl
  refine ⟨⟨_, g0, rfl⟩, PySem.F.args_list_init_2 _ _, ?_⟩
  show wpAny _ _ (do let old ← Builtin.List.listItems (.ref s.heap.objs.size); Builtin.List.listUpdate (.ref s.heap.objs.size) (fun _ => #[]); letGo old.toList.reverse; Builtin.List.listExtendWith (.ref s.heap.objs.size) (.ref it) .none) _ _ _
  refine wpAny_bind ?_
  unfold Builtin.List.listItems
  refine wpAny_bind (wpAny_seqItems g0 rfl (wpAny_pure ?_))
  show wpAny _ _ (updateSeq s.heap.objs.size (fun _ => #[]) >>= fun _ => letGo (#[] : Array Value).toList.reverse >>= fun _ => Builtin.List.listExtendWith (.ref s.heap.objs.size) (.ref it) .none) _ _ _
  refine wpAny_bind (wpAny_updateSeq g0 rfl ?_)
  have g1 := Heap.get?_update_self (Obj.mapSeq (fun _ => (#[] : Array Value))) g0 rfl
  have kp : ∀ b o, b ≠ s.heap.objs.size → s.heap.get? b = some o → ((s.heap.push { cls := .type "list", data := .seq #[] }).update s.heap.objs.size (Obj.mapSeq (fun _ => (#[] : Array Value)))).get? b = some o := fun b o hb e => (Heap.get?_update_other _ _ (Ne.symm hb)).trans (Heap.get?_push_of_some _ e)
  refine wpAny_bind (wpAny_letGo ?_)
  refine ext_rev (A := A.in1) ha (hi.at fun o e => kp it o (Nat.ne_of_lt l1) e) (hl.at fun o e => kp l o (Nat.ne_of_lt l2) e) hli (Nat.ne_of_gt l1) (Nat.ne_of_gt l2) hz g1 fun h' tk ys c' hk hS' hy => ?_
  exact ⟨rfl, hQ h' tk ys c' (fun b o hb e => hk b o (Nat.ne_of_lt (Heap.lt_size e)) hb (kp b o (Nat.ne_of_lt (Heap.lt_size e)) e)) hS' hy⟩
end
section
variable {X : Cx}
theorem pe_list_reversed {a : Expr} {ta : TA} {p p2 pos pos2 : Pos} (hc : X.calm = true) (hm : X.mg "list" = none) (hm2 : X.mg "reversed" = none) (ha : PA X [a] ta) (hg : autoParam (Gl X "list") L2.aRfl._auto_1) (hg2 : autoParam (Gl X "reversed") L2.aRfl._auto_1)
    (hs : autoParam (starEach [.Call (.Name "reversed" p2) [a] [] pos2] X.env = [(false, eval (.Call (.Name "reversed" p2) [a] [] pos2) X.env)]) L2.aRfl._auto_1) (hs2 : autoParam (starEach [a] X.env = [(false, eval a X.env)]) L2.aRfl._auto_1) :
    PE X (.Call (.Name "list" p) [.Call (.Name "reversed" p2) [a] [] pos2] [] pos) (fun σ H Q => ta σ H fun vs H1 => ∃ l xs, vs = [.ref l] ∧ SqL X.K H1 l xs ∧ ∀ r, H1 r = none → Q (.ref r) (upd H1 r (.lst xs.reverse))) := by
  intro pins s σ H Q I h
  refine Call_ (ld_blt I hg hm bt_list (PyProof.Rows.callWith_type1 ?_ hs rfl))
  rw [hs]
  show wpAny _ _ (spliced ((false, eval (.Call (.Name "reversed" p2) [a] [] pos2) X.env) :: backTo pos (starEach [] X.env))) _ _ s
  refine Calls.spliced_cons (Call_ (ld_blt I hg2 hm2 bt_reversed (PyProof.Rows.callWith_type1 (thn (ha pos2 pins s σ H _ I h) fun us s1 ⟨vs, H1, I1, r1, q1⟩ => ?_) hs2 rfl)))
  obtain ⟨l, xs, e, hl, q⟩ := q1
  subst e
  obtain ⟨u, rfl, ru⟩ := r1.one
  cases ru
  obtain ⟨its, r, pl, hz⟩ := I1.list hl
  have lr := r.length
  refine call_reversed_list pl.isList ?_
  refine Calls.spliced_nil ?_
  have hlt : l < s1.heap.objs.size := by obtain ⟨_, e, _⟩ := pl.isList; exact Heap.lt_size e
  refine list_of_rev (s := { s1 with heap := s1.heap.push (revObj l ((its.toArray.size : Int) - 1)) }) (I.ok.hd hc) ⟨_, Heap.get?_push_size _ rfl, rfl, rfl⟩ (pl.isList.push _) (Nat.ne_of_lt hlt) (by rw [List.size_toArray]; omega) fun h' tk ys c' hk hS hy => ?_
  have hS' : s1.heap.objs.size ≤ (s1.heap.push (revObj l ((its.toArray.size : Int) - 1))).objs.size := by rw [Heap.size_push]; omega
  refine ⟨.ref _, upd H1 _ (.lst xs.reverse), I1.laid (fun b o e => hk b o (Nat.ne_of_lt (Heap.lt_size e)) (Heap.get?_push_of_some _ e)) hS' ?_, rfl, q _ (I1.hok.fresh hS')⟩
  refine ⟨by rw [List.length_reverse]; exact hz, ys.toList, c', Vals.of_get (by have e1 := hy.1; rw [List.length_reverse]; simp at e1 ⊢; omega) fun i x u e1 e2 => ?_, by simpa using hS⟩
  have hi : i < xs.length := by have := (List.getElem?_eq_some_iff.mp e1).1; rwa [List.length_reverse] at this
  rw [List.getElem?_reverse hi] at e1
  have e3 : its.toArray[its.toArray.size - 1 - i]? = some u := hy.2 i u (by simpa using e2)
  rw [List.size_toArray, ← lr] at e3
  obtain ⟨u', hu, ru⟩ := r.get e1
  have : its[xs.length - 1 - i]? = some u := by simpa using e3
  rw [this] at hu
  cases hu
  exact ru
end
end L2
namespace L2
open PySem PySem.Spec PyProof.Rows
section
variable {P : Program} {w : World} {A : Around} {E : Value → Shared → Prop} {s : Shared}
end
section
variable {P : Program} {w : World} {A : Around} {E : Value → Shared → Prop} {s : Shared} {z u o i1 i2 l1 l2 : Addr} {st1 st2 : Nat → Heap → Prop} {src1 src2 : List Value → Heap → Prop} {k1 k2 : Nat} {xs ys : List Value}
end
section
variable {X : Cx} {pins : List (Addr × Obj)} {σ : St} {H : Hp} {s : Shared} {m1 m2 : Bool} {z u o i1 i2 a b : Addr} {i : Nat} {xs ys : List V} {E : Value → Shared → Prop} {A : Around}
end
section
variable {X : Cx}
end
section
variable {X : Cx} {tg : Expr}
end
end L2
namespace L2
open PySem PySem.Spec PyProof.Rows PySem.W
theorem op_mulI {X : Cx} : OpR X (binaryOp .Mult) (rI IntMulOk fun i j => .int (i * j)) := opI fun _ _ _ _ _ _ _ hc q => mul_int q hc
theorem get_list {X : Cx} : PGet X (rIxL X.K) := by
  intro pins s σ H o i ov iv Q I ro ri h
  obtain ⟨p, xs, k, z, rfl, rfl, hq, he, q⟩ := h
  cases ro
  obtain ⟨t, rfl⟩ := ri
  obtain ⟨its, r, pl, hz⟩ := I.list hq
  obtain ⟨j, h1, h2, h3, h4, h5⟩ := atI_get he
  obtain ⟨w, ew, rw'⟩ := r.get h2
  have hl := r.length
  have hn := line63
  have fin : EP X pins σ Q w s := ⟨z, H, I, rw', q⟩
  by_cases h0 : 0 ≤ k
  · have hj : k.toNat = j := by
      rw [seqIndex_of h0 h5] at h1
      exact Option.some.inj h1
    exact wpAny_getItem_list pl.isList h0 (by omega) (by rw [hj]; simpa using ew) fin
  · have hj : (k + (its.toArray.size : Int)).toNat = j := by
      rw [seqIndex_neg (by omega) h4] at h1
      rw [List.size_toArray, ← hl]
      exact Option.some.inj h1
    exact wpAny_getItem_list_neg pl.isList (by omega) (by rw [List.size_toArray] <;> omega) (by omega) (by rw [hj]; simpa using ew) fin
inductive IsT : String → Prop
  | int : IsT "int"
  | bool : IsT "bool"
  | tuple : IsT "tuple"
  | list : IsT "list"
  | str : IsT "str"
noncomputable def isiW (K : PySem.W.Frag) (H : Hp) : V → String → Bool → Prop
  | .non, _, b => b = false
  | .int _, T, b => b = decide (T = "int")
  | .bl _, T, b => b = decide (T = "int" ∨ T = "bool")
  | .str _, T, b => b = decide (T = "str")
  | .ref a, T, b => ((∃ xs, SqT K H a xs) ∧ b = decide (T = "tuple")) ∨ ((∃ xs, SqL K H a xs) ∧ b = decide (T = "list"))
  | _, _, _ => False
theorem call_isiW {X : Cx} : CallR X (.builtin "isinstance") (fun xs H Q => ∃ x T b, xs = [x, .ty T] ∧ IsT T ∧ isiW X.K H x T b ∧ Q (.bl b) H) := by
  intro pins s σ H xs us Q I rv h
  obtain ⟨x, T, b, rfl, hT, hi, q⟩ := h
  obtain ⟨u, v, rfl, ru, rT⟩ := rv.two
  cases rT
  have fin : ∀ (tk : Nat), EP X pins σ Q (.bool b) { s with toks := tk } := fun tk => ⟨.bl b, H, I.tok tk, rfl, q⟩
  cases x with
  | int n =>
    obtain ⟨t, rfl⟩ := ru
    cases hT <;> (subst hi)
    · exact IsiPair.int_int (fin s.toks)
    · exact IsiPair.int_bool (fin _)
    · exact IsiPair.int_tuple (fin _)
    · exact IsiPair.int_list (fin _)
    · exact IsiPair.int_str (fin _)
  | bl n =>
    cases ru
    cases hT <;> (subst hi)
    · exact IsiPair.bool_int (fin s.toks)
    · exact IsiPair.bool_bool (fin s.toks)
    · exact IsiPair.bool_tuple (fin _)
    · exact IsiPair.bool_list (fin _)
    · exact IsiPair.bool_str (fin _)
  | str n =>
    obtain ⟨t, rfl⟩ := ru
    cases hT <;> (subst hi)
    · exact IsiPair.str_int (fin _)
    · exact IsiPair.str_bool (fin _)
    · exact IsiPair.str_tuple (fin _)
    · exact IsiPair.str_list (fin _)
    · exact IsiPair.str_str (fin s.toks)
  | non =>
    cases ru
    cases hT <;> (subst hi)
    · exact IsiPair.NoneType_int (fin _)
    · exact IsiPair.NoneType_bool (fin _)
    · exact IsiPair.NoneType_tuple (fin _)
    · exact IsiPair.NoneType_list (fin _)
    · exact IsiPair.NoneType_str (fin _)
  | ref a =>
    cases ru
    rcases hi with ⟨⟨xs, hq⟩, hi⟩ | ⟨⟨xs, hq⟩, hi⟩
    · obtain ⟨its, r, ⟨o, e, c, _⟩, _⟩ := I.tuple hq
      cases hT <;> (subst hi)
      · exact IsiPair.tuple_int e c (fin _)
      · exact IsiPair.tuple_bool e c (fin _)
      · exact IsiPair.tuple_tuple e c (fin s.toks)
      · exact IsiPair.tuple_list e c (fin _)
      · exact IsiPair.tuple_str e c (fin _)
    · obtain ⟨its, r, pl, _⟩ := I.list hq
      obtain ⟨o, e, c, _⟩ := pl.isList
      cases hT <;> (subst hi)
      · exact IsiPair.list_int e c (fin _)
      · exact IsiPair.list_bool e c (fin _)
      · exact IsiPair.list_tuple e c (fin _)
      · exact IsiPair.list_list e c (fin s.toks)
      · exact IsiPair.list_str e c (fin _)
  | byt _ => exact hi.elim
  | flt _ => exact hi.elim
  | ty _ => exact hi.elim
theorem bits_script {ns : List Int} (h : WData.layableAll [WData.list (ns.map WData.int)] = true) : ∀ n ∈ ns, Builtin.Int.intBits n ≤ 2 ^ 20 := by
  intro n hn
  have h0 := layableW_arg h _ (List.mem_singleton.mpr rfl)
  obtain ⟨h1, h2, h3⟩ := layableW_iff.mp h0
  simp only [WData.canLay] at h1
  simp only [WData.weight] at h3
  obtain ⟨_, _, c⟩ := items_part (d := WData.int n) (List.mem_map.mpr ⟨n, hn, rfl⟩) h1
  have h4 : (WData.int n).weight ≤ 2 ^ 20 := Nat.le_trans c h3
  simpa only [WData.weight, Builtin.Int.intBits] using h4
open Att in
theorem walk_ofB {l : PySem.W.OpenLaw} {n k : Nat} {q : Program} {loose : List Str} {XP : (Str → Option Value) → Heap → Prop} {YP : World → Heap → Prop} {d : DefRec} {K : Params → PySem.W.Frag} {CX : World → CXT} {sp : World → Sp} {x : Str}
    (hn : l.most = some n) (hn2 : n ≤ sizeLine) (hdf : d.params.defaults = []) (hr : Room k callerA)
    (hY : ∀ (w : World) (h : Heap), YP w h → (K w.params).In h)
    (F : ∀ (w : World) (mg : Str → Option Value) (fa : Addr) (h : Heap), (K w.params).In h → h.Ns mainGlobals mg → mg d.name = some (.ref fa) →
      ∃ fd : FuncData, (∀ (s : Shared) (u : Value), BindsTo s fd ⟨[u], []⟩ [(x, u)]) ∧
        ∀ base : Heap, (K w.params).In base → base.Ns mainGlobals mg → FnOk l.prog w (K w.params) mg base (CX w) k fa fd [x] (sp w))
    (hsp : ∀ (w : World) (H : Hp) (a : Addr) (ns : List Int), ns.length ≤ n → (∀ m ∈ ns, Builtin.Int.intBits m ≤ 2 ^ 20) → SqL (K w.params) H a (ns.map V.int) → sp w [.ref a] H (fun v _ => v = .bl true) fun _ _ _ => False)
    (hCX : ∀ (w : World) (H : Hp) (s : Shared) (e : Value) (s' : Shared), CX w [] H s (fun _ _ _ => False) e s' → False) :
    PySem.W.WalkO q loose XP YP l.row.toRowW d [] (fun f vs => PySem.call f vs) := by
  intro w s₀ s₁ mg mb G Y fa o pm cd doc dV kV ho hd hcd hD hmg hg args vals as hpre hlay hrd hwl hlo
  obtain rfl : dV = .none := Dflts.none hD hdf
  obtain rfl : kV = .none := Dflts.noKw hD
  obtain ⟨a, vs, ns, rfl, rfl, hobj, hints, hlen⟩ := script_of hn hpre hwl
  have KX := hY w _ Y
  obtain ⟨fd, hb, hF⟩ := F w mg fa _ KX G.T.g hmg
  refine enter_call (codeAny_mono (law_call KX G.T.g G.T.b G.T.builtins G.T.nolimit hg hobj hints (Nat.le_trans hlen hn2) hr hF hb (fun H hO hS => hsp w H a ns hlen (bits_script hlay) hS) fun H e s' => hCX w H s₁ e s') fun r s' hq => ?_)
  obtain ⟨rfl, h2, h3, h4⟩ := hq
  exact ⟨.inl ⟨.bool true, .bool true, [], rfl, fun _ => rfl, .bool true, post_true l _, fun _ => ⟨List.Pairwise.nil, fun _ hm => (nomatch hm)⟩⟩, h2, h3, h4⟩
theorem args_max_dflt (a v : Value) : argsOk "max" ⟨[a], [(Str.ofString "default", v)]⟩ := by unfold argsOk; kernel_rfl
section
variable {prog : Program} {w : World} {A : Around} {R : Result → Shared → Prop} {I : Addr} {fp wr : List Addr} {n : Nat} {P : Nat → Value → Prop} {St : Nat → Heap → Prop}
theorem max_loopD (kw : List (Str × Value)) (W : Walks prog w A.in1 I fp wr n P St) (bt : Nat → Nat → Bool) (hcmp : CmpOf prog w A.in1 .Gt P bt) (S : Addr) (hSf : S ∉ fp) :
    ∀ (k j : Nat) (s : Shared) (vb : Value) (c : Nat), n - (j + 1) = k → j + 1 ≤ n → St (j + 1) s.heap → P (argBest bt j) vb →
    s.heap.get? S = some { cls := .type "list", dict := none, data := .seq #[vb, vb] c, slots := #[] } →
    (∀ v h' tk, P (argBest bt (n - 1)) v → (∀ b o, b ∉ wr → b ≠ S → s.heap.get? b = some o → h'.get? b = some o) → R (.ok (.ret v)) { s with heap := h', toks := tk }) →
    codeAny (model prog w) A (.builtin "max.loop" ⟨[.ref I, .none, .ref S], kw⟩) R s := by
  have hSw : S ∉ wr := fun h => hSf (W.sub _ h)
  have hname : (toString "max" ++ toString ".loop" : String) = "max.loop" := by decide
  intro k
  induction k with
  | zero =>
    intro j s vb c hk hj hst hPb hS hR
    have hin : j + 1 = n := by omega
    refine codeAny_builtin F.entry_max_loop ?_
    rw [Around.under_plainId F.plain_max_loop _]
    show wpAny _ A.in1 (seqItems? (.ref S) >>= _) _ _ s
    refine wpAny_bind (wpAny_seqItems hS rfl ?_)
    show wpAny _ A.in1 (tryCatch (pyNext (.ref I)) _ >>= _) _ _ s
    refine wpAny_bind (wpAny_tryCatch (W.done s _ _ (hin ▸ hst) fun h' tk hk' => ?_))
    have hS' := hk' S _ hSw hS
    show wpAny _ A.in1 (updateSeq S (fun _ => #[]) >>= _) _ _ _
    refine wpAny_bind ?_
    refine wpAny_updateSeq hS' rfl (wpAny_bind (wpAny_letGo (wpAny_pure ?_)))
    refine hR vb _ tk (by rw [← hin]; exact hPb) fun b o hbw hbS e => (Heap.get?_update_other _ _ (Ne.symm hbS)).trans (hk' b o hbw e)
  | succ k ih =>
    intro j s vb c hk hj hst hPb hS hR
    have hlt : j + 1 < n := by omega
    refine codeAny_builtin F.entry_max_loop ?_
    rw [Around.under_plainId F.plain_max_loop _]
    show wpAny _ A.in1 (seqItems? (.ref S) >>= _) _ _ s
    refine wpAny_bind (wpAny_seqItems hS rfl ?_)
    show wpAny _ A.in1 (tryCatch (pyNext (.ref I)) _ >>= _) _ _ s
    refine wpAny_bind (wpAny_tryCatch (W.item (j + 1) s _ _ hlt hst fun v h' tk hP hst' hk' => ?_))
    have hS' := hk' S _ hSw hS
    show wpAny _ A.in1 (tryCatch (holding [v, v] (richCompare .Gt v vb >>= _)) _ >>= _) _ _ _
    refine wpAny_bind (wpAny_tryCatch (wpAny_holding (wpAny_bind (hcmp (j + 1) (argBest bt j) v vb _ _ _ hP hPb ?_))))
    refine wpAny_bind (wpAny_holding (wpAny_truthy_bool ?_))
    refine wpAny_bind (wpAny_letGo (wpAny_pure ?_))
    cases hb : bt (j + 1) (argBest bt j) with
    | true =>
      simp only [if_true]
      refine wpAny_bind ?_
      refine wpAny_updateSeq hS' rfl (wpAny_bind (wpAny_letGo ?_))
      rw [hname]
      refine wpAny_pure ⟨plainId_quiet F.plain_max_loop _, ih (j + 1) _ v _ (by omega) hlt (W.frame _ _ _ hst' fun b hbf o e => ?_) (by simp only [argBest, hb, if_true]; exact hP) (Heap.get?_update_self _ hS' rfl)
        fun v' h'' tk'' hP' hk'' => ?_⟩
      · exact (Heap.get?_update_other _ _ (fun h : S = b => hSf (by rw [h]; exact hbf))).trans e
      · exact hR v' h'' tk'' hP' fun b o hbw hbS e => hk'' b o hbw hbS ((Heap.get?_update_other _ _ (Ne.symm hbS)).trans (hk' b o hbw e))
    | false =>
      simp only [Bool.false_eq_true, if_false]
      refine wpAny_bind (wpAny_letGo ?_)
      rw [hname]
      refine wpAny_pure ⟨plainId_quiet F.plain_max_loop _, ih (j + 1) _ vb c (by omega) hlt hst' (by simp only [argBest, hb, Bool.false_eq_true, if_false]; exact hPb) hS' fun v' h'' tk'' hP' hk'' => ?_⟩
      exact hR v' h'' tk'' hP' fun b o hbw hbS e => hk'' b o hbw hbS (hk' b o hbw e)
theorem max_firstD (d : Value) (W : Walks prog w A.in1 I fp wr n P St) (bt : Nat → Nat → Bool) (hcmp : CmpOf prog w A.in1 .Gt P bt) (S : Addr) (hSf : S ∉ fp) {s : Shared} {c : Nat} (hst : St 0 s.heap)
    (hS : s.heap.get? S = some { cls := .type "list", dict := none, data := .seq #[] c, slots := #[] })
    (h0 : n = 0 → ∀ h' tk, (∀ b o, b ∉ wr → b ≠ S → s.heap.get? b = some o → h'.get? b = some o) → R (.ok (.ret d)) { s with heap := h', toks := tk })
    (hR : 0 < n → ∀ v h' tk, P (argBest bt (n - 1)) v → (∀ b o, b ∉ wr → b ≠ S → s.heap.get? b = some o → h'.get? b = some o) → R (.ok (.ret v)) { s with heap := h', toks := tk }) :
    codeAny (model prog w) A (.builtin "max.loop" ⟨[.ref I, .none, .ref S], [(Str.ofString "default", d)]⟩) R s := by
  have hSw : S ∉ wr := fun h => hSf (W.sub _ h)
  have hname : (toString "max" ++ toString ".loop" : String) = "max.loop" := by decide
  refine codeAny_builtin F.entry_max_loop ?_
  rw [Around.under_plainId F.plain_max_loop _]
  show wpAny _ A.in1 (seqItems? (.ref S) >>= _) _ _ s
  refine wpAny_bind (wpAny_seqItems hS rfl ?_)
  show wpAny _ A.in1 (tryCatch (pyNext (.ref I)) _ >>= _) _ _ s
  rcases Nat.eq_zero_or_pos n with e0 | hn
  · refine wpAny_bind (wpAny_tryCatch (W.done s _ _ (e0 ▸ hst) fun h' tk hk' => ?_))
    show wpAny _ A.in1 (rule _ >>= fun _ => ret d) _ _ _
    exact wpAny_bind (wpAny_rule (wpAny_pure (h0 e0 h' tk fun b o hb _ e => hk' b o hb e)))
  refine wpAny_bind (wpAny_tryCatch (W.item 0 s _ _ hn hst fun v h' tk hP hst' hk' => ?_))
  have hS' := hk' S _ hSw hS
  show wpAny _ A.in1 (updateSeq S (fun _ => #[v, v]) >>= _) _ _ _
  refine wpAny_bind ?_
  refine wpAny_updateSeq hS' rfl ?_
  rw [hname]
  refine wpAny_pure ⟨plainId_quiet F.plain_max_loop _, max_loopD _ W bt hcmp S hSf _ 0 _ v _ rfl hn (W.frame _ _ _ hst' fun b hbf o e => ?_) hP (Heap.get?_update_self _ hS' rfl) fun v' h'' tk'' hP' hk'' => ?_⟩
  · exact (Heap.get?_update_other _ _ (fun h : S = b => hSf (by rw [h]; exact hbf))).trans e
  · exact hR hn v' h'' tk'' hP' fun b o hbw hbS e => hk'' b o hbw hbS ((Heap.get?_update_other _ _ (Ne.symm hbS)).trans (hk' b o hbw e))
end
section
variable {prog : Program} {w : World} {A : Around} {E : Value → Shared → Prop} {s : Shared} {l : Addr} {xs : Array (Int × Tok)}
theorem max_intListD {d : Value} {Q : Value → Shared → Prop} (hh : A.handled = none) (hl : s.heap.IsList l (intItems xs))
    (h0 : xs.size = 0 → ∀ h' tk, (∀ b o, s.heap.get? b = some o → h'.get? b = some o) → Q d { s with heap := h', toks := tk })
    (h : 0 < xs.size → ∀ v h' tk, (intItems xs)[argBest (fun i j => decide (numAt xs i > numAt xs j)) (xs.size - 1)]? = some v → (∀ b o, s.heap.get? b = some o → h'.get? b = some o) → Q v { s with heap := h', toks := tk }) :
    wpAny (model prog w) A (call (.builtin "max") [.ref l] [(Str.ofString "default", d)]) Q E s := by
  have hname : (toString "max" ++ toString ".loop" : String) = "max.loop" := by decide
  refine kmk_tree PySem.F.kind_max PySem.F.plain_max PySem.F.entry_max (args_max_dflt _ _) ?_
  show wpAny _ A.in1 (Builtin.Builtins.bindParams "max" ["key", "default"] 0 ⟨[], [(Str.ofString "default", d)]⟩ >>= _) _ _ s
  refine wpAny_bind (wpAny_of_eq (show Builtin.Builtins.bindParams "max" ["key", "default"] 0 ⟨[], [(Str.ofString "default", d)]⟩ = pure [none, some d] from rfl) ?_)
  refine wpAny_bind (wpAny_pure ?_)
  refine wpAny_bind (iter_intList hl fun s₂ e st hfp hlI => ?_)
  subst e
  refine wpAny_bind (wpAny_newObj_type ?_)
  rw [hname]
  have W := Walks.list (prog := prog) (w := w) (A := A.in1) hh _ l hlI (intItems xs)
  refine wpAny_pure ⟨plainId_quiet F.plain_max_loop _, max_firstD d W _ (CmpOf.ints_gt (numAt xs) (fun _ _ => intItems_at)) _ (fun hm => Nat.lt_irrefl _ (hfp _ hm)) (W.frame _ _ _ st fun b _ o e => Heap.get?_push_of_some _ e) (Heap.get?_push_size _ rfl) (fun e0 h' tk hk => ?_) fun hp v h' tk hP hk => ?_⟩
  · exact h0 (by simpa [intItems] using e0) h' tk (old_kept fun b o hb e => hk b o hb (Nat.ne_of_lt (Heap.lt_size e)) (Heap.get?_push_of_some _ e))
  · exact h (by simpa [intItems] using hp) v h' tk (by simpa [intItems] using hP) (old_kept fun b o hb e => hk b o hb (Nat.ne_of_lt (Heap.lt_size e)) (Heap.get?_push_of_some _ e))
end
section
variable {X : Cx}
theorem pe_maxD {a e : Expr} {ta : TA} {td : TE} {p pos kp : Pos} (hc : X.calm = true) (hg : Gl X "max") (hm : X.mg "max" = none) (ha : PA X [a] ta) (hd : PE X e td) (hs : autoParam (starEach [a] X.env = [(false, eval a X.env)]) L2.aRfl._auto_1) :
    PE X (.Call (.Name "max" p) [a] [⟨some "default", e, kp⟩] pos) (fun σ H Q => ta σ H fun vs H1 => td σ H1 fun dv H2 => ∃ (l : Addr) (ns : List Int), vs = [.ref l] ∧ SqL X.K H2 l (ns.map V.int) ∧ (ns = [] → Q dv H2) ∧ ∀ m, m ∈ ns → (∀ x ∈ ns, x ≤ m) → Q (.int m) H2) := by
  intro pins s σ H Q I h
  refine wpAny_Call_Name_kw (ld_blt I hg hm (u := .builtin "max") (by rfl) ?_)
  refine PyProof.Rows.callWith_kw (thn (ha pos pins s σ H _ I h) fun us s1 ⟨vs, H1, I1, r1, q1⟩ => ?_) (he := by rw [hs]; rfl) (hplain := by rw [hs]; rfl)
  refine kws_cons (thn (hd pins s1 σ H1 _ I1 q1) fun u s2 ⟨dv, H2, I2, r2, q2⟩ => kws_nil ?_)
  obtain ⟨l, ns, rfl, hq, q0, q⟩ := q2
  obtain ⟨u', rfl, ru⟩ := r1.one
  cases ru
  obtain ⟨its, r, p, hz⟩ := I2.list hq
  have hi : IntsAre its.toArray.toList ns := intsAre_of r
  obtain ⟨xs, hx⟩ := hi.allInts.items
  have hl' : s2.heap.IsList l (intItems xs) := hx ▸ p.isList
  have e1 : ns = xs.toList.map (·.1) := by rw [← nums_intItems, ← hx]; exact (show numsOf its.toArray.toList = ns from hi.numsOf).symm
  have ls : xs.size = ns.length := by rw [e1]; simp
  have at' : ∀ i, i < xs.size → ns[i]? = some (numAt xs i) := fun i hi => by rw [e1]; simp [numAt, hi]
  obtain ⟨b1, b2⟩ := argBest_gt (numAt xs) (xs.size - 1)
  refine max_intListD (I.ok.hd hc) hl' (fun e0 h' tk hk => ?_) fun hp v h' tk hv hk => ?_
  · exact ⟨dv, H2, I2.kept hk, r2, q0 (List.eq_nil_of_length_eq_zero (by omega))⟩
  · obtain ⟨t, rfl⟩ := intItems_at hv
    refine ⟨.int _, H2, I2.kept hk, ⟨_, rfl⟩, q _ (List.mem_of_getElem? (at' _ (by omega))) fun x hx => ?_⟩
    obtain ⟨i, hi, rfl⟩ := List.mem_iff_getElem.mp hx
    have h2 := at' i (by omega)
    rw [List.getElem?_eq_getElem hi] at h2
    have h3 : ns[i] = numAt xs i := Option.some.inj h2
    rw [h3]
    exact b2 i (by omega)
end
theorem pe_maxDK {X : Cx} {K : PySem.W.Frag} {a e : Expr} {ta : TA} {td : TE} {p pos kp : Pos} (hK : X.K = K) (hc : X.calm = true) (hg : Gl X "max") (hm : X.mg "max" = none) (ha : PA X [a] ta) (hd : PE X e td) (hs : autoParam (starEach [a] X.env = [(false, eval a X.env)]) L2.aRfl._auto_1) :
    PE X (.Call (.Name "max" p) [a] [⟨some "default", e, kp⟩] pos) (fun σ H Q => ta σ H fun vs H1 => td σ H1 fun dv H2 => ∃ (l : Addr) (ns : List Int), vs = [.ref l] ∧ SqL K H2 l (ns.map V.int) ∧ (ns = [] → Q dv H2) ∧ ∀ m, m ∈ ns → (∀ x ∈ ns, x ≤ m) → Q (.int m) H2) := by subst hK; exact pe_maxD hc hg hm ha hd hs
theorem pi_tupK {X : Cx} {K : PySem.W.Frag} {tg l : Expr} {tl : TE} (hK : X.K = K) (hl : PE X l tl) : PI X tg l (iTup K tl) := by subst hK; exact pi_tup hl
end L2
namespace L2
open PySem PySem.Spec PySem.Calls PyProof.Rows PySem.W
section
variable {P : Program} {w : World} {K : PySem.W.Frag} {mg : Str → Option Value} {base : Heap} {N : List Str} {qual : Str} {scope : Scope} {f : Addr} {cd : Value} {A : Around} {outer : List Env} {s₀ : Shared} {H₀ : Hp} {E : XK} {C : Addr}
  {pins : List (Addr × Obj)} {σ : St} {H : Hp} {s : Shared}
end
end L2
namespace L2
open PySem PySem.Spec PySem.Calls PyProof.Rows PySem.W
section
variable {X : Cx} {pins : List (Addr × Obj)} {σ : St} {H H' : Hp} {s : Shared} {e : Addr}
end
section
variable {X : Cx} {k : Nat} {f C D : Addr} {fd : FuncData} {ps : List Str} {sp : Sp} {g x n c : Str} {p np pc pn cpos epos hpos apos pos : Pos} {a : Expr} {es : List Expr} {t : TA} {i j : Nat}
end
end L2
namespace L2
open PySem PySem.Spec PySem.Calls PyProof.Rows PySem.W
section
variable {prog : Program} {w : World} {A : Around} {E : Value → Shared → Prop} {h : Heap} {g : Array GenState} {d : Drawn} {t : Nat} {os : OsState} {a C : Addr} {o : Obj} {K : Frag}
open Builtin Builtin.ObjectAttr Builtin.Getset_descriptor in
end
end L2
namespace L2
open PySem PySem.Spec PySem.Calls PyProof.Rows PySem.W
section
variable {X : Cx}
end
noncomputable def Big (i : Int) : Prop := i.natAbs < 2 ^ 4000
section
variable {X : Cx}
theorem op_fdivG : OpR X (binaryOp .FloorDiv) (rI (fun _ j => j ≠ 0 ∧ Big j) fun i j => .int (i.fdiv j)) := opI fun i j _ _ _ _ _ hc q => floordiv_int hc.1 q (.inl (PyProof.noPylong_of_log2 (Nat.lt_of_lt_of_le ((Nat.log2_lt (by have := hc.1; omega)).mpr hc.2) (by decide))))
end
section
variable {P : Program} {w : World} {K : PySem.W.Frag} {mg : Str → Option Value} {base : Heap} {N : List Str} {qual : Str} {scope : Scope} {f : Addr} {cd : Value} {A : Around} {outer : List Env} {s₀ : Shared} {H₀ : Hp} {E : XK} {C : Addr}
end
end L2
namespace L2
open PySem PySem.Spec PyProof.Rows
noncomputable def Itv (K : PySem.W.Frag) (a : Addr) (n : Nat) : It :=
  ⟨fun i H => ∃ xs, SqL K H a xs ∧ xs.length = n ∧ i < n,
   fun i H x H' => H' = H ∧ ∀ xs, SqL K H a xs → xs[n - 1 - i]? = some x,
   fun i H => ∃ xs, SqL K H a xs ∧ xs.length = n ∧ i = n⟩
theorem turn_rev {P : Program} {w : World} {K : PySem.W.Frag} {tg : Expr} (a it : Addr) (n : Nat) : Turn P w K tg (Itv K a n) [it] it (fun i h => h.IsRevIter it a ((n : Int) - 1 - (i : Nat))) where
  mem := by simp
  obj := fun i h st b hb => by
    have e : b = it := by simpa using hb
    subst e
    obtain ⟨o, h1, h2, h3⟩ := st
    exact ⟨o, h1, fun v z => by rw [h3] at z; cases z⟩
  keep := fun i h h' st k => st.at (k it (by simp))
  item := by
    intro X hP hw hK hc i pins s σ H E I hf st hg
    subst hP hw hK
    obtain ⟨xs, q1, rfl, hi⟩ := hg
    obtain ⟨f0, f1, f2, f3, f4, f5⟩ := hf it (by simp)
    obtain ⟨its, r, p, hz⟩ := I.list q1
    have lr := r.length
    have hne : a ≠ it := fun z => by
      obtain ⟨o, h1, h2, _⟩ := st
      obtain ⟨o', h1', h2', _⟩ := p.isList
      rw [z] at h1'
      rw [h1] at h1'
      cases h1'
      rw [h2] at h2'
      exact absurd h2' (by decide)
    have W := Walks.listRev (prog := X.prog) (w := X.w) (A := X.A) (I.ok.hd hc) it a hne its.toArray
    refine W.item i s _ _ (by rw [List.size_toArray]; omega) ⟨by rw [List.size_toArray]; omega, by rw [List.size_toArray, ← lr]; exact st, p.isList⟩ fun v h' tk hv st' kk => ?_
    obtain ⟨_, st1, _⟩ := st'
    have hv' : its[xs.length - 1 - i]? = some v := by rw [List.size_toArray, ← lr] at hv; simpa using hv
    obtain ⟨u, e1⟩ : ∃ u, xs[xs.length - 1 - i]? = some u := ⟨_, List.getElem?_eq_getElem (by omega)⟩
    obtain ⟨v', e2, rv⟩ := r.get e1
    rw [hv'] at e2
    cases e2
    have I1 : Inv X pins σ H { s with heap := h', toks := tk } := I.turned (fun b o hb e => kk b o (by simpa using hb) e) f0 f1 f3 f4 f5
    have st2 : h'.IsRevIter it a ((xs.length : Int) - 1 - ((i + 1 : Nat) : Int)) := by rw [List.size_toArray, ← lr] at st1; exact st1
    obtain ⟨o, h1, h2, h3⟩ := id st2
    exact ⟨_, rfl, go_of (s := { s with heap := h', toks := tk }) (n := "list_reverseiterator") h1 h2 h3 (by decide) ⟨u, H, I1, rv, ⟨rfl, fun ys hy => by rw [I.list_inj hy q1]; exact e1⟩, st2, fun b hb => (hf b hb).1⟩⟩
  done := by
    intro X hP hw hK hc i pins s σ H E I hf st hg
    subst hP hw hK
    obtain ⟨xs, q1, rfl, rfl⟩ := hg
    obtain ⟨f0, f1, f2, f3, f4, f5⟩ := hf it (by simp)
    obtain ⟨its, r, p, hz⟩ := I.list q1
    have lr := r.length
    have hne : a ≠ it := fun z => by
      obtain ⟨o, h1, h2, _⟩ := st
      obtain ⟨o', h1', h2', _⟩ := p.isList
      rw [z] at h1'
      rw [h1] at h1'
      cases h1'
      rw [h2] at h2'
      exact absurd h2' (by decide)
    have W := Walks.listRev (prog := X.prog) (w := X.w) (A := X.A) (I.ok.hd hc) it a hne its.toArray
    refine W.done s _ _ ⟨Nat.le_refl _, by rw [List.size_toArray, ← lr]; exact st, p.isList⟩ fun h' tk kk => ⟨rfl, I.turned (fun b o hb e => kk b o (by simpa using hb) e) f0 f1 f3 f4 f5⟩
  self := fun _ _ _ _ _ st h => wpAny_pyIter_revIter st h
section
variable {X : Cx} {tg : Expr}
noncomputable def iRev (K : PySem.W.Frag) (ta : TA) : TI := fun σ H R => ta σ H fun vs H1 => ∃ (a : Addr) (xs : List V), vs = [.ref a] ∧ SqL K H1 a xs ∧ R (Itv K a xs.length) H1
theorem pi_rev {a : Expr} {ta : TA} {p pos : Pos} (hg : Gl X "reversed") (hm : X.mg "reversed" = none) (ha : PA X [a] ta) (hs : autoParam (starEach [a] X.env = [(false, eval a X.env)]) L2.aRfl._auto_1) :
    PI X tg (.Call (.Name "reversed" p) [a] [] pos) (iRev X.K ta) := by
  intro pins s σ H R I h
  refine Call_ (ld_blt I hg hm bt_reversed (PyProof.Rows.callWith_type1 (thn (ha pos pins s σ H _ I h) fun us s1 ⟨vs, H1, I1, r1, q1⟩ => ?_) hs rfl))
  obtain ⟨l, xs, e, hl, q⟩ := q1
  subst e
  obtain ⟨u, rfl, ru⟩ := r1.one
  cases ru
  obtain ⟨its, r, pl, hz⟩ := I1.list hl
  have lr := r.length
  refine call_reversed_list pl.isList ?_
  have g : (s1.heap.push (revObj l ((its.toArray.size : Int) - 1))).get? s1.heap.objs.size = some (revObj l ((its.toArray.size : Int) - 1)) := Heap.get?_push_size _ rfl
  have st : (s1.heap.push (revObj l ((its.toArray.size : Int) - 1))).IsRevIter s1.heap.objs.size l ((xs.length : Int) - 1 - ((0 : Nat) : Int)) := ⟨_, g, rfl, by rw [List.size_toArray, ← lr]; simp [revObj]⟩
  refine wpAny_pyIter_revIter (s := { s1 with heap := s1.heap.push (revObj l ((its.toArray.size : Int) - 1)) }) st ?_
  have I2 : Inv X pins σ H1 { s1 with heap := s1.heap.push (revObj l ((its.toArray.size : Int) - 1)) } := I1.kept (t' := s1.toks) fun b o e => Heap.get?_push_of_some _ e
  refine ⟨s1.heap.objs.size, [s1.heap.objs.size], _, _, H1, rfl, I2, turn_rev l _ xs.length, st, fun b hb => ?_, q⟩
  have e : b = s1.heap.objs.size := by simpa using hb
  subst e
  exact I1.fpOk (Nat.le_refl _) (I1.hok.fresh (Nat.le_refl _))
end
theorem for_rev {K : PySem.W.Frag} {a : Addr} {xs : List V} {g : TG} {tb : TS} {D : Ends} {σ : St} {H : Hp} (Pv : Nat → St → Hp → Prop) (h0 : Pv 0 σ H) (hl : ∀ i σ H, i ≤ xs.length → Pv i σ H → SqL K H a xs)
    (hs : ∀ i x σ H, i < xs.length → xs.reverse[i]? = some x → Pv i σ H → g x σ H fun σ2 H2 => tb { D with nx := Pv (i + 1), ct := Pv (i + 1), bk := D.nx } σ2 H2) (hd : ∀ σ H, Pv xs.length σ H → D.nx σ H) :
    ∃ W : Nat → Nat → St → Hp → Prop, (∃ m, W 0 m σ H) ∧ ∀ i n σ H, W i n σ H →
      ((Itv K a xs.length).stop i H ∧ D.nx σ H) ∨ ((Itv K a xs.length).go i H ∧ ∃ N : St → Hp → Prop, (∀ σ' H', N σ' H' → ∃ m', m' < n ∧ W (i + 1) m' σ' H') ∧ ∀ x H', (Itv K a xs.length).yld i H x H' → g x σ H' fun σ2 H2 => tb { D with nx := N, ct := N, bk := D.nx } σ2 H2) := by
  refine ⟨fun i n σ H => n = xs.length - i ∧ i ≤ xs.length ∧ Pv i σ H, ⟨_, rfl, Nat.zero_le _, h0⟩, ?_⟩
  rintro i n σ H ⟨rfl, hi, p⟩
  have q1 := hl i σ H hi p
  by_cases hlt : i < xs.length
  · refine .inr ⟨⟨xs, q1, rfl, hlt⟩, Pv (i + 1), fun σ' H' p' => ⟨xs.length - (i + 1), by omega, rfl, hlt, p'⟩, fun x H' y => ?_⟩
    obtain ⟨rfl, y1⟩ := y
    exact hs i x σ _ hlt (by rw [List.getElem?_reverse hlt]; exact y1 xs q1) p
  · have e : i = xs.length := by omega
    subst e
    exact .inl ⟨⟨xs, q1, rfl, rfl⟩, hd σ H p⟩
noncomputable def gTrip (K : PySem.W.Frag) (i j l : Nat) : TG := gTup K 3 (gCons (gName i) (gCons (gName j) (gCons (gName l) gNil)))
theorem pg_trip {X : Cx} {K : PySem.W.Frag} {i j l : Nat} {x y z : Str} {px py pz pos : Pos} {k : Nat} (hK : X.K = K) (hc : X.calm = true) (hN : X.N.Nodup) (hi : X.N[i]? = some x) (hj : X.N[j]? = some y) (hl : X.N[l]? = some z) (hx : X.env.scope.names.lookup x = some .local) (hy : X.env.scope.names.lookup y = some .local) (hz : X.env.scope.names.lookup z = some .local) :
    PG X (.Tuple [.Name x px, .Name y py, .Name z pz] k pos) (gTrip K i j l) := by
  subst hK
  exact pg_tup hc (pgs_cons (pg_name hN hi (.inl hx) (.inr hx)) (pgs_cons (pg_name hN hj (.inl hy) (.inr hy)) (pgs_cons (pg_name hN hl (.inl hz) (.inr hz)) pgs_nil)))
end L2
namespace L2
open PySem PySem.Spec PySem.Calls PyProof.Rows PySem.W
end L2
namespace L2
open PySem PySem.Spec PyProof.Rows
section
variable {X : Cx}
end
end L2
namespace L2
open PySem PySem.Spec PyProof.Rows
noncomputable def rCatG (K : PySem.W.Frag) : R2 := fun x y H Q => ∃ a b xs ys, x = .ref a ∧ y = .ref b ∧ SqT K H a xs ∧ SqT K H b ys ∧ ys ≠ [] ∧ xs.length + ys.length ≤ sizeLine ∧ ∀ (p : Addr) (H' : Hp), Same H H' → SqT K H' p (xs ++ ys) → Q (.ref p) H'
theorem op_catG {X : Cx} : OpR X (binaryOp .Add) (rCatG X.K) := by
  intro pins s σ H x y v u Q I rx ry h
  obtain ⟨a, b, xs, ys, rfl, rfl, ha, hb, hy, hz, q⟩ := h
  by_cases hx : xs = []
  · subst hx
    cases rx
    cases ry
    obtain ⟨its, r1, p1, _⟩ := I.tuple ha
    obtain ⟨its2, r2, p2, _⟩ := I.tuple hb
    have e0 : its = [] := r1.nil_iff.mpr rfl
    subst e0
    obtain ⟨⟨c1, d1, da1, sl1⟩, ho, hc, n, hd⟩ := id p1
    obtain ⟨⟨c2, d2, da2, sl2⟩, ho2, hc2, n2, hd2⟩ := id p2
    simp only at hc hd hc2 hd2
    subst hc hd hc2 hd2
    exact concat_meets ⟨_, ho, rfl⟩ ⟨_, ho2, rfl⟩ noFill_tuple_add seq_tuple_add PySem.F.slot_tuple_add PySem.F.entry_tuple_add (PySem.F.args_tuple_add_2 _ _) (tuple_addW0 a b ([] : List Value).toArray its2.toArray n n2 d1 d2 sl1 sl2 (by simp)) ⟨ho, ho2, ⟨.ref b, H, I, rfl, q b H (Same.refl H) hb⟩⟩
  · exact op_catT pins s σ H (.ref a) (.ref b) v u Q I rx ry ⟨a, b, xs, ys, rfl, rfl, ha, hb, hx, hz, fun z => absurd z hy, fun _ p hp => q p _ (same_new' hp _) (sqT_new upd_same)⟩
end L2
namespace L2
open PySem PySem.W PyProof.Rows
section
variable {r : Nat → Int} {n : Nat}
end
end L2
namespace L2
open PySem PySem.Spec PySem.W PyProof.Rows
open PySem.SeqAt
section
variable {prog : Program} {w : World} {A : Around} {E : Value → Shared → Prop} {s : Shared}
end
section
variable {prog : Program} {w : World} {A : Around} {E : Value → Shared → Prop} {s : Shared}
end
end L2
namespace L2
open PySem PySem.Spec PySem.W PyProof.Rows
open PySem.SeqAt
theorem Paired.getR {α β : Type} {R : α → β → Prop} {xs : List α} {ys : List β} (h : Paired R xs ys) : ∀ {i : Nat} {x : α}, xs[i]? = some x → ∃ y, ys[i]? = some y ∧ R x y := by
  induction h with
  | nil => intro i x e; simp at e
  | cons r t ih =>
    intro i x e
    cases i with
    | zero => simp at e; subst e; exact ⟨_, rfl, r⟩
    | succ i => obtain ⟨y, e1, e2⟩ := ih (i := i) (by simpa using e); exact ⟨y, by simpa using e1, e2⟩
section
variable {prog : Program} {w : World} {A : Around} {E : Value → Shared → Prop} {s : Shared}
end
section
variable {X : Cx}
end
end L2
namespace L2
open PySem PySem.Spec PyProof.Rows PySem.W
section
variable {X : Cx}
theorem call_set_of (hc : X.calm = true) : CallR X (.type "set") (fun xs H Q => ∃ (l : Addr) (ns : List Int), xs = [.ref l] ∧ SqL X.K H l (ns.map V.int) ∧ ns.length < 4000 ∧ ∀ (d : Addr) (S : Int → Bool), H d = none → Q (.ref d) (upd H d (.set S (ns.foldl step_dedup []).length))) := by
  intro pins s σ H xs us Q I rv h
  obtain ⟨l, ns, rfl, hl, hz, q⟩ := h
  obtain ⟨u, rfl, ru⟩ := rv.one
  cases ru
  obtain ⟨its, r, pl, _⟩ := I.list hl
  have lr := r.length
  rw [List.length_map] at lr
  have e1 : (List.range its.toArray.size).map (fun i => ns.getD i 0) = ns := by
    rw [List.size_toArray, ← lr]
    apply List.ext_getElem?
    intro i
    by_cases hi : i < ns.length
    · rw [List.getElem?_map, List.getElem?_range hi, List.getElem?_eq_getElem hi]
      show some (ns.getD i 0) = _
      rw [List.getD_eq_getElem?_getD, List.getElem?_eq_getElem hi]; rfl
    · rw [List.getElem?_eq_none_iff.mpr (by rw [List.length_map, List.length_range]; omega), List.getElem?_eq_none_iff.mpr (by omega)]
  refine call_set_list (I.ok.hd hc) pl.isList (ns := ns) (by simpa using intsAre_of r) (by rw [List.size_toArray]; show its.length + 1 < 4096; omega) fun h' tk hS hk => ?_
  have e2 : (firstMet (fun i => ns.getD i 0) its.toArray.size).length = (ns.foldl step_dedup []).length := by unfold firstMet; rw [e1]
  refine ⟨.ref _, _, I.laid (o := .set (fun k' => (firstMet (fun i => ns.getD i 0) its.toArray.size).any (· == k')) (ns.foldl step_dedup []).length) (fun b o e => hk b o (Heap.lt_size e) e) (Nat.le_refl _) ?_, rfl, q _ _ (I.hok.fresh (Nat.le_refl _))⟩
  rw [← e2]
  exact hS
theorem call_len_setI : CallR X (.builtin "len") (fun xs H Q => ∃ (d : Addr) (S : Int → Bool) (n : Nat), xs = [.ref d] ∧ H d = some (.set S n) ∧ Q (.int (n : Nat)) H) := by
  intro pins s σ H xs us Q I rv h
  obtain ⟨d, S, n, rfl, hd, q⟩ := h
  obtain ⟨u, rfl, ru⟩ := rv.one
  cases ru
  obtain ⟨o, es, ep, t, ho, hex, hdt, _, _, hb, hf, hn⟩ := I.hok d _ hd
  subst hn
  refine call_len_set ho hex hdt hf ?_ ⟨.int _, H, I.tok _, ⟨_, rfl⟩, q⟩
  have : es.size < 4096 := hb
  omega
end
theorem bt_set : bootBuiltins "set" = some (.type "set") := by decide +kernel
theorem dedup_len (ns : List Int) : (ns.foldl step_dedup []).length = ns.length ↔ ns.Nodup := by
  have key : ∀ (l acc : List Int), (l.foldl step_dedup acc).length ≤ acc.length + l.length ∧ ((l.foldl step_dedup acc).length = acc.length + l.length ↔ l.Nodup ∧ ∀ x ∈ l, x ∉ acc) := by
    intro l
    induction l with
    | nil => intro acc; exact ⟨Nat.le_refl _, by simp⟩
    | cons a t ih =>
      intro acc
      rw [List.foldl_cons]
      by_cases h : a ∈ acc
      · have e : step_dedup acc a = acc := by
          unfold step_dedup
          rw [if_pos (by simpa using h)]
        rw [e]
        obtain ⟨h1, h2⟩ := ih acc
        refine ⟨by rw [List.length_cons]; omega, ⟨fun z => by rw [List.length_cons] at z; omega, fun z => absurd h (z.2 a List.mem_cons_self)⟩⟩
      · have e : step_dedup acc a = acc ++ [a] := by
          unfold step_dedup
          rw [if_neg (by simpa using h)]
        rw [e]
        obtain ⟨h1, h2⟩ := ih (acc ++ [a])
        rw [List.length_append, List.length_singleton] at h1 h2
        refine ⟨by rw [List.length_cons]; omega, ?_⟩
        rw [List.length_cons, show acc.length + (t.length + 1) = acc.length + 1 + t.length by omega, h2, List.nodup_cons]
        constructor
        · rintro ⟨n1, n2⟩
          refine ⟨⟨fun ha => n2 a ha (by simp), n1⟩, fun x hx => ?_⟩
          rcases List.mem_cons.mp hx with rfl | hx
          · exact h
          · exact fun z => n2 x hx (List.mem_append_left _ z)
        · rintro ⟨⟨n0, n1⟩, n2⟩
          refine ⟨n1, fun x hx z => ?_⟩
          rcases List.mem_append.mp z with z | z
          · exact n2 x (List.mem_cons_of_mem _ hx) z
          · have : x = a := by simpa using z
            exact n0 (this ▸ hx)
  have := (key ns []).2
  simpa using this
end L2
namespace L2
open PySem PySem.Spec PySem.W PyProof.Rows
open PySem.SeqAt
section
variable {A : Around} {s : Shared}
end
section
variable {X : Cx}
open Classical in
open Classical in
end
end L2
namespace L2
open PySem PySem.Spec PySem.W PyProof.Rows
open PySem.SeqAt
section
variable {X : Cx}
open Classical in
end
end L2
namespace HT
open PySem PySem.Spec PyProof.Rows
section
variable {prog : Program} {w : World} {A : Around} {E : Value → Shared → Prop} {s : Shared}
end
end HT
namespace L2
open PySem PySem.Spec PySem.W PyProof.Rows
open PySem.SeqAt
section
variable {X : Cx}
end
end L2
namespace L2
open PySem
section
variable {X : Cx}
end
end L2
namespace L2
open PySem PySem.Spec PyProof.Rows
section
variable {X : Cx}
theorem lenS {α : Type} {l : List α} {n : Nat} (h : l.length = n + 1) : ∃ a t, l = a :: t ∧ t.length = n := by
  cases l with
  | nil => exact absurd h (Nat.succ_ne_zero n).symm
  | cons a t => exact ⟨a, t, rfl, Nat.succ.inj h⟩
theorem len1 {α : Type} {l : List α} (h : l.length = 1) : ∃ a, l = [a] := by
  obtain ⟨a, t, rfl, h'⟩ := lenS h
  exact ⟨a, congrArg _ (List.length_eq_zero_iff.mp h')⟩
theorem len2 {α : Type} {l : List α} (h : l.length = 2) : ∃ a b, l = [a, b] := by
  obtain ⟨a, t, rfl, h'⟩ := lenS h
  obtain ⟨b, rfl⟩ := len1 h'
  exact ⟨a, b, rfl⟩
theorem len3 {α : Type} {l : List α} (h : l.length = 3) : ∃ a b c, l = [a, b, c] := by
  obtain ⟨a, t, rfl, h'⟩ := lenS h
  obtain ⟨b, c, rfl⟩ := len2 h'
  exact ⟨a, b, c, rfl⟩
theorem len4 {α : Type} {l : List α} (h : l.length = 4) : ∃ a b c d, l = [a, b, c, d] := by
  obtain ⟨a, t, rfl, h'⟩ := lenS h
  obtain ⟨b, c, d, rfl⟩ := len3 h'
  exact ⟨a, b, c, d, rfl⟩
theorem bind1 {F : List Value → Prop} (h : ∀ a, F [a]) : ∀ us : List Value, us.length = 1 → F us := fun us hl => by
  obtain ⟨a, rfl⟩ := len1 hl
  exact h a
theorem bind2 {F : List Value → Prop} (h : ∀ a b, F [a, b]) : ∀ us : List Value, us.length = 2 → F us := fun us hl => by
  obtain ⟨a, b, rfl⟩ := len2 hl
  exact h a b
theorem bind3 {F : List Value → Prop} (h : ∀ a b c, F [a, b, c]) : ∀ us : List Value, us.length = 3 → F us := fun us hl => by
  obtain ⟨a, b, c, rfl⟩ := len3 hl
  exact h a b c
theorem bind4 {F : List Value → Prop} (h : ∀ a b c d, F [a, b, c, d]) : ∀ us : List Value, us.length = 4 → F us := fun us hl => by
  obtain ⟨a, b, c, d, rfl⟩ := len4 hl
  exact h a b c d
theorem seq_let3 {s1 s2 s3 : TS} {D : Ends} {σ : St} {H : Hp} (h : let r3 : TS := s3; let r2 : TS := tSeq s2 r3; tSeq s1 r2 D σ H) : (tSeq s1 (tSeq s2 (s3))) D σ H := h
theorem seq_let4 {s1 s2 s3 s4 : TS} {D : Ends} {σ : St} {H : Hp} (h : let r4 : TS := s4; let r3 : TS := tSeq s3 r4; let r2 : TS := tSeq s2 r3; tSeq s1 r2 D σ H) : (tSeq s1 (tSeq s2 (tSeq s3 (s4)))) D σ H := h
theorem seq_let5 {s1 s2 s3 s4 s5 : TS} {D : Ends} {σ : St} {H : Hp} (h : let r5 : TS := s5; let r4 : TS := tSeq s4 r5; let r3 : TS := tSeq s3 r4; let r2 : TS := tSeq s2 r3; tSeq s1 r2 D σ H) : (tSeq s1 (tSeq s2 (tSeq s3 (tSeq s4 (s5))))) D σ H := h
theorem seq_let7 {s1 s2 s3 s4 s5 s6 s7 : TS} {D : Ends} {σ : St} {H : Hp} (h : let r7 : TS := s7; let r6 : TS := tSeq s6 r7; let r5 : TS := tSeq s5 r6; let r4 : TS := tSeq s4 r5; let r3 : TS := tSeq s3 r4; let r2 : TS := tSeq s2 r3; tSeq s1 r2 D σ H) : (tSeq s1 (tSeq s2 (tSeq s3 (tSeq s4 (tSeq s5 (tSeq s6 (s7))))))) D σ H := h
theorem seq_let9 {s1 s2 s3 s4 s5 s6 s7 s8 s9 : TS} {D : Ends} {σ : St} {H : Hp} (h : let r9 : TS := s9; let r8 : TS := tSeq s8 r9; let r7 : TS := tSeq s7 r8; let r6 : TS := tSeq s6 r7; let r5 : TS := tSeq s5 r6; let r4 : TS := tSeq s4 r5; let r3 : TS := tSeq s3 r4; let r2 : TS := tSeq s2 r3; tSeq s1 r2 D σ H) : (tSeq s1 (tSeq s2 (tSeq s3 (tSeq s4 (tSeq s5 (tSeq s6 (tSeq s7 (tSeq s8 (s9))))))))) D σ H := h
end
end L2
namespace L2
open PySem PySem.Spec PyProof.Rows PySem.W
section
variable {prog : Program} {w : World} {A : Around} {R : Result → Shared → Prop} {I : Addr} {fp wr : List Addr} {n : Nat} {P : Nat → Value → Prop} {St : Nat → Heap → Prop}
end
section
variable {prog : Program} {w : World} {A : Around} {E : Value → Shared → Prop} {s : Shared} {l : Addr} {xs : Array (Int × Tok)}
end
section
variable {X : Cx}
end
section
variable {X : Cx}
end
end L2
namespace Nb
open PySem L2
noncomputable def top (i : Nat) : Stmt := PySem.Challenge.pw_nonebetter_k21_shut_outs_by_passing_on.main.body.getD i (.Pass ⟨0, 0, 0, 0⟩)
noncomputable abbrev sMost : Stmt := top 5
noncomputable def addOf (o : Option V) (n : Int) : Int := match o with
  | none => if 0 < n then n else 0
  | some (.int z) => z * n
  | some _ => 0
noncomputable def mostTo (d : List (Key × V)) (ns : List Int) (i : Nat) : Int := ((List.range i).map fun j => addOf (valV d (Sum.inl ((j : Nat) : Int))) (ns.getD j 0)).sum
theorem mostTo_succ (d : List (Key × V)) {ns : List Int} {i : Nat} {n : Int} (e : ns[i]? = some n) : mostTo d ns (i + 1) = mostTo d ns i + addOf (valV d (Sum.inl ((i : Nat) : Int))) n := by
  unfold mostTo
  have eg : ns.getD i 0 = n := by rw [List.getD_eq_getElem?_getD, e]; rfl
  rw [List.range_succ, List.map_append, List.sum_append, List.map_cons, List.map_nil, List.sum_cons, List.sum_nil, eg]
  omega
noncomputable def Worths (d : List (Key × V)) : Prop := ∀ k, valV d k = none ∨ valV d k = some (.int 0) ∨ valV d k = some (.int 1)
noncomputable def dOf (hs : List (Int × Int)) : List (Key × V) := dictOf2 (hs.map fun p => (p.1, V.int p.2))
theorem worths_fold (hs : List (Int × Int)) (hw : ∀ p ∈ hs, p.2 = 0 ∨ p.2 = 1) : ∀ d : List (Key × V), Worths d → Worths ((hs.map fun p => (p.1, V.int p.2)).foldl (fun d p => putK d (Sum.inl p.1) p.2) d) := by
  induction hs with
  | nil => intro d h; exact h
  | cons p r ih =>
    intro d h
    refine ih (fun q hq => hw q (List.mem_cons_of_mem _ hq)) _ fun k => ?_
    rw [valV_put]
    by_cases e : k = Sum.inl p.1
    · rw [if_pos e]
      rcases hw p (List.mem_cons_self ..) with z | z
      · exact .inr (.inl (congrArg (fun y => some (V.int y)) z))
      · exact .inr (.inr (congrArg (fun y => some (V.int y)) z))
    · rw [if_neg e]; exact h k
theorem worths_of {hs : List (Int × Int)} (hw : ∀ p ∈ hs, p.2 = 0 ∨ p.2 = 1) : Worths (dOf hs) := worths_fold hs hw [] fun _ => .inl rfl
noncomputable def HoldsAt (K : PySem.W.Frag) (H : Hp) (l : Addr) (hs : List (Int × Int)) : Prop := ∃ vs, SqL K H l vs ∧ PairsAre K H vs (hs.map fun p => (p.1, V.int p.2))
theorem PairsAre.same {K : PySem.W.Frag} {H H' : Hp} {vs : List V} {ps : List (Int × V)} (e : Same H H') (h : PairsAre K H vs ps) : PairsAre K H' vs ps := L2.PairsAre.imp (fun _ _ z => e.tup z) h
theorem PairsAre.upd {K : PySem.W.Frag} {H : Hp} {D : Addr} {ys zs : List V} {vs : List V} {ps : List (Int × V)} (hD : H D = some (.lst ys)) (h : PairsAre K H vs ps) : PairsAre K (upd H D (.lst zs)) vs ps := L2.PairsAre.imp (fun _ _ z => SqT_upd hD z) h
theorem HoldsAt.same {K : PySem.W.Frag} {H H' : Hp} {l : Addr} {hs : List (Int × Int)} (e : Same H H') (h : HoldsAt K H l hs) : HoldsAt K H' l hs := let ⟨vs, h1, h2⟩ := h; ⟨vs, e.seq h1, PairsAre.same e h2⟩
theorem pairs_app {K : PySem.W.Frag} {H : Hp} {vs ws : List V} {ps qs : List (Int × V)} (h1 : PairsAre K H vs ps) (h2 : PairsAre K H ws qs) : PairsAre K H (vs ++ ws) (ps ++ qs) := by
  unfold PairsAre at *
  induction h1 with
  | nil => exact h2
  | cons a b ih => exact .cons a ih
theorem pairs_take {K : PySem.W.Frag} {H : Hp} {vs : List V} {ps : List (Int × V)} (h : PairsAre K H vs ps) : ∀ k, PairsAre K H (vs.take k) (ps.take k) ∧ PairsAre K H (vs.drop k) (ps.drop k) := by
  unfold PairsAre at *
  induction h with
  | nil => intro k; cases k <;> exact ⟨.nil, .nil⟩
  | cons a b ih =>
    intro k
    cases k with
    | zero => exact ⟨.nil, .cons a b⟩
    | succ k => exact ⟨.cons a (ih k).1, (ih k).2⟩
theorem pairs_one {K : PySem.W.Frag} {H : Hp} {t : Addr} {x : Int} {v : V} (h : SqT K H t [.int x, v]) : PairsAre K H [.ref t] [(x, v)] := .cons ⟨t, rfl, h⟩ .nil
theorem pairs_ins {K : PySem.W.Frag} {H : Hp} {vs : List V} {ps : List (Int × V)} {t : Addr} {x : Int} {v : V} (h : PairsAre K H vs ps) (ht : SqT K H t [.int x, v]) (k : Nat) : PairsAre K H (insV vs k (.ref t)) (ps.take k ++ (x, v) :: ps.drop k) :=
  pairs_app (pairs_take h k).1 (pairs_app (pairs_one ht) (pairs_take h k).2)
noncomputable def holdD (p : Int × Int) : D := .tup [.int p.1, .int p.2]
theorem HoldsAt.hasD {K : PySem.W.Frag} {H : Hp} {l : Addr} {hs : List (Int × Int)} (h : HoldsAt K H l hs) : HasD K H (.ref l) (.lst (hs.map holdD)) := by
  obtain ⟨vs, h1, h2⟩ := h
  refine .lst h1 (by rw [h2.length, List.length_map, List.length_map]) fun i v x e1 e2 => ?_
  obtain ⟨t, p, rfl, ep, ht⟩ := h2.get e1
  rw [List.getElem?_map] at ep e2
  cases e : hs[i]? with
  | none => rw [e] at ep; cases ep
  | some q =>
    rw [e] at ep e2
    cases ep
    cases e2
    exact pairD ht (.int _) (.int _)
theorem alikeHolds {n : Nat} (hs gs : List (Int × Int)) : Alike (n + 2) (.lst (hs.map holdD)) (.lst (gs.map holdD)) := by
  refine .lst fun i x y e1 e2 => ?_
  rw [List.getElem?_map] at e1 e2
  obtain ⟨a, _, rfl⟩ := Option.map_eq_some_iff.mp e1
  obtain ⟨b, _, rfl⟩ := Option.map_eq_some_iff.mp e2
  exact alikePair (.int _ _) (.int _ _)
noncomputable def spMost (K : PySem.W.Frag) : Sp := fun vs H Q _ => ∃ (t l : Addr) (r : List Int × Int) (hs : List (Int × Int)), vs = [.ref t, .ref l] ∧ RowAt K H t r ∧ HoldsAt K H l hs ∧ hs.length ≤ 1000 ∧ (∀ p ∈ hs, p.2 = 0 ∨ p.2 = 1) ∧ ∀ H', Same H H' → Q (.int (mostTo (dOf hs) r.1 r.1.length)) H'
section
variable {P : Program} {w : World} {K : PySem.W.Frag} {mg : Str → Option Value} {base : Heap} {aT aL : Addr} {fT fL : Str → Option Value}
theorem scMost : FnScope ["row", "holds", "held", "most", "choice", "number", "worth"] ["row", "holds"] (defScope sMost) := ⟨rfl, rfl, rfl, by decide +kernel, rfl, by decide +kernel, by decide +kernel⟩
theorem okMost (F : Fn K mg "most_of" sMost) (M : Mg mg) : Cal P w K mg base 1 "most_of" ["row", "holds"] (spMost K) := by
  refine cal_of F scMost (fun _ _ _ _ _ _ => bind2 (fun _ _ => rfl)) (fun vs H Q E h => ?_) (fun f cdv A outer s H vs Q E hr h => ?_)
  · obtain ⟨t, l, r, hs, rfl, _⟩ := h
    rfl
  obtain ⟨t, l, r, hs, rfl, ⟨p, hr1, hr2⟩, ⟨vs, hl, hp⟩, hn, hw, q⟩ := h
  have hu : (A.deeper (PyProof.Rows.envOfC "most_of" (defScope sMost) s.heap.objs.size f cdv)).units + 1 < cLine := Nat.lt_of_le_of_lt (Nat.add_le_add_left (by decide) _) hr.un
  refine ⟨_, (pss_cons (ps_set (i := 2) scMost.nd rfl (Or.inl rfl) (pe_callTy (call_dict_of rfl) rfl M.dict_ bt_dict (pa_cons (pv 1) pa_nil)))
    (pss_cons (ps_set (i := 3) scMost.nd rfl (Or.inl rfl) pe_int)
    (pss_cons (ps_for PassesOwn.never rfl (pi_enum false rfl M.enumerate_ (pa_cons (pe_ix ix_tup (pv 0) pe_int (fun _ _ => rfl)) pa_nil)) (pg_pair (K := K) (i := 4) (j := 5) rfl rfl scMost.nd rfl rfl rfl rfl) (pss_cons (ps_set (i := 6) scMost.nd rfl (Or.inl rfl) (pe_dget1 hu (pv 2) (pv 4) ⟨rfl, rfl, rfl, rfl⟩))
    (pss_one (ps_if (PW.pt (pw_or (pt_cmpR op_eq (pv 6) pe_int (nomark _)) (pw_or1 (PW.pt (pw_and (pt_cmpR op_isN (pv 6) pe_non (nomark _)) (pw_and1 (pt_cmpR op_gt (pv 5) pe_int (nomark _)))))))) (pss_one (ps_aug (i := 3) scMost.nd rfl (Or.inl rfl) (pv 5) ip_add)) pss_nil))))
    (pss_one (ps_ret (pv 3)))))), ?_⟩
  refine seq_let4 ?_
  intro rT4 rT3 rT2
  have hz : (1000 : Nat) < sizeLine := by decide
  refine ⟨_, rfl, l, vs, _, rfl, hl, hp, by rw [List.length_map]; omega, fun d hd => ?_⟩
  have s1 : Same H (upd H d (.dK (dOf hs))) := same_new' hd _
  refine ⟨_, rfl, t, _, _, _, rfl, rfl, s1.tup hr1, at0, p, rfl, ⟨_, s1.tup hr2⟩, for_enum (K := K) (m := false) (a := p) (xs := r.1.map V.int) (fun i σ H1 => ∃ u v x : Option V, σ = [some (.ref t), some (.ref l), some (.ref d), some (.int (mostTo (dOf hs) r.1 i)), u, v, x] ∧ H1 d = some (.dK (dOf hs)) ∧ Same H H1) ⟨none, none, none, rfl, upd_same, s1⟩ (fun i σ H1 _ h => ?_) ?_ ?_⟩
  · obtain ⟨u, v, x, rfl, hd1, s2⟩ := h
    exact s2.tup hr2
  · rintro i x σ H1 T e1 ⟨u, v, y, rfl, hd1, s2⟩ hT
    obtain ⟨n, en, rfl⟩ := getMapI e1
    have hd2 : upd H1 T (.tup [.int ((i : Nat) : Int), .int n]) d = some (.dK (dOf hs)) := by rw [upd_ne (ne_of_none hd1 hT)]; exact hd1
    have s3 := s2.trans (same_new' hT (.tup [.int ((i : Nat) : Int), .int n]))
    have em := mostTo_succ (dOf hs) en
    refine ⟨T, _, rfl, sqT_new upd_same, rfl, _, _, rfl, _, _, rfl, rfl, ?_⟩
    refine ⟨_, rfl, d, rfl, .inl ⟨_, .inl hd2⟩, _, rfl, _, DGet.k (k := Sum.inl ((i : Nat) : Int)) hd2, ?_⟩
    rcases worths_of hw (Sum.inl ((i : Nat) : Int)) with e | e | e
    · rw [e] at em ⊢
      refine ⟨_, rfl, rfl, _, rfl, iteF ⟨_, rfl, rfl, _, rfl, iteT ⟨_, rfl, _, _, rfl, rfl, _, rfl, ite2 (fun c => ?_) (fun c => ?_)⟩⟩⟩
      · have c' : 0 < n := of_decide_eq_true c
        refine ⟨_, rfl, _, rfl, _, _, rfl, rfl, some (.int ((i : Nat) : Int)), some (.int n), some .non, ?_, hd2, s3⟩
        rw [em, show addOf none n = n from if_pos c']
        rfl
      · have c' : ¬ 0 < n := fun z => c (decide_eq_true z)
        refine ⟨some (.int ((i : Nat) : Int)), some (.int n), some .non, ?_, hd2, s3⟩
        rw [em, show addOf none n = 0 from if_neg c', Int.add_zero]
        rfl
    · rw [e] at em ⊢
      refine ⟨_, rfl, rfl, _, rfl, iteF ⟨_, rfl, rfl, _, rfl, iteF (iteF ?_)⟩⟩
      refine ⟨some (.int ((i : Nat) : Int)), some (.int n), some (.int 0), ?_, hd2, s3⟩
      rw [em, show addOf (some (.int 0)) n = 0 from Int.zero_mul n, Int.add_zero]
      rfl
    · rw [e] at em ⊢
      refine ⟨_, rfl, rfl, _, rfl, iteT (iteT ?_)⟩
      refine ⟨_, rfl, _, rfl, _, _, rfl, rfl, some (.int ((i : Nat) : Int)), some (.int n), some (.int 1), ?_, hd2, s3⟩
      rw [em, show addOf (some (.int 1)) n = n from Int.one_mul n]
      rfl
  · rintro σ H1 ⟨u, v, y, rfl, hd1, s2⟩
    rw [List.length_map]
    exact ⟨_, rfl, q H1 s2⟩
end
end Nb
namespace Nb
open PySem L2
noncomputable abbrev sLowers : Stmt := top 7
noncomputable abbrev sFirstB : Stmt := top 8
noncomputable abbrev sFirstF : Stmt := top 9
noncomputable def addF (o : Option Int) (x : Int) : Int := match o with
  | none => if 0 < x then x else 0
  | some w => w * x
noncomputable def hv (hs : List (Int × Int)) (j : Nat) : Option Int := (hs.find? fun p => p.1 == (j : Int)).map (·.2)
noncomputable def setF (f : Nat → Option Int) (c : Nat) (w : Int) : Nat → Option Int := fun j => if j = c then some w else f j
noncomputable def sumN (n : Nat) (g : Nat → Int) : Int := ((List.range n).map g).sum
theorem sumN_succ (n : Nat) (g : Nat → Int) : sumN (n + 1) g = sumN n g + g n := by
  unfold sumN
  rw [List.range_succ, List.map_append, List.sum_append, List.map_cons, List.map_nil, List.sum_cons, List.sum_nil]
  omega
theorem sumN_congr {n : Nat} {g h : Nat → Int} (e : ∀ j, j < n → g j = h j) : sumN n g = sumN n h := by
  unfold sumN
  exact congrArg List.sum (List.map_congr_left fun j hj => e j (List.mem_range.mp hj))
theorem sumN_point {n c : Nat} {g h : Nat → Int} (hc : c < n) (e : ∀ j, j ≠ c → g j = h j) : sumN n g = sumN n h + (g c - h c) := by
  induction n with
  | zero => omega
  | succ n ih =>
    rw [sumN_succ, sumN_succ]
    by_cases hn : c < n
    · rw [ih hn, e n (by omega)]; omega
    · have : c = n := by omega
      subst this
      rw [sumN_congr (g := g) (h := h) fun j hj => e j (by omega)]
      omega
theorem sum_filter (p : Nat → Bool) (g : Nat → Int) (n : Nat) : (((List.range n).filter p).map g).sum = sumN n fun k => if p k = true then g k else 0 := by
  induction n with
  | zero => rfl
  | succ n ih =>
    rw [sumN_succ, List.range_succ, List.filter_append, List.map_append, List.sum_append, ih]
    by_cases h : p n = true
    · rw [if_pos h, List.filter_cons_of_pos h]; simp
    · rw [if_neg h, List.filter_cons_of_neg h]; simp
noncomputable def roomF (n : Nat) (f : Nat → Option Int) (r : List Int × Int) : Int := sumN n (fun j => addF (f j) (r.1.getD j 0)) - r.2
theorem roomF_set {n : Nat} {f : Nat → Option Int} {r : List Int × Int} {c : Nat} {w : Int} (hc : c < n) (hf : f c = none) : roomF n (setF f c w) r = roomF n f r + (w * r.1.getD c 0 - addF none (r.1.getD c 0)) := by
  unfold roomF
  rw [sumN_point (n := n) (c := c) (g := fun j => addF (setF f c w j) (r.1.getD j 0)) (h := fun j => addF (f j) (r.1.getD j 0)) hc fun j hj => by simp only [setF, if_neg hj]]
  simp only [setF, if_true, hf]
  show _ + (w * r.1.getD c 0 - addF none (r.1.getD c 0)) - r.2 = _
  omega
structure Good (n : Nat) (hs : List (Int × Int)) : Prop where
  nd : (hs.map (·.1)).Nodup
  ok : ∀ p ∈ hs, 0 ≤ p.1 ∧ p.1 < (n : Int) ∧ (p.2 = 0 ∨ p.2 = 1)
theorem hv_cons (p : Int × Int) (t : List (Int × Int)) (j : Nat) : hv (p :: t) j = if p.1 = (j : Int) then some p.2 else hv t j := by
  unfold hv
  rw [List.find?_cons]
  by_cases h : p.1 = (j : Int)
  · rw [if_pos h, show (p.1 == (j : Int)) = true from beq_iff_eq.mpr h]; rfl
  · rw [if_neg h, show (p.1 == (j : Int)) = false from beq_eq_false_iff_ne.mpr h]
theorem hv_none {hs : List (Int × Int)} {j : Nat} : hv hs j = none ↔ (j : Int) ∉ hs.map (·.1) := by
  induction hs with
  | nil => simp [hv]
  | cons p t ih =>
    rw [hv_cons]
    by_cases h : p.1 = (j : Int)
    · rw [if_pos h]; simp [h]
    · rw [if_neg h, ih]
      simp only [List.map_cons, List.mem_cons, not_or]
      exact ⟨fun z => ⟨fun e => h e.symm, z⟩, fun z => z.2⟩
theorem hv_app (hs : List (Int × Int)) (c : Nat) (w : Int) (h : hv hs c = none) : hv (hs ++ [((c : Int), w)]) = setF (hv hs) c w := by
  funext j
  induction hs with
  | nil =>
    show hv [((c : Int), w)] j = _
    rw [hv_cons]
    unfold setF
    by_cases e : j = c
    · rw [if_pos e, if_pos (by rw [e])]
    · rw [if_neg e, if_neg (by show ¬ (c : Int) = (j : Int); omega)]
  | cons p t ih =>
    rw [hv_cons] at h
    rw [List.cons_append, hv_cons]
    by_cases hp : p.1 = (c : Int)
    · rw [if_pos hp] at h; cases h
    rw [if_neg hp] at h
    unfold setF at ih ⊢
    rw [ih h, hv_cons]
    by_cases e : j = c
    · rw [if_pos e, if_pos e, if_neg (by rw [e]; exact hp)]
    · rw [if_neg e, if_neg e]
theorem Good.app {n : Nat} {hs : List (Int × Int)} (h : Good n hs) {c : Nat} {w : Int} (hc : c < n) (hf : hv hs c = none) (hw : w = 0 ∨ w = 1) : Good n (hs ++ [((c : Int), w)]) := by
  refine ⟨?_, fun p hp => ?_⟩
  · rw [List.map_append]
    refine List.nodup_append.mpr ⟨h.nd, by simp, fun a ha b hb e => ?_⟩
    have : b = (c : Int) := by simpa using hb
    exact hv_none.mp hf (by rw [← this, ← e]; exact ha)
  · rcases List.mem_append.mp hp with z | z
    · exact h.ok p z
    · rw [List.mem_singleton.mp z]; exact ⟨Int.natCast_nonneg c, by show (c : Int) < n; omega, hw⟩
noncomputable def roomL (r : List Int × Int) (hs : List (Int × Int)) : Int :=
  (hs.map fun p => r.1.getD p.1.toNat 0 * p.2).sum + (((List.range r.1.length).filter fun (k : Nat) => !decide ((k : Int) ∈ hs.map (·.1))).map fun (k : Nat) => addF none (r.1.getD k 0)).sum - r.2
theorem roomL_eq {r : List Int × Int} : ∀ {hs : List (Int × Int)}, Good r.1.length hs → roomL r hs = roomF r.1.length (hv hs) r := by
  intro hs
  induction hs with
  | nil =>
    intro _
    unfold roomL roomF
    rw [sum_filter]
    show 0 + _ - r.2 = _
    rw [sumN_congr (h := fun j => addF (hv [] j) (r.1.getD j 0)) fun j _ => by simp [hv]]
    omega
  | cons p t ih =>
    intro h
    have hnd := List.nodup_cons.mp (show (p.1 :: t.map (·.1)).Nodup from h.nd)
    have ht : Good r.1.length t := ⟨hnd.2, fun q hq => h.ok q (List.mem_cons_of_mem _ hq)⟩
    obtain ⟨h1, h2, h3⟩ := h.ok p List.mem_cons_self
    have hc : p.1.toNat < r.1.length := by omega
    have ep : ((p.1.toNat : Nat) : Int) = p.1 := by omega
    have hn : hv t p.1.toNat = none := hv_none.mpr (by rw [ep]; exact hnd.1)
    have e1 : hv (p :: t) = setF (hv t) p.1.toNat p.2 := by
      funext j
      rw [hv_cons]
      unfold setF
      by_cases e : j = p.1.toNat
      · rw [if_pos e, if_pos (by omega)]
      · rw [if_neg e, if_neg (by omega)]
    rw [e1, roomF_set hc hn, ← ih ht]
    unfold roomL
    rw [sum_filter, sum_filter]
    have e2 := sumN_point (n := r.1.length) (c := p.1.toNat) (g := fun k => if (!decide ((k : Int) ∈ (p :: t).map (·.1))) = true then addF none (r.1.getD k 0) else 0) (h := fun k => if (!decide ((k : Int) ∈ t.map (·.1))) = true then addF none (r.1.getD k 0) else 0) hc (fun j hj => by
      have h9 : ¬ (j : Int) = p.1 := by omega
      have h8 : decide ((j : Int) ∈ (p :: t).map (·.1)) = decide ((j : Int) ∈ t.map (·.1)) := by
        apply decide_eq_decide.mpr
        rw [List.map_cons, List.mem_cons]
        exact ⟨fun z => z.resolve_left h9, .inr⟩
      show (if (!decide ((j : Int) ∈ (p :: t).map (·.1))) = true then _ else _) = _
      rw [h8])
    rw [e2]
    have e3 : (!decide (((p.1.toNat : Nat) : Int) ∈ (p :: t).map (·.1))) = false := by rw [ep]; simp
    have e4 : (!decide (((p.1.toNat : Nat) : Int) ∈ t.map (·.1))) = true := by rw [ep]; simpa using hnd.1
    simp only [e3, e4, if_true, Bool.false_eq_true, if_false]
    rw [List.map_cons, List.sum_cons, Int.mul_comm (r.1.getD p.1.toNat 0) p.2]
    omega
noncomputable def free (n : Nat) (f : Nat → Option Int) : Int := sumN n fun j => if f j = none then 1 else 0
theorem free_set {n : Nat} {f : Nat → Option Int} {c : Nat} {w : Int} (hc : c < n) (hf : f c = none) : free n (setF f c w) = free n f - 1 := by
  unfold free
  rw [sumN_point (n := n) (c := c) (g := fun j => if setF f c w j = none then (1 : Int) else 0) (h := fun j => if f j = none then (1 : Int) else 0) hc fun j hj => by simp only [setF, if_neg hj]]
  simp [setF, hf]
  omega
theorem free_le (n : Nat) (f : Nat → Option Int) : 0 ≤ free n f ∧ free n f ≤ n := by
  induction n with
  | zero => exact ⟨Int.le_refl 0, Int.le_refl 0⟩
  | succ n ih =>
    unfold free at ih ⊢
    rw [sumN_succ]
    have : 0 ≤ (if f n = none then (1 : Int) else 0) ∧ (if f n = none then (1 : Int) else 0) ≤ 1 := by split <;> omega
    omega
theorem free_pos {n : Nat} {f : Nat → Option Int} {c : Nat} (hc : c < n) (hf : f c = none) : 1 ≤ free n f := by
  have := free_set (w := 0) hc hf
  have := (free_le n (setF f c 0)).1
  omega
noncomputable def absI (x : Int) : Int := if x < 0 then -x else x
noncomputable def ffAt (f : Nat → Option Int) (s : Int) (ns : List Int) (c : Nat) : Option (Nat × Int) := if s < absI (ns.getD c 0) ∧ f c = none then some (c, if 0 < ns.getD c 0 then 1 else 0) else none
noncomputable def ffRow (f : Nat → Option Int) (s : Int) (ns : List Int) : Option (Nat × Int) := (List.range ns.length).findSome? (ffAt f s ns)
noncomputable abbrev Trip := Nat × Int × Nat
noncomputable def ffAll (f : Nat → Option Int) (ss : Nat → Int) (rs : List (List Int × Int)) : Option Trip := (List.range rs.length).findSome? fun k => (ffRow f (ss k) (rs.getD k ([], 0)).1).map fun p => (p.1, p.2, k)
theorem fs_some {α : Type} {n i : Nat} {g : Nat → Option α} {v : α} (hi : i < n) (h0 : ∀ k, k < i → g k = none) (h1 : g i = some v) : (List.range n).findSome? g = some v := by
  induction n with
  | zero => omega
  | succ n ih =>
    rw [List.range_succ, List.findSome?_append]
    by_cases h : i < n
    · rw [ih h]; rfl
    · have : i = n := by omega
      subst this
      have e : (List.range i).findSome? g = none := by
        rw [List.findSome?_eq_none_iff]
        intro k hk
        exact h0 k (List.mem_range.mp hk)
      rw [e]
      show List.findSome? g [i] = some v
      rw [List.findSome?_cons, h1]
theorem fs_none {α : Type} {n : Nat} {g : Nat → Option α} (h0 : ∀ k, k < n → g k = none) : (List.range n).findSome? g = none := by
  rw [List.findSome?_eq_none_iff]
  intro k hk
  exact h0 k (List.mem_range.mp hk)
theorem fs_get {α : Type} {n : Nat} {g : Nat → Option α} {v : α} (h : (List.range n).findSome? g = some v) : ∃ i, i < n ∧ g i = some v := by
  obtain ⟨i, hi, e⟩ := List.exists_of_findSome?_eq_some h
  exact ⟨i, List.mem_range.mp hi, e⟩
noncomputable def roomK (n : Nat) (rs : List (List Int × Int)) (hs : List (Int × Int)) (k : Nat) : Int := roomF n (hv hs) (rs.getD k ([], 0))
noncomputable def brk (n : Nat) (rs : List (List Int × Int)) (hs : List (Int × Int)) : Option Nat := (List.range rs.length).findSome? fun k => if roomK n rs hs k < 0 then some k else none
noncomputable def stp (n : Nat) (rs : List (List Int × Int)) (hs : List (Int × Int)) : Option Trip := ffAll (hv hs) (roomK n rs hs) rs
noncomputable def dueP (n : Nat) (rs : List (List Int × Int)) : Nat → List (Int × Int) → List Trip → List Trip × Option Nat
  | 0, _, fs => (fs, none)
  | t + 1, hs, fs => match brk n rs hs with
    | some k => (fs, some k)
    | none => match stp n rs hs with
      | none => dueP n rs t hs fs
      | some p => dueP n rs t (hs ++ [((p.1 : Int), p.2.1)]) (fs ++ [p])
theorem due_brk {n : Nat} {rs : List (List Int × Int)} {t : Nat} {hs : List (Int × Int)} {fs : List Trip} {k : Nat} (h : brk n rs hs = some k) : dueP n rs (t + 1) hs fs = (fs, some k) := by
  rw [dueP, h]
theorem due_none {n : Nat} {rs : List (List Int × Int)} {t : Nat} {hs : List (Int × Int)} {fs : List Trip} (h : brk n rs hs = none) (h2 : stp n rs hs = none) : dueP n rs (t + 1) hs fs = dueP n rs t hs fs := by
  rw [dueP, h, h2]
theorem due_stp {n : Nat} {rs : List (List Int × Int)} {t : Nat} {hs : List (Int × Int)} {fs : List Trip} {p : Trip} (h : brk n rs hs = none) (h2 : stp n rs hs = some p) : dueP n rs (t + 1) hs fs = dueP n rs t (hs ++ [((p.1 : Int), p.2.1)]) (fs ++ [p]) := by
  rw [dueP, h, h2]
theorem due_stuck {n : Nat} {rs : List (List Int × Int)} {hs : List (Int × Int)} {fs : List Trip} (h : brk n rs hs = none) (h2 : stp n rs hs = none) : ∀ t, dueP n rs t hs fs = (fs, none) := by
  intro t
  induction t with
  | zero => rfl
  | succ t ih => rw [due_none h h2, ih]
theorem ffAt_some {f : Nat → Option Int} {s : Int} {ns : List Int} {c : Nat} {p : Nat × Int} (h : ffAt f s ns c = some p) : p.1 = c ∧ f c = none ∧ (p.2 = 0 ∨ p.2 = 1) ∧ s < absI (ns.getD c 0) := by
  unfold ffAt at h
  split at h
  · rename_i hc
    cases h
    refine ⟨rfl, hc.2, ?_, hc.1⟩
    show (if 0 < ns.getD c 0 then (1 : Int) else 0) = 0 ∨ (if 0 < ns.getD c 0 then (1 : Int) else 0) = 1
    split <;> simp
  · cases h
theorem stp_some {n : Nat} {rs : List (List Int × Int)} {hs : List (Int × Int)} {p : Trip} (hr : ∀ r ∈ rs, r.1.length = n) (h : stp n rs hs = some p) : p.1 < n ∧ hv hs p.1 = none ∧ (p.2.1 = 0 ∨ p.2.1 = 1) := by
  obtain ⟨k, hk, e⟩ := fs_get h
  obtain ⟨q, e1, rfl⟩ := Option.map_eq_some_iff.mp e
  obtain ⟨c, hc, e2⟩ := fs_get e1
  obtain ⟨a, b, d, _⟩ := ffAt_some e2
  refine ⟨?_, by show hv hs q.1 = none; rw [a]; exact b, d⟩
  show q.1 < n
  rw [a]
  have : rs.getD k ([], 0) = rs[k] := by rw [List.getD_eq_getElem?_getD, List.getElem?_eq_getElem hk]; rfl
  rw [this, hr _ (List.getElem_mem hk)] at hc
  exact hc
theorem forced_iff {n : Nat} {f : Nat → Option Int} {r : List Int × Int} {c : Nat} (hc : c < n) (hf : f c = none) (h0 : 0 ≤ roomF n f r) :
    (roomF n (setF f c 1) r < 0 ↔ roomF n f r < absI (r.1.getD c 0) ∧ ¬ 0 < r.1.getD c 0) ∧ (roomF n (setF f c 0) r < 0 ↔ roomF n f r < absI (r.1.getD c 0) ∧ 0 < r.1.getD c 0) := by
  rw [roomF_set hc hf, roomF_set hc hf]
  generalize roomF n f r = s at *
  generalize r.1.getD c 0 = x
  rw [show addF none x = if 0 < x then x else 0 from rfl]
  unfold absI
  constructor
  · split <;> split <;> (constructor <;> intro h <;> omega)
  · split <;> split <;> (constructor <;> intro h <;> omega)
theorem lowered {n : Nat} {f : Nat → Option Int} {r : List Int × Int} {c : Nat} {w : Int} (hc : c < n) (hf : f c = none) (hw : w = 0 ∨ w = 1) :
    roomF n (setF f c w) r = if (0 < r.1.getD c 0 ∧ w = 0) ∨ (r.1.getD c 0 < 0 ∧ w = 1) then roomF n f r - absI (r.1.getD c 0) else roomF n f r := by
  rw [roomF_set hc hf]
  generalize roomF n f r = s
  generalize r.1.getD c 0 = x
  rw [show addF none x = if 0 < x then x else 0 from rfl]
  unfold absI
  rcases hw with e | e <;> subst e <;> (repeat' split) <;> omega
noncomputable def optV : Option Nat → V
  | none => .non
  | some k => .int ((k : Nat) : Int)
noncomputable def TripsAre (K : PySem.W.Frag) (H : Hp) : List V → List Trip → Prop := Paired fun v p => ∃ t, v = .ref t ∧ SqT K H t [.int ((p.1 : Nat) : Int), .int p.2.1, .int ((p.2.2 : Nat) : Int)]
theorem TripsAre.imp {K : PySem.W.Frag} {H H' : Hp} {vs : List V} {ps : List Trip} (f : ∀ t xs, SqT K H t xs → SqT K H' t xs) (h : TripsAre K H vs ps) : TripsAre K H' vs ps := Paired.mapP h fun _ _ ⟨t, e, z⟩ => ⟨t, e, f _ _ z⟩
theorem TripsAre.snoc {K : PySem.W.Frag} {H : Hp} {vs : List V} {ps : List Trip} {t : Addr} {p : Trip} (h : TripsAre K H vs ps) (z : SqT K H t [.int ((p.1 : Nat) : Int), .int p.2.1, .int ((p.2.2 : Nat) : Int)]) : TripsAre K H (vs ++ [.ref t]) (ps ++ [p]) := by
  unfold TripsAre at *
  induction h with
  | nil => exact .cons ⟨t, rfl, z⟩ .nil
  | cons q t ih => exact .cons q ih
theorem TripsAre.get {K : PySem.W.Frag} {H : Hp} {vs : List V} {ps : List Trip} (h : TripsAre K H vs ps) : ∀ {i : Nat} {v : V}, vs[i]? = some v → ∃ t p, v = .ref t ∧ ps[i]? = some p ∧ SqT K H t [.int ((p.1 : Nat) : Int), .int p.2.1, .int ((p.2.2 : Nat) : Int)] := by
  unfold TripsAre at h
  induction h with
  | nil => intro i v e; simp at e
  | cons q t ih =>
    intro i v e
    cases i with
    | zero => obtain ⟨a, e1, z⟩ := q; simp at e; subst e; exact ⟨a, _, e1, rfl, z⟩
    | succ i => obtain ⟨a, r, e1, e2, z⟩ := ih (i := i) (v := v) (by simpa using e); exact ⟨a, r, e1, by simpa using e2, z⟩
theorem TripsAre.length {K : PySem.W.Frag} {H : Hp} {vs : List V} {ps : List Trip} (h : TripsAre K H vs ps) : vs.length = ps.length := Paired.length h
theorem SqT_updO {K : PySem.W.Frag} {H : Hp} {D a : Addr} {o o' : HO} {xs : List V} (hD : H D = some o) (n1 : ∀ ys, o ≠ .tup ys) (n2 : ∀ p q, o ≠ .frz p q) (h : SqT K H a xs) : SqT K (upd H D o') a xs := by
  rcases h with (h | ⟨p, h⟩) | h
  · exact .inl (.inl (by rw [upd_ne (ne_of h hD (fun z => n1 _ z.symm))]; exact h))
  · exact .inl (.inr ⟨p, by rw [upd_ne (ne_of h hD (fun z => n2 _ _ z.symm))]; exact h⟩)
  · exact .inr h
theorem valV_fold (hs : List (Int × Int)) : ∀ (d : List (Key × V)), (hs.map (·.1)).Nodup → ∀ j : Nat, valV ((hs.map fun p => (p.1, V.int p.2)).foldl (fun d p => putK d (Sum.inl p.1) p.2) d) (Sum.inl (j : Int)) = match hv hs j with | some w => some (.int w) | none => valV d (Sum.inl (j : Int)) := by
  induction hs with
  | nil => intro d _ j; rfl
  | cons p t ih =>
    intro d h j
    have hnd := List.nodup_cons.mp (show (p.1 :: t.map (·.1)).Nodup from h)
    show valV ((t.map fun p => (p.1, V.int p.2)).foldl (fun d p => putK d (Sum.inl p.1) p.2) (putK d (Sum.inl p.1) (V.int p.2))) (Sum.inl (j : Int)) = _
    rw [ih _ hnd.2 j, hv_cons]
    by_cases e : p.1 = (j : Int)
    · rw [if_pos e]
      have : hv t j = none := hv_none.mpr (by rw [← e]; exact hnd.1)
      rw [this]
      show valV (putK d (Sum.inl p.1) (V.int p.2)) (Sum.inl (j : Int)) = some (.int p.2)
      rw [valV_put, if_pos (by rw [e])]
    · rw [if_neg e]
      cases hv t j with
      | some w => rfl
      | none =>
        show valV (putK d (Sum.inl p.1) (V.int p.2)) (Sum.inl (j : Int)) = valV d (Sum.inl (j : Int))
        rw [valV_put, if_neg (fun z => e (Sum.inl.inj z).symm)]
theorem valV_dOf {hs : List (Int × Int)} (h : (hs.map (·.1)).Nodup) (j : Nat) : valV (dOf hs) (Sum.inl (j : Int)) = (hv hs j).map V.int := by
  have := valV_fold hs [] h j
  unfold dOf dictOf2
  rw [this]
  cases hv hs j <;> rfl
theorem most_room {n : Nat} {hs : List (Int × Int)} {r : List Int × Int} (h : Good n hs) (hr : r.1.length = n) : mostTo (dOf hs) r.1 r.1.length - r.2 = roomF n (hv hs) r := by
  unfold roomF mostTo
  rw [hr]
  congr 1
  refine sumN_congr fun j _ => ?_
  rw [valV_dOf h.nd]
  cases hv hs j <;> rfl
noncomputable def spLowers : Sp := fun vs H Q _ => ∃ x w : Int, vs = [.int x, .int w] ∧ ∀ b : Bool, (b = true ↔ ((0 < x ∧ w = 0) ∨ (x < 0 ∧ w = 1))) → Q (.bl b) H
noncomputable def brkL (ss : List Int) : Option Nat := (List.range ss.length).findSome? fun k => if ss.getD k 0 < 0 then some k else none
noncomputable def spFirstB (K : PySem.W.Frag) : Sp := fun vs H Q _ => ∃ (l : Addr) (ss : List Int), vs = [.ref l] ∧ SqL K H l (ss.map V.int) ∧ ∀ H', Same H H' → Q (optV (brkL ss)) H'
noncomputable def spFirstF (K : PySem.W.Frag) : Sp := fun vs H Q _ => ∃ (a ls lr d : Addr) (us : List V) (rs : List (List Int × Int)) (ss ms : List Int) (dd : List (Key × V)) (f : Nat → Option Int), vs = [.ref a, .ref ls, .ref lr, .ref d] ∧ SqL K H a us ∧ RowsAre K H us rs ∧ SqL K H ls (ss.map V.int) ∧ SqL K H lr (ms.map V.int) ∧ H d = some (.dK dd) ∧
  (∀ j : Nat, (valV dd (Sum.inl (j : Int))).isSome = (f j).isSome) ∧ ss.length = rs.length ∧ ms.length = rs.length ∧ (∀ k, k < rs.length → ∀ x ∈ (rs.getD k ([], 0)).1, absI x ≤ ms.getD k 0) ∧
  (ffAll f (fun k => ss.getD k 0) rs = none → ∀ H', Same H H' → Q .non H') ∧ ∀ p, ffAll f (fun k => ss.getD k 0) rs = some p → ∀ t H', Same H H' → H t = none → SqT K H' t [.int ((p.1 : Nat) : Int), .int p.2.1, .int ((p.2.2 : Nat) : Int)] → Q (.ref t) H'
noncomputable def spPassed (K : PySem.W.Frag) : Sp := fun vs H Q _ => ∃ (a l : Addr) (us : List V) (rs : List (List Int × Int)) (hs : List (Int × Int)) (n : Nat), vs = [.ref a, .ref l] ∧ SqL K H a us ∧ RowsAre K H us rs ∧ HoldsAt K H l hs ∧ Good n hs ∧ n ≤ 1000 ∧ hs.length ≤ 1000 ∧ rs.length ≤ 1000 ∧ (∀ r ∈ rs, r.1.length = n) ∧
  ∀ t g vs H', Same H H' → H g = none → H' g = some (.lst vs) → TripsAre K H' vs (dueP n rs (n + 1) hs []).1 → SqT K H' t [.ref g, optV (dueP n rs (n + 1) hs []).2] → Q (.ref t) H'
theorem getD_ofA {α : Type} {l : List α} {i : Nat} {x d : α} (h : l[i]? = some x) : l.getD i d = x := by rw [List.getD_eq_getElem?_getD, h]; rfl
theorem ffRow_none {f : Nat → Option Int} {s m : Int} {ns : List Int} (h : ∀ x ∈ ns, absI x ≤ m) (h2 : ¬ s < m) : ffRow f s ns = none := by
  refine fs_none fun c hc => ?_
  unfold ffAt
  rw [if_neg]
  rintro ⟨h3, _⟩
  have := h (ns.getD c 0) (by rw [List.getD_eq_getElem?_getD, List.getElem?_eq_getElem hc]; exact List.getElem_mem hc)
  omega
theorem set_range {n j : Nat} {g : Nat → Int} {y : Int} (hj : j < n) : (((List.range n).map g).map V.int).set j (V.int y) = ((List.range n).map fun k => if k = j then y else g k).map V.int := by
  apply List.ext_getElem?
  intro k
  rw [List.getElem?_set]
  by_cases hk : k < n
  · by_cases e : j = k
    · subst e
      simp [hk]
    · rw [if_neg e]
      simp [hk, Ne.symm e]
  · by_cases e : j = k
    · omega
    · rw [if_neg e]
      simp [hk]
section
variable {P : Program} {w : World} {K : PySem.W.Frag} {mg : Str → Option Value} {base : Heap} {aT aL : Addr} {fT fL : Str → Option Value}
theorem scLowers : FnScope ["number", "worth"] ["number", "worth"] (defScope sLowers) := ⟨rfl, rfl, rfl, by decide +kernel, rfl, by decide +kernel, by decide +kernel⟩
theorem okLowers (F : Fn K mg "lowers" sLowers) (M : Mg mg) : Cal P w K mg base 1 "lowers" ["number", "worth"] (spLowers) := by
  refine cal_of F scLowers (fun _ _ _ _ _ _ => bind2 (fun _ _ => rfl)) (fun vs H Q E h => ?_) (fun f cdv A outer s H vs Q E hr h => ?_)
  · obtain ⟨x, w, rfl, _⟩ := h
    rfl
  obtain ⟨x, w, rfl, q⟩ := h
  refine ⟨_, (pss_one (ps_ret (pe_or (pe_and (pe_cmpR op_gt (pv 0) pe_int (nomark _)) (pe_one (pe_cmpR op_eq (pv 1) pe_int (nomark _)))) (pe_one (pe_and (pe_cmpR op_lt (pv 0) pe_int (nomark _)) (pe_one (pe_cmpR op_eq (pv 1) pe_int (nomark _)))))))), ?_⟩
  refine ⟨_, rfl, _, _, rfl, rfl, _, rfl, ite2 (fun c => ?_) (fun c => ?_)⟩
  · have c' : 0 < x := of_decide_eq_true c
    refine ⟨_, rfl, rfl, _, rfl, ite2 (fun d => ?_) (fun d => ?_)⟩
    · have d' : w = 0 := V.int.inj (of_decide_eq_true d)
      exact q _ ⟨fun _ => .inl ⟨c', d'⟩, fun _ => rfl⟩
    · have d' : ¬ w = 0 := fun z => d (decide_eq_true (congrArg V.int z))
      refine ⟨_, rfl, _, _, rfl, rfl, _, rfl, ite2 (fun e => absurd (show x < 0 from of_decide_eq_true e) (by omega)) (fun e => q _ ⟨(fun z => nomatch z), fun z => absurd z (by omega)⟩)⟩
  · have c' : ¬ 0 < x := fun z => c (decide_eq_true z)
    refine ⟨_, rfl, iteF ⟨_, rfl, _, _, rfl, rfl, _, rfl, ite2 (fun e => ?_) (fun e => ?_)⟩⟩
    · have e' : x < 0 := of_decide_eq_true e
      refine ⟨_, rfl, rfl, q _ ⟨fun z => .inr ⟨e', V.int.inj (of_decide_eq_true z)⟩, fun z => decide_eq_true (congrArg V.int (by omega))⟩⟩
    · have e' : ¬ x < 0 := fun z => e (decide_eq_true z)
      exact q _ ⟨(fun z => nomatch z), fun z => absurd z (by omega)⟩
theorem scFirstB : FnScope ["spares", "number", "spare"] ["spares"] (defScope sFirstB) := ⟨rfl, rfl, rfl, by decide +kernel, rfl, by decide +kernel, by decide +kernel⟩
theorem okFirstB (F : Fn K mg "first_broken" sFirstB) (M : Mg mg) : Cal P w K mg base 1 "first_broken" ["spares"] (spFirstB K) := by
  refine cal_of F scFirstB (fun _ _ _ _ _ _ => bind1 (fun _ => rfl)) (fun vs H Q E h => ?_) (fun f cdv A outer s H vs Q E hr h => ?_)
  · obtain ⟨l, ss, rfl, _⟩ := h
    rfl
  obtain ⟨l, ss, rfl, hl, q⟩ := h
  refine ⟨_, (pss_cons (ps_for PassesOwn.never rfl (pi_enum true rfl M.enumerate_ (pa_cons (pv 0) pa_nil)) (pg_pair (K := K) (i := 1) (j := 2) rfl rfl scFirstB.nd rfl rfl rfl rfl) (pss_one (ps_if (pt_cmpR op_lt (pv 2) pe_int (nomark _)) (pss_one (ps_ret (pv 1))) pss_nil)))
    (pss_one (ps_ret pe_non))), ?_⟩
  refine ⟨_, rfl, l, rfl, ⟨_, hl⟩, for_enum (K := K) (m := true) (a := l) (xs := ss.map V.int) (fun i σ H1 => (∃ u v : Option V, σ = [some (.ref l), u, v]) ∧ (∀ k, k < i → ¬ ss.getD k 0 < 0) ∧ Same H H1) ⟨⟨none, none, rfl⟩, fun k hk => absurd hk (Nat.not_lt_zero _), Same.refl _⟩ (fun i σ H1 _ h => ?_) ?_ ?_⟩
  · obtain ⟨⟨u, v, rfl⟩, h0, s1⟩ := h
    exact s1.seq hl
  · rintro i x σ H1 T e1 ⟨⟨u, v, rfl⟩, h0, s1⟩ hT
    obtain ⟨z, ez, rfl⟩ := getMapI e1
    have hi : i < ss.length := (List.getElem?_eq_some_iff.mp ez).1
    have eg : ss.getD i 0 = z := getD_ofA ez
    have s2 := s1.trans (same_new' hT (.tup [.int ((i : Nat) : Int), .int z]))
    refine ⟨T, _, rfl, sqT_new upd_same, rfl, _, _, rfl, _, _, rfl, rfl, ?_⟩
    refine ⟨_, rfl, _, _, rfl, rfl, _, rfl, ite2 (fun c => ⟨_, rfl, ?_⟩) (fun c => ?_)⟩
    · have c' : z < 0 := of_decide_eq_true c
      have := q _ s2
      unfold brkL at this
      rw [fs_some (v := i) hi (fun k hk => if_neg (h0 k hk)) (if_pos (by rw [eg]; exact c'))] at this
      exact this
    · have c' : ¬ z < 0 := fun y => c (decide_eq_true y)
      refine ⟨⟨_, _, rfl⟩, fun k hk => ?_, s2⟩
      by_cases hk2 : k < i
      · exact h0 k hk2
      · rw [show k = i by omega, eg]; exact c'
  · rintro σ H1 ⟨⟨u, v, rfl⟩, h0, s1⟩
    rw [List.length_map] at h0
    have := q _ s1
    unfold brkL at this
    rw [fs_none fun k hk => if_neg (h0 k hk)] at this
    exact this
theorem scFirstF : FnScope ["rows", "spares", "reaches", "held", "number", "row", "spare", "choice", "here"] ["rows", "spares", "reaches", "held"] (defScope sFirstF) := ⟨rfl, rfl, rfl, by decide +kernel, rfl, by decide +kernel, by decide +kernel⟩
theorem okFirstF (F : Fn K mg "first_forced" sFirstF) (M : Mg mg) : Cal P w K mg base 1 "first_forced" ["rows", "spares", "reaches", "held"] (spFirstF K) := by
  refine cal_of F scFirstF (fun _ _ _ _ _ _ => bind4 (fun _ _ _ _ => rfl)) (fun vs H Q E h => ?_) (fun f cdv A outer s H vs Q E hr h => ?_)
  · obtain ⟨a, ls, lr, d, us, rs, ss, ms, dd, fv, rfl, _⟩ := h
    rfl
  obtain ⟨a, ls, lr, d, us, rs, ss, ms, dd, fv, rfl, ha, hrw, hls, hlr, hd, hf, l1, l2, hre, qn, qs⟩ := h
  have hu : (A.deeper (PyProof.Rows.envOfC "first_forced" (defScope sFirstF) s.heap.objs.size f cdv)).units + 1 < cLine := Nat.lt_of_le_of_lt (Nat.add_le_add_left (by decide) _) hr.un
  refine ⟨_, (pss_cons (ps_for PassesOwn.never rfl (pi_enum true rfl M.enumerate_ (pa_cons (pv 0) pa_nil)) (pg_pair (K := K) (i := 4) (j := 5) rfl rfl scFirstF.nd rfl rfl rfl rfl) (pss_cons (ps_set (i := 6) scFirstF.nd rfl (Or.inl rfl) (pe_ix ix_list (pv 1) (pv 4) (fun _ _ => rfl)))
    (pss_one (ps_if (pt_cmpR op_gt (pe_ix ix_list (pv 2) (pv 4) (fun _ _ => rfl)) (pv 6) (nomark _)) (pss_one (ps_for PassesOwn.never rfl (pi_enum false rfl M.enumerate_ (pa_cons (pe_ix ix_tup (pv 5) pe_int (fun _ _ => rfl)) pa_nil)) (pg_pair (K := K) (i := 7) (j := 8) rfl rfl scFirstF.nd rfl rfl rfl rfl) (pss_one (ps_if (PW.pt (pw_and (pt_cmpR op_gt (pe_callB call_abs rfl M.abs bt_abs (pa_cons (pv 8) pa_nil)) (pv 6) (nomark _)) (pw_and1 (pt_cmp (pc_dnotin hu (pv 7) (pv 3)))))) (pss_one (ps_ret (pe_tup (pa_cons (pv 7) (pa_cons (pe_ifExp (pt_cmpR op_gt (pv 8) pe_int (nomark _)) pe_int pe_int) (pa_cons (pv 4) pa_nil)))))) pss_nil)))) pss_nil))))
    (pss_one (ps_ret pe_non))), ?_⟩
  have lu := hrw.length
  refine ⟨_, rfl, a, rfl, ⟨_, ha⟩, for_enum (K := K) (m := true) (a := a) (xs := us) (fun i σ H1 => (∃ u v w x y : Option V, σ = [some (.ref a), some (.ref ls), some (.ref lr), some (.ref d), u, v, w, x, y]) ∧ (∀ k, k < i → ffRow fv (ss.getD k 0) (rs.getD k ([], 0)).1 = none) ∧ Same H H1) ⟨⟨none, none, none, none, none, rfl⟩, fun k hk => absurd hk (Nat.not_lt_zero _), Same.refl _⟩ (fun i σ H1 _ h => ?_) ?_ ?_⟩
  · obtain ⟨⟨u, v, w, x, y, rfl⟩, h0, s1⟩ := h
    exact s1.seq ha
  · rintro i x σ H1 T e1 ⟨⟨u, v, w, x2, y, rfl⟩, h0, s1⟩ hT
    obtain ⟨t, r, rfl, er, p, rt1, rt2⟩ := hrw.get e1
    have hi : i < rs.length := (List.getElem?_eq_some_iff.mp er).1
    have eg : rs.getD i ([], 0) = r := getD_ofA er
    have s2 := s1.trans (same_new' hT (.tup [.int ((i : Nat) : Int), .ref t]))
    have es : ss[i]? = some (ss.getD i 0) := by rw [List.getD_eq_getElem?_getD, List.getElem?_eq_getElem (by omega)]; rfl
    have em : ms[i]? = some (ms.getD i 0) := by rw [List.getD_eq_getElem?_getD, List.getElem?_eq_getElem (by omega)]; rfl
    have hre' := hre i hi
    rw [eg] at hre'
    generalize ss.getD i 0 = s at es
    generalize ms.getD i 0 = m at em hre'
    have egs : ss.getD i 0 = s := getD_ofA es
    refine ⟨T, _, rfl, sqT_new upd_same, rfl, _, _, rfl, _, _, rfl, rfl, ?_⟩
    refine ⟨_, rfl, _, rfl, ls, _, _, _, rfl, rfl, s2.seq hls, atNat (by rw [List.getElem?_map, es]; rfl), ?_⟩
    refine ⟨_, rfl, _, rfl, lr, _, _, _, rfl, rfl, s2.seq hlr, atNat (by rw [List.getElem?_map, em]; rfl), _, rfl, _, _, rfl, rfl, _, rfl, ite2 (fun c => ?_) (fun c => ?_)⟩
    · refine ⟨_, rfl, t, _, _, _, rfl, rfl, s2.tup rt1, at0, p, rfl, ⟨_, s2.tup rt2⟩, for_enum (K := K) (m := false) (a := p) (xs := r.1.map V.int) (fun j σ H2 => (∃ x y : Option V, σ = [some (.ref a), some (.ref ls), some (.ref lr), some (.ref d), some (.int ((i : Nat) : Int)), some (.ref t), some (.int s), x, y]) ∧ (∀ k, k < j → ffAt fv s r.1 k = none) ∧ Same H H2) ⟨⟨_, _, rfl⟩, fun k hk => absurd hk (Nat.not_lt_zero _), s2⟩ (fun j σ H2 _ h => ?_) ?_ ?_⟩
      · obtain ⟨⟨x, y, rfl⟩, h1, s3⟩ := h
        exact s3.tup rt2
      · rintro j x' σ H2 T2 e2 ⟨⟨x, y, rfl⟩, h1, s3⟩ hT2
        obtain ⟨z, ez, rfl⟩ := getMapI e2
        have hj : j < r.1.length := (List.getElem?_eq_some_iff.mp ez).1
        have ez' : r.1.getD j 0 = z := getD_ofA ez
        have s4 := s3.trans (same_new' hT2 (.tup [.int ((j : Nat) : Int), .int z]))
        have nx : ∀ (σ' : St), (∃ x y : Option V, σ' = [some (.ref a), some (.ref ls), some (.ref lr), some (.ref d), some (.int ((i : Nat) : Int)), some (.ref t), some (.int s), x, y]) → ffAt fv s r.1 j = none → (∃ x y : Option V, σ' = [some (.ref a), some (.ref ls), some (.ref lr), some (.ref d), some (.int ((i : Nat) : Int)), some (.ref t), some (.int s), x, y]) ∧ (∀ k, k < j + 1 → ffAt fv s r.1 k = none) ∧ Same H (upd H2 T2 (.tup [.int ((j : Nat) : Int), .int z])) := fun σ' hσ hn => ⟨hσ, fun k hk => by
          by_cases hk2 : k < j
          · exact h1 k hk2
          · rw [show k = j by omega]; exact hn, s4⟩
        refine ⟨T2, _, rfl, sqT_new upd_same, rfl, _, _, rfl, _, _, rfl, rfl, ?_⟩
        refine ⟨_, rfl, _, rfl, _, rfl, _, _, rfl, rfl, _, rfl, ite2 (fun c1 => ?_) (fun c1 => iteF (nx _ ⟨_, _, rfl⟩ ?_))⟩
        · have c1' : s < absI z := of_decide_eq_true c1
          refine ⟨_, rfl, _, rfl, d, _, rfl, DGet.k (k := Sum.inl ((j : Nat) : Int)) (s4 _ _ hd), _, rfl, ite2 (fun c2 => ?_) (fun c2 => nx _ ⟨_, _, rfl⟩ ?_)⟩
          · have hfj : fv j = none := by
              have e3 := hf j
              cases e4 : fv j with
              | none => rfl
              | some w => rw [e4] at e3; rw [e3] at c2; exact absurd c2 (by simp)
            have hat : ffAt fv s r.1 j = some (j, if 0 < z then 1 else 0) := by unfold ffAt; rw [if_pos ⟨by rw [ez']; exact c1', hfj⟩, ez']
            have hall : ffAll fv (fun k => ss.getD k 0) rs = some (j, (if 0 < z then 1 else 0), i) := by
              refine fs_some hi (fun k hk => by rw [h0 k hk]; rfl) ?_
              show (ffRow fv (ss.getD i 0) (rs.getD i ([], 0)).1).map _ = _
              rw [eg, egs, show ffRow fv s r.1 = some (j, if 0 < z then 1 else 0) from fs_some hj h1 hat]
              rfl
            refine ⟨_, rfl, _, rfl, _, _, rfl, rfl, _, rfl, ite2 (fun c3 => ?_) (fun c3 => ?_)⟩
            · have c3' : 0 < z := of_decide_eq_true c3
              rw [if_pos c3'] at hall
              refine ⟨_, rfl, by show 3 ≤ sizeLine; decide, fun t3 ht3 => ?_⟩
              exact qs _ hall t3 _ (s4.trans (same_new' ht3 _)) (by
                cases e5 : H t3 with
                | none => rfl
                | some o => rw [s4 _ _ e5] at ht3; cases ht3) (sqT_new upd_same)
            · have c3' : ¬ 0 < z := fun y => c3 (decide_eq_true y)
              rw [if_neg c3'] at hall
              refine ⟨_, rfl, by show 3 ≤ sizeLine; decide, fun t3 ht3 => ?_⟩
              exact qs _ hall t3 _ (s4.trans (same_new' ht3 _)) (by
                cases e5 : H t3 with
                | none => rfl
                | some o => rw [s4 _ _ e5] at ht3; cases ht3) (sqT_new upd_same)
          · unfold ffAt
            rw [if_neg]
            rintro ⟨_, h9⟩
            have e3 := hf j
            rw [h9] at e3
            exact c2 (by rw [e3]; rfl)
        · have c1' : ¬ s < absI z := fun y => c1 (decide_eq_true y)
          unfold ffAt
          rw [if_neg]
          rintro ⟨h9, _⟩
          rw [ez'] at h9
          exact c1' h9
      · rintro σ H2 ⟨⟨x, y, rfl⟩, h1, s3⟩
        rw [List.length_map] at h1
        refine ⟨⟨_, _, _, _, _, rfl⟩, fun k hk => ?_, s3⟩
        by_cases hk2 : k < i
        · exact h0 k hk2
        · rw [show k = i by omega, eg, egs]; exact fs_none h1
    · have c' : ¬ s < m := fun y => c (decide_eq_true y)
      refine ⟨⟨_, _, _, _, _, rfl⟩, fun k hk => ?_, s2⟩
      by_cases hk2 : k < i
      · exact h0 k hk2
      · rw [show k = i by omega, eg, egs]; exact ffRow_none hre' c'
  · rintro σ H1 ⟨⟨u, v, w, x, y, rfl⟩, h0, s1⟩
    refine qn (fs_none fun k hk => ?_) _ s1
    rw [h0 k (by omega)]
    rfl
end
end Nb
namespace Nb
open PySem L2
noncomputable abbrev sPassed : Stmt := top 10
theorem fs_congr {α : Type} {n : Nat} {g h : Nat → Option α} (e : ∀ k, k < n → g k = h k) : (List.range n).findSome? g = (List.range n).findSome? h := by
  cases e1 : (List.range n).findSome? h with
  | none =>
    rw [List.findSome?_eq_none_iff] at e1
    exact fs_none fun k hk => by rw [e k hk]; exact e1 k (List.mem_range.mpr hk)
  | some v =>
    have : ∀ m, m ≤ n → (List.range m).findSome? g = (List.range m).findSome? h := by
      intro m
      induction m with
      | zero => intro _; rfl
      | succ m ih =>
        intro hm
        rw [List.range_succ, List.findSome?_append, List.findSome?_append, ih (by omega)]
        congr 1
        rw [List.findSome?_cons, List.findSome?_cons, e m (by omega)]
        cases h m <;> rfl
    rw [this n (Nat.le_refl n), e1]
theorem getD_range {n k : Nat} (g : Nat → Int) (hk : k < n) : ((List.range n).map g).getD k 0 = g k := by
  rw [List.getD_eq_getElem?_getD, List.getElem?_map, List.getElem?_range hk]; rfl
theorem brkL_eq (n : Nat) (rs : List (List Int × Int)) (hs : List (Int × Int)) : brkL ((List.range rs.length).map (roomK n rs hs)) = brk n rs hs := by
  unfold brkL brk
  rw [List.length_map, List.length_range]
  exact fs_congr fun k hk => by rw [getD_range _ hk]
theorem ffAll_eq (n : Nat) (rs : List (List Int × Int)) (hs : List (Int × Int)) : ffAll (hv hs) (fun k => ((List.range rs.length).map (roomK n rs hs)).getD k 0) rs = stp n rs hs := by
  unfold stp ffAll
  exact fs_congr fun k hk => by dsimp only; rw [getD_range _ hk]
theorem atN {ns : List Int} {c : Nat} (h : c < ns.length) : atI (ns.map V.int) ((c : Nat) : Int) = some (.int (ns.getD c 0)) := atNat (by rw [List.getElem?_map, List.getD_eq_getElem?_getD, List.getElem?_eq_getElem h]; rfl)
theorem at30 {x y z : V} : atI [x, y, z] 0 = some x := by rfl
theorem at31 {x y z : V} : atI [x, y, z] 1 = some y := by rfl
theorem SqT_keep {K : PySem.W.Frag} {H H' : Hp} {S a : Addr} {ys xs : List V} (hS : H S = some (.lst ys)) (kp : ∀ b o, b ≠ S → H b = some o → H' b = some o) (h : SqT K H a xs) : SqT K H' a xs := by
  rcases h with (h | ⟨p, h⟩) | h
  · exact .inl (.inl (kp _ _ (ne_of h hS (by intro z; cases z)) h))
  · exact .inl (.inr ⟨p, kp _ _ (ne_of h hS (by intro z; cases z)) h⟩)
  · exact .inr h
theorem putK_len (d : List (Key × V)) (k : Key) (v : V) : (putK d k v).length ≤ d.length + 1 := by
  unfold putK
  split
  · rw [List.length_map]; omega
  · rw [List.length_append]; simp
section
variable {P : Program} {w : World} {K : PySem.W.Frag} {mg : Str → Option Value} {base : Heap} {aT aL : Addr} {fT fL : Str → Option Value}
theorem scPassed : FnScope ["rows", "holds", "held", "spares", "reaches", "forced", "broken", "step", "choice", "worth", "number", "row"] ["rows", "holds"] (defScope sPassed) := ⟨rfl, rfl, rfl, by decide +kernel, rfl, by decide +kernel, by decide +kernel⟩
theorem okPassed (F : Fn K mg "passed" sPassed) (M : Mg mg) (c_most_of : Cal P w K mg base 1 "most_of" ["row", "holds"] (spMost K)) (c_first_broken : Cal P w K mg base 1 "first_broken" ["spares"] (spFirstB K)) (c_first_forced : Cal P w K mg base 1 "first_forced" ["rows", "spares", "reaches", "held"] (spFirstF K)) (c_lowers : Cal P w K mg base 1 "lowers" ["number", "worth"] (spLowers)) : Cal P w K mg base 2 "passed" ["rows", "holds"] (spPassed K) := by
  refine cal_of F scPassed (fun _ _ _ _ _ _ => bind2 (fun _ _ => rfl)) (fun vs H Q E h => ?_) (fun f cdv A outer s H vs Q E hr h => ?_)
  · obtain ⟨a, l, us, rs, hs, n, rfl, _⟩ := h
    rfl
  obtain ⟨a, l, us, rs, hs, n, rfl, ha, hrw, hh, hG, hn, hhl, hrl, hr1, q⟩ := h
  have hu : (A.deeper (PyProof.Rows.envOfC "passed" (defScope sPassed) s.heap.objs.size f cdv)).units + 1 < cLine := Nat.lt_of_le_of_lt (Nat.add_le_add_left (by decide) _) hr.un
  refine ⟨_, (pss_cons (ps_set (i := 2) scPassed.nd rfl (Or.inl rfl) (pe_callTy (call_dict_of rfl) rfl M.dict_ bt_dict (pa_cons (pv 1) pa_nil)))
    (pss_cons (ps_setC (i := 3) ["row", "holds"] [none, some 1] rfl scPassed.nd rfl (Or.inl rfl) (pi_list (pv 0)) (fun _ _ _ => (pg_name (i := 0) (show (["row", "holds"] : List Str).Nodup by decide +kernel) rfl (Or.inl rfl) (Or.inr rfl))) (fun _ _ _ => pf_nil) (fun _ _ _ => (pe_op op_sub (pe_fn c_most_of (hr.mono (by decide)) (pa_cons (pv 0) (pa_cons (pv 1) pa_nil))) (pe_ix (ix_tupK (K := K) rfl) (pv 0) pe_int (fun _ _ => rfl)))))
    (pss_cons (ps_setC (i := 4) ["row"] [none] rfl scPassed.nd rfl (Or.inl rfl) (pi_list (pv 0)) (fun _ _ _ => (pg_name (i := 0) (show (["row"] : List Str).Nodup by decide +kernel) rfl (Or.inl rfl) (Or.inr rfl))) (fun _ _ _ => pf_nil) (fun _ _ _ => (pe_maxDK (K := K) rfl rfl rfl M.max (pa_cons (pe_lc ["number"] [none] rfl (pi_tupK (K := K) rfl (pe_ix (ix_tupK (K := K) rfl) (pv 0) pe_int (fun _ _ => rfl))) (fun _ _ _ => (pg_name (i := 0) (show (["number"] : List Str).Nodup by decide +kernel) rfl (Or.inl rfl) (Or.inr rfl))) (fun _ _ _ => pf_nil) (fun _ _ _ => (pe_callB call_abs rfl M.abs bt_abs (pa_cons (pv 0) pa_nil)))) pa_nil) pe_int)))
    (pss_cons (ps_set (i := 5) scPassed.nd rfl (Or.inl rfl) (pe_lst pa_nil))
    (pss_one (ps_while PassesOwn.never (pt_val pe_bl) (pss_cons (ps_set (i := 6) scPassed.nd rfl (Or.inl rfl) (pe_fn c_first_broken (hr.mono (by decide)) (pa_cons (pv 3) pa_nil)))
    (pss_cons (ps_set (i := 7) scPassed.nd rfl (Or.inl rfl) pe_non)
    (pss_cons (ps_if (pt_cmpR op_isN (pv 6) pe_non (nomark _)) (pss_one (ps_set (i := 7) scPassed.nd rfl (Or.inl rfl) (pe_fn c_first_forced (hr.mono (by decide)) (pa_cons (pv 0) (pa_cons (pv 3) (pa_cons (pv 4) (pa_cons (pv 2) pa_nil))))))) pss_nil)
    (pss_cons (ps_if (pt_cmpR op_isN (pv 7) pe_non (nomark _)) (pss_one (ps_ret (pe_tup (pa_cons (pv 5) (pa_cons (pv 6) pa_nil))))) pss_nil)
    (pss_cons (ps_expr (pe_bm PySem.F.plainAttrs_list PySem.F.slot_list_append PySem.F.type_list_append mt_append (pv 5) (pa_cons (pv 7) pa_nil)))
    (pss_cons (ps_set (i := 8) scPassed.nd rfl (Or.inl rfl) (pe_ix ix_tup (pv 7) pe_int (fun _ _ => rfl)))
    (pss_cons (ps_set (i := 9) scPassed.nd rfl (Or.inl rfl) (pe_ix ix_tup (pv 7) pe_int (fun _ _ => rfl)))
    (pss_cons (ps_dput hu (pv 2) (pv 8) (pv 9) rfl)
    (pss_one (ps_for PassesOwn.never rfl (pi_enum true rfl M.enumerate_ (pa_cons (pv 0) pa_nil)) (pg_pair (K := K) (i := 10) (j := 11) rfl rfl scPassed.nd rfl rfl rfl rfl) (pss_one (ps_if (pt_val (pe_fn c_lowers (hr.mono (by decide)) (pa_cons (pe_ix ix_tup (pe_ix ix_tup (pv 11) pe_int (fun _ _ => rfl)) (pv 8) (fun _ _ => rfl)) (pa_cons (pv 9) pa_nil)))) (pss_one (ps_augS (pv 3) (pv 10) get_list (pe_callB call_abs rfl M.abs bt_abs (pa_cons (pe_ix ix_tup (pe_ix ix_tup (pv 11) pe_int (fun _ _ => rfl)) (pv 8) (fun _ _ => rfl)) pa_nil)) ip_sub set_list)) pss_nil)))))))))))))))))), ?_⟩
  refine seq_let5 ?_
  intro rT5 rT4 rT3 rT2
  have hz : (100000 : Nat) < sizeLine := by decide
  have lu := hrw.length
  have hG2 : ∀ p ∈ hs, p.2 = 0 ∨ p.2 = 1 := fun p hp => (hG.ok p hp).2.2
  obtain ⟨hvs, hl1, hpa⟩ := id hh
  have lv := hpa.length
  rw [List.length_map] at lv
  have eG : ∀ {k : Nat} {r : List Int × Int}, rs[k]? = some r → rs.getD k ([], 0) = r := fun h => getD_ofA h
  refine ⟨_, rfl, l, hvs, _, rfl, hl1, hpa, by rw [List.length_map]; omega, fun d hd => ?_⟩
  have s1 : Same H (upd H d (.dK (dictOf2 (hs.map fun p => (p.1, V.int p.2))))) := same_new' hd _
  have hd1 : upd H d (.dK (dictOf2 (hs.map fun p => (p.1, V.int p.2)))) d = some (.dK (dOf hs)) := upd_same
  have dl := dictOf2_len (hs.map fun p => (p.1, V.int p.2))
  rw [List.length_map] at dl
  generalize upd H d (.dK (dictOf2 (hs.map fun p => (p.1, V.int p.2)))) = H1 at s1 hd1 ⊢
  refine ⟨_, rfl, a, rfl, ⟨_, s1.seq ha⟩, fun S1 fS1 => ?_⟩
  refine lc_any (n := rs.length) (fun i τ ys H2 => ∃ v : Option V, τ = [v, some (.ref l)] ∧ ys = ((List.range i).map (roomK n rs hs)).map V.int ∧ H2 S1 = some (.lst ys) ∧ Same H1 H2) ?_ (fun i τ ys H2 hi h => ?_) (fun i τ ys H2 hi h => ?_) (fun τ ys H2 h => ?_) ?_ ?_
  · exact ⟨none, rfl, rfl, upd_same, same_new' fS1 _⟩
  · obtain ⟨v, rfl, rfl, hD, s2⟩ := h
    exact ⟨hD, by rw [List.length_map, List.length_map, List.length_range]; omega⟩
  · obtain ⟨v, rfl, rfl, hD, s2⟩ := h
    exact ⟨us, us[i]'(by omega), (s1.trans s2).seq ha, List.getElem?_eq_getElem (by omega)⟩
  · obtain ⟨v, rfl, rfl, hD, s2⟩ := h
    exact ⟨us, (s1.trans s2).seq ha, by omega⟩
  · rintro i τ ys H2 x H3 hi ⟨v, rfl, rfl, hD, s2⟩ ⟨rfl, e1⟩
    have s12 := s1.trans s2
    obtain ⟨t, r, rfl, er, hrt⟩ := hrw.get (e1 _ (s12.seq ha))
    obtain ⟨p, rt1, rt2⟩ := id hrt
    refine ⟨_, rfl, _, rfl, t, l, r, hs, rfl, hrt.same s12, hh.same s12, hhl, hG2, fun H4 s4 => ⟨_, rfl, t, _, _, _, rfl, rfl, (s12.trans s4).tup rt1, at1, _, _, rfl, rfl, s4 _ _ hD, _, rfl, ?_, upd_same, fun b o e => ?_⟩⟩
    · have e7 : mostTo (dOf hs) r.1 r.1.length - r.2 = roomK n rs hs i := by rw [most_room hG (hr1 r (List.mem_of_getElem? er)), roomK, eG er]
      show _ ++ [V.int (mostTo (dOf hs) r.1 r.1.length - r.2)] = _
      rw [e7, List.range_succ, List.map_append, List.map_append]
      rfl
    · rw [upd_ne (ne_of_none e fS1)]; exact s4 _ _ (s2 _ _ e)
  rintro τ ys H2 ⟨v, rfl, rfl, hS1, s2⟩
  have s12 := s1.trans s2
  have hS1H : H S1 = none := by
    cases e5 : H S1 with
    | none => rfl
    | some o => rw [s1 _ _ e5] at fS1; cases fS1
  refine ⟨_, rfl, a, rfl, ⟨_, s12.seq ha⟩, fun S2 fS2 => ?_⟩
  refine lc_any (n := rs.length) (fun i τ ys H3 => ∃ (v : Option V) (ms : List Int), τ = [v] ∧ ys = ms.map V.int ∧ ms.length = i ∧ (∀ k, k < i → ∀ x ∈ (rs.getD k ([], 0)).1, absI x ≤ ms.getD k 0) ∧ H3 S2 = some (.lst ys) ∧ Same H2 H3) ?_ (fun i τ ys H3 hi h => ?_) (fun i τ ys H3 hi h => ?_) (fun τ ys H3 h => ?_) ?_ ?_
  · exact ⟨none, [], rfl, rfl, rfl, fun k hk => absurd hk (Nat.not_lt_zero _), upd_same, same_new' fS2 _⟩
  · obtain ⟨v, ms, rfl, rfl, rfl, hm, hD, s3⟩ := h
    exact ⟨hD, by rw [List.length_map]; omega⟩
  · obtain ⟨v, ms, rfl, rfl, rfl, hm, hD, s3⟩ := h
    exact ⟨us, us[ms.length]'(by omega), (s12.trans s3).seq ha, List.getElem?_eq_getElem (by omega)⟩
  · obtain ⟨v, ms, rfl, rfl, e0, hm, hD, s3⟩ := h
    exact ⟨us, (s12.trans s3).seq ha, by omega⟩
  · rintro i τ ys H3 x H4 hi ⟨v, ms, rfl, rfl, rfl, hm, hD, s3⟩ ⟨rfl, e1⟩
    have s13 := s12.trans s3
    obtain ⟨t, r, rfl, er, p, rt1, rt2⟩ := hrw.get (e1 _ (s13.seq ha))
    have hrn : r.1.length = n := hr1 r (List.mem_of_getElem? er)
    refine ⟨_, rfl, t, _, _, _, rfl, rfl, s13.tup rt1, at0, p, rfl, ⟨_, s13.tup rt2⟩, fun D3 hD3 => ?_⟩
    refine lc_any (n := r.1.length) (fun j τ ys H5 => ∃ v : Option V, τ = [v] ∧ ys = ((r.1.map absI).take j).map V.int ∧ H5 D3 = some (.lst ys) ∧ Same H4 H5) ?_ (fun j τ ys H5 hj h => ?_) (fun j τ ys H5 hj h => ?_) (fun τ ys H5 h => ?_) ?_ ?_
    · exact ⟨none, rfl, rfl, upd_same, same_new' hD3 _⟩
    · obtain ⟨v, rfl, rfl, hE, s5⟩ := h
      exact ⟨hE, by rw [List.length_map, List.length_take]; omega⟩
    · obtain ⟨v, rfl, rfl, hE, s5⟩ := h
      exact ⟨_, .int r.1[j], (s13.trans s5).tup rt2, by rw [List.getElem?_map, List.getElem?_eq_getElem hj]; rfl⟩
    · obtain ⟨v, rfl, rfl, hE, s5⟩ := h
      exact ⟨_, (s13.trans s5).tup rt2, by rw [List.length_map]; exact Nat.le_refl _⟩
    · rintro j τ ys H5 x H6 hj ⟨v, rfl, rfl, hE, s5⟩ ⟨rfl, e2⟩
      obtain ⟨z, ez, rfl⟩ := getMapI (e2 _ ((s13.trans s5).tup rt2))
      refine ⟨_, rfl, _, rfl, hE, _, rfl, ?_, upd_same, fun b o e => ?_⟩
      · rw [takeS (show (r.1.map absI)[j]? = some (absI z) by rw [List.getElem?_map, ez]; rfl), List.map_append]; rfl
      · rw [upd_ne (ne_of_none e hD3)]; exact s5 _ _ e
    · rintro τ ys H5 ⟨v, rfl, rfl, hE, s5⟩
      rw [List.take_of_length_le (by rw [List.length_map]; exact Nat.le_refl _)] at hE
      have key : ∀ m : Int, (∀ x ∈ r.1, absI x ≤ m) → H5 S2 = some (.lst (ms.map V.int)) ∧ ∃ (v : Option V) (ms' : List Int), [some (V.ref t)] = [v] ∧ ms.map V.int ++ [V.int m] = ms'.map V.int ∧ ms'.length = ms.length + 1 ∧ (∀ k, k < ms.length + 1 → ∀ x ∈ (rs.getD k ([], 0)).1, absI x ≤ ms'.getD k 0) ∧ upd H5 S2 (.lst (ms.map V.int ++ [V.int m])) S2 = some (.lst (ms.map V.int ++ [V.int m])) ∧ Same H2 (upd H5 S2 (.lst (ms.map V.int ++ [V.int m]))) := fun m hmx => by
        refine ⟨s5 _ _ hD, _, ms ++ [m], rfl, by rw [List.map_append]; rfl, by rw [List.length_append]; rfl, fun k hk x hx => ?_, upd_same, fun b o e => ?_⟩
        · by_cases hk2 : k < ms.length
          · rw [List.getD_eq_getElem?_getD, List.getElem?_append_left hk2, ← List.getD_eq_getElem?_getD]
            exact hm k hk2 x hx
          · have ek : k = ms.length := by omega
            rw [ek, eG er] at hx
            rw [ek, List.getD_eq_getElem?_getD, List.getElem?_append_right (Nat.le_refl _)]
            simpa using hmx x hx
        · rw [upd_ne (ne_of_none e fS2)]; exact s5 _ _ (s3 _ _ e)
      refine ⟨D3, r.1.map absI, rfl, sqL_new hE, fun e0 => key 0 fun x hx => ?_, fun m hm1 hm2 => key m fun x hx => hm2 _ (List.mem_map_of_mem hx)⟩
      have : absI x ∈ r.1.map absI := List.mem_map_of_mem hx
      rw [e0] at this
      cases this
  rintro τ ys H3 ⟨v, ms, rfl, rfl, hml, hm, hS2, s3⟩
  have s13 := s12.trans s3
  have hS2H : H S2 = none := by
    cases e5 : H S2 with
    | none => rfl
    | some o => rw [s12 _ _ e5] at fS2; cases fS2
  have n12 : S1 ≠ S2 := ne_of_none hS1 fS2
  refine ⟨by show 0 ≤ sizeLine; decide, fun g fg => ?_⟩
  have hgH : H g = none := by
    cases e5 : H g with
    | none => rfl
    | some o => rw [s13 _ _ e5] at fg; cases fg
  have n1g : S1 ≠ g := ne_of_none (s3 _ _ hS1) fg
  have n2g : S2 ≠ g := ne_of_none hS2 fg
  have s4 : Same H (upd H3 g (.lst [])) := s13.trans (same_new' fg _)
  refine ⟨fun m σ H4 => ∃ (known : List (Int × Int)) (fs : List Trip) (dd : List (Key × V)) (gs : List V) (u1 u2 u3 u4 u5 u6 : Option V), σ = [some (.ref a), some (.ref l), some (.ref d), some (.ref S1), some (.ref S2), some (.ref g), u1, u2, u3, u4, u5, u6] ∧ Good n known ∧ free n (hv known) ≤ (m : Int) ∧ dueP n rs (m + 1) known fs = dueP n rs (n + 1) hs [] ∧ H4 d = some (.dK dd) ∧ (∀ j : Nat, valV dd (Sum.inl (j : Int)) = (hv known j).map V.int) ∧ dd.length + m ≤ 3000 ∧ fs.length + m ≤ 3000 ∧
      H4 S1 = some (.lst (((List.range rs.length).map (roomK n rs known)).map V.int)) ∧ H4 S2 = some (.lst (ms.map V.int)) ∧ H4 g = some (.lst gs) ∧ TripsAre K H4 gs fs ∧ Same H H4,
    ⟨n, hs, [], dOf hs, [], none, none, none, none, none, none, rfl, hG, (free_le n _).2, rfl, by rw [upd_ne (ne_of_none ((s2.trans s3) _ _ hd1) fg)]; exact (s2.trans s3) _ _ hd1, valV_dOf hG.nd, by show (dictOf2 _).length + n ≤ 3000; omega, by simp; omega,
      by rw [upd_ne n1g]; exact s3 _ _ hS1, by rw [upd_ne n2g]; exact hS2, upd_same, .nil, s4⟩, ?_⟩
  rintro m σ H4 ⟨known, fs, dd, gs, u1, u2, u3, u4, u5, u6, rfl, gk, hfr, hdue, hd4, hval, hdl, hfl, hS14, hS24, hg4, htr, s5⟩
  refine ⟨_, rfl, iteT ⟨_, fun _ _ z => z, ?_⟩⟩
  refine ⟨_, rfl, S1, _, rfl, sqL_new hS14, fun H5 s6 => ?_⟩
  have s56 := s5.trans s6
  rw [brkL_eq]
  have tr5 : TripsAre K H5 gs fs := htr.imp fun _ _ z => s6.tup z
  cases hb : brk n rs known with
  | some k =>
    rw [due_brk hb] at hdue
    refine ⟨_, rfl, rfl, _, rfl, iteF ⟨_, rfl, rfl, _, rfl, iteT ⟨_, rfl, _, rfl, by show 2 ≤ sizeLine; decide, fun t ht => ?_⟩⟩⟩
    have s7 := same_new' ht (.tup [.ref g, optV (some k)])
    refine q t g gs _ (s56.trans s7) hgH (s7 _ _ (s6 _ _ hg4)) ?_ ?_
    · rw [← hdue]; exact tr5.imp fun _ _ z => s7.tup z
    · rw [← hdue]; exact sqT_new upd_same
  | none =>
    refine ⟨_, rfl, rfl, _, rfl, iteT ⟨_, rfl, _, rfl, _, rfl, _, rfl, a, S1, S2, d, us, rs, (List.range rs.length).map (roomK n rs known), ms, dd, hv known, rfl, s56.seq ha, hrw.imp fun _ _ z => z.same s56, sqL_new (s6 _ _ hS14), sqL_new (s6 _ _ hS24), s6 _ _ hd4, fun j => by rw [hval j]; cases hv known j <;> rfl, by rw [List.length_map, List.length_range], by omega, fun k hk => hm k hk, ?_, ?_⟩⟩
    · intro hno H6 s7
      rw [ffAll_eq] at hno
      rw [due_stuck hb hno] at hdue
      have s67 := s6.trans s7
      refine ⟨_, rfl, rfl, _, rfl, iteT ⟨_, rfl, _, rfl, by show 2 ≤ sizeLine; decide, fun t ht => ?_⟩⟩
      have s8 := same_new' ht (.tup [.ref g, optV none])
      refine q t g gs _ ((s5.trans s67).trans s8) hgH (s8 _ _ (s67 _ _ hg4)) ?_ ?_
      · rw [← hdue]; exact htr.imp fun _ _ z => (s67.trans s8).tup z
      · rw [← hdue]; exact sqT_new upd_same
    · intro p hp t H6 s7 ft hT
      rw [ffAll_eq] at hp
      obtain ⟨pc, pf, pw⟩ := stp_some hr1 hp
      rw [due_stp hb hp] at hdue
      have fpos := free_pos pc pf
      obtain ⟨m', rfl⟩ : ∃ m', m = m' + 1 := ⟨m - 1, by omega⟩
      have s67 := s6.trans s7
      have s57 := s5.trans s67
      have hg6 := s67 _ _ hg4
      have gl := htr.length
      have hv' := hv_app known p.1 p.2.1 pf
      refine ⟨_, rfl, rfl, _, rfl, iteF ?_⟩
      refine ⟨_, rfl, .inl ⟨rfl, _, sqL_new hg6⟩, _, rfl, g, _, _, rfl, rfl, hg6, by omega, ?_⟩
      have hT7 : SqT K (upd H6 g (.lst (gs ++ [.ref t]))) t _ := SqT_upd hg6 hT
      refine ⟨_, rfl, t, _, _, _, rfl, rfl, hT7, at30, ?_⟩
      refine ⟨_, rfl, t, _, _, _, rfl, rfl, hT7, at31, ?_⟩
      have ndg : d ≠ g := fun z => by rw [z] at hd4; rw [hg4] at hd4; cases hd4
      have nd1 : d ≠ S1 := fun z => by rw [z] at hd4; rw [hS14] at hd4; cases hd4
      have nd2 : d ≠ S2 := fun z => by rw [z] at hd4; rw [hS24] at hd4; cases hd4
      have hd7 : upd H6 g (.lst (gs ++ [.ref t])) d = some (.dK dd) := by rw [upd_ne ndg]; exact s67 _ _ hd4
      refine ⟨_, rfl, _, rfl, _, rfl, d, _, rfl, DPut.k (k := Sum.inl ((p.1 : Nat) : Int)) hd7 (by omega), ?_⟩
      have hd8 : upd (upd H6 g (.lst (gs ++ [.ref t]))) d (.dK (putK dd (Sum.inl ((p.1 : Nat) : Int)) (.int p.2.1))) d = some (.dK (putK dd (Sum.inl ((p.1 : Nat) : Int)) (.int p.2.1))) := upd_same
      have hg8 : upd (upd H6 g (.lst (gs ++ [.ref t]))) d (.dK (putK dd (Sum.inl ((p.1 : Nat) : Int)) (.int p.2.1))) g = some (.lst (gs ++ [.ref t])) := by rw [upd_ne (Ne.symm ndg)]; exact upd_same
      have hS18 : upd (upd H6 g (.lst (gs ++ [.ref t]))) d (.dK (putK dd (Sum.inl ((p.1 : Nat) : Int)) (.int p.2.1))) S1 = some (.lst (((List.range rs.length).map (roomK n rs known)).map V.int)) := by rw [upd_ne (Ne.symm nd1), upd_ne n1g]; exact s67 _ _ hS14
      have hS28 : upd (upd H6 g (.lst (gs ++ [.ref t]))) d (.dK (putK dd (Sum.inl ((p.1 : Nat) : Int)) (.int p.2.1))) S2 = some (.lst (ms.map V.int)) := by rw [upd_ne (Ne.symm nd2), upd_ne n2g]; exact s67 _ _ hS24
      have tr8 : TripsAre K (upd (upd H6 g (.lst (gs ++ [.ref t]))) d (.dK (putK dd (Sum.inl ((p.1 : Nat) : Int)) (.int p.2.1)))) (gs ++ [.ref t]) (fs ++ [p]) := by
        have up : ∀ b xs, SqT K H6 b xs → SqT K (upd (upd H6 g (.lst (gs ++ [.ref t]))) d (.dK (putK dd (Sum.inl ((p.1 : Nat) : Int)) (.int p.2.1)))) b xs := fun b xs z => SqT_updO hd7 (fun _ w => nomatch w) (fun _ _ w => nomatch w) (SqT_upd hg6 z)
        exact TripsAre.snoc (htr.imp fun b xs z => up b xs (s67.tup z)) (up _ _ hT)
      have s8 : Same H (upd (upd H6 g (.lst (gs ++ [.ref t]))) d (.dK (putK dd (Sum.inl ((p.1 : Nat) : Int)) (.int p.2.1)))) := fun b o e => by
        rw [upd_ne (ne_of_none e hd), upd_ne (ne_of_none e hgH)]; exact s57 _ _ e
      have hval' : ∀ j : Nat, valV (putK dd (Sum.inl ((p.1 : Nat) : Int)) (.int p.2.1)) (Sum.inl (j : Int)) = (hv (known ++ [((p.1 : Int), p.2.1)]) j).map V.int := fun j => by
        rw [valV_put, hv', hval j]
        unfold setF
        by_cases e : j = p.1
        · rw [if_pos e, if_pos (by rw [e])]; rfl
        · rw [if_neg e, if_neg (fun z => e (by have := Sum.inl.inj z; omega))]
      have dl8 := putK_len dd (Sum.inl ((p.1 : Nat) : Int)) (.int p.2.1)
      generalize upd (upd H6 g (.lst (gs ++ [.ref t]))) d (.dK (putK dd (Sum.inl ((p.1 : Nat) : Int)) (.int p.2.1))) = H8 at hd8 hg8 hS18 hS28 tr8 s8 ⊢
      refine ⟨_, rfl, a, rfl, ⟨_, s8.seq ha⟩, for_enum (K := K) (m := true) (a := a) (xs := us) (fun i σ H9 => (∃ x y : Option V, σ = [some (.ref a), some (.ref l), some (.ref d), some (.ref S1), some (.ref S2), some (.ref g), some .non, some (.ref t), some (.int ((p.1 : Nat) : Int)), some (.int p.2.1), x, y]) ∧ H9 S1 = some (.lst (((List.range rs.length).map fun k => if k < i then roomK n rs (known ++ [((p.1 : Int), p.2.1)]) k else roomK n rs known k).map V.int)) ∧ ∀ b o, b ≠ S1 → H8 b = some o → H9 b = some o)
        ⟨⟨_, _, rfl⟩, by rw [hS18]; simp, fun _ _ _ z => z⟩ (fun i σ H9 _ h => ?_) ?_ ?_⟩
      · obtain ⟨⟨x, y, rfl⟩, h1, kp⟩ := h
        have sH : Same H H9 := fun b o e => kp b o (ne_of_none e hS1H) (s8 _ _ e)
        exact sH.seq ha
      · rintro i x' σ H9 T e1 ⟨⟨x, y, rfl⟩, h1, kp⟩ fT
        have sH : Same H H9 := fun b o e => kp b o (ne_of_none e hS1H) (s8 _ _ e)
        obtain ⟨t', r, rfl, er, pp, rt1, rt2⟩ := hrw.get e1
        have hi : i < rs.length := (List.getElem?_eq_some_iff.mp er).1
        have hrn : r.1.length = n := hr1 r (List.mem_of_getElem? er)
        have sT := sH.trans (same_new' fT (.tup [.int ((i : Nat) : Int), .ref t']))
        have h1T : upd H9 T (.tup [.int ((i : Nat) : Int), .ref t']) S1 = _ := (upd_ne (ne_of_none h1 fT)).trans h1
        have kpT : ∀ b o, b ≠ S1 → H8 b = some o → upd H9 T (.tup [.int ((i : Nat) : Int), .ref t']) b = some o := fun b o nb e => (upd_ne (ne_of_none (kp b o nb e) fT)).trans (kp b o nb e)
        have low := lowered (n := n) (f := hv known) (r := r) (w := p.2.1) pc pf pw
        rw [← hv'] at low
        have eA : roomK n rs (known ++ [((p.1 : Int), p.2.1)]) i = roomF n (hv (known ++ [((p.1 : Int), p.2.1)])) r := by rw [roomK, eG er]
        have eB : roomK n rs known i = roomF n (hv known) r := by rw [roomK, eG er]
        refine ⟨T, _, rfl, sqT_new upd_same, rfl, _, _, rfl, _, _, rfl, rfl, ?_⟩
        generalize upd H9 T (.tup [.int ((i : Nat) : Int), .ref t']) = HT at sT h1T kpT ⊢
        have ex : atI (r.1.map V.int) ((p.1 : Nat) : Int) = some (.int (r.1.getD p.1 0)) := atN (by rw [hrn]; exact pc)
        refine ⟨_, rfl, t', _, _, _, rfl, rfl, sT.tup rt1, at0, _, rfl, pp, _, _, _, rfl, rfl, sT.tup rt2, ex, _, rfl, r.1.getD p.1 0, p.2.1, rfl, fun b hb => ⟨_, rfl, ite2 (fun cb => ?_) (fun cb => ?_)⟩⟩
        · rw [if_pos (hb.mp cb)] at low
          refine ⟨_, rfl, _, rfl, S1, _, _, _, rfl, rfl, sqL_new h1T, atNat (by rw [List.getElem?_map, List.getElem?_map, List.getElem?_range hi]; rfl), ?_⟩
          refine ⟨_, rfl, t', _, _, _, rfl, rfl, sT.tup rt1, at0, _, rfl, pp, _, _, _, rfl, rfl, sT.tup rt2, ex, _, rfl, _, _, rfl, rfl, S1, _, _, i, rfl, rfl, h1T, ixNat (by rw [List.length_map, List.length_map, List.length_range]; exact hi), ?_⟩
          refine ⟨⟨_, _, rfl⟩, ?_, fun b' o nb e => ?_⟩
          · rw [upd_same, set_range hi]
            refine congrArg (fun z => some (HO.lst (z.map V.int))) (List.map_congr_left fun k hk => ?_)
            by_cases e : k = i
            · subst e
              try dsimp only
              rw [if_pos rfl, if_pos (Nat.lt_succ_self _), if_neg (Nat.lt_irrefl _), eA, low, eB]
              rfl
            · try dsimp only
              rw [if_neg e]
              by_cases hk2 : k < i
              · rw [if_pos hk2, if_pos (by omega)]
              · rw [if_neg hk2, if_neg (by omega)]
          · rw [upd_ne nb]; exact kpT b' o nb e
        · rw [if_neg (fun z => cb (hb.mpr z))] at low
          refine ⟨⟨_, _, rfl⟩, ?_, kpT⟩
          rw [h1T]
          refine congrArg (fun z => some (HO.lst (z.map V.int))) (List.map_congr_left fun k hk => ?_)
          by_cases e : k = i
          · subst e
            try dsimp only
            rw [if_neg (Nat.lt_irrefl _), if_pos (Nat.lt_succ_self _), eA, low, eB]
          · try dsimp only
            by_cases hk2 : k < i
            · rw [if_pos hk2, if_pos (by omega)]
            · rw [if_neg hk2, if_neg (by omega)]
      · rintro σ H9 ⟨⟨x, y, rfl⟩, h1, kp⟩
        have sH : Same H H9 := fun b o e => kp b o (ne_of_none e hS1H) (s8 _ _ e)
        refine ⟨m', Nat.lt_succ_self _, known ++ [((p.1 : Int), p.2.1)], fs ++ [p], _, gs ++ [.ref t], _, _, _, _, _, _, rfl, gk.app pc pf pw, by rw [hv', free_set pc pf]; omega, hdue, kp d _ nd1 hd8, hval', by omega, by rw [List.length_append]; simp; omega, ?_, kp S2 _ (Ne.symm n12) hS28, kp g _ (Ne.symm n1g) hg8, tr8.imp fun b xs z => SqT_keep hS18 kp z, sH⟩
        rw [h1]
        refine congrArg (fun z => some (HO.lst (z.map V.int))) (List.map_congr_left fun k hk => ?_)
        try dsimp only
        rw [if_pos (by have := List.mem_range.mp hk; omega)]
end
end Nb
namespace Nb
open PySem L2
noncomputable def Ext (f g : Nat → Option Int) : Prop := ∀ j w, f j = some w → g j = some w
noncomputable def W01 (f : Nat → Option Int) : Prop := ∀ j w, f j = some w → w = 0 ∨ w = 1
theorem Ext.refl (f : Nat → Option Int) : Ext f f := fun _ _ h => h
theorem W01.set {f : Nat → Option Int} {c : Nat} {w : Int} (h : W01 f) (hw : w = 0 ∨ w = 1) : W01 (setF f c w) := fun j v e => by
  unfold setF at e
  split at e
  · cases e; exact hw
  · exact h j v e
theorem Ext.set {f g : Nat → Option Int} {c : Nat} {w : Int} (h : Ext f g) : Ext (setF f c w) (setF g c w) := fun j v e => by
  unfold setF at e ⊢
  split at e
  · rename_i hj; rw [if_pos hj]; exact e
  · rename_i hj; rw [if_neg hj]; exact h j v e
theorem Ext.setL {f g : Nat → Option Int} {c : Nat} {w : Int} (h : Ext f g) (hc : g c = some w) : Ext (setF f c w) g := fun j v e => by
  unfold setF at e
  split at e
  · rename_i hj; cases e; rw [hj]; exact hc
  · exact h j v e
theorem addF_le {o : Option Int} {x : Int} (h : ∀ w, o = some w → w = 0 ∨ w = 1) : addF o x ≤ addF none x := by
  cases o with
  | none => exact Int.le_refl _
  | some w =>
    show w * x ≤ if 0 < x then x else 0
    rcases h w rfl with e | e
    · subst e; rw [Int.zero_mul]; split <;> omega
    · subst e; rw [Int.one_mul]; split <;> omega
theorem sumN_le {n : Nat} {g h : Nat → Int} (e : ∀ j, j < n → g j ≤ h j) : sumN n g ≤ sumN n h := by
  induction n with
  | zero => exact Int.le_refl _
  | succ n ih =>
    rw [sumN_succ, sumN_succ]
    have h1 := ih fun j hj => e j (by omega)
    have h2 := e n (by omega)
    omega
theorem room_mono {n : Nat} {f g : Nat → Option Int} {r : List Int × Int} (e : Ext f g) (hw : W01 g) : roomF n g r ≤ roomF n f r := by
  unfold roomF
  have : sumN n (fun j => addF (g j) (r.1.getD j 0)) ≤ sumN n (fun j => addF (f j) (r.1.getD j 0)) := sumN_le fun j _ => by
    show addF (g j) _ ≤ addF (f j) _
    cases hf : f j with
    | none => exact addF_le fun w h => hw j w h
    | some w => rw [e j w hf]; exact Int.le_refl _
  omega
noncomputable def Forces (n : Nat) (rs : List (List Int × Int)) (f : Nat → Option Int) (c : Nat) (w : Int) : Prop := c < n ∧ f c = none ∧ (w = 0 ∨ w = 1) ∧ ∃ r ∈ rs, roomF n (setF f c (1 - w)) r < 0
inductive Der (n : Nat) (rs : List (List Int × Int)) (f0 : Nat → Option Int) : (Nat → Option Int) → Prop
  | refl : Der n rs f0 f0
  | step {f : Nat → Option Int} {c : Nat} {w : Int} : Der n rs f0 f → Forces n rs f c w → Der n rs f0 (setF f c w)
noncomputable def Sat (n : Nat) (rs : List (List Int × Int)) (h : Nat → Option Int) : Prop := (∀ r ∈ rs, 0 ≤ roomF n h r) ∧ ∀ c w, ¬ Forces n rs h c w
theorem der_w01 {n : Nat} {rs : List (List Int × Int)} {f0 g : Nat → Option Int} (h0 : W01 f0) (d : Der n rs f0 g) : W01 g := by
  induction d with
  | refl => exact h0
  | step _ hf ih => exact ih.set hf.2.2.1
theorem der_base {n : Nat} {rs : List (List Int × Int)} {f0 g : Nat → Option Int} (d : Der n rs f0 g) : Ext f0 g := by
  induction d with
  | refl => exact Ext.refl _
  | step _ hf ih =>
    intro j w e
    unfold setF
    split
    · rename_i hj; subst hj; have := ih _ _ e; rw [hf.2.1] at this; cases this
    · exact ih j w e
theorem der_ext {n : Nat} {rs : List (List Int × Int)} {f0 g h : Nat → Option Int} (h0 : Ext f0 h) (hw : W01 h) (hs : Sat n rs h) (d : Der n rs f0 g) : Ext g h := by
  induction d with
  | refl => exact h0
  | @step f c w _ hf ih =>
    obtain ⟨hc, hn, h01, r, hr, hb⟩ := hf
    have h01' : 1 - w = 0 ∨ 1 - w = 1 := by omega
    refine ih.setL ?_
    cases e : h c with
    | none => exact absurd ⟨hc, e, h01, r, hr, Int.lt_of_le_of_lt (room_mono ih.set (hw.set h01')) hb⟩ (hs.2 c w)
    | some v =>
      by_cases hv : v = w
      · rw [hv]
      · have hv1 : v = 1 - w := by have := hw c v e; omega
        subst hv1
        have := room_mono (n := n) (r := r) (ih.setL e) hw
        have := hs.1 r hr
        omega
theorem der_sat {n : Nat} {rs : List (List Int × Int)} {f0 g h : Nat → Option Int} (h0 : Ext f0 h) (hw : W01 h) (hs : Sat n rs h) (d : Der n rs f0 g) : ∀ r ∈ rs, 0 ≤ roomF n g r := fun r hr =>
  Int.le_trans (hs.1 r hr) (room_mono (der_ext h0 hw hs d) hw)
noncomputable def EndsB (n : Nat) (rs : List (List Int × Int)) (f0 : Nat → Option Int) : Prop := ∃ g, Der n rs f0 g ∧ ∃ r ∈ rs, roomF n g r < 0
theorem ends_not {n : Nat} {rs : List (List Int × Int)} {f0 h : Nat → Option Int} (h0 : W01 f0) (d : Der n rs f0 h) (hs : Sat n rs h) : ¬ EndsB n rs f0 := fun ⟨g, dg, r, hr, hb⟩ => by
  have := der_sat (der_base d) (der_w01 h0 d) hs dg r hr
  omega
theorem good_w01 {n : Nat} {hs : List (Int × Int)} (h : Good n hs) : W01 (hv hs) := fun j w e => by
  unfold hv at e
  obtain ⟨p, hp, rfl⟩ := Option.map_eq_some_iff.mp e
  exact (h.ok p (List.mem_of_find?_eq_some hp)).2.2
theorem der_trans {n : Nat} {rs : List (List Int × Int)} {f g h : Nat → Option Int} (d1 : Der n rs f g) (d2 : Der n rs g h) : Der n rs f h := by
  induction d2 with
  | refl => exact d1
  | step _ hf ih => exact .step ih hf
theorem getD_mem {rs : List (List Int × Int)} {k : Nat} (hk : k < rs.length) : rs.getD k ([], 0) ∈ rs := by
  rw [List.getD_eq_getElem?_getD, List.getElem?_eq_getElem hk]
  exact List.getElem_mem hk
theorem stp_forces {n : Nat} {rs : List (List Int × Int)} {hs : List (Int × Int)} {p : Trip} (hr : ∀ r ∈ rs, r.1.length = n) (hb : brk n rs hs = none) (h : stp n rs hs = some p) : p.1 < n ∧ hv hs p.1 = none ∧ (p.2.1 = 0 ∨ p.2.1 = 1) ∧ p.2.2 < rs.length ∧ roomF n (setF (hv hs) p.1 (1 - p.2.1)) (rs.getD p.2.2 ([], 0)) < 0 := by
  obtain ⟨h1, h2, h3⟩ := stp_some hr h
  refine ⟨h1, h2, h3, ?_⟩
  obtain ⟨k, hk, e⟩ := fs_get h
  obtain ⟨q, e1, rfl⟩ := Option.map_eq_some_iff.mp e
  obtain ⟨c, hc, e2⟩ := fs_get e1
  obtain ⟨a, b, d, s⟩ := ffAt_some e2
  refine ⟨hk, ?_⟩
  have hq : q.2 = if 0 < (rs.getD k ([], 0)).1.getD c 0 then 1 else 0 := by
    unfold ffAt at e2
    split at e2
    · cases e2; rfl
    · cases e2
  show roomF n (setF (hv hs) q.1 (1 - q.2)) (rs.getD k ([], 0)) < 0
  have h0 : 0 ≤ roomF n (hv hs) (rs.getD k ([], 0)) := by
    unfold brk at hb
    have := List.findSome?_eq_none_iff.mp hb k (List.mem_range.mpr hk)
    have h9 : ¬ roomK n rs hs k < 0 := fun z => by rw [if_pos z] at this; cases this
    unfold roomK at h9
    omega
  have hc' : q.1 < n := h1
  have hf' : hv hs q.1 = none := h2
  have s' : roomF n (hv hs) (rs.getD k ([], 0)) < absI ((rs.getD k ([], 0)).1.getD q.1 0) := by rw [a]; exact s
  obtain ⟨f1, f0⟩ := forced_iff hc' hf' h0
  rw [a] at f1 f0 s' ⊢
  by_cases hx : 0 < (rs.getD k ([], 0)).1.getD c 0
  · rw [if_pos hx] at hq; rw [hq]; exact f0.mpr ⟨s', hx⟩
  · rw [if_neg hx] at hq; rw [hq]; exact f1.mpr ⟨s', hx⟩
theorem brk_some {n : Nat} {rs : List (List Int × Int)} {hs : List (Int × Int)} {k : Nat} (h : brk n rs hs = some k) : k < rs.length ∧ roomF n (hv hs) (rs.getD k ([], 0)) < 0 := by
  obtain ⟨i, hi, e⟩ := fs_get h
  split at e
  · rename_i hc; cases e; exact ⟨hi, hc⟩
  · cases e
theorem stuck_sat {n : Nat} {rs : List (List Int × Int)} {hs : List (Int × Int)} (hr : ∀ r ∈ rs, r.1.length = n) (hb : brk n rs hs = none) (h : stp n rs hs = none) : Sat n rs (hv hs) := by
  have h0 : ∀ k, k < rs.length → 0 ≤ roomF n (hv hs) (rs.getD k ([], 0)) := fun k hk => by
    unfold brk at hb
    have := List.findSome?_eq_none_iff.mp hb k (List.mem_range.mpr hk)
    have h9 : ¬ roomK n rs hs k < 0 := fun z => by rw [if_pos z] at this; cases this
    unfold roomK at h9
    omega
  refine ⟨fun r hr' => ?_, fun c w hf => ?_⟩
  · obtain ⟨k, hk, rfl⟩ := List.mem_iff_getElem.mp hr'
    have := h0 k hk
    rw [List.getD_eq_getElem?_getD, List.getElem?_eq_getElem hk] at this
    exact this
  · obtain ⟨hc, hn, h01, r, hr', hbr⟩ := hf
    obtain ⟨k, hk, rfl⟩ := List.mem_iff_getElem.mp hr'
    have eg : rs.getD k ([], 0) = rs[k] := by rw [List.getD_eq_getElem?_getD, List.getElem?_eq_getElem hk]; rfl
    unfold stp ffAll at h
    have h1 := List.findSome?_eq_none_iff.mp h k (List.mem_range.mpr hk)
    have h2 : ffRow (hv hs) (roomK n rs hs k) (rs.getD k ([], 0)).1 = none := by
      cases e : ffRow (hv hs) (roomK n rs hs k) (rs.getD k ([], 0)).1 with
      | none => rfl
      | some q => rw [e] at h1; cases h1
    unfold ffRow at h2
    have hl : (rs.getD k ([], 0)).1.length = n := by rw [eg]; exact hr _ (List.getElem_mem hk)
    have h3 := List.findSome?_eq_none_iff.mp h2 c (List.mem_range.mpr (by omega))
    obtain ⟨f1, f0⟩ := forced_iff hc hn (h0 k hk)
    rw [← eg] at hbr
    have h4 : roomF n (hv hs) (rs.getD k ([], 0)) < absI ((rs.getD k ([], 0)).1.getD c 0) := by
      rcases h01 with e | e
      · subst e; exact (f1.mp hbr).1
      · subst e; exact (f0.mp hbr).1
    unfold ffAt at h3
    rw [if_pos ⟨h4, hn⟩] at h3
    cases h3
noncomputable def heldOf (hs : List (Int × Int)) (fs : List Trip) : List (Int × Int) := hs ++ fs.map fun p => ((p.1 : Int), p.2.1)
noncomputable def StepsOk (n : Nat) (rs : List (List Int × Int)) (hs : List (Int × Int)) : List Trip → Prop
  | [] => True
  | p :: fs => p.1 < n ∧ hv hs p.1 = none ∧ (p.2.1 = 0 ∨ p.2.1 = 1) ∧ p.2.2 < rs.length ∧ roomF n (setF (hv hs) p.1 (1 - p.2.1)) (rs.getD p.2.2 ([], 0)) < 0 ∧ StepsOk n rs (hs ++ [((p.1 : Int), p.2.1)]) fs
theorem due_run {n : Nat} {rs : List (List Int × Int)} (hr : ∀ r ∈ rs, r.1.length = n) : ∀ (t : Nat) (hs : List (Int × Int)) (acc : List Trip), Good n hs → ∃ fs, (dueP n rs t hs acc).1 = acc ++ fs ∧ StepsOk n rs hs fs ∧ ∀ k, (dueP n rs t hs acc).2 = some k → k < rs.length ∧ roomF n (hv (heldOf hs fs)) (rs.getD k ([], 0)) < 0
  | 0, hs, acc, _ => ⟨[], (List.append_nil _).symm, trivial, fun k h => nomatch h⟩
  | t + 1, hs, acc, hg => by
    cases hb : brk n rs hs with
    | some k =>
      rw [due_brk hb]
      refine ⟨[], (List.append_nil _).symm, trivial, fun k' h => ?_⟩
      cases h
      have := brk_some hb
      unfold heldOf
      rw [List.map_nil, List.append_nil]
      exact this
    | none =>
      cases h : stp n rs hs with
      | none => rw [due_none hb h]; exact due_run hr t hs acc hg
      | some p =>
        obtain ⟨p1, p2, p3, p4, p5⟩ := stp_forces hr hb h
        obtain ⟨fs, e1, e2, e3⟩ := due_run hr t (hs ++ [((p.1 : Int), p.2.1)]) (acc ++ [p]) (hg.app p1 p2 p3)
        rw [due_stp hb h]
        refine ⟨p :: fs, by rw [e1, List.append_assoc]; rfl, ⟨p1, p2, p3, p4, p5, e2⟩, fun k hk => ?_⟩
        have := e3 k hk
        unfold heldOf at this ⊢
        rw [List.map_cons, List.append_cons]
        exact this
theorem steps_der {n : Nat} {rs : List (List Int × Int)} : ∀ (fs : List Trip) (hs : List (Int × Int)), StepsOk n rs hs fs → Der n rs (hv hs) (hv (heldOf hs fs))
  | [], hs, _ => by unfold heldOf; rw [List.map_nil, List.append_nil]; exact .refl
  | p :: fs, hs, h => by
    obtain ⟨p1, p2, p3, p4, p5, h'⟩ := h
    have d1 : Der n rs (hv hs) (hv (hs ++ [((p.1 : Int), p.2.1)])) := by
      rw [hv_app _ _ _ p2]
      exact .step .refl ⟨p1, p2, p3, _, getD_mem p4, p5⟩
    have := der_trans d1 (steps_der fs _ h')
    unfold heldOf at this ⊢
    rw [List.map_cons, List.append_cons]
    exact this
theorem due_sat {n : Nat} {rs : List (List Int × Int)} (hr : ∀ r ∈ rs, r.1.length = n) : ∀ (t : Nat) (hs : List (Int × Int)) (acc : List Trip), Good n hs → free n (hv hs) < (t : Int) → (dueP n rs t hs acc).2 = none → ∃ h, Der n rs (hv hs) h ∧ Sat n rs h
  | 0, hs, acc, _, hf, _ => by have := (free_le n (hv hs)).1; omega
  | t + 1, hs, acc, hg, hf, hn => by
    cases hb : brk n rs hs with
    | some k => rw [due_brk hb] at hn; cases hn
    | none =>
      cases h : stp n rs hs with
      | none => exact ⟨_, .refl, stuck_sat hr hb h⟩
      | some p =>
        obtain ⟨p1, p2, p3, p4, p5⟩ := stp_forces hr hb h
        rw [due_stp hb h] at hn
        have hfr : free n (hv (hs ++ [((p.1 : Int), p.2.1)])) < (t : Int) := by
          rw [hv_app _ _ _ p2, free_set p1 p2]
          omega
        obtain ⟨g, dg, sg⟩ := due_sat hr t _ _ (hg.app p1 p2 p3) hfr hn
        rw [hv_app _ _ _ p2] at dg
        exact ⟨g, der_trans (.step .refl ⟨p1, p2, p3, _, getD_mem p4, p5⟩) dg, sg⟩
theorem due_ends {n : Nat} {rs : List (List Int × Int)} {hs : List (Int × Int)} (hr : ∀ r ∈ rs, r.1.length = n) (hg : Good n hs) : ((dueP n rs (n + 1) hs []).2.isSome = true) ↔ EndsB n rs (hv hs) := by
  constructor
  · intro h
    obtain ⟨k, hk⟩ := Option.isSome_iff_exists.mp h
    obtain ⟨fs, _, h2, h3⟩ := due_run hr (n + 1) hs [] hg
    obtain ⟨a, b⟩ := h3 k hk
    exact ⟨_, steps_der fs hs h2, _, getD_mem a, b⟩
  · intro h
    cases e : (dueP n rs (n + 1) hs []).2 with
    | some k => rfl
    | none =>
      obtain ⟨g, dg, sg⟩ := due_sat hr (n + 1) hs [] hg (by have := (free_le n (hv hs)).2; omega) e
      exact absurd h (ends_not (good_w01 hg) dg sg)
noncomputable def stepOk (n : Nat) (rs : List (List Int × Int)) (hs : List (Int × Int)) (p : Trip) : Prop := p.1 < n ∧ hv hs p.1 = none ∧ (p.2.1 = 0 ∨ p.2.1 = 1) ∧ p.2.2 < rs.length ∧ roomF n (setF (hv hs) p.1 (1 - p.2.1)) (rs.getD p.2.2 ([], 0)) < 0
theorem held_snoc (hs : List (Int × Int)) (fs : List Trip) (p : Trip) : heldOf hs (fs ++ [p]) = heldOf hs fs ++ [((p.1 : Int), p.2.1)] := by
  unfold heldOf
  rw [List.map_append, ← List.append_assoc]
  rfl
theorem held_cons (hs : List (Int × Int)) (fs : List Trip) (p : Trip) : heldOf hs (p :: fs) = heldOf (hs ++ [((p.1 : Int), p.2.1)]) fs := by
  unfold heldOf
  rw [List.map_cons, List.append_cons]
theorem steps_snoc {n : Nat} {rs : List (List Int × Int)} {p : Trip} : ∀ {fs : List Trip} {hs : List (Int × Int)}, StepsOk n rs hs (fs ++ [p]) ↔ StepsOk n rs hs fs ∧ stepOk n rs (heldOf hs fs) p
  | [], hs => by
    show (_ ∧ _ ∧ _ ∧ _ ∧ _ ∧ True) ↔ True ∧ stepOk n rs (heldOf hs []) p
    unfold heldOf stepOk
    rw [List.map_nil, List.append_nil]
    constructor
    · rintro ⟨a, b, c, d, e, _⟩; exact ⟨trivial, a, b, c, d, e⟩
    · rintro ⟨_, a, b, c, d, e⟩; exact ⟨a, b, c, d, e, trivial⟩
  | q :: fs, hs => by
    have ih := steps_snoc (n := n) (rs := rs) (p := p) (fs := fs) (hs := hs ++ [((q.1 : Int), q.2.1)])
    rw [← held_cons] at ih
    constructor
    · rintro ⟨a, b, c, d, e, h⟩
      obtain ⟨h1, h2⟩ := ih.mp h
      exact ⟨⟨a, b, c, d, e, h1⟩, h2⟩
    · rintro ⟨⟨a, b, c, d, e, h1⟩, h2⟩
      exact ⟨a, b, c, d, e, ih.mpr ⟨h1, h2⟩⟩
noncomputable def lowB (r : List Int × Int) (p : Trip) : Bool := decide ((0 < r.1.getD p.1 0 ∧ p.2.1 = 0) ∨ (r.1.getD p.1 0 < 0 ∧ p.2.1 = 1))
noncomputable def needR (rs : List (List Int × Int)) : List Trip → List (List Int × Int) → List Trip
  | [], _ => []
  | p :: t, asked => if asked.any (fun r => lowB r p) = true then p :: needR rs t (asked ++ [rs.getD p.2.2 ([], 0)]) else needR rs t asked
theorem needR_sub (rs : List (List Int × Int)) : ∀ (L : List Trip) (asked : List (List Int × Int)) (p : Trip), p ∈ needR rs L asked → p ∈ L
  | [], _, _, h => nomatch h
  | q :: t, asked, p, h => by
    unfold needR at h
    split at h
    · rcases List.mem_cons.mp h with e | e
      · exact List.mem_cons.mpr (.inl e)
      · exact List.mem_cons_of_mem _ (needR_sub rs t _ p e)
    · exact List.mem_cons_of_mem _ (needR_sub rs t _ p h)
theorem hv_held_none {hs : List (Int × Int)} {fs gs : List Trip} {c : Nat} (h : hv (heldOf hs fs) c = none) (hsub : ∀ p ∈ gs, p ∈ fs) : hv (heldOf hs gs) c = none := by
  rw [hv_none] at h ⊢
  intro hm
  apply h
  unfold heldOf at hm ⊢
  rw [List.map_append] at hm ⊢
  rcases List.mem_append.mp hm with e | e
  · exact List.mem_append.mpr (.inl e)
  · refine List.mem_append.mpr (.inr ?_)
    rw [List.map_map] at e ⊢
    obtain ⟨p, hp, ep⟩ := List.mem_map.mp e
    exact List.mem_map.mpr ⟨p, hsub p hp, ep⟩
theorem need_ok {n : Nat} {rs : List (List Int × Int)} {hs : List (Int × Int)} : ∀ (L : List Trip) (asked : List (List Int × Int)), StepsOk n rs hs L.reverse → StepsOk n rs hs (needR rs L asked).reverse ∧ ∀ r ∈ asked, roomF n (hv (heldOf hs (needR rs L asked).reverse)) r = roomF n (hv (heldOf hs L.reverse)) r
  | [], asked, h => ⟨trivial, fun r _ => rfl⟩
  | p :: t, asked, h => by
    rw [List.reverse_cons] at h ⊢
    obtain ⟨h1, hc, hf, hw, hk, hb⟩ := steps_snoc.mp h
    have mem : ∀ asked q, q ∈ (needR rs t asked).reverse → q ∈ t.reverse := fun asked q hq => List.mem_reverse.mpr (needR_sub rs t asked q (List.mem_reverse.mp hq))
    unfold needR
    by_cases hl : asked.any (fun r => lowB r p) = true
    · rw [if_pos hl, List.reverse_cons]
      obtain ⟨i1, i2⟩ := need_ok t (asked ++ [rs.getD p.2.2 ([], 0)]) h1
      have hf' : hv (heldOf hs (needR rs t (asked ++ [rs.getD p.2.2 ([], 0)])).reverse) p.1 = none := hv_held_none hf (mem _)
      refine ⟨steps_snoc.mpr ⟨i1, hc, hf', hw, hk, ?_⟩, fun r hr => ?_⟩
      · rw [roomF_set hc hf', i2 _ (List.mem_append.mpr (.inr (List.mem_singleton.mpr rfl))), ← roomF_set hc hf]
        exact hb
      · rw [held_snoc, held_snoc, hv_app _ _ _ hf', hv_app _ _ _ hf, roomF_set hc hf', roomF_set hc hf, i2 r (List.mem_append.mpr (.inl hr))]
    · rw [if_neg hl]
      obtain ⟨i1, i2⟩ := need_ok t asked h1
      refine ⟨i1, fun r hr => ?_⟩
      rw [i2 r hr, held_snoc, hv_app _ _ _ hf, lowered hc hf hw, if_neg]
      intro z
      exact hl (List.any_eq_true.mpr ⟨r, hr, decide_eq_true z⟩)
theorem need_due {n : Nat} {rs : List (List Int × Int)} {hs : List (Int × Int)} {k : Nat} (hr : ∀ r ∈ rs, r.1.length = n) (hg : Good n hs) (h : (dueP n rs (n + 1) hs []).2 = some k) :
    StepsOk n rs hs (needR rs (dueP n rs (n + 1) hs []).1.reverse [rs.getD k ([], 0)]).reverse ∧ k < rs.length ∧ roomF n (hv (heldOf hs (needR rs (dueP n rs (n + 1) hs []).1.reverse [rs.getD k ([], 0)]).reverse)) (rs.getD k ([], 0)) < 0 := by
  obtain ⟨fs, e1, e2, e3⟩ := due_run hr (n + 1) hs [] hg
  rw [List.nil_append] at e1
  obtain ⟨a, b⟩ := e3 k h
  rw [e1]
  obtain ⟨i1, i2⟩ := need_ok (n := n) (rs := rs) (hs := hs) fs.reverse [rs.getD k ([], 0)] (by rw [List.reverse_reverse]; exact e2)
  refine ⟨i1, a, ?_⟩
  rw [i2 _ (List.mem_singleton.mpr rfl), List.reverse_reverse]
  exact b
noncomputable def lawStep (n : Nat) (r : List Int × Int) (hs : List (Int × Int)) (c : Nat) (w : Int) : List (Int × Int) := if hv hs c = none ∧ roomF n (setF (hv hs) c (1 - w)) r < 0 then hs ++ [((c : Int), w)] else hs
noncomputable abbrev RCW := (List Int × Int) × Nat × Int
noncomputable def allRCW (rs : List (List Int × Int)) (n : Nat) : List RCW := rs.flatMap fun r => (List.range n).flatMap fun c => [(r, c, 0), (r, c, 1)]
noncomputable def passL (n : Nat) (Ls : List RCW) (hs : List (Int × Int)) : List (Int × Int) := Ls.foldl (fun hs q => lawStep n q.1 hs q.2.1 q.2.2) hs
theorem rcw_mem {rs : List (List Int × Int)} {n : Nat} {q : RCW} : q ∈ allRCW rs n ↔ q.1 ∈ rs ∧ q.2.1 < n ∧ (q.2.2 = 0 ∨ q.2.2 = 1) := by
  unfold allRCW
  constructor
  · intro h
    obtain ⟨r, hr, h⟩ := List.mem_flatMap.mp h
    obtain ⟨c, hc, h⟩ := List.mem_flatMap.mp h
    rcases List.mem_cons.mp h with e | e
    · subst e; exact ⟨hr, List.mem_range.mp hc, .inl rfl⟩
    · rw [List.mem_singleton] at e; subst e; exact ⟨hr, List.mem_range.mp hc, .inr rfl⟩
  · rintro ⟨hr, hc, hw⟩
    refine List.mem_flatMap.mpr ⟨q.1, hr, List.mem_flatMap.mpr ⟨q.2.1, List.mem_range.mpr hc, ?_⟩⟩
    obtain ⟨r, c, w⟩ := q
    rcases hw with e | e
    · simp only at e; subst e; exact List.mem_cons_self
    · simp only at e; subst e; exact List.mem_cons_of_mem _ (List.mem_singleton.mpr rfl)
theorem pass_run {n : Nat} {rs : List (List Int × Int)} : ∀ (Ls : List RCW), (∀ q ∈ Ls, q ∈ allRCW rs n) → ∀ hs, Good n hs → Good n (passL n Ls hs) ∧ Der n rs (hv hs) (hv (passL n Ls hs)) ∧ hs.length ≤ (passL n Ls hs).length ∧ free n (hv (passL n Ls hs)) = free n (hv hs) - (((passL n Ls hs).length : Int) - (hs.length : Int)) ∧ ((passL n Ls hs).length = hs.length → passL n Ls hs = hs ∧ ∀ q ∈ Ls, ¬ (hv hs q.2.1 = none ∧ roomF n (setF (hv hs) q.2.1 (1 - q.2.2)) q.1 < 0))
  | [], _, hs, hg => ⟨hg, .refl, Nat.le_refl _, by show free n (hv hs) = free n (hv hs) - ((hs.length : Int) - (hs.length : Int)); omega, fun _ => ⟨rfl, fun q hq => nomatch hq⟩⟩
  | q :: Ls, hL, hs, hg => by
    obtain ⟨hq1, hq2, hq3⟩ := rcw_mem.mp (hL q List.mem_cons_self)
    have e : passL n (q :: Ls) hs = passL n Ls (lawStep n q.1 hs q.2.1 q.2.2) := rfl
    rw [e]
    by_cases hc : hv hs q.2.1 = none ∧ roomF n (setF (hv hs) q.2.1 (1 - q.2.2)) q.1 < 0
    · have e2 : lawStep n q.1 hs q.2.1 q.2.2 = hs ++ [((q.2.1 : Int), q.2.2)] := if_pos hc
      rw [e2]
      obtain ⟨i1, i2, i3, i4, i5⟩ := pass_run Ls (fun x hx => hL x (List.mem_cons_of_mem _ hx)) (hs ++ [((q.2.1 : Int), q.2.2)]) (hg.app hq2 hc.1 hq3)
      rw [List.length_append] at i3 i4
      have l1 : [((q.2.1 : Int), q.2.2)].length = 1 := rfl
      rw [l1] at i3 i4
      refine ⟨i1, der_trans (.step .refl ⟨hq2, hc.1, hq3, q.1, hq1, hc.2⟩) (by rw [← hv_app _ _ _ hc.1]; exact i2), by omega, ?_, fun z => by omega⟩
      rw [i4, hv_app _ _ _ hc.1, free_set hq2 hc.1]
      omega
    · have e2 : lawStep n q.1 hs q.2.1 q.2.2 = hs := if_neg hc
      rw [e2]
      obtain ⟨i1, i2, i3, i4, i5⟩ := pass_run Ls (fun x hx => hL x (List.mem_cons_of_mem _ hx)) hs hg
      refine ⟨i1, i2, i3, i4, fun z => ?_⟩
      obtain ⟨j1, j2⟩ := i5 z
      refine ⟨j1, fun x hx => ?_⟩
      rcases List.mem_cons.mp hx with e | e
      · rw [e]; exact hc
      · exact j2 x e
noncomputable def anyB (n : Nat) (rs : List (List Int × Int)) (hs : List (Int × Int)) : Bool := rs.any fun r => decide (roomF n (hv hs) r < 0)
noncomputable def endsL (n : Nat) (rs : List (List Int × Int)) : Nat → List (Int × Int) → Bool
  | 0, hs => anyB n rs hs
  | t + 1, hs => if anyB n rs hs = true then true else endsL n rs t (passL n (allRCW rs n) hs)
theorem anyB_iff {n : Nat} {rs : List (List Int × Int)} {hs : List (Int × Int)} : anyB n rs hs = true ↔ ∃ r ∈ rs, roomF n (hv hs) r < 0 := by
  unfold anyB
  rw [List.any_eq_true]
  exact ⟨fun ⟨r, hr, h⟩ => ⟨r, hr, of_decide_eq_true h⟩, fun ⟨r, hr, h⟩ => ⟨r, hr, decide_eq_true h⟩⟩
theorem ends_stuck {n : Nat} {rs : List (List Int × Int)} {hs : List (Int × Int)} (h : ¬ anyB n rs hs = true) (hp : passL n (allRCW rs n) hs = hs) : ∀ t, endsL n rs t hs = false
  | 0 => by cases e : anyB n rs hs with | true => exact absurd e h | false => exact e
  | t + 1 => by
    show (if anyB n rs hs = true then true else endsL n rs t (passL n (allRCW rs n) hs)) = false
    rw [if_neg h, hp]
    exact ends_stuck h hp t
theorem ends_iff {n : Nat} {rs : List (List Int × Int)} (hr : ∀ r ∈ rs, r.1.length = n) : ∀ (t : Nat) (hs : List (Int × Int)), Good n hs → free n (hv hs) < (t : Int) → (endsL n rs t hs = true ↔ EndsB n rs (hv hs))
  | 0, hs, _, hf => by have := (free_le n (hv hs)).1; omega
  | t + 1, hs, hg, hf => by
    show (if anyB n rs hs = true then true else endsL n rs t (passL n (allRCW rs n) hs)) = true ↔ _
    by_cases hb : anyB n rs hs = true
    · rw [if_pos hb]
      exact ⟨fun _ => ⟨_, .refl, anyB_iff.mp hb⟩, fun _ => rfl⟩
    · rw [if_neg hb]
      obtain ⟨i1, i2, i3, i4, i5⟩ := pass_run (rs := rs) (allRCW rs n) (fun _ h => h) hs hg
      by_cases hl : (passL n (allRCW rs n) hs).length = hs.length
      · obtain ⟨j1, j2⟩ := i5 hl
        rw [j1, ends_stuck hb j1 t]
        refine ⟨fun z => (nomatch z), fun z => ?_⟩
        have sat : Sat n rs (hv hs) := by
          refine ⟨fun r hr' => ?_, fun c w hf' => ?_⟩
          · have : ¬ roomF n (hv hs) r < 0 := fun y => hb (anyB_iff.mpr ⟨r, hr', y⟩)
            omega
          · obtain ⟨hc, hn, hw, r, hr', hbr⟩ := hf'
            exact j2 (r, c, w) (rcw_mem.mpr ⟨hr', hc, hw⟩) ⟨hn, hbr⟩
        exact absurd z (ends_not (good_w01 hg) .refl sat)
      · have ih := ends_iff hr t (passL n (allRCW rs n) hs) i1 (by omega)
        rw [ih]
        constructor
        · rintro ⟨g, dg, r, hr', hbr⟩
          exact ⟨g, der_trans i2 dg, r, hr', hbr⟩
        · intro z
          rw [← due_ends hr i1]
          cases e : (dueP n rs (n + 1) (passL n (allRCW rs n) hs) []).2 with
          | some k => rfl
          | none =>
            obtain ⟨g, dg, sg⟩ := due_sat hr (n + 1) _ [] i1 (by have := (free_le n (hv (passL n (allRCW rs n) hs))).2; omega) e
            exact absurd z (ends_not (good_w01 hg) (der_trans i2 dg) sg)
end Nb
namespace Nb
open PySem L2
noncomputable abbrev sNeed : Stmt := top 11
theorem Paired.rev {α β : Type} {R : α → β → Prop} {xs : List α} {ys : List β} (h : Paired R xs ys) : Paired R xs.reverse ys.reverse := by
  have app : ∀ {xs : List α} {ys : List β} {xs' : List α} {ys' : List β}, Paired R xs ys → Paired R xs' ys' → Paired R (xs ++ xs') (ys ++ ys') := by
    intro xs ys xs' ys' h1 h2
    induction h1 with
    | nil => exact h2
    | cons z _ ih => exact .cons z ih
  induction h with
  | nil => exact .nil
  | cons h1 _ ih =>
    rw [List.reverse_cons, List.reverse_cons]
    exact app ih (.cons h1 .nil)
noncomputable def spNeed (K : PySem.W.Frag) : Sp := fun vs H Q _ => ∃ (a g : Addr) (k n : Nat) (us gs : List V) (rs : List (List Int × Int)) (fs : List Trip), vs = [.ref a, .ref g, .int (k : Int)] ∧ SqL K H a us ∧ RowsAre K H us rs ∧ SqL K H g gs ∧ TripsAre K H gs fs ∧ k < rs.length ∧ fs.length ≤ 1000 ∧ (∀ r ∈ rs, r.1.length = n) ∧ (∀ p ∈ fs, p.1 < n ∧ p.2.2 < rs.length) ∧
  ∀ t ws H', Same H H' → H t = none → H' t = some (.lst ws) → TripsAre K H' ws (needR rs fs.reverse [rs.getD k ([], 0)]).reverse → Q (.ref t) H'
section
variable {P : Program} {w : World} {K : PySem.W.Frag} {mg : Str → Option Value} {base : Heap} {aT aL : Addr} {fT fL : Str → Option Value}
theorem scNeed : FnScope ["rows", "forced", "broken", "steps", "asked", "choice", "worth", "number"] ["rows", "forced", "broken"] (defScope sNeed) := ⟨rfl, rfl, rfl, by decide +kernel, rfl, by decide +kernel, by decide +kernel⟩
theorem okNeed (F : Fn K mg "steps_needed" sNeed) (M : Mg mg) (c_lowers : Cal P w K mg base 1 "lowers" ["number", "worth"] (spLowers)) : Cal P w K mg base 2 "steps_needed" ["rows", "forced", "broken"] (spNeed K) := by
  refine cal_of F scNeed (fun _ _ _ _ _ _ => bind3 (fun _ _ _ => rfl)) (fun vs H Q E h => ?_) (fun f cdv A outer s H vs Q E hr h => ?_)
  · obtain ⟨a, g, k, n, us, gs, rs, fs, rfl, _⟩ := h
    rfl
  obtain ⟨a, g, k, n, us, gs, rs, fs, rfl, ha, hrw, hg, htr, hk, hfl, hr1, hfs, q⟩ := h
  refine ⟨_, (pss_cons (ps_set (i := 3) scNeed.nd rfl (Or.inl rfl) (pe_lst pa_nil))
    (pss_cons (ps_set (i := 4) scNeed.nd rfl (Or.inl rfl) (pe_lst (pa_cons (pe_ix ix_list (pv 0) (pv 2) (fun _ _ => rfl)) pa_nil)))
    (pss_cons (ps_for PassesOwn.never rfl (pi_rev rfl M.reversed_ (pa_cons (pv 1) pa_nil)) (pg_tup rfl (pgs_cons (pg_name (i := 5) scNeed.nd rfl (Or.inr rfl) (Or.inl rfl)) (pgs_cons (pg_name (i := 6) scNeed.nd rfl (Or.inr rfl) (Or.inl rfl)) (pgs_cons (pg_name (i := 7) scNeed.nd rfl (Or.inl rfl) (Or.inl rfl)) pgs_nil)))) (pss_one (ps_if (pt_val (pe_callB (call_anyB rfl) rfl M.any bt_any (pa_cons (pe_lc ["row", "choice", "worth"] [none, some 5, some 6] rfl (pi_list (pv 4)) (fun _ _ _ => (pg_name (i := 0) (show (["row", "choice", "worth"] : List Str).Nodup by decide +kernel) rfl (Or.inl rfl) (Or.inr rfl))) (fun _ _ _ => pf_nil) (fun _ _ _ => (pe_fn c_lowers (hr.mono (by decide)) (pa_cons (pe_ix (ix_tupK (K := K) rfl) (pe_ix (ix_tupK (K := K) rfl) (pv 0) pe_int (fun _ _ => rfl)) (pv 1) (fun _ _ => rfl)) (pa_cons (pv 2) pa_nil))))) pa_nil))) (pss_cons (ps_expr (pe_bm PySem.F.plainAttrs_list PySem.F.slot_list_append PySem.F.type_list_append mt_append (pv 3) (pa_cons (pe_tup (pa_cons (pv 5) (pa_cons (pv 6) (pa_cons (pv 7) pa_nil)))) pa_nil)))
    (pss_one (ps_expr (pe_bm PySem.F.plainAttrs_list PySem.F.slot_list_append PySem.F.type_list_append mt_append (pv 4) (pa_cons (pe_ix ix_list (pv 0) (pv 7) (fun _ _ => rfl)) pa_nil))))) pss_nil)))
    (pss_one (ps_ret (pe_list_reversed rfl M.list_ M.reversed_ (pa_cons (pv 3) pa_nil))))))), ?_⟩
  refine seq_let4 ?_
  intro rT4 rT3 rT2
  have hz : (100000 : Nat) < sizeLine := by decide
  have lu := hrw.length
  have lg := htr.length
  have eG : ∀ {j : Nat} {r : List Int × Int}, rs[j]? = some r → rs.getD j ([], 0) = r := fun h => getD_ofA h
  refine ⟨by show 0 ≤ sizeLine; decide, fun S hS => ?_⟩
  have s1 := same_new' hS (.lst [])
  have hS1 : upd H S (.lst []) S = some (.lst []) := upd_same
  generalize upd H S (.lst []) = H1 at s1 hS1 ⊢
  obtain ⟨v0, ev0⟩ : ∃ v, us[k]? = some v := ⟨_, List.getElem?_eq_getElem (by omega)⟩
  obtain ⟨t0, r0, rfl, er0, hr0⟩ := hrw.get ev0
  refine ⟨_, rfl, _, rfl, a, _, _, _, rfl, rfl, s1.seq ha, atNat ev0, by show 1 ≤ sizeLine; decide, fun B hB => ?_⟩
  have hBH : H B = none := by
    cases e5 : H B with
    | none => rfl
    | some o => rw [s1 _ _ e5] at hB; cases hB
  have nSB : S ≠ B := ne_of_none hS1 hB
  have s2 := s1.trans (same_new' hB (.lst [.ref t0]))
  have hS2 : upd H1 B (.lst [.ref t0]) S = some (.lst []) := (upd_ne nSB).trans hS1
  have hB2 : upd H1 B (.lst [.ref t0]) B = some (.lst [.ref t0]) := upd_same
  generalize upd H1 B (.lst [.ref t0]) = H2 at s2 hS2 hB2 ⊢
  refine ⟨_, rfl, g, gs, rfl, s2.seq hg, for_rev (K := K) (a := g) (xs := gs) (fun i σ H3 => (∃ u5 u6 u7 : Option V, σ = [some (.ref a), some (.ref g), some (.int (k : Int)), some (.ref S), some (.ref B), u5, u6, u7]) ∧ Same H H3 ∧ ∃ (ws bs : List V) (sts : List Trip) (ask : List (List Int × Int)), H3 S = some (.lst ws) ∧ TripsAre K H3 ws sts ∧ H3 B = some (.lst bs) ∧ RowsAre K H bs ask ∧ (∀ r ∈ ask, r.1.length = n) ∧ sts.length ≤ i ∧ ask.length ≤ i + 1 ∧ sts ++ needR rs (fs.reverse.drop i) ask = needR rs fs.reverse [rs.getD k ([], 0)])
    ⟨⟨none, none, none, rfl⟩, s2, [], [.ref t0], [], [r0], hS2, .nil, hB2, RowsAre.snoc (vs := []) (rs := []) .nil hr0, (fun r hr => by rw [List.mem_singleton.mp hr]; exact hr1 _ (List.mem_of_getElem? er0)), Nat.zero_le _, Nat.le_refl _, by rw [eG er0]; rfl⟩ (fun i σ H3 _ h => h.2.1.seq hg) ?_ ?_⟩
  · rintro i x σ H3 hi e1 ⟨⟨u5, u6, u7, rfl⟩, s3, ws, bs, sts, ask, hS3, hst, hB3, hask, hlen, l1, l2, hneed⟩
    rw [List.getElem?_reverse hi] at e1
    obtain ⟨t, p, rfl, ep, hT⟩ := htr.get e1
    have ep' : fs.reverse[i]? = some p := by rw [List.getElem?_reverse (by omega), ← lg]; exact ep
    obtain ⟨hi2, ei2⟩ := List.getElem?_eq_some_iff.mp ep'
    rw [List.drop_eq_getElem_cons hi2, ei2, needR] at hneed
    obtain ⟨pc, pr⟩ := hfs p (List.mem_of_getElem? ep)
    refine ⟨t, _, rfl, s3.tup hT, rfl, _, _, rfl, _, _, rfl, _, _, rfl, rfl, ?_⟩
    have lb := hask.length
    refine ⟨_, rfl, B, rfl, ⟨_, sqL_new hB3⟩, fun D hD => ?_⟩
    refine lc_any (n := ask.length) (fun m τ ys H4 => ∃ v : Option V, τ = [v, some (.int ((p.1 : Nat) : Int)), some (.int p.2.1)] ∧ ys = ((ask.take m).map fun r => lowB r p).map V.bl ∧ H4 D = some (.lst ys) ∧ Same H3 H4) ?_ (fun m τ ys H4 hm h => ?_) (fun m τ ys H4 hm h => ?_) (fun τ ys H4 h => ?_) ?_ ?_
    · exact ⟨none, rfl, rfl, upd_same, same_new' hD _⟩
    · obtain ⟨v, rfl, rfl, hE, s4⟩ := h
      exact ⟨hE, by rw [List.length_map, List.length_map, List.length_take]; omega⟩
    · obtain ⟨v, rfl, rfl, hE, s4⟩ := h
      exact ⟨bs, bs[m]'(by omega), sqL_new (s4 _ _ hB3), List.getElem?_eq_getElem (by omega)⟩
    · obtain ⟨v, rfl, rfl, hE, s4⟩ := h
      exact ⟨bs, sqL_new (s4 _ _ hB3), by omega⟩
    · rintro m τ ys H4 x9 Hx hm ⟨v, rfl, rfl, hE, s4⟩ ⟨rfl, e2⟩
      obtain ⟨t', r, rfl, er, pp, rt1, rt2⟩ := hask.get (e2 _ (sqL_new (s4 _ _ hB3)))
      have s34 := s3.trans s4
      have hrn := hlen r (List.mem_of_getElem? er)
      have ex : atI (r.1.map V.int) ((p.1 : Nat) : Int) = some (.int (r.1.getD p.1 0)) := atN (by rw [hrn]; exact pc)
      refine ⟨_, rfl, t', _, _, _, rfl, rfl, s34.tup rt1, at0, _, rfl, pp, _, _, _, rfl, rfl, s34.tup rt2, ex, _, rfl, r.1.getD p.1 0, p.2.1, rfl, fun b hb => ⟨hE, _, rfl, ?_, upd_same, fun b' o e => ?_⟩⟩
      · have e8 : b = lowB r p := by
          unfold lowB
          rw [Bool.eq_iff_iff, hb, decide_eq_true_iff]
        obtain ⟨hm2, em2⟩ := List.getElem?_eq_some_iff.mp er
        rw [e8, List.take_succ, er, List.map_append, List.map_append]
        rfl
      · rw [upd_ne (ne_of_none e hD)]; exact s4 _ _ e
    rintro τ ys H4 ⟨v, rfl, rfl, hE, s4⟩
    rw [List.take_length] at hE
    have s34 := s3.trans s4
    have ea : (ask.map fun r => lowB r p).any id = ask.any fun r => lowB r p := by rw [List.any_map]; rfl
    refine ⟨D, _, rfl, sqL_new hE, _, rfl, ite2 (fun c => ?_) (fun c => ?_)⟩
    · rw [ea] at c
      rw [if_pos c] at hneed
      have ls := hst.length
      have hS4 := s4 _ _ hS3
      have hB4 := s4 _ _ hB3
      refine ⟨_, rfl, .inl ⟨rfl, _, sqL_new hS4⟩, _, rfl, _, rfl, _, rfl, by show 3 ≤ sizeLine; decide, fun T hT4 => ?_⟩
      have s5 := same_new' hT4 (.tup [.int ((p.1 : Nat) : Int), .int p.2.1, .int ((p.2.2 : Nat) : Int)])
      have hT5 : SqT K (upd H4 T (.tup [.int ((p.1 : Nat) : Int), .int p.2.1, .int ((p.2.2 : Nat) : Int)])) T [.int ((p.1 : Nat) : Int), .int p.2.1, .int ((p.2.2 : Nat) : Int)] := sqT_new upd_same
      generalize upd H4 T (.tup [.int ((p.1 : Nat) : Int), .int p.2.1, .int ((p.2.2 : Nat) : Int)]) = H5 at s5 hT5 ⊢
      have hS5 := s5 _ _ hS4
      have hB5 := s5 _ _ hB4
      refine ⟨S, _, _, rfl, rfl, hS5, by omega, ?_⟩
      have hB6 : upd H5 S (.lst (ws ++ [.ref T])) B = some (.lst bs) := by rw [upd_ne nSB.symm]; exact hB5
      have s6 : Same H (upd H5 S (.lst (ws ++ [.ref T]))) := fun b o e => by rw [upd_ne (ne_of_none e hS)]; exact s5 _ _ (s34 _ _ e)
      have hS6 : upd H5 S (.lst (ws ++ [.ref T])) S = some (.lst (ws ++ [.ref T])) := upd_same
      have tr6 : TripsAre K (upd H5 S (.lst (ws ++ [.ref T]))) (ws ++ [.ref T]) (sts ++ [p]) := TripsAre.snoc (hst.imp fun t xs z => SqT_upd hS5 (s5.tup (s4.tup z))) (SqT_upd hS5 hT5)
      generalize upd H5 S (.lst (ws ++ [.ref T])) = H6 at hB6 s6 hS6 tr6 ⊢
      obtain ⟨v1, ev1⟩ : ∃ v, us[p.2.2]? = some v := ⟨_, List.getElem?_eq_getElem (by omega)⟩
      obtain ⟨t1, r1, rfl, er1, hr1'⟩ := hrw.get ev1
      refine ⟨_, rfl, .inl ⟨rfl, _, sqL_new hB6⟩, _, rfl, _, rfl, a, _, _, _, rfl, rfl, s6.seq ha, atNat ev1, B, _, _, rfl, rfl, hB6, by omega, ?_⟩
      refine ⟨⟨_, _, _, rfl⟩, fun b o e => by rw [upd_ne (ne_of_none e hBH)]; exact s6 _ _ e, ws ++ [.ref T], bs ++ [.ref t1], sts ++ [p], ask ++ [r1], by rw [upd_ne nSB]; exact hS6, tr6.imp fun t xs z => SqT_upd hB6 z, upd_same, hask.snoc hr1', fun r hr => ?_, by rw [List.length_append]; exact Nat.add_le_add_right l1 1, by rw [List.length_append]; exact Nat.add_le_add_right l2 1, ?_⟩
      · rcases List.mem_append.mp hr with z | z
        · exact hlen r z
        · rw [List.mem_singleton.mp z]; exact hr1 _ (List.mem_of_getElem? er1)
      · rw [eG er1] at hneed
        rw [List.append_assoc]
        exact hneed
    · rw [ea] at c
      rw [if_neg c] at hneed
      exact ⟨⟨_, _, _, rfl⟩, s34, ws, bs, sts, ask, s4 _ _ hS3, hst.imp fun t xs z => s4.tup z, s4 _ _ hB3, hask, hlen, by omega, by omega, hneed⟩
  · rintro σ H3 ⟨⟨u5, u6, u7, rfl⟩, s3, ws, bs, sts, ask, hS3, hst, hB3, hask, hlen, l1, l2, hneed⟩
    rw [List.drop_eq_nil_of_le (by rw [List.length_reverse]; omega)] at hneed
    rw [needR, List.append_nil] at hneed
    refine ⟨_, rfl, S, ws, rfl, sqL_new hS3, fun t ht => ?_⟩
    refine q t ws.reverse _ (s3.trans (same_new' ht _)) ?_ upd_same ?_
    · cases e5 : H t with
      | none => rfl
      | some o => rw [s3 _ _ e5] at ht; cases ht
    · rw [← hneed]
      exact Paired.rev ((hst.imp fun t' xs z => (same_new' ht _).tup z))
end
end Nb
namespace Nb
open PySem L2
noncomputable abbrev sShInit : Stmt := inClass (top 3) 0
noncomputable abbrev sShPut : Stmt := inClass (top 3) 1
noncomputable abbrev sShLine : Stmt := inClass (top 3) 2
theorem n_lr : ¬ (("rows" : Str) = "lines") := by decide +kernel
theorem n_pr : ¬ (("rows" : Str) = "places") := by decide +kernel
theorem n_pl : ¬ (("lines" : Str) = "places") := by decide +kernel
noncomputable def shF (m : Int) (L D : Addr) : List (Str × V) := putF "places" (.ref D) (putF "lines" (.ref L) (putF "rows" (.int m) []))
theorem shF2 (m : Int) (L : Addr) : putF "lines" (.ref L) (putF "rows" (.int m) []) = ([("rows", V.int m), ("lines", V.ref L)] : List (Str × V)) := by
  show (if ("rows" : Str) = "lines" then [(("rows" : Str), V.ref L)] else (("rows" : Str), V.int m) :: putF "lines" (V.ref L) []) = _
  rw [if_neg n_lr]
  rfl
theorem shF_rows (m : Int) (L D : Addr) : (shF m L D).lookup ("rows" : Str) = some (.int m) := by unfold shF; rw [lookup_putF, if_neg n_pr, lookup_putF, if_neg n_lr, lookup_putF, if_pos rfl]
theorem shF_lines (m : Int) (L D : Addr) : (shF m L D).lookup ("lines" : Str) = some (.ref L) := by unfold shF; rw [lookup_putF, if_neg n_pl, lookup_putF, if_pos rfl]
theorem shF_places (m : Int) (L D : Addr) : (shF m L D).lookup ("places" : Str) = some (.ref D) := by unfold shF; rw [lookup_putF, if_pos rfl]
theorem shF_no (m : Int) (L D : Addr) {x : Str} (h1 : ¬ x = "places") (h2 : ¬ x = "lines") (h3 : ¬ x = "rows") : (shF m L D).lookup x = none := by
  unfold shF; rw [lookup_putF, if_neg h1, lookup_putF, if_neg h2, lookup_putF, if_neg h3]; rfl
structure ShAt (C : Addr) (H : Hp) (p L D : Addr) (m : Int) (us : List V) (kvs : List (Key × V)) : Prop where
  ob : ∃ dx, H p = some (.ins C dx (shF m L D))
  ln : H L = some (.lst us)
  pl : H D = some (.dK kvs)
theorem ShAt.same {C : Addr} {H H' : Hp} {p L D : Addr} {m : Int} {us : List V} {kvs : List (Key × V)} (h : ShAt C H p L D m us kvs) (e : Same H H') : ShAt C H' p L D m us kvs := by
  obtain ⟨⟨dx, h1⟩, h2, h3⟩ := h
  exact ⟨⟨dx, e _ _ h1⟩, e _ _ h2, e _ _ h3⟩
noncomputable def spSInit (C : Addr) : Sp := fun vs H Q _ => ∃ (p dx : Addr) (m : Int), vs = [.ref p, .int m] ∧ H p = some (.ins C dx []) ∧ ∀ (L D : Addr) (H' : Hp), H L = none → H D = none → ShAt C H' p L D m [] [] → (∀ b o, H b = some o → b ≠ p → H' b = some o) → Q .non H'
noncomputable def spSPut (C : Addr) : Sp := fun vs H Q _ => ∃ (p L D : Addr) (m : Int) (us : List V) (kvs : List (Key × V)) (v : V), vs = [.ref p, v] ∧ ShAt C H p L D m us kvs ∧ us.length ≤ 1000 ∧ Q (.int ((us.length : Nat) : Int)) (upd H L (.lst (us ++ [v])))
noncomputable def lineV (m k : Int) : List V := if k < m then [.str "given", .int k] else [.str "better"]
noncomputable def spSLine (K : PySem.W.Frag) (C : Addr) : Sp := fun vs H Q _ => ∃ (p L D : Addr) (m k : Int) (us : List V) (kvs : List (Key × V)), vs = [.ref p, .int k] ∧ ShAt C H p L D m us kvs ∧ us.length ≤ 1000 ∧ kvs.length ≤ 1000 ∧
  (∀ v, valV kvs (Sum.inl k) = some v → Q v H) ∧ (valV kvs (Sum.inl k) = none → ∀ (t : Addr) (H' : Hp), H t = none → SqT K H' t (lineV m k) → ShAt C H' p L D m (us ++ [.ref t]) (putK kvs (Sum.inl k) (.int ((us.length : Nat) : Int))) → (∀ b o, H b = some o → b ≠ L → b ≠ D → H' b = some o) → Q (.int ((us.length : Nat) : Int)) H')
structure ShTxt (K : PySem.W.Frag) (mg : Str → Option Value) (C : Addr) : Prop where
  cl : Cls K C
  nR : NoAttr K C "rows"
  nL : NoAttr K C "lines"
  nP : NoAttr K C "places"
  mgC : mg "Sheet" = some (.ref C)
section
variable {P : Program} {w : World} {K : PySem.W.Frag} {mg : Str → Option Value} {base : Heap}
theorem scShI : FnScope ["self", "rows"] ["self", "rows"] (defScope sShInit) := ⟨rfl, rfl, rfl, by decide +kernel, rfl, by decide +kernel, by decide +kernel⟩
theorem okShI {f C : Addr} {fd : FuncData} (F : Fun K "__init__" "Sheet.__init__" sShInit f fd) (T : ShTxt K mg C) : FnOk P w K mg base CX0 1 f fd ["self", "rows"] (spSInit C) := by
  refine F.ok scShI (fun vs H Q E h => ?_) (fun cdv A outer s H vs Q E hr h => ?_)
  · obtain ⟨p, dx, m, rfl, _⟩ := h
    rfl
  · obtain ⟨p, dx, m, rfl, hp, k⟩ := h
    refine ⟨_, pss_cons (ps_fld (pv 0) (pv 1) rfl) (pss_cons (ps_fld (pv 0) (pe_lst pa_nil) rfl) (pss_one (ps_fld (pv 0) pe_dnewK rfl))), ?_⟩
    refine ⟨_, rfl, _, rfl, p, C, dx, [], rfl, hp, T.cl, T.nR, (by show 0 < 1000; decide), ?_⟩
    refine ⟨by show 0 ≤ sizeLine; decide, fun L hL => ?_⟩
    have nL : p ≠ L := fun z => by rw [← z, upd_same] at hL; cases hL
    have hL0 : H L = none := by rw [upd_ne nL.symm] at hL; exact hL
    refine ⟨_, rfl, p, C, dx, _, rfl, (by rw [upd_ne nL]; exact upd_same), T.cl, T.nL, (by show 1 < 1000; decide), ?_⟩
    intro D hD
    have nD : p ≠ D := fun z => by rw [← z, upd_same] at hD; cases hD
    have nLD : L ≠ D := fun z => by rw [← z, upd_ne nL.symm, upd_same] at hD; cases hD
    have hD0 : H D = none := by rw [upd_ne nD.symm, upd_ne nLD.symm, upd_ne nD.symm] at hD; exact hD
    refine ⟨_, rfl, p, C, dx, _, rfl, (by rw [upd_ne nD]; exact upd_same), T.cl, T.nP, (by show (putF "lines" (V.ref L) (putF "rows" (V.int m) [])).length < 1000; rw [shF2]; show 2 < 1000; decide), ?_⟩
    refine k L D _ hL0 hD0 ⟨⟨dx, upd_same⟩, ?_, ?_⟩ fun b o e hb => ?_
    · rw [upd_ne nL.symm, upd_ne nLD, upd_ne nL.symm, upd_same]
    · rw [upd_ne nD.symm, upd_same]
    · rw [upd_ne hb, upd_ne (ne_of_none e hD0), upd_ne hb, upd_ne (ne_of_none e hL0), upd_ne hb]
      exact e
theorem scShP : FnScope ["self", "line"] ["self", "line"] (defScope sShPut) := ⟨rfl, rfl, rfl, by decide +kernel, rfl, by decide +kernel, by decide +kernel⟩
theorem okShP {f C : Addr} {fd : FuncData} (F : Fun K "put" "Sheet.put" sShPut f fd) (M : Mg mg) (T : ShTxt K mg C) : FnOk P w K mg base CX0 1 f fd ["self", "line"] (spSPut C) := by
  refine F.ok scShP (fun vs H Q E h => ?_) (fun cdv A outer s H vs Q E hr h => ?_)
  · obtain ⟨p, L, D, m, us, kvs, v, rfl, _⟩ := h
    rfl
  · obtain ⟨p, L, D, m, us, kvs, v, rfl, S, hl, q⟩ := h
    have hz : (100000 : Nat) < sizeLine := by decide
    obtain ⟨⟨dx, h1⟩, h2, h3⟩ := id S
    refine ⟨_, pss_cons (ps_expr (pe_bm PySem.F.plainAttrs_list PySem.F.slot_list_append PySem.F.type_list_append mt_append (pe_fld (pv 0) rfl) (pa_cons (pv 1) pa_nil)))
      (pss_one (ps_ret (pe_op op_sub (pe_callB call_len_seq rfl M.len bt_len (pa_cons (pe_fld (pv 0) rfl) pa_nil)) pe_int))), ?_⟩
    refine ⟨_, rfl, p, C, dx, _, _, rfl, h1, T.cl, T.nL, shF_lines _ _ _, .inl ⟨rfl, _, sqL_new h2⟩, _, rfl, L, _, _, rfl, rfl, h2, by omega, ?_⟩
    have npL : p ≠ L := ne_of h1 h2 (by intro z; cases z)
    refine ⟨_, rfl, p, C, dx, _, _, rfl, (by rw [upd_ne npL]; exact h1), T.cl, T.nL, shF_lines _ _ _, L, _, rfl, .inl (sqL_new upd_same), _, _, rfl, rfl, ?_⟩
    have e : (((us ++ [v]).length : Nat) : Int) - 1 = ((us.length : Nat) : Int) := by rw [List.length_append]; show (((us.length + 1 : Nat)) : Int) - 1 = _; omega
    show Q (.int ((((us ++ [v]).length : Nat) : Int) - 1)) _
    rw [e]
    exact q
theorem scShL : FnScope ["self", "number", "line"] ["self", "number"] (defScope sShLine) := ⟨rfl, rfl, rfl, by decide +kernel, rfl, by decide +kernel, by decide +kernel⟩
theorem okShL {f C fP : Addr} {fd fdP : FuncData} (F : Fun K "line_of" "Sheet.line_of" sShLine f fd) (M : Mg mg) (T : ShTxt K mg C) (GP : FnOk P w K mg base CX0 1 fP fdP ["self", "line"] (spSPut C)) (bP : Binds K fdP ["self", "line"] []) (mP : Meth K C "put" fP) : FnOk P w K mg base CX0 2 f fd ["self", "number"] (spSLine K C) := by
  refine F.ok scShL (fun vs H Q E h => ?_) (fun cdv A outer s H vs Q E hr h => ?_)
  · obtain ⟨p, L, D, m, k, us, kvs, rfl, _⟩ := h
    rfl
  · obtain ⟨p, L, D, m, k, us, kvs, rfl, S, hl, hk, q1, q2⟩ := h
    have hz : (100000 : Nat) < sizeLine := by decide
    have hu := hu_of hr
    have hr1 : Room 1 _ := hr.mono (by decide)
    obtain ⟨⟨dx, h1⟩, h2, h3⟩ := id S
    have npL : p ≠ L := ne_of h1 h2 (by intro z; cases z)
    have npD : p ≠ D := ne_of h1 h3 (by intro z; cases z)
    have nLD : L ≠ D := ne_of h2 h3 (by intro z; cases z)
    refine ⟨_, pss_cons (ps_if (pt_cmp (pc_dnotin hu (pv 1) (pe_fld (pv 0) rfl)))
        (pss_cons (ps_set (i := 2) scShL.nd rfl (Or.inl rfl) (pe_ifExp (pt_cmpR op_lt (pv 1) (pe_fld (pv 0) rfl) (nomark _)) (pe_tup (pa_cons pe_str (pa_cons (pv 1) pa_nil))) (pe_tup (pa_cons pe_str pa_nil))))
        (pss_one (ps_dput hu (pe_fld (pv 0) rfl) (pv 1) (pe_meth (pv 0) T.cl mP GP hr1 bP .nil pass0 (pa_cons (pv 2) pa_nil)) rfl))) pss_nil)
      (pss_one (ps_ret (pe_dget hu (pe_fld (pv 0) rfl) (pv 1) (fun _ _ => rfl)))), ?_⟩
    refine ⟨_, rfl, _, rfl, p, C, dx, _, _, rfl, h1, T.cl, T.nP, shF_places _ _ _, D, _, rfl, DGet.k (k := Sum.inl k) h3, _, rfl, ?_⟩
    cases e : valV kvs (Sum.inl k : Key) with
    | some v =>
      have hg := DGet.k (k := Sum.inl k) h3
      rw [e] at hg
      exact iteF ⟨_, rfl, p, C, dx, _, _, rfl, h1, T.cl, T.nP, shF_places _ _ _, _, rfl, D, v, rfl, hg, q1 v e⟩
    | none =>
      have q3 := q2 e
      refine iteT ⟨_, rfl, _, rfl, p, C, dx, _, _, rfl, h1, T.cl, T.nR, shF_rows _ _ _, _, _, rfl, rfl, _, rfl, ite2 (fun c => ⟨_, rfl, by show 2 ≤ sizeLine; decide, fun t ht => ?_⟩) (fun c => ⟨by show 1 ≤ sizeLine; decide, fun t ht => ?_⟩)⟩
      · have ex : lineV m k = [V.str "given", V.int k] := if_pos (of_decide_eq_true c)
        rw [← ex]
        have s1 := same_new' ht (.tup (lineV m k))
        have hT : SqT K (upd H t (.tup (lineV m k))) t (lineV m k) := sqT_new upd_same
        generalize upd H t (.tup (lineV m k)) = H1 at s1 hT ⊢
        refine ⟨_, rfl, p, dx, _, rfl, s1 _ _ h1, shF_no _ _ _ (by decide +kernel) (by decide +kernel) (by decide +kernel), _, rfl, p, L, D, m, us, kvs, .ref t, rfl, S.same s1, hl, ?_⟩
        have h12 : upd H1 L (.lst (us ++ [.ref t])) p = some (.ins C dx (shF m L D)) := by rw [upd_ne npL]; exact s1 _ _ h1
        have h32 : upd H1 L (.lst (us ++ [.ref t])) D = some (.dK kvs) := by rw [upd_ne nLD.symm]; exact s1 _ _ h3
        refine ⟨_, rfl, p, C, dx, _, _, rfl, h12, T.cl, T.nP, shF_places _ _ _, _, rfl, D, _, rfl, DPut.k (k := Sum.inl k) h32 (by omega), ?_⟩
        have h13 : upd (upd H1 L (.lst (us ++ [.ref t]))) D (.dK (putK kvs (Sum.inl k) (.int ((us.length : Nat) : Int)))) p = some (.ins C dx (shF m L D)) := by rw [upd_ne npD]; exact h12
        have hgD : DGet (upd (upd H1 L (.lst (us ++ [.ref t]))) D (.dK (putK kvs (Sum.inl k) (.int ((us.length : Nat) : Int))))) D (.int k) (some (.int ((us.length : Nat) : Int))) := by
          have := DGet.k (k := Sum.inl k) (show upd (upd H1 L (.lst (us ++ [.ref t]))) D (.dK (putK kvs (Sum.inl k) (.int ((us.length : Nat) : Int)))) D = some (.dK (putK kvs (Sum.inl k) (.int ((us.length : Nat) : Int)))) from upd_same)
          rw [valV_put, if_pos rfl] at this
          exact this
        refine ⟨_, rfl, p, C, dx, _, _, rfl, h13, T.cl, T.nP, shF_places _ _ _, _, rfl, D, _, rfl, hgD, ?_⟩
        refine q3 t _ ht (SqT_updO h32 (fun _ z => nomatch z) (fun _ _ z => nomatch z) (SqT_upd (s1 _ _ h2) hT)) ⟨⟨dx, h13⟩, by rw [upd_ne nLD, upd_same], upd_same⟩ fun b o e' hb1 hb2 => ?_
        rw [upd_ne hb2, upd_ne hb1]
        exact s1 _ _ e'
      · have ex : lineV m k = [V.str "better"] := if_neg fun z => c (decide_eq_true z)
        rw [← ex]
        have s1 := same_new' ht (.tup (lineV m k))
        have hT : SqT K (upd H t (.tup (lineV m k))) t (lineV m k) := sqT_new upd_same
        generalize upd H t (.tup (lineV m k)) = H1 at s1 hT ⊢
        refine ⟨_, rfl, p, dx, _, rfl, s1 _ _ h1, shF_no _ _ _ (by decide +kernel) (by decide +kernel) (by decide +kernel), _, rfl, p, L, D, m, us, kvs, .ref t, rfl, S.same s1, hl, ?_⟩
        have h12 : upd H1 L (.lst (us ++ [.ref t])) p = some (.ins C dx (shF m L D)) := by rw [upd_ne npL]; exact s1 _ _ h1
        have h32 : upd H1 L (.lst (us ++ [.ref t])) D = some (.dK kvs) := by rw [upd_ne nLD.symm]; exact s1 _ _ h3
        refine ⟨_, rfl, p, C, dx, _, _, rfl, h12, T.cl, T.nP, shF_places _ _ _, _, rfl, D, _, rfl, DPut.k (k := Sum.inl k) h32 (by omega), ?_⟩
        have h13 : upd (upd H1 L (.lst (us ++ [.ref t]))) D (.dK (putK kvs (Sum.inl k) (.int ((us.length : Nat) : Int)))) p = some (.ins C dx (shF m L D)) := by rw [upd_ne npD]; exact h12
        have hgD : DGet (upd (upd H1 L (.lst (us ++ [.ref t]))) D (.dK (putK kvs (Sum.inl k) (.int ((us.length : Nat) : Int))))) D (.int k) (some (.int ((us.length : Nat) : Int))) := by
          have := DGet.k (k := Sum.inl k) (show upd (upd H1 L (.lst (us ++ [.ref t]))) D (.dK (putK kvs (Sum.inl k) (.int ((us.length : Nat) : Int)))) D = some (.dK (putK kvs (Sum.inl k) (.int ((us.length : Nat) : Int)))) from upd_same)
          rw [valV_put, if_pos rfl] at this
          exact this
        refine ⟨_, rfl, p, C, dx, _, _, rfl, h13, T.cl, T.nP, shF_places _ _ _, _, rfl, D, _, rfl, hgD, ?_⟩
        refine q3 t _ ht (SqT_updO h32 (fun _ z => nomatch z) (fun _ _ z => nomatch z) (SqT_upd (s1 _ _ h2) hT)) ⟨⟨dx, h13⟩, by rw [upd_ne nLD, upd_same], upd_same⟩ fun b o e' hb1 hb2 => ?_
        rw [upd_ne hb2, upd_ne hb1]
        exact s1 _ _ e'
end
end Nb
namespace Nb
open PySem L2
inductive Ln where
  | giv (k : Nat)
  | bet
  | shut (s : Nat) (hs : List (Int × Int))
  | eith (i j c : Nat)
noncomputable def shN (hs : List (Int × Int)) (j : Nat) : Int := match hv hs j with
  | none => 0
  | some w => 1 - 2 * w
noncomputable def shutR (n : Nat) (hs : List (Int × Int)) : List Int × Int := ((List.range n).map (shN hs), 1 - (hs.map (·.2)).sum)
noncomputable def eithR (a b : List Int × Int) (c : Nat) : List Int × Int := (a.1.set c 0, min (a.2 - a.1.getD c 0) b.2)
noncomputable def TellsL (n m : Nat) (rs heard : List (List Int × Int)) : Ln → List Int × Int → Prop
  | .giv k, r => k < m ∧ rs[k]? = some r
  | .bet, r => rs.length = m + 1 ∧ rs[m]? = some r
  | .shut s hs, r => ∃ r0, heard[s]? = some r0 ∧ Good n hs ∧ roomF n (hv hs) r0 < 0 ∧ r = shutR n hs
  | .eith i j c, r => ∃ a b, heard[i]? = some a ∧ heard[j]? = some b ∧ c < n ∧ a.1.length = n ∧ b.1.length = n ∧ (∀ k, k < n → k ≠ c → a.1.getD k 0 = b.1.getD k 0) ∧ r = eithR a b c
inductive Told (n m : Nat) (rs : List (List Int × Int)) : List Ln → List (List Int × Int) → Prop
  | nil : Told n m rs [] []
  | snoc {ls : List Ln} {hd : List (List Int × Int)} {l : Ln} {r : List Int × Int} : Told n m rs ls hd → TellsL n m rs hd l r → Told n m rs (ls ++ [l]) (hd ++ [r])
theorem Told.length {n m : Nat} {rs : List (List Int × Int)} {ls : List Ln} {hd : List (List Int × Int)} (h : Told n m rs ls hd) : ls.length = hd.length := by
  induction h with
  | nil => rfl
  | snoc _ _ ih => rw [List.length_append, List.length_append, ih]; rfl
theorem shut_len (n : Nat) (hs : List (Int × Int)) : (shutR n hs).1.length = n := by show ((List.range n).map (shN hs)).length = n; rw [List.length_map, List.length_range]
theorem shut_getD {n : Nat} {hs : List (Int × Int)} {k : Nat} (hk : k < n) : (shutR n hs).1.getD k 0 = shN hs k := by
  show ((List.range n).map (shN hs)).getD k 0 = _
  rw [List.getD_eq_getElem?_getD, List.getElem?_map, List.getElem?_range hk]
  rfl
theorem sum_snoc (h : List (Int × Int)) (c w : Int) : ((h ++ [(c, w)]).map (·.2)).sum = (h.map (·.2)).sum + w := by
  rw [List.map_append, List.sum_append]
  show _ + (w + 0) = _
  omega
theorem shN_app {h : List (Int × Int)} {c : Nat} {w : Int} (hf : hv h c = none) (k : Nat) : shN (h ++ [((c : Int), w)]) k = if k = c then 1 - 2 * w else shN h k := by
  unfold shN
  rw [hv_app _ _ _ hf]
  unfold setF
  by_cases e : k = c
  · rw [if_pos e, if_pos e]
  · rw [if_neg e, if_neg e]
theorem eith_shut {n c : Nat} {h : List (Int × Int)} (hc : c < n) (hf : hv h c = none) : eithR (shutR n (h ++ [((c : Int), 1)])) (shutR n (h ++ [((c : Int), 0)])) c = shutR n h := by
  unfold eithR
  rw [shut_getD hc, shN_app hf, if_pos rfl]
  refine Prod.ext ?_ ?_
  · refine List.ext_getElem? fun k => ?_
    rw [List.getElem?_set]
    show (if c = k then if c < ((List.range n).map (shN (h ++ [((c : Int), 1)]))).length then some 0 else none else ((List.range n).map (shN (h ++ [((c : Int), 1)])))[k]?) = ((List.range n).map (shN h))[k]?
    rw [List.length_map, List.length_range, List.getElem?_map, List.getElem?_map]
    by_cases e : c = k
    · subst e
      rw [if_pos rfl, if_pos hc, List.getElem?_range hc]
      show some 0 = some (shN h c)
      unfold shN
      rw [hf]
    · rw [if_neg e]
      by_cases hk : k < n
      · rw [List.getElem?_range hk]
        show some (shN _ k) = some (shN h k)
        rw [shN_app hf, if_neg (fun z => e z.symm)]
      · rw [List.getElem?_eq_none (by rw [List.length_range]; omega)]
        rfl
  · show min (1 - ((h ++ [((c : Int), (1 : Int))]).map fun (p : Int × Int) => p.2).sum - (1 - 2 * 1)) (1 - ((h ++ [((c : Int), (0 : Int))]).map fun (p : Int × Int) => p.2).sum) = 1 - (h.map fun (p : Int × Int) => p.2).sum
    rw [sum_snoc, sum_snoc]
    omega
theorem tells_eith {n m c : Nat} {rs hd : List (List Int × Int)} {h : List (Int × Int)} {i j : Nat} (hc : c < n) (hf : hv h c = none) (h1 : hd[i]? = some (shutR n (h ++ [((c : Int), 1)]))) (h0 : hd[j]? = some (shutR n (h ++ [((c : Int), 0)]))) : TellsL n m rs hd (.eith i j c) (shutR n h) :=
  ⟨_, _, h1, h0, hc, shut_len _ _, shut_len _ _, fun k hk ne => by rw [shut_getD hk, shut_getD hk, shN_app hf, shN_app hf, if_neg ne, if_neg ne], (eith_shut hc hf).symm⟩
noncomputable def LineAt (K : PySem.W.Frag) (H0 H : Hp) (v : V) : Ln → Prop
  | .giv k => ∃ t, v = .ref t ∧ SqT K H t [.str "given", .int ((k : Nat) : Int)]
  | .bet => ∃ t, v = .ref t ∧ SqT K H t [.str "better"]
  | .shut s hs => ∃ t l ws, v = .ref t ∧ SqT K H t [.str "shut", .int ((s : Nat) : Int), .ref l] ∧ H0 l = none ∧ H l = some (.lst ws) ∧ PairsAre K H ws (hs.map fun p => (p.1, V.int p.2))
  | .eith i j c => ∃ t, v = .ref t ∧ SqT K H t [.str "either", .int ((i : Nat) : Int), .int ((j : Nat) : Int), .int ((c : Nat) : Int)]
theorem LineAt.imp {K : PySem.W.Frag} {H0 H H' : Hp} {v : V} (f : ∀ t xs, SqT K H t xs → SqT K H' t xs) (g : ∀ b ws, H0 b = none → H b = some (.lst ws) → H' b = some (.lst ws)) : ∀ {l : Ln}, LineAt K H0 H v l → LineAt K H0 H' v l
  | .giv _, ⟨t, e, h⟩ => ⟨t, e, f _ _ h⟩
  | .bet, ⟨t, e, h⟩ => ⟨t, e, f _ _ h⟩
  | .shut _ _, ⟨t, l, ws, e, h, h1, h2, h3⟩ => ⟨t, l, ws, e, f _ _ h, h1, g _ _ h1 h2, Paired.mapP h3 fun _ _ ⟨t, e, z⟩ => ⟨t, e, f _ _ z⟩⟩
  | .eith _ _ _, ⟨t, e, h⟩ => ⟨t, e, f _ _ h⟩
noncomputable def LinesAre (K : PySem.W.Frag) (H0 H : Hp) : List V → List Ln → Prop := Paired (LineAt K H0 H)
theorem LinesAre.imp {K : PySem.W.Frag} {H0 H H' : Hp} {us : List V} {ls : List Ln} (f : ∀ t xs, SqT K H t xs → SqT K H' t xs) (g : ∀ b ws, H0 b = none → H b = some (.lst ws) → H' b = some (.lst ws)) (h : LinesAre K H0 H us ls) : LinesAre K H0 H' us ls := Paired.mapP h fun _ _ z => LineAt.imp f g z
theorem paired_snoc {α β : Type} {R : α → β → Prop} {xs : List α} {ys : List β} {x : α} {y : β} (h : Paired R xs ys) (z : R x y) : Paired R (xs ++ [x]) (ys ++ [y]) := by
  induction h with
  | nil => exact .cons z .nil
  | cons z' _ ih => exact .cons z' ih
noncomputable def ShOk (K : PySem.W.Frag) (C : Addr) (H0 H : Hp) (p L D : Addr) (n m : Nat) (rs heard : List (List Int × Int)) (N : Nat) : Prop := ∃ us kvs lns, ShAt C H p L D (m : Int) us kvs ∧ LinesAre K H0 H us lns ∧ Told n m rs lns heard ∧ (∀ (k : Int) v, valV kvs (Sum.inl k) = some v → ∃ (i : Nat) (r : List Int × Int), v = .int (i : Int) ∧ heard[i]? = some r ∧ rs[k.toNat]? = some r) ∧ us.length ≤ N ∧ kvs.length ≤ N
theorem ShOk.same {K : PySem.W.Frag} {C : Addr} {H0 H H' : Hp} {p L D : Addr} {n m N : Nat} {rs heard : List (List Int × Int)} (h : ShOk K C H0 H p L D n m rs heard N) (e : Same H H') : ShOk K C H0 H' p L D n m rs heard N := by
  obtain ⟨us, kvs, lns, h1, h2, h3⟩ := h
  exact ⟨us, kvs, lns, h1.same e, h2.imp (fun _ _ z => e.tup z) (fun _ _ _ z => e _ _ z), h3⟩
theorem ShOk.other {K : PySem.W.Frag} {C : Addr} {H0 H : Hp} {p L D g : Addr} {n m N : Nat} {rs heard : List (List Int × Int)} {xs ys : List V} (h : ShOk K C H0 H p L D n m rs heard N) (hg : H g = some (.lst xs)) (ne : g ≠ L) (h0 : H0 g ≠ none) : ShOk K C H0 (upd H g (.lst ys)) p L D n m rs heard N := by
  obtain ⟨us, kvs, lns, ⟨⟨dx, a1⟩, a2, a3⟩, h2, h3⟩ := h
  refine ⟨us, kvs, lns, ⟨⟨dx, ?_⟩, ?_, ?_⟩, h2.imp (fun _ _ z => SqT_upd hg z) (fun b ws e z => ?_), h3⟩
  · rw [upd_ne (ne_of a1 hg (by intro z; cases z))]; exact a1
  · rw [upd_ne ne.symm]; exact a2
  · rw [upd_ne (ne_of a3 hg (by intro z; cases z))]; exact a3
  · rw [upd_ne (fun (y : b = g) => h0 (by rw [← y]; exact e))]; exact z
theorem sqT_frame {K : PySem.W.Frag} {H H' : Hp} {L D : Addr} {us : List V} {kvs : List (Key × V)} (h1 : H L = some (.lst us)) (h2 : H D = some (.dK kvs)) (fr : ∀ b o, H b = some o → b ≠ L → b ≠ D → H' b = some o) {t : Addr} {xs : List V} (h : SqT K H t xs) : SqT K H' t xs := by
  rcases h with (h | ⟨p, h⟩) | h
  · exact .inl (.inl (fr _ _ h (ne_of h h1 (by intro z; cases z)) (ne_of h h2 (by intro z; cases z))))
  · exact .inl (.inr ⟨p, fr _ _ h (ne_of h h1 (by intro z; cases z)) (ne_of h h2 (by intro z; cases z))⟩)
  · exact .inr h
theorem put_inv {K : PySem.W.Frag} {C : Addr} {H0 H : Hp} {p L D : Addr} {n m N : Nat} {rs heard : List (List Int × Int)} {v : V} {ln : Ln} {r : List Int × Int} {Q : VK} {E : XK} (h : ShOk K C H0 H p L D n m rs heard N) (hN : N ≤ 900) (hL : H0 L ≠ none) (hl : LineAt K H0 H v ln) (ht : TellsL n m rs heard ln r)
    (q : ∀ H', ShOk K C H0 H' p L D n m rs (heard ++ [r]) (N + 1) → (∀ b o, H b = some o → b ≠ L → H' b = some o) → (∀ t xs, SqT K H t xs → SqT K H' t xs) → Q (.int ((heard.length : Nat) : Int)) H') : spSPut C [.ref p, v] H Q E := by
  obtain ⟨us, kvs, lns, A, h2, h3, h4, h5, h6⟩ := h
  have l1 := Paired.length h2
  have l2 := h3.length
  refine ⟨p, L, D, m, us, kvs, v, rfl, A, by omega, ?_⟩
  obtain ⟨⟨dx, a1⟩, a2, a3⟩ := A
  rw [show us.length = heard.length by omega]
  refine q _ ⟨us ++ [v], kvs, lns ++ [ln], ⟨⟨dx, ?_⟩, upd_same, ?_⟩, paired_snoc (h2.imp (fun _ _ z => SqT_upd a2 z) fun b ws e z => ?_) (hl.imp (fun _ _ z => SqT_upd a2 z) fun b ws e z => ?_), h3.snoc ht, fun k v e => ?_, by rw [List.length_append]; exact Nat.add_le_add_right h5 1, by omega⟩ (fun b o e ne => by rw [upd_ne ne]; exact e) fun _ _ z => SqT_upd a2 z
  · rw [upd_ne (ne_of a1 a2 (by intro z; cases z))]; exact a1
  · rw [upd_ne (ne_of a3 a2 (by intro z; cases z))]; exact a3
  · rw [upd_ne (fun (y : b = L) => hL (by rw [← y]; exact e))]; exact z
  · rw [upd_ne (fun (y : b = L) => hL (by rw [← y]; exact e))]; exact z
  · obtain ⟨i, r', e1, e2, e3⟩ := h4 k v e
    exact ⟨i, r', e1, by rw [List.getElem?_append_left (List.getElem?_eq_some_iff.mp e2).1]; exact e2, e3⟩
theorem line_inv {K : PySem.W.Frag} {C : Addr} {H0 H : Hp} {p L D : Addr} {n m N k : Nat} {rs heard : List (List Int × Int)} {Q : VK} {E : XK} (h : ShOk K C H0 H p L D n m rs heard N) (hN : N ≤ 900) (hL : H0 L ≠ none) (hk : k < rs.length) (hm : rs.length ≤ m + 1)
    (q : ∀ (H' : Hp) (hd' : List (List Int × Int)) (i : Nat), ShOk K C H0 H' p L D n m rs hd' (N + 1) → (∀ (j : Nat) (r : List Int × Int), heard[j]? = some r → hd'[j]? = some r) → hd'[i]? = some (rs.getD k ([], 0)) → (∀ b o, H b = some o → b ≠ L → b ≠ D → H' b = some o) → (∀ t xs, SqT K H t xs → SqT K H' t xs) → Q (.int ((i : Nat) : Int)) H') : spSLine K C [.ref p, .int ((k : Nat) : Int)] H Q E := by
  obtain ⟨us, kvs, lns, A, h2, h3, h4, h5, h6⟩ := id h
  have l1 := Paired.length h2
  have l2 := h3.length
  obtain ⟨r0, er0⟩ : ∃ r, rs[k]? = some r := ⟨_, List.getElem?_eq_getElem hk⟩
  have eg : rs.getD k ([], 0) = r0 := getD_ofA er0
  refine ⟨p, L, D, m, k, us, kvs, rfl, A, by omega, by omega, fun v e => ?_, fun e t H' ht hT A' fr => ?_⟩
  · obtain ⟨i, r, rfl, e2, e3⟩ := h4 k v e
    have e3' : rs[k]? = some r := e3
    rw [er0] at e3'
    cases e3'
    exact q H heard i ⟨us, kvs, lns, A, h2, h3, h4, by omega, by omega⟩ (fun _ _ z => z) (by rw [eg]; exact e2) (fun _ _ z _ _ => z) (fun _ _ z => z)
  · have hup : us.length = heard.length := by omega
    have fT : ∀ t xs, SqT K H t xs → SqT K H' t xs := fun t xs z => sqT_frame A.ln A.pl fr z
    have fl : ∀ b ws, H0 b = none → H b = some (.lst ws) → H' b = some (.lst ws) := fun b ws e z => fr b _ z (fun (y : b = L) => hL (by rw [← y]; exact e)) (ne_of z A.pl (by intro y; cases y))
    have key : ∃ ln, LineAt K H0 H' (.ref t) ln ∧ TellsL n m rs heard ln r0 := by
      by_cases c : k < m
      · refine ⟨.giv k, ⟨t, rfl, ?_⟩, c, er0⟩
        have : lineV (m : Int) (k : Int) = [V.str "given", V.int k] := if_pos (by omega)
        rw [this] at hT
        exact hT
      · refine ⟨.bet, ⟨t, rfl, ?_⟩, by omega, by rw [show m = k by omega]; exact er0⟩
        have : lineV (m : Int) (k : Int) = [V.str "better"] := if_neg (by omega)
        rw [this] at hT
        exact hT
    obtain ⟨ln, hl, ht'⟩ := key
    have lp := putK_len kvs (Sum.inl (k : Int)) (.int ((us.length : Nat) : Int))
    have e9 : (heard ++ [r0])[us.length]? = some r0 := by rw [hup]; simp
    refine q H' (heard ++ [r0]) us.length ⟨us ++ [.ref t], _, lns ++ [ln], A', paired_snoc (h2.imp fT fl) hl, h3.snoc ht', fun k' v' e' => ?_, by rw [List.length_append]; exact Nat.add_le_add_right h5 1, by omega⟩ (fun j r z => by rw [List.getElem?_append_left (List.getElem?_eq_some_iff.mp z).1]; exact z) (by rw [eg]; exact e9) fr fT
    rw [valV_put] at e'
    by_cases ek : (Sum.inl k' : Key) = Sum.inl (k : Int)
    · rw [if_pos ek] at e'
      cases e'
      cases ek
      exact ⟨us.length, r0, rfl, e9, er0⟩
    · rw [if_neg ek] at e'
      obtain ⟨i, r', a1, a2, a3⟩ := h4 k' v' e'
      exact ⟨i, r', a1, by rw [List.getElem?_append_left (List.getElem?_eq_some_iff.mp a2).1]; exact a2, a3⟩
end Nb
namespace Nb
open PySem L2
noncomputable abbrev sPutS : Stmt := top 12
theorem ShOk.weak {K : PySem.W.Frag} {C : Addr} {H0 H1 H : Hp} {p L D : Addr} {n m N : Nat} {rs heard : List (List Int × Int)} (h : ShOk K C H1 H p L D n m rs heard N) (e : Same H0 H1) : ShOk K C H0 H p L D n m rs heard N := by
  obtain ⟨us, kvs, lns, h1, h2, h3⟩ := h
  refine ⟨us, kvs, lns, h1, Paired.mapP h2 fun v l z => ?_, h3⟩
  cases l with
  | giv k => exact z
  | bet => exact z
  | eith i j c => exact z
  | shut s hs =>
    obtain ⟨t, l, ws, a, b, c, d⟩ := z
    refine ⟨t, l, ws, a, b, ?_, d⟩
    cases e5 : H0 l with
    | none => rfl
    | some o => rw [e _ _ e5] at c; cases c
theorem ShOk.more {K : PySem.W.Frag} {C : Addr} {H0 H : Hp} {p L D : Addr} {n m N N' : Nat} {rs heard : List (List Int × Int)} (h : ShOk K C H0 H p L D n m rs heard N) (e : N ≤ N') : ShOk K C H0 H p L D n m rs heard N' := by
  obtain ⟨us, kvs, lns, h1, h2, h3, h4, h5, h6⟩ := h
  exact ⟨us, kvs, lns, h1, h2, h3, h4, by omega, by omega⟩
theorem PairsAre.imp' {K : PySem.W.Frag} {H H' : Hp} {ws : List V} {ps : List (Int × V)} (h : PairsAre K H ws ps) (f : ∀ t xs, SqT K H t xs → SqT K H' t xs) : PairsAre K H' ws ps := Paired.mapP h fun _ _ ⟨t, e, z⟩ => ⟨t, e, f _ _ z⟩
theorem good_held {n : Nat} {rs : List (List Int × Int)} : ∀ (sts : List Trip) (hs : List (Int × Int)), Good n hs → StepsOk n rs hs sts → Good n (heldOf hs sts)
  | [], hs, h, _ => by unfold heldOf; rw [List.map_nil, List.append_nil]; exact h
  | p :: fs, hs, h, z => by
    obtain ⟨p1, p2, p3, p4, p5, h'⟩ := z
    rw [held_cons]
    exact good_held fs _ (h.app p1 p2 p3) h'
theorem steps_pre {n : Nat} {rs : List (List Int × Int)} : ∀ (a b : List Trip) (hs : List (Int × Int)), StepsOk n rs hs (a ++ b) → StepsOk n rs hs a
  | [], _, _, _ => trivial
  | p :: a, b, hs, z => by
    obtain ⟨p1, p2, p3, p4, p5, h'⟩ := z
    exact ⟨p1, p2, p3, p4, p5, steps_pre a b _ h'⟩
theorem ShOk.ob {K : PySem.W.Frag} {C : Addr} {H0 H : Hp} {p L D : Addr} {n m N : Nat} {rs heard : List (List Int × Int)} (h : ShOk K C H0 H p L D n m rs heard N) : ∃ dx, H p = some (.ins C dx (shF (m : Int) L D)) := by
  obtain ⟨us, kvs, lns, h1, _⟩ := h
  exact h1.ob
theorem ShOk.fresh {K : PySem.W.Frag} {C : Addr} {H0 H : Hp} {p L D g b : Addr} {n m N : Nat} {rs heard : List (List Int × Int)} {ws : List V} (h : ShOk K C H0 H p L D n m rs heard N) (hg : H g = some (.lst ws)) (fr : ∀ b o, H0 b = some o → b ≠ L → b ≠ D → b ≠ g → H b = some o) (hb : H b = none) : H0 b = none := by
  obtain ⟨us, kvs, lns, h1, _⟩ := h
  cases e : H0 b with
  | none => rfl
  | some o =>
    have h3 := fr b o e (fun z => by rw [z, h1.ln] at hb; cases hb) (fun z => by rw [z, h1.pl] at hb; cases hb) (fun z => by rw [z, hg] at hb; cases hb)
    rw [hb] at h3; cases h3
theorem paired_drop {α β : Type} {R : α → β → Prop} {xs : List α} {ys : List β} (h : Paired R xs ys) : Paired R xs.dropLast ys.dropLast := by
  induction h with
  | nil => exact .nil
  | cons z t ih =>
    cases t with
    | nil => exact .nil
    | cons z' t' => exact .cons z ih
theorem paired_app {α β : Type} {R : α → β → Prop} {xs : List α} {ys : List β} {xs' : List α} {ys' : List β} (h : Paired R xs ys) (h2 : Paired R xs' ys') : Paired R (xs ++ xs') (ys ++ ys') := by
  induction h with
  | nil => exact h2
  | cons z _ ih => exact .cons z ih
noncomputable def hp2 (hs : List (Int × Int)) : List (Int × V) := hs.map fun p => (p.1, V.int p.2)
noncomputable def spPutS (K : PySem.W.Frag) (C : Addr) : Sp := fun vs H Q _ => ∃ (p L D l g : Addr) (n m k : Nat) (gs : List V) (rs : List (List Int × Int)) (hs : List (Int × Int)) (sts : List Trip), vs = [.ref p, .ref l, .ref g, .int (k : Int)] ∧ ShAt C H p L D (m : Int) [] [] ∧ HoldsAt K H l hs ∧ SqL K H g gs ∧ g ≠ L ∧ TripsAre K H gs sts ∧ Good n hs ∧ StepsOk n rs hs sts ∧ k < rs.length ∧ roomF n (hv (heldOf hs sts)) (rs.getD k ([], 0)) < 0 ∧ rs.length ≤ m + 1 ∧ hs.length ≤ 100 ∧ sts.length ≤ 100 ∧
  ∀ v H' hd, ShOk K C H H' p L D n m rs hd 900 → hd.getLast? = some (shutR n hs) → (∀ b o, H b = some o → b ≠ L → b ≠ D → H' b = some o) → Q v H'
section
variable {P : Program} {w : World} {K : PySem.W.Frag} {mg : Str → Option Value} {base : Heap}
theorem scPutS : FnScope ["sheet", "holds", "steps", "broken", "held", "source", "last", "choice", "worth", "number", "against"] ["sheet", "holds", "steps", "broken"] (defScope sPutS) := ⟨rfl, rfl, rfl, by decide +kernel, rfl, by decide +kernel, by decide +kernel⟩
theorem okPutS {C fP fL : Addr} {fdP fdL : FuncData} (F : Fn K mg "put_steps" sPutS) (M : Mg mg) (T : ShTxt K mg C) (GP : FnOk P w K mg base CX0 1 fP fdP ["self", "line"] (spSPut C)) (bP : Binds K fdP ["self", "line"] []) (mP : Meth K C "put" fP) (GL : FnOk P w K mg base CX0 2 fL fdL ["self", "number"] (spSLine K C)) (bL : Binds K fdL ["self", "number"] []) (mL : Meth K C "line_of" fL) : Cal P w K mg base 3 "put_steps" ["sheet", "holds", "steps", "broken"] (spPutS K C) := by
  refine cal_of F scPutS (fun _ _ _ _ _ _ => bind4 (fun _ _ _ _ => rfl)) (fun vs H Q E h => ?_) (fun f cdv A outer s H vs Q E hr h => ?_)
  · obtain ⟨p, L, D, l, g, n, m, k, gs, rs, hs, sts, rfl, _⟩ := h
    rfl
  obtain ⟨p, L, D, l, g, n, m, k, gs, rs, hs, sts, rfl, S, hh, hg, ngL, htr, hG, hst, hk, hbr, hm, lh, ls, q⟩ := h
  refine ⟨_, (pss_cons (ps_set (i := 4) scPutS.nd rfl (Or.inl rfl) (pe_op op_cat (pe_callTy call_list_of rfl M.list_ bt_list (pa_cons (pv 1) pa_nil)) (pe_lc ["choice", "worth", "number"] [none, none, none] rfl (pi_list (pv 2)) (fun _ _ _ => (pg_trip (K := K) (i := 0) (j := 1) (l := 2) rfl rfl (show (["choice", "worth", "number"] : List Str).Nodup by decide +kernel) rfl rfl rfl rfl rfl rfl)) (fun _ _ _ => pf_nil) (fun _ _ _ => (pe_tup (pa_cons (pv 0) (pa_cons (pv 1) pa_nil)))))))
    (pss_cons (ps_set (i := 5) scPutS.nd rfl (Or.inl rfl) (pe_meth (pv 0) T.cl mL GL (hr.mono (by decide)) bL .nil pass0 ((pa_cons (pv 3) pa_nil))))
    (pss_cons (ps_set (i := 6) scPutS.nd rfl (Or.inl rfl) (pe_meth (pv 0) T.cl mP GP (hr.mono (by decide)) bP .nil pass0 ((pa_cons (pe_tup (pa_cons pe_str (pa_cons (pv 5) (pa_cons (pe_callTy call_list_of rfl M.list_ bt_list (pa_cons (pv 4) pa_nil)) pa_nil)))) pa_nil))))
    (pss_cons (ps_for PassesOwn.never rfl (pi_rev rfl M.reversed_ (pa_cons (pv 2) pa_nil)) (pg_tup rfl (pgs_cons (pg_name (i := 7) scPutS.nd rfl (Or.inl rfl) (Or.inl rfl)) (pgs_cons (pg_name (i := 8) scPutS.nd rfl (Or.inl rfl) (Or.inl rfl)) (pgs_cons (pg_name (i := 9) scPutS.nd rfl (Or.inl rfl) (Or.inl rfl)) pgs_nil)))) (pss_cons (ps_expr (pe_bm0 PySem.F.plainAttrs_list PySem.F.slot_list_pop PySem.F.type_list_pop mt_pop (pv 4)))
    (pss_cons (ps_set (i := 5) scPutS.nd rfl (Or.inl rfl) (pe_meth (pv 0) T.cl mL GL (hr.mono (by decide)) bL .nil pass0 ((pa_cons (pv 9) pa_nil))))
    (pss_cons (ps_set (i := 10) scPutS.nd rfl (Or.inl rfl) (pe_meth (pv 0) T.cl mP GP (hr.mono (by decide)) bP .nil pass0 ((pa_cons (pe_tup (pa_cons pe_str (pa_cons (pv 5) (pa_cons (pe_op op_cat (pv 4) (pe_lst (pa_cons (pe_tup (pa_cons (pv 7) (pa_cons (pe_op op_sub pe_int (pv 8)) pa_nil))) pa_nil))) pa_nil)))) pa_nil))))
    (pss_one (ps_if (pt_cmpR op_eq (pv 8) pe_int (nomark _)) (pss_one (ps_set (i := 6) scPutS.nd rfl (Or.inl rfl) (pe_meth (pv 0) T.cl mP GP (hr.mono (by decide)) bP .nil pass0 ((pa_cons (pe_tup (pa_cons pe_str (pa_cons (pv 6) (pa_cons (pv 10) (pa_cons (pv 7) pa_nil))))) pa_nil))))) (pss_one (ps_set (i := 6) scPutS.nd rfl (Or.inl rfl) (pe_meth (pv 0) T.cl mP GP (hr.mono (by decide)) bP .nil pass0 ((pa_cons (pe_tup (pa_cons pe_str (pa_cons (pv 10) (pa_cons (pv 6) (pa_cons (pv 7) pa_nil))))) pa_nil)))))))))))
    (pss_one (ps_ret (pv 6))))))), ?_⟩
  have hz : (100000 : Nat) < sizeLine := by decide
  have lg := htr.length
  obtain ⟨hvs, hl1, hpa⟩ := id hh
  have lv := hpa.length
  rw [List.length_map] at lv
  refine ⟨_, rfl, l, hvs, rfl, .inl hl1, fun A1 fA1 => ?_⟩
  have s1 := same_new' fA1 (.lst hvs)
  have hA1 : upd H A1 (.lst hvs) A1 = some (.lst hvs) := upd_same
  generalize upd H A1 (.lst hvs) = H1 at s1 hA1 ⊢
  refine ⟨_, rfl, g, rfl, ⟨_, s1.seq hg⟩, fun B1 fB1 => ?_⟩
  refine lc_any (n := sts.length) (fun i τ ys H2 => ∃ v1 v2 v3 : Option V, τ = [v1, v2, v3] ∧ PairsAre K H2 ys (hp2 ((sts.take i).map fun p => ((p.1 : Int), p.2.1))) ∧ H2 B1 = some (.lst ys) ∧ Same H1 H2) ?_ (fun i τ ys H2 hi h => ?_) (fun i τ ys H2 hi h => ?_) (fun τ ys H2 h => ?_) ?_ ?_
  · exact ⟨none, none, none, rfl, .nil, upd_same, same_new' fB1 _⟩
  · obtain ⟨v1, v2, v3, rfl, hp, hE, s2⟩ := h
    exact ⟨hE, by have := hp.length; unfold hp2 at this; rw [List.length_map, List.length_map, List.length_take] at this; omega⟩
  · obtain ⟨v1, v2, v3, rfl, hp, hE, s2⟩ := h
    exact ⟨gs, gs[i]'(by omega), (s1.trans s2).seq hg, List.getElem?_eq_getElem (by omega)⟩
  · obtain ⟨v1, v2, v3, rfl, hp, hE, s2⟩ := h
    exact ⟨gs, (s1.trans s2).seq hg, by omega⟩
  · rintro i τ ys H2 x H3 hi ⟨v1, v2, v3, rfl, hp, hE, s2⟩ ⟨rfl, e1⟩
    have s12 := s1.trans s2
    obtain ⟨t, r, rfl, er, hT⟩ := htr.get (e1 _ (s12.seq hg))
    refine ⟨t, _, rfl, s12.tup hT, rfl, _, _, rfl, _, _, rfl, _, _, rfl, rfl, _, rfl, _, rfl, by show 2 ≤ sizeLine; decide, fun T2 fT2 => ?_⟩
    have s3 := same_new' fT2 (.tup [.int ((r.1 : Nat) : Int), .int r.2.1])
    refine ⟨s3 _ _ hE, _, _, _, rfl, ?_, upd_same, fun b o e => ?_⟩
    · rw [List.take_succ, er]
      unfold hp2
      rw [Option.toList_some, List.map_append, List.map_append]
      exact paired_snoc (PairsAre.imp' (PairsAre.imp' hp fun t xs z => s3.tup z) fun t xs z => SqT_upd (s3 _ _ hE) z) ⟨T2, rfl, SqT_upd (s3 _ _ hE) (sqT_new upd_same)⟩
    · rw [upd_ne (ne_of_none e fB1)]; exact s3 _ _ (s2 _ _ e)
  rintro τ ys H2 ⟨v1, v2, v3, rfl, hp, hB1, s2⟩
  rw [List.take_length] at hp
  have s12 := s1.trans s2
  have ly := hp.length
  unfold hp2 at ly
  rw [List.length_map, List.length_map] at ly
  refine ⟨A1, B1, hvs, ys, rfl, rfl, s2 _ _ hA1, hB1, by omega, fun hl fhl => ?_⟩
  have s3 := s12.trans (same_new' fhl (.lst (hvs ++ ys)))
  have hhl : upd H2 hl (.lst (hvs ++ ys)) hl = some (.lst (hvs ++ ys)) := upd_same
  have hpA : PairsAre K (upd H2 hl (.lst (hvs ++ ys))) (hvs ++ ys) (hp2 (heldOf hs sts)) := by
    unfold hp2 heldOf
    rw [List.map_append]
    have sU := same_new' fhl (.lst (hvs ++ ys))
    refine paired_app (PairsAre.imp' hpa fun t xs z => (s12.trans sU).tup z) (PairsAre.imp' hp fun t xs z => sU.tup z)
  have hlH : H hl = none := by
    cases e5 : H hl with
    | none => rfl
    | some o => rw [s12 _ _ e5] at fhl; cases fhl
  generalize upd H2 hl (.lst (hvs ++ ys)) = H3 at s3 hhl hpA ⊢
  have hL3 : H3 L ≠ none := by rw [s3 _ _ S.ln]; exact fun z => nomatch z
  have hl3 : H3 hl ≠ none := by rw [hhl]; exact fun z => nomatch z
  have nhL : hl ≠ L := fun z => by rw [z, S.ln] at hlH; cases hlH
  have nhD : hl ≠ D := fun z => by rw [z, S.pl] at hlH; cases hlH
  obtain ⟨⟨dx, hp1⟩, _⟩ := id S
  have O3 : ShOk K C H3 H3 p L D n m rs [] 0 := ⟨[], [], [], S.same s3, .nil, .nil, fun k v e => (nomatch (show (none : Option V) = some v from e)), Nat.le_refl _, Nat.le_refl _⟩
  refine ⟨_, rfl, p, dx, _, rfl, s3 _ _ hp1, shF_no _ _ _ (by decide +kernel) (by decide +kernel) (by decide +kernel), _, rfl, line_inv (E := E0) O3 (by omega) hL3 hk hm fun H4 hd i O4 _ hi4 fr4 fT4 => ?_⟩
  have hhl4 : H4 hl = some (.lst (hvs ++ ys)) := fr4 _ _ hhl nhL nhD
  obtain ⟨dx4, hp4⟩ := O4.ob
  refine ⟨_, rfl, p, dx4, _, rfl, hp4, shF_no _ _ _ (by decide +kernel) (by decide +kernel) (by decide +kernel), _, rfl, _, rfl, hl, _, rfl, .inl (sqL_new hhl4), fun L5 fL5 => ?_⟩
  have s5 := same_new' fL5 (.lst (hvs ++ ys))
  have hL5 : upd H4 L5 (.lst (hvs ++ ys)) L5 = some (.lst (hvs ++ ys)) := upd_same
  generalize upd H4 L5 (.lst (hvs ++ ys)) = H5 at s5 hL5 ⊢
  refine ⟨by show 3 ≤ sizeLine; decide, fun T5 fT5 => ?_⟩
  have s6 := same_new' fT5 (.tup [.str "shut", .int ((i : Nat) : Int), .ref L5])
  have hT6 : SqT K (upd H5 T5 (.tup [.str "shut", .int ((i : Nat) : Int), .ref L5])) T5 [.str "shut", .int ((i : Nat) : Int), .ref L5] := sqT_new upd_same
  generalize upd H5 T5 (.tup [.str "shut", .int ((i : Nat) : Int), .ref L5]) = H6 at s6 hT6 ⊢
  have s46 := s5.trans s6
  have hl5n : H3 L5 = none := O4.fresh hhl4 (fun b o e n1 n2 _ => fr4 b o e n1 n2) fL5
  dsimp only [tNil]
  refine put_inv (E := E0) (ln := .shut i (heldOf hs sts)) (r := shutR n (heldOf hs sts)) (O4.same s46) (by omega) hL3 ⟨T5, L5, _, rfl, hT6, hl5n, s6 _ _ hL5, PairsAre.imp' hpA fun t xs z => s46.tup (fT4 _ _ z)⟩ ⟨_, hi4, good_held sts hs hG hst, hbr, rfl⟩ fun H7 O7 fr7 fT7 => ?_
  have fr37 : ∀ b o, H3 b = some o → b ≠ L → b ≠ D → H7 b = some o := fun b o e n1 n2 => fr7 _ _ (s46 _ _ (fr4 b o e n1 n2)) n1
  have fT37 : ∀ t xs, SqT K H3 t xs → SqT K H7 t xs := fun t xs z => fT7 _ _ (s46.tup (fT4 _ _ z))
  have gk : ∀ Hx : Hp, (∀ b o, H3 b = some o → b ≠ L → b ≠ D → b ≠ hl → Hx b = some o) → SqL K Hx g gs := fun Hx fr => by
    rcases hg with (h | ⟨p', h⟩) | h
    · exact .inl (.inl (fr _ _ (s3 _ _ h) ngL (ne_of h S.pl (by intro z; cases z)) (fun z => by rw [z, hlH] at h; cases h)))
    · exact .inl (.inr ⟨p', fr _ _ (s3 _ _ h) ngL (ne_of h S.pl (by intro z; cases z)) (fun z => by rw [z, hlH] at h; cases h)⟩)
    · exact .inr h
  refine ⟨_, rfl, g, gs, rfl, gk _ fun b o e n1 n2 _ => fr37 b o e n1 n2, for_rev (K := K) (a := g) (xs := gs) (fun i σ Hx => ∃ (la : Nat) (u5 u7 u8 u9 u10 : Option V) (hd : List (List Int × Int)) (ws : List V), σ = [some (.ref p), some (.ref l), some (.ref g), some (.int ((k : Nat) : Int)), some (.ref hl), u5, some (.int ((la : Nat) : Int)), u7, u8, u9, u10] ∧ ShOk K C H3 Hx p L D n m rs hd (2 + 3 * i) ∧ Hx hl = some (.lst ws) ∧ PairsAre K Hx ws (hp2 (heldOf hs (sts.take (sts.length - i)))) ∧ hd[la]? = some (shutR n (heldOf hs (sts.take (sts.length - i)))) ∧ la + 1 = hd.length ∧ (∀ b o, H3 b = some o → b ≠ L → b ≠ D → b ≠ hl → Hx b = some o) ∧ (∀ t xs, SqT K H3 t xs → SqT K Hx t xs))
    ⟨hd.length, _, none, none, none, none, _, _, rfl, O7, fr7 _ _ (s46 _ _ hhl4) nhL, ?_, ?_, ?_, fun b o e n1 n2 _ => fr37 b o e n1 n2, fT37⟩ (fun i σ Hx _ h => ?_) ?_ ?_⟩
  · rw [Nat.sub_zero, List.take_length]; exact PairsAre.imp' hpA fT37
  · rw [Nat.sub_zero, List.take_length]; simp
  · simp
  · obtain ⟨la, u5, u7, u8, u9, u10, hd, ws, rfl, O, hw, hpw, hla, hle, fr, fT⟩ := h
    exact gk _ fr
  · rintro i x σ Hx hi e1 ⟨la, u5, u7, u8, u9, u10, hd, ws, rfl, O, hw, hpw, hla, hle, fr, fT⟩
    rw [List.getElem?_reverse hi] at e1
    obtain ⟨t, r, rfl, er, hT⟩ := htr.get e1
    rw [lg] at er hi
    have etake : sts.take (sts.length - i) = sts.take (sts.length - 1 - i) ++ [r] := by rw [show sts.length - i = (sts.length - 1 - i) + 1 by omega, List.take_succ, er]; rfl
    have enext : sts.take (sts.length - (i + 1)) = sts.take (sts.length - 1 - i) := by rw [show sts.length - (i + 1) = sts.length - 1 - i by omega]
    rw [etake, held_snoc] at hpw hla
    have hsp : StepsOk n rs hs (sts.take (sts.length - 1 - i) ++ [r]) := steps_pre _ (sts.drop (sts.length - i)) hs (by rw [← etake, List.take_append_drop]; exact hst)
    generalize sts.take (sts.length - 1 - i) = a at hpw hla etake enext hsp
    obtain ⟨hsa, o1, o2, o3, o4, o5⟩ := steps_snoc.mp hsp
    have hGa := good_held a hs hG hsa
    have ec : (heldOf hs a).length ≤ 200 := by
      have := congrArg List.length etake
      unfold heldOf
      rw [List.length_append, List.length_map]
      rw [List.length_append, List.length_take] at this
      have : a.length ≤ 100 := by have h5 : ([r] : List Trip).length = 1 := rfl; omega
      omega
    refine ⟨t, _, rfl, fT _ _ (s3.tup hT), rfl, _, _, rfl, _, _, rfl, _, _, rfl, rfl, ?_⟩
    have lw := hpw.length
    unfold hp2 at lw
    rw [List.length_map, List.length_append] at lw
    have l1 : ([(((r.1 : Nat) : Int), r.2.1)] : List (Int × Int)).length = 1 := rfl
    refine ⟨_, rfl, .inl ⟨rfl, _, sqL_new hw⟩, hl, ws, _, rfl, rfl, hw, List.getElem?_eq_getElem (by omega), ?_⟩
    have O1 : ShOk K C H3 (upd Hx hl (.lst ws.dropLast)) p L D n m rs hd (2 + 3 * i) := O.other (ys := ws.dropLast) hw nhL hl3
    have hw1 : upd Hx hl (.lst ws.dropLast) hl = some (.lst ws.dropLast) := upd_same
    have hpw1 : PairsAre K (upd Hx hl (.lst ws.dropLast)) ws.dropLast (hp2 (heldOf hs a)) := by
      have h5 := paired_drop hpw
      unfold hp2 at h5
      rw [List.map_append, List.map_cons, List.map_nil, List.dropLast_concat] at h5
      exact PairsAre.imp' h5 fun t xs z => SqT_upd hw z
    have fr1 : ∀ b o, H3 b = some o → b ≠ L → b ≠ D → b ≠ hl → upd Hx hl (.lst ws.dropLast) b = some o := fun b o e n1 n2 n3 => by rw [upd_ne n3]; exact fr b o e n1 n2 n3
    have fT1 : ∀ t xs, SqT K H3 t xs → SqT K (upd Hx hl (.lst ws.dropLast)) t xs := fun t xs z => SqT_upd hw (fT _ _ z)
    have ldl : ws.dropLast.length ≤ 200 := by rw [List.length_dropLast]; omega
    generalize upd Hx hl (.lst ws.dropLast) = Hy at O1 hw1 hpw1 fr1 fT1 ⊢
    generalize ws.dropLast = wd at hw1 hpw1 ldl ⊢
    obtain ⟨dx1, hp1'⟩ := O1.ob
    refine ⟨_, rfl, p, dx1, _, rfl, hp1', shF_no _ _ _ (by decide +kernel) (by decide +kernel) (by decide +kernel), _, rfl, line_inv (E := E0) O1 (by omega) hL3 o4 hm fun H4 hd4 i4 O4 up4 hi4 fr4 fT4 => ?_⟩
    have hw4 := fr4 _ _ hw1 nhL nhD
    obtain ⟨dx4, hp4⟩ := O4.ob
    refine ⟨_, rfl, p, dx4, _, rfl, hp4, shF_no _ _ _ (by decide +kernel) (by decide +kernel) (by decide +kernel), _, rfl, _, rfl, _, rfl, _, rfl, _, _, rfl, rfl, by show 2 ≤ sizeLine; decide, fun T1 fT1' => ?_⟩
    have sa := same_new' fT1' (.tup [.int ((r.1 : Nat) : Int), .int (1 - r.2.1)])
    have hTa : SqT K (upd H4 T1 (.tup [.int ((r.1 : Nat) : Int), .int (1 - r.2.1)])) T1 [.int ((r.1 : Nat) : Int), .int (1 - r.2.1)] := sqT_new upd_same
    generalize upd H4 T1 (.tup [.int ((r.1 : Nat) : Int), .int (1 - r.2.1)]) = Ha at sa hTa ⊢
    refine ⟨by show 1 ≤ sizeLine; decide, fun B2 fB2 => ?_⟩
    have sb := sa.trans (same_new' fB2 (.lst [.ref T1]))
    have hTb : SqT K (upd Ha B2 (.lst [.ref T1])) T1 [.int ((r.1 : Nat) : Int), .int (1 - r.2.1)] := (same_new' fB2 (.lst [.ref T1])).tup hTa
    have hB2 : upd Ha B2 (.lst [.ref T1]) B2 = some (.lst [.ref T1]) := upd_same
    generalize upd Ha B2 (.lst [.ref T1]) = Hb at sb hTb hB2 ⊢
    refine ⟨hl, B2, _, _, rfl, rfl, sb _ _ hw4, hB2, by show wd.length + 1 ≤ sizeLine; omega, fun L5 fL5 => ?_⟩
    have sc := sb.trans (same_new' fL5 (.lst (wd ++ [.ref T1])))
    have hTc : SqT K (upd Hb L5 (.lst (wd ++ [.ref T1]))) T1 [.int ((r.1 : Nat) : Int), .int (1 - r.2.1)] := (same_new' fL5 (.lst (wd ++ [.ref T1]))).tup hTb
    have hL5 : upd Hb L5 (.lst (wd ++ [.ref T1])) L5 = some (.lst (wd ++ [.ref T1])) := upd_same
    generalize upd Hb L5 (.lst (wd ++ [.ref T1])) = Hc at sc hTc hL5 ⊢
    refine ⟨by show 3 ≤ sizeLine; decide, fun T5 fT5 => ?_⟩
    have sdd := same_new' fT5 (.tup [.str "shut", .int ((i4 : Nat) : Int), .ref L5])
    have sd := sc.trans sdd
    have hT6 : SqT K (upd Hc T5 (.tup [.str "shut", .int ((i4 : Nat) : Int), .ref L5])) T5 [.str "shut", .int ((i4 : Nat) : Int), .ref L5] := sqT_new upd_same
    have hTd : SqT K (upd Hc T5 (.tup [.str "shut", .int ((i4 : Nat) : Int), .ref L5])) T1 [.int ((r.1 : Nat) : Int), .int (1 - r.2.1)] := sdd.tup hTc
    have hL5d : upd Hc T5 (.tup [.str "shut", .int ((i4 : Nat) : Int), .ref L5]) L5 = some (.lst (wd ++ [.ref T1])) := sdd _ _ hL5
    generalize upd Hc T5 (.tup [.str "shut", .int ((i4 : Nat) : Int), .ref L5]) = Hd at sd hT6 hTd hL5d ⊢
    have fr34 : ∀ b o, H3 b = some o → b ≠ L → b ≠ D → b ≠ hl → H4 b = some o := fun b o e n1 n2 n3 => fr4 _ _ (fr1 b o e n1 n2 n3) n1 n2
    have hl5n : H3 L5 = none := (O4.same sb).fresh (sb _ _ hw4) (fun b o e n1 n2 n3 => sb _ _ (fr34 b o e n1 n2 n3)) fL5
    have o3' : 1 - r.2.1 = 0 ∨ 1 - r.2.1 = 1 := by omega
    dsimp only [tNil]
    refine put_inv (E := E0) (ln := .shut i4 (heldOf hs a ++ [(((r.1 : Nat) : Int), 1 - r.2.1)])) (r := shutR n (heldOf hs a ++ [(((r.1 : Nat) : Int), 1 - r.2.1)])) (O4.same sd) (by omega) hL3 ⟨T5, L5, _, rfl, hT6, hl5n, hL5d, ?_⟩ ⟨_, hi4, hGa.app o1 o2 o3', by rw [hv_app _ _ _ o2]; exact o5, rfl⟩ fun H7 O7 fr7 fT7 => ?_
    · rw [List.map_append]
      exact paired_snoc (PairsAre.imp' hpw1 fun t xs z => sd.tup (fT4 _ _ z)) ⟨T1, rfl, hTd⟩
    have hw7 : H7 hl = some (.lst wd) := fr7 _ _ (sd _ _ hw4) nhL
    have fr37 : ∀ b o, H3 b = some o → b ≠ L → b ≠ D → b ≠ hl → H7 b = some o := fun b o e n1 n2 n3 => fr7 _ _ (sd _ _ (fr34 b o e n1 n2 n3)) n1
    have fTy7 : ∀ t xs, SqT K Hy t xs → SqT K H7 t xs := fun t xs z => fT7 _ _ (sd.tup (fT4 _ _ z))
    obtain ⟨dx7, hp7⟩ := O7.ob
    have hla4 := up4 _ _ hla
    have hla7 : (hd4 ++ [shutR n (heldOf hs a ++ [(((r.1 : Nat) : Int), 1 - r.2.1)])])[la]? = some (shutR n (heldOf hs a ++ [(((r.1 : Nat) : Int), r.2.1)])) := by rw [List.getElem?_append_left (List.getElem?_eq_some_iff.mp hla4).1]; exact hla4
    have hag7 : (hd4 ++ [shutR n (heldOf hs a ++ [(((r.1 : Nat) : Int), 1 - r.2.1)])])[hd4.length]? = some (shutR n (heldOf hs a ++ [(((r.1 : Nat) : Int), 1 - r.2.1)])) := by simp
    refine ⟨_, rfl, rfl, _, rfl, ite2 (fun d => ?_) (fun d => ?_)⟩
    · have d' : r.2.1 = 1 := V.int.inj (of_decide_eq_true d)
      refine ⟨_, rfl, p, dx7, _, rfl, hp7, shF_no _ _ _ (by decide +kernel) (by decide +kernel) (by decide +kernel), _, rfl, _, rfl, _, rfl, by show 4 ≤ sizeLine; decide, fun T8 fT8 => ?_⟩
      have se := same_new' fT8 (.tup [.str "either", .int ((la : Nat) : Int), .int ((hd4.length : Nat) : Int), .int ((r.1 : Nat) : Int)])
      have hT8 : SqT K (upd H7 T8 (.tup [.str "either", .int ((la : Nat) : Int), .int ((hd4.length : Nat) : Int), .int ((r.1 : Nat) : Int)])) T8 [.str "either", .int ((la : Nat) : Int), .int ((hd4.length : Nat) : Int), .int ((r.1 : Nat) : Int)] := sqT_new upd_same
      generalize upd H7 T8 (.tup [.str "either", .int ((la : Nat) : Int), .int ((hd4.length : Nat) : Int), .int ((r.1 : Nat) : Int)]) = H8 at se hT8 ⊢
      dsimp only [tNil]
      refine put_inv (E := E0) (ln := .eith la hd4.length r.1) (r := shutR n (heldOf hs a)) (O7.same se) (by omega) hL3 ⟨T8, rfl, hT8⟩ (tells_eith o1 o2 (by rw [d'] at hla7 ⊢; exact hla7) (by rw [d'] at hag7 ⊢; exact hag7)) fun H9 O9 fr9 fT9 => ?_
      refine ⟨_, _, _, _, _, _, _, wd, rfl, O9.more (by omega), fr9 _ _ (se _ _ hw7) nhL, ?_, ?_, by simp, fun b o e n1 n2 n3 => fr9 _ _ (se _ _ (fr37 b o e n1 n2 n3)) n1, fun t xs z => fT9 _ _ (se.tup (fTy7 _ _ (fT1 _ _ z)))⟩
      · rw [enext]; exact PairsAre.imp' hpw1 fun t xs z => fT9 _ _ (se.tup (fTy7 _ _ z))
      · rw [enext]; simp
    · have d' : r.2.1 = 0 := by
        have : ¬ r.2.1 = 1 := fun z => d (decide_eq_true (congrArg V.int z))
        omega
      refine ⟨_, rfl, p, dx7, _, rfl, hp7, shF_no _ _ _ (by decide +kernel) (by decide +kernel) (by decide +kernel), _, rfl, _, rfl, _, rfl, by show 4 ≤ sizeLine; decide, fun T8 fT8 => ?_⟩
      have se := same_new' fT8 (.tup [.str "either", .int ((hd4.length : Nat) : Int), .int ((la : Nat) : Int), .int ((r.1 : Nat) : Int)])
      have hT8 : SqT K (upd H7 T8 (.tup [.str "either", .int ((hd4.length : Nat) : Int), .int ((la : Nat) : Int), .int ((r.1 : Nat) : Int)])) T8 [.str "either", .int ((hd4.length : Nat) : Int), .int ((la : Nat) : Int), .int ((r.1 : Nat) : Int)] := sqT_new upd_same
      generalize upd H7 T8 (.tup [.str "either", .int ((hd4.length : Nat) : Int), .int ((la : Nat) : Int), .int ((r.1 : Nat) : Int)]) = H8 at se hT8 ⊢
      dsimp only [tNil]
      refine put_inv (E := E0) (ln := .eith hd4.length la r.1) (r := shutR n (heldOf hs a)) (O7.same se) (by omega) hL3 ⟨T8, rfl, hT8⟩ (tells_eith o1 o2 (by rw [d'] at hag7 ⊢; exact hag7) (by rw [d'] at hla7 ⊢; exact hla7)) fun H9 O9 fr9 fT9 => ?_
      refine ⟨_, _, _, _, _, _, _, wd, rfl, O9.more (by omega), fr9 _ _ (se _ _ hw7) nhL, ?_, ?_, by simp, fun b o e n1 n2 n3 => fr9 _ _ (se _ _ (fr37 b o e n1 n2 n3)) n1, fun t xs z => fT9 _ _ (se.tup (fTy7 _ _ (fT1 _ _ z)))⟩
      · rw [enext]; exact PairsAre.imp' hpw1 fun t xs z => fT9 _ _ (se.tup (fTy7 _ _ z))
      · rw [enext]; simp
  · rintro σ Hx ⟨la, u5, u7, u8, u9, u10, hd, ws, rfl, O, hw, hpw, hla, hle, fr, fT⟩
    rw [lg, Nat.sub_self, List.take_zero] at hla
    have e0 : heldOf hs [] = hs := by unfold heldOf; rw [List.map_nil, List.append_nil]
    rw [e0] at hla
    refine ⟨_, rfl, q _ Hx hd ((O.weak s3).more (by omega)) ?_ fun b o e n1 n2 => fr b o (s3 _ _ e) n1 n2 fun z => by rw [z, hlH] at e; cases e⟩
    rw [List.getLast?_eq_getElem?, show hd.length - 1 = la by omega]
    exact hla
end
end Nb
namespace Nb
open PySem L2
noncomputable abbrev sBetterRow : Stmt := top 1
noncomputable abbrev sRowsB : Stmt := top 2
noncomputable def betterRow (cs : List Int) (b : Int) : List Int × Int := (cs.map fun c => -c, 1 - b)
theorem row_new {K : PySem.W.Frag} {H : Hp} {l t : Addr} {ns : List Int} {z : Int} (h : upd H l (.tup (ns.map V.int)) t = none) : RowAt K (upd (upd H l (.tup (ns.map V.int))) t (.tup [.ref l, .int z])) t (ns, z) := ⟨l, sqT_new upd_same, sqT_new (by rw [upd_ne (ne_of_none upd_same h)]; exact upd_same)⟩
noncomputable def spBetter (K : PySem.W.Frag) : Sp := fun vs H Q _ => ∃ (t : Addr) (rs : List (List Int × Int)) (cs : List Int) (b : Int), vs = [.ref t, .int b] ∧ ProbAt K H t rs cs ∧ cs.length ≤ 1000 ∧ ∀ t' H', Same H H' → RowAt K H' t' (betterRow cs b) → Q (.ref t') H'
noncomputable def ProbL (K : PySem.W.Frag) (H : Hp) (t l : Addr) (rs : List (List Int × Int)) (cs : List Int) : Prop := ∃ c vs, SqT K H t [.ref l, .ref c] ∧ H l = some (.lst vs) ∧ RowsAre K H vs rs ∧ SqT K H c (cs.map V.int)
theorem ProbL.same {K : PySem.W.Frag} {H H' : Hp} {t l : Addr} {rs : List (List Int × Int)} {cs : List Int} (h : ProbL K H t l rs cs) (e : Same H H') : ProbL K H' t l rs cs :=
  let ⟨c, vs, h1, h2, h3, h4⟩ := h; ⟨c, vs, e.tup h1, e _ _ h2, h3.imp fun _ _ z => z.same e, e.tup h4⟩
noncomputable def rowsB (rs : List (List Int × Int)) (cs : List Int) : Option Int → List (List Int × Int)
  | none => rs
  | some b => rs ++ [betterRow cs b]
noncomputable def bestV : Option Int → V
  | none => .non
  | some b => .int b
noncomputable def spRowsB (K : PySem.W.Frag) : Sp := fun vs H Q _ => ∃ (t l : Addr) (rs : List (List Int × Int)) (cs : List Int) (o : Option Int), vs = [.ref t, bestV o] ∧ ProbL K H t l rs cs ∧ cs.length ≤ 1000 ∧ rs.length ≤ 1000 ∧
  ∀ a us H', Same H H' → H a = none → H' a = some (.lst us) → RowsAre K H' us (rowsB rs cs o) → Q (.ref a) H'
section
variable {P : Program} {w : World} {K : PySem.W.Frag} {mg : Str → Option Value} {base : Heap} {aT aL : Addr} {fT fL : Str → Option Value}
theorem scBetterRow : FnScope ["problem", "best"] ["problem", "best"] (defScope sBetterRow) := ⟨rfl, rfl, rfl, by decide +kernel, rfl, by decide +kernel, by decide +kernel⟩
theorem okBetterRow (F : Fn K mg "better_row" sBetterRow) (M : Mg mg) : Cal P w K mg base 1 "better_row" ["problem", "best"] (spBetter K) := by
  refine cal_of F scBetterRow (fun _ _ _ _ _ _ => bind2 (fun _ _ => rfl)) (fun vs H Q E h => ?_) (fun f cdv A outer s H vs Q E hr h => ?_)
  · obtain ⟨t, rs, cs, b, rfl, _⟩ := h
    rfl
  obtain ⟨t, rs, cs, b, rfl, ⟨l, c, us, ht, hl, hrw, hc⟩, hn, q⟩ := h
  refine ⟨_, (pss_one (ps_ret (pe_tup (pa_cons (pe_callTy call_tuple_of rfl M.tuple_ bt_tuple (pa_cons (pe_lc ["cost"] [none] rfl (pi_tup (pe_ix ix_tup (pv 0) pe_int (fun _ _ => rfl))) (fun _ _ _ => (pg_name (i := 0) (show (["cost"] : List Str).Nodup by decide +kernel) rfl (Or.inl rfl) (Or.inr rfl))) (fun _ _ _ => pf_nil) (fun _ _ _ => (pe_un un_neg (pv 0)))) pa_nil)) (pa_cons (pe_op op_sub pe_int (pv 1)) pa_nil))))), ?_⟩
  have hz : (1000 : Nat) < sizeLine := by decide
  refine ⟨_, rfl, t, _, _, _, rfl, rfl, ht, at1, c, rfl, ⟨_, hc⟩, fun D hD => ?_⟩
  refine lc_any (n := cs.length) (fun i τ ys H1 => ∃ v : Option V, τ = [v] ∧ ys = ((cs.map fun c => -c).take i).map V.int ∧ H1 D = some (.lst ys) ∧ Same H H1) ?_ (fun i τ ys H1 hi h => ?_) (fun i τ ys H1 hi h => ?_) (fun τ ys H1 h => ?_) ?_ ?_
  · exact ⟨none, rfl, rfl, upd_same, same_new' hD _⟩
  · obtain ⟨v, rfl, rfl, hE, s1⟩ := h
    exact ⟨hE, by rw [List.length_map, List.length_take]; omega⟩
  · obtain ⟨v, rfl, rfl, hE, s1⟩ := h
    exact ⟨_, .int cs[i], s1.tup hc, by rw [List.getElem?_map, List.getElem?_eq_getElem hi]; rfl⟩
  · obtain ⟨v, rfl, rfl, hE, s1⟩ := h
    exact ⟨_, s1.tup hc, by rw [List.length_map]; exact Nat.le_refl _⟩
  · rintro i τ ys H1 x H2 hi ⟨v, rfl, rfl, hE, s1⟩ ⟨rfl, e1⟩
    obtain ⟨z, ez, rfl⟩ := getMapI (e1 _ (s1.tup hc))
    refine ⟨_, rfl, _, rfl, hE, _, rfl, ?_, upd_same, fun b' o e => ?_⟩
    · rw [takeS (show (cs.map fun c => -c)[i]? = some (-z) by rw [List.getElem?_map, ez]; rfl), List.map_append]; rfl
    · rw [upd_ne (ne_of_none e hD)]; exact s1 _ _ e
  · rintro τ ys H1 ⟨v, rfl, rfl, hE, s1⟩
    rw [List.take_of_length_le (by rw [List.length_map]; exact Nat.le_refl _)] at hE
    refine ⟨D, _, rfl, .inl ⟨sqL_new hE, fun l2 hl2 => ⟨_, rfl, _, _, rfl, rfl, by show 2 ≤ sizeLine; decide, fun t2 ht2 => ?_⟩⟩⟩
    exact q t2 _ ((s1.trans (same_new' hl2 _)).trans (same_new' ht2 _)) (row_new ht2)
theorem scRowsB : FnScope ["problem", "best"] ["problem", "best"] (defScope sRowsB) := ⟨rfl, rfl, rfl, by decide +kernel, rfl, by decide +kernel, by decide +kernel⟩
theorem okRowsB (F : Fn K mg "rows_below" sRowsB) (M : Mg mg) (c_better_row : Cal P w K mg base 1 "better_row" ["problem", "best"] (spBetter K)) : Cal P w K mg base 2 "rows_below" ["problem", "best"] (spRowsB K) := by
  refine cal_of F scRowsB (fun _ _ _ _ _ _ => bind2 (fun _ _ => rfl)) (fun vs H Q E h => ?_) (fun f cdv A outer s H vs Q E hr h => ?_)
  · obtain ⟨t, l, rs, cs, o, rfl, _⟩ := h
    rfl
  obtain ⟨t, l, rs, cs, o, rfl, ⟨c, vs, ht, hl, hrw, hc⟩, hn, hm, q⟩ := h
  refine ⟨_, (pss_cons (ps_if (pt_cmpR op_isN (pv 1) pe_non (nomark _)) (pss_one (ps_ret (pe_callTy call_list_of rfl M.list_ bt_list (pa_cons (pe_ix ix_tup (pv 0) pe_int (fun _ _ => rfl)) pa_nil)))) pss_nil)
    (pss_one (ps_ret (pe_op op_cat (pe_ix ix_tup (pv 0) pe_int (fun _ _ => rfl)) (pe_lst (pa_cons (pe_fn c_better_row (hr.mono (by decide)) (pa_cons (pv 0) (pa_cons (pv 1) pa_nil))) pa_nil)))))), ?_⟩
  have hz : (100000 : Nat) < sizeLine := by decide
  have lr := hrw.length
  have up : ∀ {Hz : Hp} {g : Addr}, Hz g = none → Same H Hz → H g = none := fun {Hz g} h s => by
    cases e5 : H g with
    | none => rfl
    | some o => rw [s _ _ e5] at h; cases h
  cases o with
  | none =>
    refine ⟨_, rfl, rfl, _, rfl, iteT ⟨_, rfl, t, _, _, _, rfl, rfl, ht, at0, l, _, rfl, .inl (sqL_new hl), fun a fa => ?_⟩⟩
    exact q a vs _ (same_new' fa _) fa upd_same (hrw.imp fun _ _ z => z.same (same_new' fa _))
  | some b =>
    refine ⟨_, rfl, rfl, _, rfl, iteF ⟨_, rfl, t, _, _, _, rfl, rfl, ht, at0, _, rfl, _, rfl, t, rs, cs, b, rfl, ⟨l, c, vs, ht, sqL_new hl, hrw, hc⟩, hn, fun t' H' s1 hr' => ?_⟩⟩
    refine ⟨by show 1 ≤ sizeLine; decide, fun B hB => ?_⟩
    have s2 := same_new' hB (.lst [.ref t'])
    refine ⟨l, B, _, _, rfl, rfl, s2 _ _ (s1 _ _ hl), upd_same, by show vs.length + 1 ≤ sizeLine; omega, fun a fa => ?_⟩
    have s3 := same_new' fa (.lst (vs ++ [.ref t']))
    have s123 := (s1.trans s2).trans s3
    exact q a _ _ s123 (up fa (s1.trans s2)) upd_same (RowsAre.snoc (hrw.imp fun _ _ z => z.same s123) (hr'.same (s2.trans s3)))
end
end Nb
namespace Nb
open PySem L2
noncomputable abbrev sPLines : Stmt := top 13
theorem steps_all {n : Nat} {rs : List (List Int × Int)} : ∀ (fs : List Trip) (hs : List (Int × Int)), StepsOk n rs hs fs → ∀ p ∈ fs, p.1 < n ∧ p.2.2 < rs.length
  | [], _, _, p, hp => nomatch hp
  | q :: fs, hs, z, p, hp => by
    obtain ⟨p1, p2, p3, p4, p5, h'⟩ := z
    rcases List.mem_cons.mp hp with e | e
    · rw [e]; exact ⟨p1, p4⟩
    · exact steps_all fs _ h' p e
theorem due_len {n : Nat} {rs : List (List Int × Int)} : ∀ (t : Nat) (hs : List (Int × Int)) (acc : List Trip), (dueP n rs t hs acc).1.length ≤ acc.length + t
  | 0, hs, acc => Nat.le_refl _
  | t + 1, hs, acc => by
    cases hb : brk n rs hs with
    | some k => rw [due_brk hb]; exact Nat.le_add_right _ _
    | none =>
      cases h : stp n rs hs with
      | none => rw [due_none hb h]; have := due_len (n := n) (rs := rs) t hs acc; omega
      | some p =>
        rw [due_stp hb h]
        have := due_len (n := n) (rs := rs) t (hs ++ [((p.1 : Int), p.2.1)]) (acc ++ [p])
        rw [List.length_append] at this
        have h5 : ([p] : List Trip).length = 1 := rfl
        omega
theorem need_len {rs : List (List Int × Int)} : ∀ (L : List Trip) (ask : List (List Int × Int)), (needR rs L ask).length ≤ L.length
  | [], _ => Nat.le_refl _
  | p :: t, ask => by
    unfold needR
    split
    · exact Nat.succ_le_succ (need_len t _)
    · exact Nat.le_succ_of_le (need_len t _)
noncomputable def spPLines (K : PySem.W.Frag) (C : Addr) : Sp := fun vs H Q _ => ∃ (t l lr : Addr) (rs : List (List Int × Int)) (cs : List Int) (hs : List (Int × Int)) (o : Option Int), vs = [.ref t, bestV o, .ref l] ∧ ProbL K H t lr rs cs ∧ HoldsAt K H l hs ∧ Good cs.length hs ∧ (∀ r ∈ rs, r.1.length = cs.length) ∧ cs.length ≤ 50 ∧ rs.length ≤ 50 ∧ hs.length ≤ 50 ∧
  (¬ EndsB cs.length (rowsB rs cs o) (hv hs) → ∀ H', Same H H' → Q .non H') ∧
  (EndsB cs.length (rowsB rs cs o) (hv hs) → ∀ L us lns hd HL H', Same H H' → H L = none → Same H HL → HL L ≠ none → H' L = some (.lst us) → LinesAre K HL H' us lns → Told cs.length rs.length (rowsB rs cs o) lns hd → us.length ≤ 900 → hd.getLast? = some (shutR cs.length hs) → Q (.ref L) H')
section
variable {P : Program} {w : World} {K : PySem.W.Frag} {mg : Str → Option Value} {base : Heap}
theorem scPLines : FnScope ["problem", "best", "holds", "rows", "outcome", "forced", "broken", "sheet"] ["problem", "best", "holds"] (defScope sPLines) := ⟨rfl, rfl, rfl, by decide +kernel, rfl, by decide +kernel, by decide +kernel⟩
theorem okPLines {C fI : Addr} {fdI : FuncData} (F : Fn K mg "passed_lines" sPLines) (M : Mg mg) (T : ShTxt K mg C) (GI : FnOk P w K mg base CX0 1 fI fdI ["self", "rows"] (spSInit C)) (bI : Binds K fdI ["self", "rows"] []) (mkI : Mk K C fI) (c_rows_below : Cal P w K mg base 2 "rows_below" ["problem", "best"] (spRowsB K)) (c_passed : Cal P w K mg base 2 "passed" ["rows", "holds"] (spPassed K)) (c_steps_needed : Cal P w K mg base 2 "steps_needed" ["rows", "forced", "broken"] (spNeed K)) (c_put_steps : Cal P w K mg base 3 "put_steps" ["sheet", "holds", "steps", "broken"] (spPutS K C)) : Cal P w K mg base 4 "passed_lines" ["problem", "best", "holds"] (spPLines K C) := by
  refine cal_of F scPLines (fun _ _ _ _ _ _ => bind3 (fun _ _ _ => rfl)) (fun vs H Q E h => ?_) (fun f cdv A outer s H vs Q E hr h => ?_)
  · obtain ⟨t, l, lr, rs, cs, hs, o, rfl, _⟩ := h
    rfl
  obtain ⟨t, l, lr, rs, cs, hs, o, rfl, hP, hh, hG, hr1, ln, lm, lh, qN, qS⟩ := h
  refine ⟨_, (pss_cons (ps_set (i := 3) scPLines.nd rfl (Or.inl rfl) (pe_fn c_rows_below (hr.mono (by decide)) (pa_cons (pv 0) (pa_cons (pv 1) pa_nil))))
    (pss_cons (ps_set (i := 4) scPLines.nd rfl (Or.inl rfl) (pe_fn c_passed (hr.mono (by decide)) (pa_cons (pv 3) (pa_cons (pv 2) pa_nil))))
    (pss_cons (ps_if (pt_cmpR op_isN (pe_ix ix_tup (pv 4) pe_int (fun _ _ => rfl)) pe_non (nomark _)) (pss_one (ps_ret pe_non)) pss_nil)
    (pss_cons (ps_set (i := 5) scPLines.nd rfl (Or.inl rfl) (pe_ix ix_tup (pv 4) pe_int (fun _ _ => rfl)))
    (pss_cons (ps_set (i := 6) scPLines.nd rfl (Or.inl rfl) (pe_ix ix_tup (pv 4) pe_int (fun _ _ => rfl)))
    (pss_cons (ps_set (i := 7) scPLines.nd rfl (Or.inl rfl) (pe_make mkI GI (hr.mono (by decide)) rfl T.mgC bI .nil pass0 (pa_cons (pe_callB call_len_seq rfl M.len bt_len (pa_cons (pe_ix ix_tup (pv 0) pe_int (fun _ _ => rfl)) pa_nil)) pa_nil)))
    (pss_cons (ps_expr (pe_fn c_put_steps (hr.mono (by decide)) (pa_cons (pv 7) (pa_cons (pv 2) (pa_cons (pe_fn c_steps_needed (hr.mono (by decide)) (pa_cons (pv 3) (pa_cons (pv 5) (pa_cons (pv 6) pa_nil)))) (pa_cons (pv 6) pa_nil))))))
    (pss_one (ps_ret (pe_fld (pv 7) rfl)))))))))), ?_⟩
  have hR1 : ∀ r ∈ rowsB rs cs o, r.1.length = cs.length := fun r hr => by
    cases o with
    | none => exact hr1 r hr
    | some b =>
      rcases List.mem_append.mp hr with z | z
      · exact hr1 r z
      · rw [List.mem_singleton.mp z]; show (cs.map fun c => -c).length = _; rw [List.length_map]
  have hRl : (rowsB rs cs o).length ≤ rs.length + 1 := by
    cases o with
    | none => exact Nat.le_succ _
    | some b => show (rs ++ [betterRow cs b]).length ≤ _; rw [List.length_append]; exact Nat.le_refl _
  have up : ∀ {Hy Hz : Hp} {g : Addr}, Hz g = none → Same Hy Hz → Hy g = none := fun {Hy Hz g} h s => by
    cases e5 : Hy g with
    | none => rfl
    | some o => rw [s _ _ e5] at h; cases h
  have hE := due_ends (n := cs.length) (rs := rowsB rs cs o) (hs := hs) hR1 hG
  generalize hRR : rowsB rs cs o = R at hR1 hRl hE qN qS
  refine ⟨_, rfl, _, rfl, t, lr, rs, cs, o, rfl, hP, by omega, by omega, fun a us H1 s1 fa ha hrw => ?_⟩
  rw [hRR] at hrw
  refine ⟨_, rfl, _, rfl, a, l, us, R, hs, cs.length, rfl, sqL_new ha, hrw, hh.same s1, hG, by omega, by omega, by omega, hR1, fun t2 g gs H2 s2 fg hg htr ht2 => ?_⟩
  have s12 := s1.trans s2
  cases hk : (dueP cs.length R (cs.length + 1) hs []).2 with
  | none =>
    rw [hk] at ht2 hE
    have nE : ¬ EndsB cs.length R (hv hs) := fun z => nomatch (hE.mpr z)
    exact ⟨_, rfl, t2, _, _, _, rfl, rfl, ht2, at1, rfl, _, rfl, iteT (qN nE _ s12)⟩
  | some k =>
    obtain ⟨n1, n2, n3⟩ := need_due hR1 hG hk
    obtain ⟨fs, d1, d2, d3⟩ := due_run hR1 (cs.length + 1) hs [] hG
    rw [List.nil_append] at d1
    have dl := due_len (n := cs.length) (rs := R) (cs.length + 1) hs []
    rw [hk] at ht2 hE
    have yE := hE.mp rfl
    have hall := steps_all _ _ d2
    rw [← d1] at hall
    generalize hF : (dueP cs.length R (cs.length + 1) hs []).1 = Fs at n1 n2 n3 dl hall htr
    have dl' : Fs.length ≤ 51 := by have h5 : ([] : List Trip).length = 0 := rfl; omega
    refine ⟨_, rfl, t2, _, _, _, rfl, rfl, ht2, at1, rfl, _, rfl, iteF ?_⟩
    refine ⟨_, rfl, t2, _, _, _, rfl, rfl, ht2, at0, ?_⟩
    refine ⟨_, rfl, t2, _, _, _, rfl, rfl, ht2, at1, ?_⟩
    obtain ⟨c0, vs0, hp1, hp2', hp3, hp4⟩ := hP.same s12
    have l0 := hp3.length
    refine ⟨_, rfl, t, _, _, _, rfl, rfl, hp1, at0, lr, _, rfl, .inl (sqL_new hp2'), fun p dx fp fdx nd => ?_⟩
    dsimp only [tNil]
    have s3 : Same H2 (upd (upd H2 dx (.own p)) p (.ins C dx [])) := (same_new' fdx _).trans (same_new' (by rw [upd_ne nd.symm]; exact fp) _)
    have hp3' : upd (upd H2 dx (.own p)) p (.ins C dx []) p = some (.ins C dx []) := upd_same
    refine ⟨p, dx, ((vs0.length : Nat) : Int), rfl, hp3', fun L D H4 fL fD S4 kp => ⟨rfl, ?_⟩⟩
    have fL2 := up fL s3
    have fD2 := up fD s3
    have s4 : Same H2 H4 := fun b o e => kp b o (s3 _ _ e) (ne_of_none e fp)
    have s14 := s12.trans s4
    refine ⟨_, rfl, _, rfl, _, rfl, _, rfl, _, rfl, a, g, k, cs.length, us, gs, R, Fs, rfl, sqL_new (s4 _ _ (s2 _ _ ha)), hrw.imp (fun _ _ z => z.same (s2.trans s4)), sqL_new (s4 _ _ hg), htr.imp (fun _ _ z => s4.tup z), n2, by omega, hR1, hall, fun tn ws H5 s5 ftn htn htrn => ?_⟩
    have nl := need_len (rs := R) Fs.reverse [R.getD k ([], 0)]
    rw [List.length_reverse] at nl
    have ntL : tn ≠ L := fun z => by rw [z, S4.ln] at ftn; cases ftn
    have S5 := S4.same s5
    rw [l0] at S5
    have s15 := s14.trans s5
    have s25 := s4.trans s5
    refine ⟨_, rfl, p, L, D, l, tn, cs.length, rs.length, k, ws, R, hs, _, rfl, S5, hh.same s15, sqL_new htn, ntL, htrn, hG, n1, n2, n3, hRl, by omega, by rw [List.length_reverse]; omega, fun v H6 hd O6 hlast fr6 => ?_⟩
    obtain ⟨us6, kvs6, lns6, S6, L6, T6, _, l6, _⟩ := O6
    have hLH : H L = none := up fL2 s12
    have hDH : H D = none := up fD2 s12
    obtain ⟨dx6, ob6⟩ := S6.ob
    refine ⟨_, rfl, p, C, dx6, _, _, rfl, ob6, T.cl, T.nL, shF_lines _ _ _, ?_⟩
    exact qS yE L us6 lns6 hd _ H6 (fun b o e => fr6 b o (s15 _ _ e) (ne_of_none e hLH) (ne_of_none e hDH)) hLH s15 (by rw [S5.ln]; intro z; cases z) S6.ln L6 T6 l6 hlast
end
end Nb
namespace Nb
open PySem L2
noncomputable abbrev sMixB : Stmt := top 15
noncomputable abbrev sCell : Stmt := top 16
noncomputable abbrev sLeftB : Stmt := top 17
noncomputable abbrev sDraw : Stmt := top 18
noncomputable abbrev Bits (x : Int) : Prop := PySem.Builtin.Int.intBits x ≤ 2 ^ 20
theorem bits0 : Bits 0 := by decide
noncomputable def spCellB (K : PySem.W.Frag) : Sp := fun vs H Q _ => ∃ (a : Addr) (ns : List Int) (k : Int), vs = [.ref a, .int k] ∧ SqL K H a (ns.map V.int) ∧ (∀ n ∈ ns, Bits n) ∧ 0 ≤ k ∧ ∀ z : Int, Bits z → Q (.int z) H
noncomputable def spMixB : Sp := fun vs H Q _ => ∃ c k : Int, vs = [.int c, .int k] ∧ Bits c ∧ 0 ≤ k ∧ k ≤ 1000000 ∧ ∀ z : Int, 0 ≤ z → z < 2147483587 → Q (.int z) H
noncomputable def spLeftB (K : PySem.W.Frag) : Sp := fun vs H Q _ => ∃ (a : Addr) (ns : List Int) (k : Int), vs = [.ref a, .int k] ∧ SqL K H a (ns.map V.int) ∧ (∀ n ∈ ns, Bits n) ∧ 0 ≤ k ∧ ∀ (l : Addr) (x f : Int), H l = none → Bits x → Q (.ref l) (upd H l (.lst [.int x, .int f, .int 0]))
noncomputable def spDraw : Sp := fun vs H Q _ => ∃ (l : Addr) (x f k b : Int), vs = [.ref l, .int b] ∧ H l = some (.lst [.int x, .int f, .int k]) ∧ Bits x ∧ 0 ≤ k ∧ k ≤ 100000 ∧ 0 < b ∧ b ≤ 1000000 ∧ ∀ z x' : Int, Bits x' → 0 ≤ z → z < b → Q (.int z) (upd H l (.lst [.int x', .int f, .int (k + 1)]))
theorem atNsB {ns : List Int} {k : Int} (hb : ∀ n ∈ ns, Bits n) (h0 : 0 ≤ k) (h : k < (((ns.map V.int).length : Nat) : Int)) : ∃ v : Int, atI (ns.map V.int) k = some (.int v) ∧ Bits v := by
  have hk : k.toNat < ns.length := by rw [List.length_map] at h; omega
  have ek : k = ((k.toNat : Nat) : Int) := by omega
  have q : atI (ns.map V.int) ((k.toNat : Nat) : Int) = some (.int ns[k.toNat]) := atI_nat (by rw [List.getElem?_map, List.getElem?_eq_getElem hk] <;> rfl)
  rw [← ek] at q
  exact ⟨_, q, hb _ (List.getElem_mem hk)⟩
theorem upd_upd (H : Hp) (l : Addr) (a b : HO) : upd (upd H l a) l b = upd H l b := by
  funext c
  by_cases e : c = l
  · rw [e, upd_same, upd_same]
  · rw [upd_ne e, upd_ne e, upd_ne e]
theorem big1 {b : Int} (h0 : 0 < b) (h1 : b ≤ 1000000) : b ≠ 0 ∧ Big b := ⟨by omega, Nat.lt_of_le_of_lt (show b.natAbs ≤ 1000000 by omega) (by decide +kernel)⟩
theorem base3 (z : Int) : ∃ b : Int, atI [V.int 3, V.int 5, V.int 9] (z % 3) = some (.int b) ∧ 0 < b ∧ b ≤ 9 := by
  rcases (show z % 3 = 0 ∨ z % 3 = 1 ∨ z % 3 = 2 by omega) with e | e | e
  · rw [e]; exact ⟨3, rfl, by decide, by decide⟩
  · rw [e]; exact ⟨5, rfl, by decide, by decide⟩
  · rw [e]; exact ⟨9, rfl, by decide, by decide⟩
noncomputable def spProblem20 (K : PySem.W.Frag) : Sp := fun vs H Q _ => ∃ (a : Addr) (ns : List Int) (most rm : Int), vs = [.ref a, .int most, .int rm] ∧ SqL K H a (ns.map V.int) ∧ (∀ n ∈ ns, Bits n) ∧ 0 ≤ most ∧ most ≤ 100 ∧ 0 ≤ rm ∧ rm ≤ 100 ∧
  ∀ (t : Addr) (rs : List (List Int × Int)) (cs : List Int) (H' : Hp), Same H H' → ProbAt K H' t rs cs → (∀ r ∈ rs, r.1.length = cs.length) → (cs.length : Int) ≤ most → (rs.length : Int) ≤ rm → Q (.ref t) H'
noncomputable def spHolds20 (K : PySem.W.Frag) : Sp := fun vs H Q _ => ∃ (l : Addr) (x f : Int) (n : Nat), vs = [.ref l, .int (n : Int)] ∧ H l = some (.lst [.int x, .int f, .int 0]) ∧ Bits x ∧ n ≤ 100 ∧
  ∀ (g : Addr) (hs : List (Int × Int)) (ws : List V) (H' : Hp), (∀ b o, b ≠ l → H b = some o → H' b = some o) → H g = none → H' g = some (.lst ws) → PairsAre K H' ws (hs.map fun p => (p.1, V.int p.2)) → Good n hs → hs.length ≤ n → Q (.ref g) H'
theorem good_ins {i : Nat} {hs : List (Int × Int)} {w : Int} (h : Good i hs) (hw : w = 0 ∨ w = 1) (k : Nat) : Good (i + 1) (hs.take k ++ (0 + (i : Int), w) :: hs.drop k) := by
  have perm : (hs.take k ++ (0 + (i : Int), w) :: hs.drop k).Perm ((0 + (i : Int), w) :: hs) := by
    have := List.perm_middle (a := (0 + (i : Int), w)) (l₁ := hs.take k) (l₂ := hs.drop k)
    rwa [List.take_append_drop] at this
  have ok' : ∀ p ∈ (0 + (i : Int), w) :: hs, 0 ≤ p.1 ∧ p.1 < ((i + 1 : Nat) : Int) ∧ (p.2 = 0 ∨ p.2 = 1) := by
    intro p hp
    rcases List.mem_cons.mp hp with z | z
    · rw [z]; exact ⟨by show 0 ≤ 0 + (i : Int); omega, by show 0 + (i : Int) < _; omega, hw⟩
    · have := h.ok p z; exact ⟨this.1, by omega, this.2.2⟩
  refine ⟨?_, fun p hp => ok' p (perm.mem_iff.mp hp)⟩
  refine (perm.map (·.1)).nodup_iff.mpr ?_
  show ((0 + (i : Int)) :: hs.map (·.1)).Nodup
  refine List.nodup_cons.mpr ⟨fun hm => ?_, h.nd⟩
  obtain ⟨p, hp, e⟩ := List.mem_map.mp hm
  have := (h.ok p hp).2.1
  omega
section
variable {P : Program} {w : World} {K : PySem.W.Frag} {mg : Str → Option Value} {base : Heap} {aT aL : Addr} {fT fL : Str → Option Value}
theorem scMixB : FnScope ["_law_number", "_law_k", "_law_mixed"] ["_law_number", "_law_k"] (defScope sMixB) := ⟨rfl, rfl, rfl, by decide +kernel, rfl, by decide +kernel, by decide +kernel⟩
theorem okMixB (F : Fn K mg "_law_mix" sMixB) (M : Mg mg) : Cal P w K mg base 1 "_law_mix" ["_law_number", "_law_k"] (spMixB) := by
  refine cal_of F scMixB (fun _ _ _ _ _ _ => bind2 (fun _ _ => rfl)) (fun vs H Q E h => ?_) (fun f cdv A outer s H vs Q E hr h => ?_)
  · obtain ⟨c, k, rfl, _⟩ := h
    rfl
  obtain ⟨c, k, rfl, hb, h0, h1, q⟩ := h
  refine ⟨_, (pss_cons (ps_set (i := 2) scMixB.nd rfl (Or.inl rfl) (pe_op op_mod (pe_op op_mulI (pe_op op_add (pe_op op_add (pe_op op_mulI (pv 0) (pv 0)) (pe_op op_mulI (pv 1) (pv 0))) (pe_op op_mulI (pe_op op_mulI pe_int (pv 1)) (pv 1))) pe_int) pe_int))
    (pss_one (ps_ret (pe_op op_mod (pe_op op_mulI (pv 2) (pv 2)) pe_int)))), ?_⟩
  have b2 : ∀ x : Int, -(2 ^ 64) < x % 2147483629 ∧ x % 2147483629 < 2 ^ 64 := fun x => ⟨by omega, by omega⟩
  have kk : ∀ x : Int, PySem.IntMulOk k x := fun x => (show CMul k x from .inl ⟨by omega, by omega⟩).ok
  refine ⟨_, rfl, _, rfl, _, _, rfl, rfl, PySem.IntMulOk.of_bits hb hb, _, rfl, _, rfl, _, _, rfl, rfl, kk _, _, _, rfl, rfl, _, rfl, _, _, rfl, rfl, (show CMul 7 k from .inl ⟨by decide, by decide⟩).ok, _, rfl, _, _, rfl, rfl, (show CMul (7 * k) k from .inr ⟨by omega, by omega⟩).ok, _, _, rfl, rfl, _, _, rfl, rfl, (show CMul _ 1103515245 from .inr ⟨by decide, by decide⟩).ok, _, _, rfl, rfl, (by show (0 : Int) < _; decide +kernel), ?_⟩
  refine ⟨_, rfl, _, rfl, _, _, rfl, rfl, (show CMul _ _ from .inl (b2 _)).ok, _, _, rfl, rfl, (by show (0 : Int) < _; decide +kernel), q _ (Int.emod_nonneg _ (by decide)) (Int.emod_lt_of_pos _ (by decide))⟩
theorem scCell : FnScope ["_law_script", "_law_k"] ["_law_script", "_law_k"] (defScope sCell) := ⟨rfl, rfl, rfl, by decide +kernel, rfl, by decide +kernel, by decide +kernel⟩
theorem okCell (F : Fn K mg "_law_cell_at" sCell) (M : Mg mg) : Cal P w K mg base 1 "_law_cell_at" ["_law_script", "_law_k"] (spCellB K) := by
  refine cal_of F scCell (fun _ _ _ _ _ _ => bind2 (fun _ _ => rfl)) (fun vs H Q E h => ?_) (fun f cdv A outer s H vs Q E hr h => ?_)
  · obtain ⟨a, ns, k, rfl, _⟩ := h
    rfl
  obtain ⟨a, ns, k, rfl, hS, hB, h0, q⟩ := h
  refine ⟨_, (pss_cons (ps_if (pt_cmpR op_lt (pv 1) (pe_callB call_len_seq rfl M.len bt_len (pa_cons (pv 0) pa_nil)) (nomark _)) (pss_one (ps_ret (pe_ix ix_list (pv 0) (pv 1) (fun _ _ => rfl)))) pss_nil)
    (pss_one (ps_ret pe_int))), ?_⟩
  refine ⟨_, rfl, _, rfl, a, _, rfl, .inl hS, _, _, rfl, rfl, _, rfl, ?_⟩
  refine ite2 (fun c => ?_) (fun c => ?_)
  · obtain ⟨v, hv, hb⟩ := atNsB hB h0 (of_decide_eq_true c)
    exact ⟨_, rfl, _, rfl, a, _, _, _, rfl, rfl, hS, hv, q v hb⟩
  · exact q 0 bits0
theorem scLeftB : FnScope ["_law_script", "_law_k"] ["_law_script", "_law_k"] (defScope sLeftB) := ⟨rfl, rfl, rfl, by decide +kernel, rfl, by decide +kernel, by decide +kernel⟩
theorem okLeftB (F : Fn K mg "_law_left" sLeftB) (M : Mg mg) (cl_cell_at : Cal P w K mg base 1 "_law_cell_at" ["_law_script", "_law_k"] (spCellB K)) : Cal P w K mg base 2 "_law_left" ["_law_script", "_law_k"] (spLeftB K) := by
  refine cal_of F scLeftB (fun _ _ _ _ _ _ => bind2 (fun _ _ => rfl)) (fun vs H Q E h => ?_) (fun f cdv A outer s H vs Q E hr h => ?_)
  · obtain ⟨a, ns, k, rfl, _⟩ := h
    rfl
  obtain ⟨a, ns, k, rfl, hS, hB, h0, q⟩ := h
  refine ⟨_, (pss_one (ps_ret (pe_lst (pa_cons (pe_fn cl_cell_at (hr.mono (by decide)) (pa_cons (pv 0) (pa_cons (pv 1) pa_nil))) (pa_cons (pe_op op_mod (pe_fn cl_cell_at (hr.mono (by decide)) (pa_cons (pv 0) (pa_cons pe_int pa_nil))) pe_int) (pa_cons pe_int pa_nil)))))), ?_⟩
  refine ⟨_, rfl, _, rfl, a, ns, k, rfl, hS, hB, h0, fun x hx => ?_⟩
  refine ⟨_, rfl, a, ns, 0, rfl, hS, hB, by decide, fun z _ => ⟨_, _, rfl, rfl, (by show (0 : Int) < _; decide +kernel), by show 3 ≤ sizeLine; decide, fun l hl => q l x _ hl hx⟩⟩
theorem scDraw : FnScope ["_law_left_here", "_law_base", "_law_digit"] ["_law_left_here", "_law_base"] (defScope sDraw) := ⟨rfl, rfl, rfl, by decide +kernel, rfl, by decide +kernel, by decide +kernel⟩
theorem okDraw (F : Fn K mg "_law_draw" sDraw) (M : Mg mg) (cl_mix : Cal P w K mg base 1 "_law_mix" ["_law_number", "_law_k"] (spMixB)) : Cal P w K mg base 2 "_law_draw" ["_law_left_here", "_law_base"] (spDraw) := by
  refine cal_of F scDraw (fun _ _ _ _ _ _ => bind2 (fun _ _ => rfl)) (fun vs H Q E h => ?_) (fun f cdv A outer s H vs Q E hr h => ?_)
  · obtain ⟨l, x, f0, k, b, rfl, _⟩ := h
    rfl
  obtain ⟨l, x, f0, k, b, rfl, hl, hx, h0, h1, b0, b1, q⟩ := h
  refine ⟨_, (pss_cons (ps_asg (pe_op op_add (pe_ix ix_list (pv 0) pe_int (fun _ _ => rfl)) pe_int) (pg_sub (pv 0) pe_int set_list))
    (pss_cons (ps_if (pt_cmpR op_eq (pe_ix ix_list (pv 0) pe_int (fun _ _ => rfl)) pe_int (nomark _)) (pss_one (ps_ret (pe_op op_mod (pe_fn cl_mix (hr.mono (by decide)) (pa_cons (pe_ix ix_list (pv 0) pe_int (fun _ _ => rfl)) (pa_cons (pe_ix ix_list (pv 0) pe_int (fun _ _ => rfl)) pa_nil))) (pv 1)))) pss_nil)
    (pss_cons (ps_set (i := 2) scDraw.nd rfl (Or.inl rfl) (pe_op op_mod (pe_ix ix_list (pv 0) pe_int (fun _ _ => rfl)) (pv 1)))
    (pss_cons (ps_asg (pe_op op_fdivG (pe_ix ix_list (pv 0) pe_int (fun _ _ => rfl)) (pv 1)) (pg_sub (pv 0) pe_int set_list))
    (pss_one (ps_ret (pv 2))))))), ?_⟩
  refine seq_let5 ?_
  intro rT5 rT4 rT3 rT2
  refine ⟨_, rfl, l, _, _, _, rfl, rfl, sqL_new hl, rfl, _, _, rfl, rfl, _, rfl, l, _, _, 2, rfl, rfl, hl, rfl, ?_⟩
  have hl2 : upd H l (.lst [.int x, .int f0, .int (k + 1)]) l = some (.lst [.int x, .int f0, .int (k + 1)]) := upd_same
  refine ⟨_, rfl, l, _, _, _, rfl, rfl, sqL_new hl2, rfl, rfl, _, rfl, ite2 (fun c => ?_) (fun c => ?_)⟩
  · refine ⟨_, rfl, l, _, _, _, rfl, rfl, sqL_new hl2, rfl, _, rfl, l, _, _, _, rfl, rfl, sqL_new hl2, rfl, x, k + 1, rfl, hx, by omega, by omega, fun z _ _ => ⟨_, rfl, _, _, rfl, rfl, b0, q _ _ hx (Int.emod_nonneg _ (by omega)) (Int.emod_lt_of_pos _ b0)⟩⟩
  · refine ⟨_, rfl, l, _, _, _, rfl, rfl, sqL_new hl2, rfl, _, rfl, _, _, rfl, rfl, b0, ?_⟩
    refine ⟨_, rfl, l, _, _, _, rfl, rfl, sqL_new hl2, rfl, _, rfl, _, _, rfl, rfl, big1 b0 b1, _, rfl, l, _, _, 0, rfl, rfl, hl2, rfl, ?_⟩
    have := q (x % b) (x.fdiv b) (PyProof.Rows.bits_fdiv hx) (Int.emod_nonneg _ (by omega)) (Int.emod_lt_of_pos _ b0)
    rw [← upd_upd H l (.lst [.int x, .int f0, .int (k + 1)])] at this
    exact ⟨_, rfl, this⟩
end
end Nb
namespace Nb
open PySem L2
noncomputable abbrev sProblem20 : Stmt := top 19
section
variable {P : Program} {w : World} {K : PySem.W.Frag} {mg : Str → Option Value} {base : Heap} {aT aL : Addr} {fT fL : Str → Option Value}
theorem scProblem20 : FnScope ["_law_script", "_law_most_here", "_law_rows_most", "_law_cell", "_law_many", "_law_base", "_law_rows", "_law_k", "_law_left_here", "_law_numbers"] ["_law_script", "_law_most_here", "_law_rows_most"] (defScope sProblem20) := ⟨rfl, rfl, rfl, by decide +kernel, rfl, by decide +kernel, by decide +kernel⟩
theorem okProblem20 (F : Fn K mg "_law_problem" sProblem20) (M : Mg mg) (cl_cell_at : Cal P w K mg base 1 "_law_cell_at" ["_law_script", "_law_k"] (spCellB K)) (cl_left : Cal P w K mg base 2 "_law_left" ["_law_script", "_law_k"] (spLeftB K)) (cl_draw : Cal P w K mg base 2 "_law_draw" ["_law_left_here", "_law_base"] (spDraw)) : Cal P w K mg base 3 "_law_problem" ["_law_script", "_law_most_here", "_law_rows_most"] (spProblem20 K) := by
  refine cal_of F scProblem20 (fun _ _ _ _ _ _ => bind3 (fun _ _ _ => rfl)) (fun vs H Q E h => ?_) (fun f cdv A outer s H vs Q E hr h => ?_)
  · obtain ⟨a, ns, most, rm, rfl, _⟩ := h
    rfl
  obtain ⟨a, ns, most, rm, rfl, hS, hB, m0, m1, r0, r1, q⟩ := h
  refine ⟨_, (pss_cons (ps_set (i := 3) scProblem20.nd rfl (Or.inl rfl) (pe_op op_fdiv (pe_fn cl_cell_at (hr.mono (by decide)) (pa_cons (pv 0) (pa_cons pe_int pa_nil))) pe_int))
    (pss_cons (ps_set (i := 4) scProblem20.nd rfl (Or.inl rfl) (pe_op op_mod (pv 3) (pe_op op_add (pv 1) pe_int)))
    (pss_cons (ps_set (i := 5) scProblem20.nd rfl (Or.inr rfl) (pe_ix ix_list (pe_lst (pa_cons pe_int (pa_cons pe_int (pa_cons pe_int pa_nil)))) (pe_op op_mod (pe_op op_fdiv (pv 3) pe_int) pe_int) (fun _ _ => rfl)))
    (pss_cons (ps_set (i := 6) scProblem20.nd rfl (Or.inl rfl) (pe_lst pa_nil))
    (pss_cons (ps_for PassesOwn.never rfl (pi_range1 rfl M.range_ (pa_cons (pe_op op_mod (pe_op op_fdiv (pv 3) pe_int) (pe_op op_add (pv 2) pe_int)) pa_nil)) (pg_name (i := 7) scProblem20.nd rfl (Or.inl rfl) (Or.inl rfl)) (pss_cons (ps_set (i := 8) scProblem20.nd rfl (Or.inr rfl) (pe_fn cl_left (hr.mono (by decide)) (pa_cons (pv 0) (pa_cons (pe_op op_add pe_int (pv 7)) pa_nil))))
    (pss_cons (ps_set (i := 9) scProblem20.nd rfl (Or.inl rfl) (pe_callTy call_tuple_of rfl M.tuple_ bt_tuple (pa_cons (pe_lc ["_law_i", "_law_base", "_law_left_here"] [none, some 5, some 8] rfl (pi_range1 rfl M.range_ (pa_cons (pv 4) pa_nil)) (fun _ _ _ => (pg_name (i := 0) (show (["_law_i", "_law_base", "_law_left_here"] : List Str).Nodup by decide +kernel) rfl (Or.inl rfl) (Or.inr rfl))) (fun _ _ _ => pf_nil) (fun _ _ _ => (pe_op op_sub (pe_fn cl_draw (hr.mono (by decide)) (pa_cons (pv 2) (pa_cons (pv 1) pa_nil))) (pe_op op_fdiv (pv 1) pe_int)))) pa_nil)))
    (pss_one (ps_expr (pe_bm PySem.F.plainAttrs_list PySem.F.slot_list_append PySem.F.type_list_append mt_append (pv 6) (pa_cons (pe_tup (pa_cons (pv 9) (pa_cons (pe_op op_add (pe_op op_sub (pe_fn cl_draw (hr.mono (by decide)) (pa_cons (pv 8) (pa_cons (pe_op op_mul pe_int (pv 5)) pa_nil))) (pv 5)) pe_int) pa_nil))) pa_nil)))))))
    (pss_cons (ps_set (i := 8) scProblem20.nd rfl (Or.inr rfl) (pe_fn cl_left (hr.mono (by decide)) (pa_cons (pv 0) (pa_cons pe_int pa_nil))))
    (pss_one (ps_ret (pe_tup (pa_cons (pv 6) (pa_cons (pe_callTy call_tuple_of rfl M.tuple_ bt_tuple (pa_cons (pe_lc ["_law_i", "_law_base", "_law_left_here"] [none, some 5, some 8] rfl (pi_range1 rfl M.range_ (pa_cons (pv 4) pa_nil)) (fun _ _ _ => (pg_name (i := 0) (show (["_law_i", "_law_base", "_law_left_here"] : List Str).Nodup by decide +kernel) rfl (Or.inl rfl) (Or.inr rfl))) (fun _ _ _ => pf_nil) (fun _ _ _ => (pe_op op_sub (pe_fn cl_draw (hr.mono (by decide)) (pa_cons (pv 2) (pa_cons (pv 1) pa_nil))) (pe_op op_fdiv (pv 1) pe_int)))) pa_nil)) pa_nil))))))))))), ?_⟩
  refine seq_let7 ?_
  intro rT7 rT6 rT5 rT4 rT3 rT2
  have hz : (1000 : Nat) < sizeLine := by decide
  refine ⟨_, rfl, a, ns, 0, rfl, hS, hB, by decide, fun z' _ => ⟨_, _, rfl, rfl, ⟨by decide, by decide⟩, ?_⟩⟩
  refine ⟨_, rfl, _, rfl, _, _, rfl, rfl, _, _, rfl, rfl, by show 0 < most + 1; omega, ?_⟩
  have n0 := Int.emod_nonneg (z' / 2) (show most + 1 ≠ 0 by omega)
  have n1 := Int.emod_lt_of_pos (z' / 2) (show 0 < most + 1 by omega)
  refine ⟨by show 3 ≤ sizeLine; decide, fun p hp => ?_⟩
  obtain ⟨b, hb, b0, b1⟩ := base3 ((z' / 2) / 100)
  refine ⟨_, rfl, _, _, rfl, rfl, ⟨by decide, by decide⟩, _, _, rfl, rfl, (by show (0 : Int) < _; decide +kernel), p, _, _, _, rfl, rfl, sqL_new upd_same, hb, ?_⟩
  refine ⟨by show 0 ≤ sizeLine; decide, fun g fg => ?_⟩
  have s1 : Same H (upd (upd H p (.lst [.int 3, .int 5, .int 9])) g (.lst [])) := (same_new' hp _).trans (same_new' fg _)
  have gH : H g = none := by
    cases e5 : H g with
    | none => rfl
    | some o => rw [same_new' hp (.lst [.int 3, .int 5, .int 9]) _ _ e5] at fg; cases fg
  have c0 := Int.emod_nonneg ((z' / 2) / 10) (show rm + 1 ≠ 0 by omega)
  have c1 := Int.emod_lt_of_pos ((z' / 2) / 10) (show 0 < rm + 1 by omega)
  refine ⟨_, rfl, _, _, rfl, rfl, ⟨by decide, by decide⟩, _, rfl, _, _, rfl, rfl, _, _, rfl, rfl, by show 0 < rm + 1; omega, ?_⟩
  refine ⟨((z' / 2) / 10 % (rm + 1)), rfl, by omega, by omega, for_range (lo := 0) (n := ((z' / 2) / 10 % (rm + 1)).toNat) (fun i σ H1 => ∃ (rs : List (List Int × Int)) (vs : List V) (u1 u2 u3 : Option V), σ = [some (.ref a), some (.int most), some (.int rm), some (.int (z' / 2)), some (.int ((z' / 2) % (most + 1))), some (.int b), some (.ref g), u1, u2, u3] ∧ H1 g = some (.lst vs) ∧ RowsAre K H1 vs rs ∧ (∀ r ∈ rs, (r.1.length : Int) = (z' / 2) % (most + 1)) ∧ rs.length = i ∧ Same H H1)
    ⟨[], [], none, none, none, rfl, upd_same, .nil, (fun r hr => nomatch hr), rfl, s1⟩ ?_ ?_⟩
  · rintro i σ H1 hi ⟨rs, vs, u1, u2, u3, rfl, hg, hrw, hrl, rfl, s2⟩
    have lv := hrw.length
    refine ⟨_, rfl, _, rfl, _, _, rfl, rfl, a, ns, _, rfl, s2.seq hS, hB, by omega, fun l x f fl hx => ?_⟩
    have ngl : g ≠ l := ne_of_none hg fl
    refine ⟨_, rfl, (z' / 2) % (most + 1), rfl, by omega, by omega, fun D hD => ?_⟩
    have nD : D ≠ l := fun w => by rw [w, upd_same] at hD; cases hD
    refine lc_any (n := ((z' / 2) % (most + 1)).toNat) (fun j τ ys H5 => ∃ (v : Option V) (ms : List Int) (x : Int), τ = [v, some (.int b), some (.ref l)] ∧ ys = ms.map V.int ∧ ms.length = j ∧ H5 D = some (.lst ys) ∧ H5 l = some (.lst [.int x, .int f, .int (j : Int)]) ∧ Bits x ∧ ∀ c o, H1 c = some o → H5 c = some o)
      ?_ (fun j τ ys H5 hj h => ?_) (fun j τ ys H5 hj h => hj) (fun τ ys H5 h => Nat.le_refl _) ?_ ?_
    · exact ⟨none, [], x, rfl, rfl, rfl, upd_same, by rw [upd_ne (Ne.symm nD)]; exact upd_same, hx, fun c o e => by rw [upd_ne (fun w => by rw [w] at e; rw [upd_ne (ne_of_none e fl)] at hD; rw [hD] at e; cases e), upd_ne (ne_of_none e fl)]; exact e⟩
    · obtain ⟨v, ms, x, rfl, rfl, rfl, hD5, hl5, hx5, kp⟩ := h
      exact ⟨hD5, by rw [List.length_map]; omega⟩
    · rintro j τ ys H5 y H6 hj ⟨v, ms, x, rfl, rfl, rfl, hD5, hl5, hx5, kp⟩ ⟨rfl, rfl⟩
      refine ⟨_, rfl, _, rfl, l, x, f, _, b, rfl, hl5, hx5, by omega, by omega, b0, by omega, fun z' x' hx' z0 z1 => ⟨_, rfl, _, _, rfl, rfl, ⟨by decide, by decide⟩, _, _, rfl, rfl, by rw [upd_ne nD]; exact hD5, _, ms ++ [_], x', rfl, by rw [List.map_append]; rfl, by rw [List.length_append]; rfl, upd_same, by rw [upd_ne (Ne.symm nD), upd_same]; rfl, hx', fun c o e => ?_⟩⟩
      have c1 : c ≠ l := ne_of_none e fl
      have c2 : c ≠ D := fun w => by rw [w] at e; rw [upd_ne nD] at hD; rw [hD] at e; cases e
      rw [upd_ne c2, upd_ne c1]
      exact kp c o e
    · rintro τ ys H5 ⟨v, ms, x, rfl, rfl, hml, hD5, hl5, hx5, kp⟩
      refine ⟨D, _, rfl, .inl ⟨sqL_new hD5, fun l2 fl2 => ?_⟩⟩
      have kp2 : ∀ c o, H1 c = some o → upd H5 l2 (.tup (ms.map V.int)) c = some o := fun c o e => by rw [upd_ne (ne_of_none (kp c o e) fl2)]; exact kp c o e
      have hl6 : upd H5 l2 (.tup (ms.map V.int)) l = some (.lst [.int x, .int f, .int (((z' / 2) % (most + 1)).toNat : Nat)]) := by rw [upd_ne (ne_of_none hl5 fl2)]; exact hl5
      have ht6 : SqT K (upd H5 l2 (.tup (ms.map V.int))) l2 (ms.map V.int) := sqT_new upd_same
      generalize upd H5 l2 (.tup (ms.map V.int)) = H6 at kp2 hl6 ht6 ⊢
      have s6 : Same H1 H6 := kp2
      refine ⟨_, rfl, .inl ⟨rfl, _, sqL_new (s6 _ _ hg)⟩, _, rfl, _, rfl, _, rfl, _, _, rfl, rfl, .inl ⟨by decide, by decide⟩, l, x, f, _, 2 * b, rfl, hl6, hx5, by omega, by omega, by omega, by omega, fun y x' hx' _ _ => ?_⟩
      have ht7 : SqT K (upd H6 l (.lst [.int x', .int f, .int ((((z' / 2) % (most + 1)).toNat : Nat) + 1)])) l2 (ms.map V.int) := SqT_upd hl6 ht6
      have s7 : Same H1 (upd H6 l (.lst [.int x', .int f, .int ((((z' / 2) % (most + 1)).toNat : Nat) + 1)])) := fun c o e => by rw [upd_ne (ne_of_none e fl)]; exact s6 _ _ e
      generalize upd H6 l (.lst [.int x', .int f, .int ((((z' / 2) % (most + 1)).toNat : Nat) + 1)]) = H7 at ht7 s7 ⊢
      refine ⟨_, rfl, _, _, rfl, rfl, _, _, rfl, rfl, by show 2 ≤ sizeLine; decide, fun t ft => ?_⟩
      have s8 := same_new' ft (.tup [.ref l2, .int (y - b + 1)])
      have hg8 := s8 _ _ (s7 _ _ hg)
      refine ⟨g, _, _, rfl, rfl, hg8, by omega, rs ++ [(ms, y - b + 1)], _, _, _, _, rfl, upd_same, ?_, fun r hr' => ?_, by rw [List.length_append]; rfl, fun c o e => ?_⟩
      · exact RowsAre.snoc (hrw.imp fun _ _ w => ((w.same s7).same s8).upd hg8) (RowAt.upd hg8 ⟨l2, sqT_new upd_same, s8.tup ht7⟩)
      · rcases List.mem_append.mp hr' with w | w
        · exact hrl r w
        · rw [List.mem_singleton.mp w]; show (ms.length : Int) = _; omega
      · rw [upd_ne (ne_of_none e gH)]; exact s8 _ _ (s7 _ _ (s2 _ _ e))
  · rintro σ H1 ⟨rs, vs, u1, u2, u3, rfl, hg, hrw, hrl, hcl, s2⟩
    refine ⟨_, rfl, a, ns, _, rfl, s2.seq hS, hB, by decide, fun l x f fl hx => ?_⟩
    refine ⟨_, rfl, ?_⟩
    refine ⟨_, rfl, (z' / 2) % (most + 1), rfl, by omega, by omega, fun D hD => ?_⟩
    have nD : D ≠ l := fun w => by rw [w, upd_same] at hD; cases hD
    refine lc_any (n := ((z' / 2) % (most + 1)).toNat) (fun j τ ys H5 => ∃ (v : Option V) (ms : List Int) (x : Int), τ = [v, some (.int b), some (.ref l)] ∧ ys = ms.map V.int ∧ ms.length = j ∧ H5 D = some (.lst ys) ∧ H5 l = some (.lst [.int x, .int f, .int (j : Int)]) ∧ Bits x ∧ ∀ c o, H1 c = some o → H5 c = some o)
      ?_ (fun j τ ys H5 hj h => ?_) (fun j τ ys H5 hj h => hj) (fun τ ys H5 h => Nat.le_refl _) ?_ ?_
    · exact ⟨none, [], x, rfl, rfl, rfl, upd_same, by rw [upd_ne (Ne.symm nD)]; exact upd_same, hx, fun c o e => by rw [upd_ne (fun w => by rw [w] at e; rw [upd_ne (ne_of_none e fl)] at hD; rw [hD] at e; cases e), upd_ne (ne_of_none e fl)]; exact e⟩
    · obtain ⟨v, ms, x, rfl, rfl, rfl, hD5, hl5, hx5, kp⟩ := h
      exact ⟨hD5, by rw [List.length_map]; omega⟩
    · rintro j τ ys H5 y H6 hj ⟨v, ms, x, rfl, rfl, rfl, hD5, hl5, hx5, kp⟩ ⟨rfl, rfl⟩
      refine ⟨_, rfl, _, rfl, l, x, f, _, b, rfl, hl5, hx5, by omega, by omega, b0, by omega, fun z' x' hx' z0 z1 => ⟨_, rfl, _, _, rfl, rfl, ⟨by decide, by decide⟩, _, _, rfl, rfl, by rw [upd_ne nD]; exact hD5, _, ms ++ [_], x', rfl, by rw [List.map_append]; rfl, by rw [List.length_append]; rfl, upd_same, by rw [upd_ne (Ne.symm nD), upd_same]; rfl, hx', fun c o e => ?_⟩⟩
      have c1 : c ≠ l := ne_of_none e fl
      have c2 : c ≠ D := fun w => by rw [w] at e; rw [upd_ne nD] at hD; rw [hD] at e; cases e
      rw [upd_ne c2, upd_ne c1]
      exact kp c o e
    · rintro τ ys H5 ⟨v, ms, x, rfl, rfl, hml, hD5, hl5, hx5, kp⟩
      refine ⟨D, _, rfl, .inl ⟨sqL_new hD5, fun l2 fl2 => ?_⟩⟩
      have kp2 : ∀ c o, H1 c = some o → upd H5 l2 (.tup (ms.map V.int)) c = some o := fun c o e => by rw [upd_ne (ne_of_none (kp c o e) fl2)]; exact kp c o e
      refine ⟨by show 2 ≤ sizeLine; decide, fun t ft => ?_⟩
      have s6 : Same H1 (upd H5 l2 (.tup (ms.map V.int))) := kp2
      have s7 := same_new' ft (.tup [.ref g, .ref l2])
      exact q t rs ms _ ((s2.trans s6).trans s7) ⟨g, l2, vs, sqT_new upd_same, sqL_new (s7 _ _ (s6 _ _ hg)), hrw.imp fun _ _ w => (w.same s6).same s7, s7.tup (sqT_new upd_same)⟩ (fun r hr' => by have := hrl r hr'; omega) (by omega) (by omega)
end
end Nb
namespace Nb
open PySem L2
noncomputable abbrev sHolds20 : Stmt := top 20
section
variable {P : Program} {w : World} {K : PySem.W.Frag} {mg : Str → Option Value} {base : Heap} {aT aL : Addr} {fT fL : Str → Option Value}
theorem scHolds20 : FnScope ["_law_left_here", "_law_many", "_law_holds_here", "_law_choice", "_law_worth", "_law_place"] ["_law_left_here", "_law_many"] (defScope sHolds20) := ⟨rfl, rfl, rfl, by decide +kernel, rfl, by decide +kernel, by decide +kernel⟩
theorem okHolds20 (F : Fn K mg "_law_holds" sHolds20) (M : Mg mg) (cl_draw : Cal P w K mg base 2 "_law_draw" ["_law_left_here", "_law_base"] (spDraw)) : Cal P w K mg base 3 "_law_holds" ["_law_left_here", "_law_many"] (spHolds20 K) := by
  refine cal_of F scHolds20 (fun _ _ _ _ _ _ => bind2 (fun _ _ => rfl)) (fun vs H Q E h => ?_) (fun f cdv A outer s H vs Q E hr h => ?_)
  · obtain ⟨l, x, f0, n, rfl, _⟩ := h
    rfl
  obtain ⟨l, x, f0, n, rfl, hl, hx, hn, q⟩ := h
  refine ⟨_, (pss_cons (ps_set (i := 2) scHolds20.nd rfl (Or.inl rfl) (pe_lst pa_nil))
    (pss_cons (ps_for PassesOwn.never rfl (pi_range1 rfl M.range_ (pa_cons (pv 1) pa_nil)) (pg_name (i := 3) scHolds20.nd rfl (Or.inl rfl) (Or.inl rfl)) (pss_cons (ps_set (i := 4) scHolds20.nd rfl (Or.inl rfl) (pe_fn cl_draw (hr.mono (by decide)) (pa_cons (pv 0) (pa_cons pe_int pa_nil))))
    (pss_cons (ps_set (i := 5) scHolds20.nd rfl (Or.inl rfl) (pe_fn cl_draw (hr.mono (by decide)) (pa_cons (pv 0) (pa_cons (pe_op op_add (pe_callB call_len_seq rfl M.len bt_len (pa_cons (pv 2) pa_nil)) pe_int) pa_nil))))
    (pss_one (ps_if (pt_cmpR op_lt (pv 4) pe_int (nomark _)) (pss_one (ps_expr (pe_bm PySem.F.plainAttrs_list PySem.F.slot_list_insert PySem.F.type_list_insert mt_insert (pv 2) (pa_cons (pv 5) (pa_cons (pe_tup (pa_cons (pv 3) (pa_cons (pv 4) pa_nil))) pa_nil))))) pss_nil)))))
    (pss_one (ps_ret (pv 2))))), ?_⟩
  refine seq_let3 ?_
  intro rT3 rT2
  have hz : (1000 : Nat) < sizeLine := by decide
  refine ⟨by show 0 ≤ sizeLine; decide, fun g fg => ?_⟩
  have ngl : g ≠ l := fun w => by rw [w, hl] at fg; cases fg
  refine ⟨_, rfl, (n : Int), rfl, by omega, by omega, for_range (lo := 0) (n := ((n : Int)).toNat) (fun i σ H1 => ∃ (hs : List (Int × Int)) (ws : List V) (y : Int) (u1 u2 u3 : Option V), σ = [some (.ref l), some (.int (n : Int)), some (.ref g), u1, u2, u3] ∧ H1 g = some (.lst ws) ∧ PairsAre K H1 ws (hs.map fun p => (p.1, V.int p.2)) ∧ Good i hs ∧ hs.length ≤ i ∧ H1 l = some (.lst [.int y, .int f0, .int (2 * (i : Int))]) ∧ Bits y ∧ ∀ b o, b ≠ l → H b = some o → H1 b = some o)
    ⟨[], [], x, none, none, none, rfl, upd_same, .nil, ⟨List.nodup_nil, fun p hp => nomatch hp⟩, Nat.le_refl _, by rw [upd_ne (Ne.symm ngl)]; exact hl, hx, fun b o _ e => by rw [upd_ne (ne_of_none e fg)]; exact e⟩ ?_ ?_⟩
  · rintro i σ H1 hi ⟨hs, ws, y, u1, u2, u3, rfl, hg, hpa, hG, hlen, hl1, hy, kp⟩
    have hi' : i < n := hi
    have lv := hpa.length
    rw [List.length_map] at lv
    refine ⟨_, rfl, l, y, f0, _, 3, rfl, hl1, hy, by omega, by omega, by decide, by decide, fun w y' hy' w0 w1 => ?_⟩
    have hg2 : upd H1 l (.lst [.int y', .int f0, .int (2 * (i : Int) + 1)]) g = some (.lst ws) := by rw [upd_ne ngl]; exact hg
    have hl2 : upd H1 l (.lst [.int y', .int f0, .int (2 * (i : Int) + 1)]) l = some (.lst [.int y', .int f0, .int (2 * (i : Int) + 1)]) := upd_same
    have hpa2 := PairsAre.upd (zs := [.int y', .int f0, .int (2 * (i : Int) + 1)]) hl1 hpa
    have kp2 : ∀ b o, b ≠ l → H b = some o → upd H1 l (.lst [.int y', .int f0, .int (2 * (i : Int) + 1)]) b = some o := fun b o nb e => by rw [upd_ne nb]; exact kp b o nb e
    generalize upd H1 l (.lst [.int y', .int f0, .int (2 * (i : Int) + 1)]) = H2 at hg2 hl2 hpa2 kp2 ⊢
    refine ⟨_, rfl, _, rfl, g, ws, rfl, .inl (sqL_new hg2), _, _, rfl, rfl, l, y', f0, _, _, rfl, hl2, hy', by omega, by omega, by omega, by omega, fun k y2 hy2 k0 k1 => ?_⟩
    have hg3 : upd H2 l (.lst [.int y2, .int f0, .int (2 * (i : Int) + 1 + 1)]) g = some (.lst ws) := by rw [upd_ne ngl]; exact hg2
    have hl3 : upd H2 l (.lst [.int y2, .int f0, .int (2 * (i : Int) + 1 + 1)]) l = some (.lst [.int y2, .int f0, .int (2 * (((i + 1 : Nat)) : Int))]) := by rw [upd_same, show 2 * (i : Int) + 1 + 1 = 2 * (((i + 1 : Nat)) : Int) by omega]
    have hpa3 := PairsAre.upd (zs := [.int y2, .int f0, .int (2 * (i : Int) + 1 + 1)]) hl2 hpa2
    have kp3 : ∀ b o, b ≠ l → H b = some o → upd H2 l (.lst [.int y2, .int f0, .int (2 * (i : Int) + 1 + 1)]) b = some o := fun b o nb e => by rw [upd_ne nb]; exact kp2 b o nb e
    generalize upd H2 l (.lst [.int y2, .int f0, .int (2 * (i : Int) + 1 + 1)]) = H3 at hg3 hl3 hpa3 kp3 ⊢
    refine ⟨_, rfl, _, _, rfl, rfl, _, rfl, ite2 (fun c => ?_) (fun c => ?_)⟩
    · have c' : w < 2 := of_decide_eq_true c
      refine ⟨_, rfl, .inl ⟨rfl, _, sqL_new hg3⟩, _, rfl, _, rfl, _, rfl, by show 2 ≤ sizeLine; decide, fun T hT => ?_⟩
      have s2 : Same H3 (upd H3 T (.tup [.int (0 + (i : Int)), .int w])) := same_new' hT _
      have hg4 := s2 _ _ hg3
      refine ⟨g, ws, _, _, rfl, rfl, hg4, k0, by omega, by omega, ?_⟩
      refine ⟨hs.take k.toNat ++ (0 + (i : Int), w) :: hs.drop k.toNat, _, y2, _, _, _, rfl, upd_same, ?_, good_ins hG (by omega) _, ?_, by rw [upd_ne (Ne.symm ngl)]; exact s2 _ _ hl3, hy2, fun b o nb e => ?_⟩
      · have := PairsAre.upd (zs := insV ws k.toNat (.ref T)) hg4 (pairs_ins (PairsAre.same s2 hpa3) (sqT_new upd_same) k.toNat)
        rw [← List.map_take, ← List.map_drop] at this
        rw [List.map_append, List.map_cons]
        exact this
      · rw [List.length_append, List.length_cons, List.length_take, List.length_drop]; omega
      · rw [upd_ne (ne_of_none e fg)]; exact s2 _ _ (kp3 b o nb e)
    · exact ⟨hs, ws, y2, _, _, _, rfl, hg3, hpa3, ⟨hG.nd, fun p hp => ⟨(hG.ok p hp).1, by have := (hG.ok p hp).2.1; omega, (hG.ok p hp).2.2⟩⟩, by omega, hl3, hy2, kp3⟩
  · rintro σ H1 ⟨hs, ws, y, u1, u2, u3, rfl, hg, hpa, hG, hlen, hl1, hy, kp⟩
    exact ⟨_, rfl, q g hs ws H1 kp fg hg hpa hG hlen⟩
end
end Nb
namespace Nb
open PySem L2
noncomputable abbrev sMost21 : Stmt := top 26
theorem inV_ints (c : Int) (ks : List Int) : inV (.int c) (ks.map V.int) = decide (c ∈ ks) := by
  induction ks with
  | nil => rfl
  | cons k r ih =>
    show (eqV (V.int k) (V.int c) || inV (.int c) (r.map V.int)) = _
    rw [ih, Bool.eq_iff_iff, decide_eq_true_iff, Bool.or_eq_true, decide_eq_true_iff, List.mem_cons]
    show ((k == c) = true ∨ _) ↔ _
    rw [beq_iff_eq]
    constructor
    · rintro (h | h)
      · exact .inl h.symm
      · exact .inr h
    · rintro (h | h)
      · exact .inl h.symm
      · exact .inr h
theorem flat_ints (ks : List Int) : (ks.map V.int).all flatV = true := by
  rw [List.all_eq_true]
  intro x hx
  obtain ⟨k, _, rfl⟩ := List.mem_map.mp hx
  rfl
theorem atZ {ns : List Int} {c : Int} (h0 : 0 ≤ c) (h1 : c < (ns.length : Int)) : atI (ns.map V.int) c = some (.int (ns.getD c.toNat 0)) := by
  have e : c = ((c.toNat : Nat) : Int) := by omega
  rw [e]
  exact atN (by omega)
theorem holds_get {K : PySem.W.Frag} {H H1 : Hp} {ws : List V} {hs : List (Int × Int)} (hpa : PairsAre K H ws (hs.map fun p => (p.1, V.int p.2))) {i : Nat} {v : V} (e : ws[i]? = some v) (s : Same H H1) : ∃ T c w, v = .ref T ∧ hs[i]? = some (c, w) ∧ SqT K H1 T [.int c, .int w] := by
  obtain ⟨T, pr, rfl, ep, hT⟩ := hpa.get e
  rw [List.getElem?_map] at ep
  obtain ⟨⟨c, w⟩, ec, rfl⟩ := Option.map_eq_some_iff.mp ep
  exact ⟨T, c, w, rfl, ec, s.tup hT⟩
noncomputable def spMostL (K : PySem.W.Frag) : Sp := fun vs H Q _ => ∃ (t l : Addr) (r : List Int × Int) (hs : List (Int × Int)), vs = [.ref t, .ref l] ∧ RowAt K H t r ∧ HoldsAt K H l hs ∧ Good r.1.length hs ∧ r.1.length ≤ 1000 ∧ hs.length ≤ 1001 ∧ ∀ H', Same H H' → Q (.int (roomL r hs + r.2)) H'
section
variable {P : Program} {w : World} {K : PySem.W.Frag} {mg : Str → Option Value} {base : Heap} {aT aL : Addr} {fT fL : Str → Option Value}
theorem scMost21 : FnScope ["_law_row_here", "_law_holds_here", "_law_held", "_law_total"] ["_law_row_here", "_law_holds_here"] (defScope sMost21) := ⟨rfl, rfl, rfl, by decide +kernel, rfl, by decide +kernel, by decide +kernel⟩
theorem okMost21 (F : Fn K mg "_law_most" sMost21) (M : Mg mg) : Cal P w K mg base 1 "_law_most" ["_law_row_here", "_law_holds_here"] (spMostL K) := by
  refine cal_of F scMost21 (fun _ _ _ _ _ _ => bind2 (fun _ _ => rfl)) (fun vs H Q E h => ?_) (fun f cdv A outer s H vs Q E hr h => ?_)
  · obtain ⟨t, l, r, hs, rfl, _⟩ := h
    rfl
  obtain ⟨t, l, r, hs, rfl, rt, hh, hG, hn, hhl, q⟩ := h
  refine ⟨_, (pss_cons (ps_set (i := 2) scMost21.nd rfl (Or.inr rfl) (pe_lc ["_law_choice", "_law_worth"] [none, none] rfl (pi_list (pv 1)) (fun _ _ _ => (pg_pair (K := K) (i := 0) (j := 1) rfl rfl (show (["_law_choice", "_law_worth"] : List Str).Nodup by decide +kernel) rfl rfl rfl rfl)) (fun _ _ _ => pf_nil) (fun _ _ _ => (pv 0))))
    (pss_cons (ps_set (i := 3) scMost21.nd rfl (Or.inl rfl) (pe_callB (call_sumI rfl) rfl M.sum bt_sum (pa_cons (pe_lc ["_law_choice", "_law_worth", "_law_row_here"] [none, none, some 0] rfl (pi_list (pv 1)) (fun _ _ _ => (pg_pair (K := K) (i := 0) (j := 1) rfl rfl (show (["_law_choice", "_law_worth", "_law_row_here"] : List Str).Nodup by decide +kernel) rfl rfl rfl rfl)) (fun _ _ _ => pf_nil) (fun _ _ _ => (pe_op op_mul (pe_ix (ix_tupK (K := K) rfl) (pe_ix (ix_tupK (K := K) rfl) (pv 2) pe_int (fun _ _ => rfl)) (pv 0) (fun _ _ => rfl)) (pv 1)))) pa_nil)))
    (pss_one (ps_ret (pe_op op_add (pv 3) (pe_callB (call_sumI rfl) rfl M.sum bt_sum (pa_cons (pe_lc ["_law_k", "_law_row_here", "_law_held"] [none, some 0, some 2] rfl (pi_range1 rfl M.range_ (pa_cons (pe_callB call_len_seq rfl M.len bt_len (pa_cons (pe_ix ix_tup (pv 0) pe_int (fun _ _ => rfl)) pa_nil)) pa_nil)) (fun _ _ _ => (pg_name (i := 0) (show (["_law_k", "_law_row_here", "_law_held"] : List Str).Nodup by decide +kernel) rfl (Or.inl rfl) (Or.inr rfl))) (fun _ _ _ => (pf_one (pt_cmpR (op_notIn_seqK (K := K) rfl) (pv 0) (pv 2) rfl))) (fun _ _ _ => (pe_callB (call_max2 rfl) rfl M.max bt_max (pa_cons pe_int (pa_cons (pe_ix (ix_tupK (K := K) rfl) (pe_ix (ix_tupK (K := K) rfl) (pv 1) pe_int (fun _ _ => rfl)) (pv 0) (fun _ _ => rfl)) pa_nil))))) pa_nil))))))), ?_⟩
  refine seq_let3 ?_
  intro rT3 rT2
  have hz : (2000 : Nat) < sizeLine := by decide
  obtain ⟨p, rt1, rt2⟩ := id rt
  obtain ⟨ws, hl, hpa⟩ := id hh
  have lv := hpa.length
  rw [List.length_map] at lv
  refine ⟨_, rfl, l, rfl, ⟨_, hl⟩, fun D hD => ?_⟩
  refine lc_any (n := hs.length) (fun i τ ys H1 => ∃ u v : Option V, τ = [u, v] ∧ ys = ((hs.map (·.1)).take i).map V.int ∧ H1 D = some (.lst ys) ∧ Same H H1) ?_ (fun i τ ys H1 hi h => ?_) (fun i τ ys H1 hi h => ?_) (fun τ ys H1 h => ?_) ?_ ?_
  · exact ⟨none, none, rfl, rfl, upd_same, same_new' hD _⟩
  · obtain ⟨u, v, rfl, rfl, hD1, s1⟩ := h
    exact ⟨hD1, by rw [List.length_map, List.length_take]; omega⟩
  · obtain ⟨u, v, rfl, rfl, hD1, s1⟩ := h
    exact ⟨ws, ws[i]'(by omega), s1.seq hl, List.getElem?_eq_getElem (by omega)⟩
  · obtain ⟨u, v, rfl, rfl, hD1, s1⟩ := h
    exact ⟨ws, s1.seq hl, by omega⟩
  · rintro i τ ys H1 x H2 hi ⟨u, v, rfl, rfl, hD1, s1⟩ ⟨rfl, e1⟩
    obtain ⟨T, c, w, rfl, ec, hT⟩ := holds_get hpa (e1 _ (s1.seq hl)) s1
    refine ⟨T, _, rfl, hT, rfl, _, _, rfl, _, _, rfl, rfl, ?_⟩
    refine ⟨_, rfl, hD1, _, _, rfl, ?_, upd_same, fun b o e => ?_⟩
    · rw [takeS (show (hs.map (·.1))[i]? = some c by rw [List.getElem?_map, ec]; rfl), List.map_append]; rfl
    · rw [upd_ne (ne_of_none e hD)]; exact s1 _ _ e
  rintro τ ys H1 ⟨u, v, rfl, rfl, hD1, s1⟩
  rw [List.take_of_length_le (by rw [List.length_map]; exact Nat.le_refl _)] at hD1
  refine ⟨_, rfl, l, rfl, ⟨_, s1.seq hl⟩, fun D2 hD2 => ?_⟩
  refine lc_any (n := hs.length) (fun i τ ys H2 => ∃ u v : Option V, τ = [u, v, some (.ref t)] ∧ ys = ((hs.map fun p => r.1.getD p.1.toNat 0 * p.2).take i).map V.int ∧ H2 D2 = some (.lst ys) ∧ Same H1 H2) ?_ (fun i τ ys H2 hi h => ?_) (fun i τ ys H2 hi h => ?_) (fun τ ys H2 h => ?_) ?_ ?_
  · exact ⟨none, none, rfl, rfl, upd_same, same_new' hD2 _⟩
  · obtain ⟨u, v, rfl, rfl, hE, s2⟩ := h
    exact ⟨hE, by rw [List.length_map, List.length_take]; omega⟩
  · obtain ⟨u, v, rfl, rfl, hE, s2⟩ := h
    exact ⟨ws, ws[i]'(by omega), (s1.trans s2).seq hl, List.getElem?_eq_getElem (by omega)⟩
  · obtain ⟨u, v, rfl, rfl, hE, s2⟩ := h
    exact ⟨ws, (s1.trans s2).seq hl, by omega⟩
  · rintro i τ ys H2 x H3 hi ⟨u, v, rfl, rfl, hE, s2⟩ ⟨rfl, e1⟩
    have s12 := s1.trans s2
    obtain ⟨T, c, w, rfl, ec, hT⟩ := holds_get hpa (e1 _ (s12.seq hl)) s12
    obtain ⟨g1, g2, g3⟩ := hG.ok (c, w) (List.mem_of_getElem? ec)
    refine ⟨T, _, rfl, hT, rfl, _, _, rfl, _, _, rfl, rfl, ?_⟩
    refine ⟨_, rfl, t, _, _, _, rfl, rfl, s12.tup rt1, at0, _, rfl, p, _, _, _, rfl, rfl, s12.tup rt2, atZ g1 g2, _, rfl, _, _, rfl, rfl, .inr ⟨by show -(2 ^ 64) < w; have : w = 0 ∨ w = 1 := g3; omega, by show w < 2 ^ 64; have : w = 0 ∨ w = 1 := g3; omega⟩, hE, _, _, rfl, ?_, upd_same, fun b o e => ?_⟩
    · rw [takeS (show (hs.map fun p => r.1.getD p.1.toNat 0 * p.2)[i]? = some (r.1.getD c.toNat 0 * w) by rw [List.getElem?_map, ec]; rfl), List.map_append]; rfl
    · rw [upd_ne (ne_of_none e hD2)]; exact s2 _ _ e
  rintro τ ys H2 ⟨u2, v2, rfl, rfl, hE, s2⟩
  rw [List.take_of_length_le (by rw [List.length_map]; exact Nat.le_refl _)] at hE
  have s12 := s1.trans s2
  refine ⟨D2, _, rfl, sqL_new hE, ?_⟩
  have ln : (r.1.map V.int).length = r.1.length := List.length_map ..
  refine ⟨_, rfl, _, rfl, t, _, _, _, rfl, rfl, s12.tup rt1, at0, p, _, rfl, .inr (s12.tup rt2), _, rfl, by omega, by rw [ln]; omega, fun D3 hD3 => ?_⟩
  refine lc_any (n := Int.toNat (((r.1.map V.int).length : Nat) : Int)) (fun i τ ys H3 => ∃ v : Option V, τ = [v, some (.ref t), some (.ref D)] ∧ ys = (((List.range i).filter fun (k : Nat) => !decide ((k : Int) ∈ hs.map (·.1))).map fun (k : Nat) => addF none (r.1.getD k 0)).map V.int ∧ H3 D3 = some (.lst ys) ∧ Same H2 H3) ?_ (fun i τ ys H3 hi h => ?_) (fun i τ ys H3 hi h => hi) (fun τ ys H3 h => Nat.le_refl _) ?_ ?_
  · exact ⟨none, rfl, rfl, upd_same, same_new' hD3 _⟩
  · obtain ⟨v, rfl, rfl, hF, s3⟩ := h
    refine ⟨hF, ?_⟩
    have := List.length_filter_le (fun (k : Nat) => !decide ((k : Int) ∈ hs.map (·.1))) (List.range i)
    rw [List.length_range] at this
    rw [List.length_map, List.length_map]
    rw [ln] at hi
    omega
  · rintro i τ ys H3 x H4 hi ⟨v, rfl, rfl, hF, s3⟩ ⟨rfl, rfl⟩
    have s23 := s2.trans s3
    have s13 := s1.trans s23
    have hi' : i < r.1.length := by rw [ln] at hi; omega
    have ez : (0 : Int) + (i : Int) = ((i : Nat) : Int) := by omega
    rw [ez]
    refine ⟨_, rfl, _, rfl, D, _, rfl, .inl (sqL_new (s23 _ _ hD1)), rfl, flat_ints _, _, rfl, ?_⟩
    rw [inV_ints]
    refine ite2 (fun y => ?_) (fun y => ?_)
    · have y' : (!decide (((i : Nat) : Int) ∈ hs.map (·.1))) = true := y
      refine ⟨_, rfl, t, _, _, _, rfl, rfl, s13.tup rt1, at0, _, rfl, p, _, _, _, rfl, rfl, s13.tup rt2, atN hi', _, _, rfl, hF, _, rfl, ?_, upd_same, fun b o e => ?_⟩
      · rw [List.range_succ, List.filter_append, List.map_append, List.map_append, List.filter_cons_of_pos (p := fun (k : Nat) => !decide ((k : Int) ∈ hs.map (·.1))) y']; rfl
      · rw [upd_ne (ne_of_none e hD3)]; exact s3 _ _ e
    · have y' : ¬ (!decide (((i : Nat) : Int) ∈ hs.map (·.1))) = true := y
      refine ⟨_, rfl, ?_, ?_, s3⟩
      · rw [List.range_succ, List.filter_append, List.filter_cons_of_neg (p := fun (k : Nat) => !decide ((k : Int) ∈ hs.map (·.1))) y', List.filter_nil, List.append_nil]
      · rw [hF]
  · rintro τ ys H3 ⟨v, rfl, rfl, hF, s3⟩
    have en : Int.toNat (((r.1.map V.int).length : Nat) : Int) = r.1.length := by rw [ln]; omega
    rw [en] at hF
    have s13 := s12.trans s3
    have q5 := q H3 s13
    unfold roomL at q5
    rw [Int.sub_add_cancel] at q5
    exact ⟨D3, _, rfl, sqL_new hF, _, _, rfl, rfl, q5⟩
end
end Nb
namespace Nb
open PySem L2
noncomputable abbrev sShutO : Stmt := top 27
theorem rep0 (n : Nat) : (List.replicate n [V.int 0]).flatten = (List.replicate n (0 : Int)).map V.int := by
  induction n with
  | zero => rfl
  | succ n ih => rw [List.replicate_succ, List.flatten_cons, ih, List.replicate_succ, List.map_cons]; rfl
theorem set_map (ns : List Int) (k : Nat) (x : Int) : (ns.map V.int).set k (V.int x) = (ns.set k x).map V.int := by rw [List.map_set]
theorem shN_take {n : Nat} {hs : List (Int × Int)} (h : Good n hs) {i : Nat} {c w : Int} (e : hs[i]? = some (c, w)) : (List.range n).map (shN (hs.take (i + 1))) = ((List.range n).map (shN (hs.take i))).set c.toNat (1 - 2 * w) := by
  obtain ⟨k1, k2, k3⟩ := h.ok (c, w) (List.mem_of_getElem? e)
  have k1' : 0 ≤ c := k1
  have k2' : c < (n : Int) := k2
  have ec : c = ((c.toNat : Nat) : Int) := by omega
  have hf : hv (hs.take i) c.toNat = none := by
    rw [hv_none, ← ec]
    intro hm
    obtain ⟨hi, ei⟩ := List.getElem?_eq_some_iff.mp e
    have nd := h.nd
    rw [← List.take_append_drop i hs, List.map_append, List.drop_eq_getElem_cons hi, ei, List.map_cons, List.nodup_append] at nd
    exact nd.2.2 c hm c (List.mem_cons_self ..) rfl
  rw [takeS e]
  refine List.ext_getElem? fun k => ?_
  rw [List.getElem?_set, List.length_map, List.length_range, List.getElem?_map, List.getElem?_map]
  have sa := shN_app (h := hs.take i) (c := c.toNat) (w := w) hf k
  rw [← ec] at sa
  by_cases hk : k < n
  · rw [List.getElem?_range hk]
    show some (shN (hs.take i ++ [(c, w)]) k) = if c.toNat = k then (if c.toNat < n then some (1 - 2 * w) else none) else some (shN (hs.take i) k)
    rw [sa]
    by_cases e2 : k = c.toNat
    · rw [if_pos e2, if_pos e2.symm, if_pos (by omega)]
    · rw [if_neg e2, if_neg (fun z => e2 z.symm)]
  · have e0 : (List.range n)[k]? = none := List.getElem?_eq_none (by rw [List.length_range]; omega)
    rw [e0]
    show none = if c.toNat = k then (if c.toNat < n then some (1 - 2 * w) else none) else none
    rw [if_neg (by omega)]
noncomputable def spShutO (K : PySem.W.Frag) : Sp := fun vs H Q _ => ∃ (l : Addr) (n : Nat) (hs : List (Int × Int)), vs = [.int (n : Int), .ref l] ∧ HoldsAt K H l hs ∧ Good n hs ∧ n ≤ 1000 ∧ hs.length ≤ 1000 ∧ ∀ t' H', Same H H' → RowAt K H' t' (shutR n hs) → Q (.ref t') H'
section
variable {P : Program} {w : World} {K : PySem.W.Frag} {mg : Str → Option Value} {base : Heap} {aT aL : Addr} {fT fL : Str → Option Value}
theorem scShutO : FnScope ["_law_many", "_law_holds_here", "_law_numbers", "_law_choice", "_law_worth"] ["_law_many", "_law_holds_here"] (defScope sShutO) := ⟨rfl, rfl, rfl, by decide +kernel, rfl, by decide +kernel, by decide +kernel⟩
theorem okShutO (F : Fn K mg "_law_shut_out" sShutO) (M : Mg mg) : Cal P w K mg base 1 "_law_shut_out" ["_law_many", "_law_holds_here"] (spShutO K) := by
  refine cal_of F scShutO (fun _ _ _ _ _ _ => bind2 (fun _ _ => rfl)) (fun vs H Q E h => ?_) (fun f cdv A outer s H vs Q E hr h => ?_)
  · obtain ⟨l, n, hs, rfl, _⟩ := h
    rfl
  obtain ⟨l, n, hs, rfl, ⟨ws, hl, hpa⟩, hG, hn, hhl, q⟩ := h
  refine ⟨_, (pss_cons (ps_set (i := 2) scShutO.nd rfl (Or.inl rfl) (pe_op op_rep (pe_lst (pa_cons pe_int pa_nil)) (pv 0)))
    (pss_cons (ps_for PassesOwn.never rfl (pi_list (pv 1)) (pg_pair (K := K) (i := 3) (j := 4) rfl rfl scShutO.nd rfl rfl rfl rfl) (pss_one (ps_asg (pe_op op_sub pe_int (pe_op op_mul pe_int (pv 4))) (pg_sub (pv 2) (pv 3) set_list))))
    (pss_one (ps_ret (pe_tup (pa_cons (pe_callTy call_tuple_of rfl M.tuple_ bt_tuple (pa_cons (pv 2) pa_nil)) (pa_cons (pe_op op_sub pe_int (pe_callB (call_sumI rfl) rfl M.sum bt_sum (pa_cons (pe_lc ["_law_choice", "_law_worth"] [none, none] rfl (pi_list (pv 1)) (fun _ _ _ => (pg_pair (K := K) (i := 0) (j := 1) rfl rfl (show (["_law_choice", "_law_worth"] : List Str).Nodup by decide +kernel) rfl rfl rfl rfl)) (fun _ _ _ => pf_nil) (fun _ _ _ => (pv 1))) pa_nil))) pa_nil))))))), ?_⟩
  refine seq_let3 ?_
  intro rT3 rT2
  have hz : (2000 : Nat) < sizeLine := by decide
  have lv := hpa.length
  rw [List.length_map] at lv
  refine ⟨by show 1 ≤ sizeLine; decide, fun p0 hp0 => ?_⟩
  refine ⟨_, rfl, p0, (n : Int), _, rfl, rfl, upd_same, by omega, by omega, by show 1 * ((n : Int)).toNat ≤ sizeLine; omega, fun g0 hg0 => ?_⟩
  have e0 : (List.replicate ((n : Int)).toNat [V.int 0]).flatten = (List.replicate n (0 : Int)).map V.int := rep0 n
  rw [e0]
  have s0 : Same H (upd (upd H p0 (.lst [.int 0])) g0 (.lst ((List.replicate n (0 : Int)).map V.int))) := (same_new' hp0 _).trans (same_new' hg0 _)
  have gH : H g0 = none := by
    cases e5 : H g0 with
    | none => rfl
    | some o => rw [same_new' hp0 (.lst [.int 0]) _ _ e5] at hg0; cases hg0
  have hg : upd (upd H p0 (.lst [.int 0])) g0 (.lst ((List.replicate n (0 : Int)).map V.int)) g0 = some (.lst ((List.replicate n (0 : Int)).map V.int)) := upd_same
  generalize upd (upd H p0 (.lst [.int 0])) g0 (.lst ((List.replicate n (0 : Int)).map V.int)) = H0 at s0 hg ⊢
  have hg' : _ = some (HO.lst (((List.range n).map (shN (hs.take 0))).map V.int)) := hg.trans (by
    have : (List.range n).map (shN (hs.take 0)) = List.replicate n 0 := List.eq_replicate_iff.mpr ⟨by rw [List.length_map, List.length_range], fun b hb => by obtain ⟨k, _, rfl⟩ := List.mem_map.mp hb; rfl⟩
    rw [this])
  refine ⟨_, rfl, l, rfl, ⟨_, s0.seq hl⟩, for_list (K := K) (a := l) (xs := ws) (fun i σ H1 => ∃ u v : Option V, σ = [some (.int (n : Int)), some (.ref l), some (.ref g0), u, v] ∧ H1 g0 = some (.lst (((List.range n).map (shN (hs.take i))).map V.int)) ∧ Same H H1) ⟨none, none, rfl, hg', s0⟩ (fun i σ H1 _ h => ?_) ?_ ?_⟩
  · obtain ⟨u, v, rfl, hg1, s1⟩ := h
    exact s1.seq hl
  · rintro i x σ H1 e1 ⟨u, v, rfl, hg1, s1⟩
    obtain ⟨T, pr, rfl, ep, hT⟩ := hpa.get e1
    rw [List.getElem?_map] at ep
    obtain ⟨⟨c, w⟩, ec, rfl⟩ := Option.map_eq_some_iff.mp ep
    obtain ⟨k1, k2, k3⟩ := hG.ok (c, w) (List.mem_of_getElem? ec)
    have k1' : 0 ≤ c := k1
    have k2' : c < (n : Int) := k2
    have hl1 : ((List.range n).map (shN (hs.take i))).length = n := by rw [List.length_map, List.length_range]
    refine ⟨T, _, rfl, s1.tup hT, rfl, _, _, rfl, _, _, rfl, rfl, ?_⟩
    refine ⟨_, rfl, _, _, rfl, rfl, .inl ⟨by decide, by decide⟩, _, _, rfl, rfl, _, rfl, _, rfl, g0, _, _, c.toNat, rfl, rfl, hg1, by rw [show c = ((c.toNat : Nat) : Int) by omega]; exact ixNat (by rw [List.length_map, hl1]; omega), ?_⟩
    refine ⟨some (.int c), some (.int w), rfl, ?_, fun b o e => ?_⟩
    · rw [upd_same, shN_take hG ec, ← set_map]
    · rw [upd_ne (ne_of_none e gH)]; exact s1 _ _ e
  · rintro σ H1 ⟨u, v, rfl, hg1, s1⟩
    have eT : hs.take ws.length = hs := by rw [lv, List.take_length]
    rw [eT] at hg1
    refine ⟨_, rfl, g0, _, rfl, .inl ⟨sqL_new hg1, fun l2 hl2 => ?_⟩⟩
    have s2 := s1.trans (same_new' hl2 (.tup (((List.range n).map (shN hs)).map V.int)))
    have hl2' : SqT K (upd H1 l2 (.tup (((List.range n).map (shN hs)).map V.int))) l2 (((List.range n).map (shN hs)).map V.int) := sqT_new upd_same
    generalize upd H1 l2 (.tup (((List.range n).map (shN hs)).map V.int)) = H2 at s2 hl2' ⊢
    refine ⟨_, rfl, l, rfl, ⟨_, s2.seq hl⟩, fun D hD => ?_⟩
    refine lc_any (n := hs.length) (fun i τ ys H3 => ∃ u v : Option V, τ = [u, v] ∧ ys = ((hs.map fun p => p.2).take i).map V.int ∧ H3 D = some (.lst ys) ∧ Same H2 H3) ?_ (fun i τ ys H3 hi h => ?_) (fun i τ ys H3 hi h => ?_) (fun τ ys H3 h => ?_) ?_ ?_
    · exact ⟨none, none, rfl, rfl, upd_same, same_new' hD _⟩
    · obtain ⟨u, v, rfl, rfl, hE, s3⟩ := h
      exact ⟨hE, by rw [List.length_map, List.length_take]; omega⟩
    · obtain ⟨u, v, rfl, rfl, hE, s3⟩ := h
      exact ⟨ws, ws[i]'(by omega), (s2.trans s3).seq hl, List.getElem?_eq_getElem (by omega)⟩
    · obtain ⟨u, v, rfl, rfl, hE, s3⟩ := h
      exact ⟨ws, (s2.trans s3).seq hl, by omega⟩
    · rintro i τ ys H3 x H4 hi ⟨u, v, rfl, rfl, hE, s3⟩ ⟨rfl, e1⟩
      have s23 := s2.trans s3
      obtain ⟨T, c, w, rfl, ec, hT⟩ := holds_get hpa (e1 _ (s23.seq hl)) s23
      refine ⟨T, _, rfl, hT, rfl, _, _, rfl, _, _, rfl, rfl, _, rfl, hE, _, _, rfl, ?_, upd_same, fun b o e => ?_⟩
      · rw [takeS (show (hs.map fun p => p.2)[i]? = some w by rw [List.getElem?_map, ec]; rfl), List.map_append]; rfl
      · rw [upd_ne (ne_of_none e hD)]; exact s3 _ _ e
    rintro τ ys H3 ⟨u2, v2, rfl, rfl, hE, s3⟩
    rw [List.take_of_length_le (by rw [List.length_map]; exact Nat.le_refl _)] at hE
    refine ⟨D, _, rfl, sqL_new hE, _, _, rfl, rfl, by show 2 ≤ sizeLine; decide, fun t ht => ?_⟩
    have s4 := same_new' ht (.tup [.ref l2, .int (1 - (hs.map fun p => p.2).sum)])
    exact q t _ ((s2.trans s3).trans s4) ⟨l2, sqT_new upd_same, (s3.trans s4).tup hl2'⟩
end
end Nb
namespace Nb
open PySem L2
noncomputable abbrev sIs21 : Stmt := top 22
noncomputable abbrev sEith : Stmt := top 29
noncomputable def spEith (K : PySem.W.Frag) : Sp := fun vs H Q _ => ∃ (t1 t2 : Addr) (r1 r2 : List Int × Int) (c n : Nat), vs = [.ref t1, .ref t2, .int (c : Int)] ∧ RowAt K H t1 r1 ∧ RowAt K H t2 r2 ∧ r1.1.length = n ∧ r2.1.length = n ∧ n ≤ 1000 ∧ c < n ∧ (∀ k, k < n → k ≠ c → r1.1.getD k 0 = r2.1.getD k 0) ∧ ∀ t' H', Same H H' → RowAt K H' t' (eithR r1 r2 c) → Q (.ref t') H'
noncomputable def spIs : Sp := fun vs H Q _ => ∃ x m : Int, vs = [.int x, .int m] ∧ 0 ≤ x ∧ x < m ∧ Q (.bl true) H
section
variable {P : Program} {w : World} {K : PySem.W.Frag} {mg : Str → Option Value} {base : Heap} {aT aL : Addr} {fT fL : Str → Option Value}
theorem scIs21 : FnScope ["_law_thing", "_law_most_here"] ["_law_thing", "_law_most_here"] (defScope sIs21) := ⟨rfl, rfl, rfl, by decide +kernel, rfl, by decide +kernel, by decide +kernel⟩
theorem okIs21 (F : Fn K mg "_law_is" sIs21) (M : Mg mg) : Cal P w K mg base 1 "_law_is" ["_law_thing", "_law_most_here"] (spIs) := by
  refine cal_of F scIs21 (fun _ _ _ _ _ _ => bind2 (fun _ _ => rfl)) (fun vs H Q E h => ?_) (fun f cdv A outer s H vs Q E hr h => ?_)
  · obtain ⟨x, m, rfl, _⟩ := h
    rfl
  obtain ⟨x, m, rfl, h0, h1, q⟩ := h
  refine ⟨_, (pss_one (ps_ret (pe_and (pe_callB call_isi rfl M.isinstance bt_isinstance (pa_cons (pv 0) (pa_cons (pe_ty M.int_ bt_int) pa_nil))) (pe_and (pe_not (pe_callB call_isi rfl M.isinstance bt_isinstance (pa_cons (pv 0) (pa_cons (pe_ty M.bool_ bt_bool) pa_nil)))) (pe_and (pe_cmpR op_ge (pv 0) pe_int (nomark _)) (pe_one (pe_cmpR op_lt (pv 0) (pv 1) (nomark _)))))))), ?_⟩
  refine ⟨_, rfl, _, "int", true, rfl, .inl ⟨rfl, rfl⟩, true, rfl, iteT ⟨_, rfl, _, "bool", false, rfl, .inr (.inl ⟨rfl, rfl⟩), _, rfl, _, rfl, iteT ⟨_, rfl, _, _, rfl, rfl, _, rfl, ite2 (fun c => ⟨_, rfl, _, rfl, _, _, rfl, rfl, ?_⟩) (fun c => absurd (decide_eq_true h0) c)⟩⟩⟩
  show Q (V.bl (decide (x < m))) H
  rw [decide_eq_true h1]
  exact q
theorem scEith : FnScope ["_law_one", "_law_other", "_law_at", "_law_k"] ["_law_one", "_law_other", "_law_at"] (defScope sEith) := ⟨rfl, rfl, rfl, by decide +kernel, rfl, by decide +kernel, by decide +kernel⟩
theorem okEith (F : Fn K mg "_law_either" sEith) (M : Mg mg) : Cal P w K mg base 1 "_law_either" ["_law_one", "_law_other", "_law_at"] (spEith K) := by
  refine cal_of F scEith (fun _ _ _ _ _ _ => bind3 (fun _ _ _ => rfl)) (fun vs H Q E h => ?_) (fun f cdv A outer s H vs Q E hr h => ?_)
  · obtain ⟨t1, t2, r1, r2, c, n, rfl, _⟩ := h
    rfl
  obtain ⟨t1, t2, r1, r2, c, n, rfl, ⟨p1, a1, b1⟩, ⟨p2, a2, b2⟩, l1, l2, hn, hc, heq, q⟩ := h
  refine ⟨_, (pss_cons (ps_for PassesOwn.never rfl (pi_range1 rfl M.range_ (pa_cons (pe_callB call_len_seq rfl M.len bt_len (pa_cons (pe_ix ix_tup (pv 0) pe_int (fun _ _ => rfl)) pa_nil)) pa_nil)) (pg_name (i := 3) scEith.nd rfl (Or.inl rfl) (Or.inl rfl)) (pss_one (ps_if (PW.pt (pw_and (pt_cmpR op_ne (pv 3) (pv 2) (nomark _)) (pw_and1 (pt_cmpR op_ne (pe_ix ix_tup (pe_ix ix_tup (pv 0) pe_int (fun _ _ => rfl)) (pv 3) (fun _ _ => rfl)) (pe_ix ix_tup (pe_ix ix_tup (pv 1) pe_int (fun _ _ => rfl)) (pv 3) (fun _ _ => rfl)) (nomark _))))) (pss_one (ps_ret pe_non)) pss_nil)))
    (pss_one (ps_ret (pe_tup (pa_cons (pe_op op_catT (pe_op op_catG (pe_slice sl_tup (pe_ix ix_tup (pv 0) pe_int (fun _ _ => rfl)) po_none (po_some (pv 2))) (pe_tup (pa_cons pe_int pa_nil))) (pe_slice sl_tup (pe_ix ix_tup (pv 0) pe_int (fun _ _ => rfl)) (po_some (pe_op op_add (pv 2) pe_int)) po_none)) (pa_cons (pe_callB (call_min2 rfl) rfl M.min bt_min (pa_cons (pe_op op_sub (pe_ix ix_tup (pv 0) pe_int (fun _ _ => rfl)) (pe_ix ix_tup (pe_ix ix_tup (pv 0) pe_int (fun _ _ => rfl)) (pv 2) (fun _ _ => rfl))) (pa_cons (pe_ix ix_tup (pv 1) pe_int (fun _ _ => rfl)) pa_nil))) pa_nil)))))), ?_⟩
  have hz : (2000 : Nat) < sizeLine := by decide
  have ln : (r1.1.map V.int).length = n := by rw [List.length_map, l1]
  have cut1 : cutV (r1.1.map V.int) none (some (c : Int)) = (r1.1.take c).map V.int := by
    unfold cutV
    show ((r1.1.map V.int).drop 0).take ((if (c : Int) < 0 then ((c : Int) + ((r1.1.map V.int).length : Int)).toNat else min ((c : Int)).toNat (r1.1.map V.int).length) - 0) = _
    rw [if_neg (Int.not_lt.mpr (Int.natCast_nonneg c)), List.drop_zero, List.map_take, ln, Int.toNat_natCast, Nat.min_eq_left (Nat.le_of_lt hc), Nat.sub_zero]
  have cut2 : cutV (r1.1.map V.int) (some ((c : Int) + 1)) none = (r1.1.drop (c + 1)).map V.int := by
    unfold cutV
    show ((r1.1.map V.int).drop (if (c : Int) + 1 < 0 then ((c : Int) + 1 + ((r1.1.map V.int).length : Int)).toNat else min ((c : Int) + 1).toNat (r1.1.map V.int).length)).take ((r1.1.map V.int).length - (if (c : Int) + 1 < 0 then ((c : Int) + 1 + ((r1.1.map V.int).length : Int)).toNat else min ((c : Int) + 1).toNat (r1.1.map V.int).length)) = _
    rw [if_neg (show ¬ (c : Int) + 1 < 0 from Int.not_lt.mpr (Int.natCast_nonneg (c + 1))), List.map_drop]
    have e : min ((c : Int) + 1).toNat (r1.1.map V.int).length = c + 1 := by rw [ln]; exact Nat.min_eq_left (show c + 1 ≤ n from hc)
    rw [e]
    apply List.take_of_length_le
    rw [List.length_drop]
    exact Nat.le_refl _
  refine ⟨_, rfl, t1, _, _, _, rfl, rfl, a1, at0, p1, _, rfl, .inr b1, _, rfl, by omega, by rw [ln]; omega, for_range (lo := 0) (n := Int.toNat (((r1.1.map V.int).length : Nat) : Int)) (fun i σ H1 => (∃ u : Option V, σ = [some (.ref t1), some (.ref t2), some (.int (c : Int)), u]) ∧ H1 = H) ⟨⟨none, rfl⟩, rfl⟩ ?_ ?_⟩
  · rintro i σ H1 hi ⟨⟨u, rfl⟩, rfl⟩
    have hi' : i < n := by rw [ln] at hi; omega
    have ez : (0 : Int) + (i : Int) = ((i : Nat) : Int) := by omega
    rw [ez]
    refine ⟨_, rfl, _, rfl, rfl, _, rfl, ite2 (fun d => ?_) (fun d => iteF ⟨⟨_, rfl⟩, rfl⟩)⟩
    have nc : i ≠ c := fun z => by
      rw [z] at d
      exact absurd d (by simp)
    refine ⟨_, rfl, t1, _, _, _, rfl, rfl, a1, at0, _, rfl, p1, _, _, _, rfl, rfl, b1, atN (by rw [l1]; exact hi'), _, rfl, t2, _, _, _, rfl, rfl, a2, at0, _, rfl, p2, _, _, _, rfl, rfl, b2, atN (by rw [l2]; exact hi'), rfl, _, rfl, ?_⟩
    rw [heq i hi' nc]
    exact ite2 (fun e => absurd e (by simp)) (fun _ => ⟨⟨_, rfl⟩, rfl⟩)
  · rintro σ H1 ⟨⟨u, rfl⟩, rfl⟩
    refine ⟨_, rfl, t1, _, _, _, rfl, rfl, a1, at0, _, rfl, _, rfl, p1, _, rfl, b1, ?_, fun q1 hq1 => ?_⟩
    · rintro ⟨_, h2⟩
      have h3 : (if (c : Int) < 0 then ((c : Int) + ((r1.1.map V.int).length : Int)).toNat else min ((c : Int)).toNat (r1.1.map V.int).length) = (r1.1.map V.int).length := h2
      rw [if_neg (Int.not_lt.mpr (Int.natCast_nonneg c)), ln, Int.toNat_natCast, Nat.min_eq_left (Nat.le_of_lt hc)] at h3
      exact absurd h3 (Nat.ne_of_lt hc)
    rw [cut1]
    have s1 := same_new' hq1 (.tup ((r1.1.take c).map V.int))
    refine ⟨by show 1 ≤ sizeLine; decide, fun q2 hq2 => ?_⟩
    have s2 := same_new' hq2 (.tup [V.int 0])
    refine ⟨q1, q2, _, _, rfl, rfl, s2.tup (sqT_new upd_same), sqT_new upd_same, by simp, by rw [List.length_map, List.length_take]; show _ + 1 ≤ _; omega, fun q3 H3 s3 h3 => ?_⟩
    have s13 := (s1.trans s2).trans s3
    refine ⟨_, rfl, t1, _, _, _, rfl, rfl, s13.tup a1, at0, _, rfl, _, _, rfl, rfl, _, rfl, p1, _, rfl, s13.tup b1, ?_, fun q4 hq4 => ?_⟩
    · rintro ⟨h2, _⟩
      have h3 : (if (c : Int) + 1 < 0 then ((c : Int) + 1 + ((r1.1.map V.int).length : Int)).toNat else min ((c : Int) + 1).toNat (r1.1.map V.int).length) = 0 := h2
      rw [if_neg (show ¬ (c : Int) + 1 < 0 from Int.not_lt.mpr (Int.natCast_nonneg (c + 1))), ln] at h3
      exact absurd ((Nat.min_eq_left (show c + 1 ≤ n from hc)).symm.trans h3) (Nat.succ_ne_zero c)
    rw [cut2]
    have s4 := same_new' hq4 (.tup ((r1.1.drop (c + 1)).map V.int))
    have eW : (r1.1.set c 0).map V.int = ((r1.1.take c).map V.int ++ [V.int 0]) ++ (r1.1.drop (c + 1)).map V.int := by
      rw [List.set_eq_take_append_cons_drop, if_pos (by rw [l1]; exact hc), List.map_append, List.map_cons, List.append_assoc]; rfl
    refine ⟨q3, q4, _, _, rfl, rfl, s4.tup h3, sqT_new upd_same, by simp, by rw [List.length_append, List.length_map, List.length_map, List.length_take, List.length_drop]; show _ + 1 + _ ≤ _; omega, fun he => ?_, fun he q5 hq5 => ?_⟩
    · have sZ := s13.trans s4
      have hZ := s4.tup h3
      rw [he, List.append_nil] at eW
      rw [← eW] at hZ
      refine ⟨_, rfl, t1, _, _, _, rfl, rfl, sZ.tup a1, at1, _, rfl, t1, _, _, _, rfl, rfl, sZ.tup a1, at0, _, rfl, p1, _, _, _, rfl, rfl, sZ.tup b1, atN (by rw [l1]; exact hc), _, _, rfl, rfl, _, rfl, t2, _, _, _, rfl, rfl, sZ.tup a2, at1, _, _, rfl, by show 2 ≤ sizeLine; decide, fun t ht => ?_⟩
      have em : (if r2.2 < r1.2 - r1.1.getD c 0 then r2.2 else r1.2 - r1.1.getD c 0) = (eithR r1 r2 c).2 := by
        show _ = min (r1.2 - r1.1.getD c 0) r2.2
        split <;> omega
      refine q t _ (sZ.trans (same_new' ht _)) ⟨_, sqT_new ?_, (same_new' ht _).tup hZ⟩
      rw [← em]
      exact upd_same
    · have sZ := (s13.trans s4).trans (same_new' hq5 (.tup (((r1.1.take c).map V.int ++ [V.int 0]) ++ (r1.1.drop (c + 1)).map V.int)))
      have hZ : SqT K (upd (upd H3 q4 (.tup ((r1.1.drop (c + 1)).map V.int))) q5 (.tup (((r1.1.take c).map V.int ++ [V.int 0]) ++ (r1.1.drop (c + 1)).map V.int))) q5 ((r1.1.set c 0).map V.int) := by rw [eW]; exact sqT_new upd_same
      refine ⟨_, rfl, t1, _, _, _, rfl, rfl, sZ.tup a1, at1, _, rfl, t1, _, _, _, rfl, rfl, sZ.tup a1, at0, _, rfl, p1, _, _, _, rfl, rfl, sZ.tup b1, atN (by rw [l1]; exact hc), _, _, rfl, rfl, _, rfl, t2, _, _, _, rfl, rfl, sZ.tup a2, at1, _, _, rfl, by show 2 ≤ sizeLine; decide, fun t ht => ?_⟩
      have em : (if r2.2 < r1.2 - r1.1.getD c 0 then r2.2 else r1.2 - r1.1.getD c 0) = (eithR r1 r2 c).2 := by
        show _ = min (r1.2 - r1.1.getD c 0) r2.2
        split <;> omega
      refine q t _ (sZ.trans (same_new' ht _)) ⟨_, sqT_new ?_, (same_new' ht _).tup hZ⟩
      rw [← em]
      exact upd_same
end
end Nb
namespace Nb
open PySem L2
noncomputable abbrev sCopy21 : Stmt := top 21
noncomputable def spCopy21 (K : PySem.W.Frag) : Sp := fun vs H Q _ => ∃ (t : Addr) (rs : List (List Int × Int)) (cs : List Int), vs = [.ref t] ∧ ProbAt K H t rs cs ∧ ∀ T g H', Same H H' → H T = none → H g = none → ProbL K H' T g rs cs → Q (.ref T) H'
noncomputable def spSimple (K : PySem.W.Frag) : Sp := fun vs H Q _ => ∃ (t u : Addr) (rs : List (List Int × Int)) (cs : List Int) (o : Option Int) (ln : Ln) (r : List Int × Int), vs = [.ref t, bestV o, .ref u] ∧ ProbAt K H t rs cs ∧ LineAt K H H (.ref u) ln ∧ cs.length ≤ 1000 ∧ rs.length ≤ 1000 ∧ (ln = .bet ∨ ∃ k, ln = .giv k) ∧ TellsL cs.length rs.length (rowsB rs cs o) [] ln r ∧ ∀ t' H', Same H H' → RowAt K H' t' r → Q (.ref t') H'
section
variable {P : Program} {w : World} {K : PySem.W.Frag} {mg : Str → Option Value} {base : Heap} {aT aL : Addr} {fT fL : Str → Option Value}
theorem scCopy21 : FnScope ["_law_problem_here"] ["_law_problem_here"] (defScope sCopy21) := ⟨rfl, rfl, rfl, by decide +kernel, rfl, by decide +kernel, by decide +kernel⟩
theorem okCopy21 (F : Fn K mg "_law_copy" sCopy21) (M : Mg mg) : Cal P w K mg base 1 "_law_copy" ["_law_problem_here"] (spCopy21 K) := by
  refine cal_of F scCopy21 (fun _ _ _ _ _ _ => bind1 (fun _ => rfl)) (fun vs H Q E h => ?_) (fun f cdv A outer s H vs Q E hr h => ?_)
  · obtain ⟨t, rs, cs, rfl, _⟩ := h
    rfl
  obtain ⟨t, rs, cs, rfl, ⟨l, c, vs, ht, hl, hrw, hc⟩, q⟩ := h
  refine ⟨_, (pss_one (ps_ret (pe_tup (pa_cons (pe_callTy call_list_of rfl M.list_ bt_list (pa_cons (pe_ix ix_tup (pv 0) pe_int (fun _ _ => rfl)) pa_nil)) (pa_cons (pe_ix ix_tup (pv 0) pe_int (fun _ _ => rfl)) pa_nil))))), ?_⟩
  refine ⟨_, rfl, t, _, _, _, rfl, rfl, ht, at0, l, _, rfl, .inl hl, fun g hg => ?_⟩
  have s1 := same_new' hg (.lst vs)
  refine ⟨_, rfl, t, _, _, _, rfl, rfl, s1.tup ht, at1, by show 2 ≤ sizeLine; decide, fun T hT => ?_⟩
  have a2 := same_new' hT (.tup [.ref g, .ref c])
  have s2 := s1.trans a2
  have hTH : H T = none := by
    cases e5 : H T with
    | none => rfl
    | some o => rw [s1 _ _ e5] at hT; cases hT
  exact q T g _ s2 hTH hg ⟨c, vs, sqT_new upd_same, a2 _ _ upd_same, hrw.imp fun _ _ z => z.same s2, s2.tup hc⟩
end
end Nb
namespace Nb
open PySem L2
noncomputable abbrev sShut21 : Stmt := top 28
noncomputable def spShut21 (K : PySem.W.Frag) : Sp := fun vs H Q _ => ∃ (t l : Addr) (r : List Int × Int) (hs : List (Int × Int)) (n : Nat), vs = [.ref t, .ref l] ∧ RowAt K H t r ∧ HoldsAt K H l hs ∧ r.1.length = n ∧ Good n hs ∧ n ≤ 1000 ∧ hs.length ≤ 1000 ∧ roomF n (hv hs) r < 0 ∧ ∀ t' H', Same H H' → RowAt K H' t' (shutR n hs) → Q (.ref t') H'
section
variable {P : Program} {w : World} {K : PySem.W.Frag} {mg : Str → Option Value} {base : Heap} {aT aL : Addr} {fT fL : Str → Option Value}
theorem scShut21 : FnScope ["_law_row_here", "_law_holds_here", "_law_many", "_law_hold"] ["_law_row_here", "_law_holds_here"] (defScope sShut21) := ⟨rfl, rfl, rfl, by decide +kernel, rfl, by decide +kernel, by decide +kernel⟩
theorem okShut21 (F : Fn K mg "_law_shut" sShut21) (M : Mg mg) (cl_is : Cal P w K mg base 1 "_law_is" ["_law_thing", "_law_most_here"] (spIs)) (cl_most : Cal P w K mg base 1 "_law_most" ["_law_row_here", "_law_holds_here"] (spMostL K)) (cl_shut_out : Cal P w K mg base 1 "_law_shut_out" ["_law_many", "_law_holds_here"] (spShutO K)) : Cal P w K mg base 2 "_law_shut" ["_law_row_here", "_law_holds_here"] (spShut21 K) := by
  refine cal_of F scShut21 (fun _ _ _ _ _ _ => bind2 (fun _ _ => rfl)) (fun vs H Q E h => ?_) (fun f cdv A outer s H vs Q E hr h => ?_)
  · obtain ⟨t, l, r, hs, n, rfl, _⟩ := h
    rfl
  obtain ⟨t, l, r, hs, n, rfl, hrt, hh, hrn, hG, hn, hhl, hrm, q⟩ := h
  refine ⟨_, (pss_cons (ps_set (i := 2) scShut21.nd rfl (Or.inl rfl) (pe_callB call_len_seq rfl M.len bt_len (pa_cons (pe_ix ix_tup (pv 0) pe_int (fun _ _ => rfl)) pa_nil)))
    (pss_cons (ps_if (pt_not (pt_val (pe_callB call_isiW rfl M.isinstance bt_isinstance (pa_cons (pv 1) (pa_cons (pe_ty M.list_ bt_list) pa_nil))))) (pss_one (ps_ret pe_non)) pss_nil)
    (pss_cons (ps_for PassesOwn.never rfl (pi_list (pv 1)) (pg_name (i := 3) scShut21.nd rfl (Or.inl rfl) (Or.inl rfl)) (pss_one (ps_if (PW.pt (pw_or (pt_not (pt_val (pe_callB call_isiW rfl M.isinstance bt_isinstance (pa_cons (pv 3) (pa_cons (pe_ty M.tuple_ bt_tuple) pa_nil))))) (pw_or (pt_cmpR op_ne (pe_callB call_len_seq rfl M.len bt_len (pa_cons (pv 3) pa_nil)) pe_int (nomark _)) (pw_or (pt_not (pt_val (pe_fn cl_is (hr.mono (by decide)) (pa_cons (pe_ix ix_tup (pv 3) pe_int (fun _ _ => rfl)) (pa_cons (pv 2) pa_nil))))) (pw_or1 (pt_not (pt_val (pe_fn cl_is (hr.mono (by decide)) (pa_cons (pe_ix ix_tup (pv 3) pe_int (fun _ _ => rfl)) (pa_cons pe_int pa_nil)))))))))) (pss_one (ps_ret pe_non)) pss_nil)))
    (pss_cons (ps_if (PW.pt (pw_or (pt_cmpR op_ne (pe_callB call_len_setI rfl M.len bt_len (pa_cons (pe_callTy (call_set_of rfl) rfl M.set_ bt_set (pa_cons (pe_lc ["_law_hold"] [none] rfl (pi_list (pv 1)) (fun _ _ _ => (pg_name (i := 0) (show (["_law_hold"] : List Str).Nodup by decide +kernel) rfl (Or.inl rfl) (Or.inr rfl))) (fun _ _ _ => pf_nil) (fun _ _ _ => (pe_ix (ix_tupK (K := K) rfl) (pv 0) pe_int (fun _ _ => rfl)))) pa_nil)) pa_nil)) (pe_callB call_len_seq rfl M.len bt_len (pa_cons (pv 1) pa_nil)) (nomark _)) (pw_or1 (pt_cmpR op_ge (pe_fn cl_most (hr.mono (by decide)) (pa_cons (pv 0) (pa_cons (pv 1) pa_nil))) (pe_ix ix_tup (pv 0) pe_int (fun _ _ => rfl)) (nomark _))))) (pss_one (ps_ret pe_non)) pss_nil)
    (pss_one (ps_ret (pe_fn cl_shut_out (hr.mono (by decide)) (pa_cons (pv 2) (pa_cons (pv 1) pa_nil))))))))), ?_⟩
  refine seq_let5 ?_
  intro rT5 rT4 rT3 rT2
  have hz : (2000 : Nat) < sizeLine := by decide
  obtain ⟨p, rt1, rt2⟩ := id hrt
  obtain ⟨ws, hl, hpa⟩ := id hh
  have lv := hpa.length
  rw [List.length_map] at lv
  have ln : (r.1.map V.int).length = n := by rw [List.length_map, hrn]
  refine ⟨_, rfl, t, _, _, _, rfl, rfl, rt1, at0, p, _, rfl, .inr rt2, ?_⟩
  refine ⟨_, rfl, _, "list", true, rfl, .list, .inr ⟨⟨_, hl⟩, rfl⟩, _, rfl, iteF ?_⟩
  refine ⟨_, rfl, l, rfl, ⟨_, hl⟩, for_list (K := K) (a := l) (xs := ws) (fun i σ H1 => (∃ u : Option V, σ = [some (.ref t), some (.ref l), some (.int (((r.1.map V.int).length : Nat) : Int)), u]) ∧ H1 = H) ⟨⟨none, rfl⟩, rfl⟩ (fun i σ H1 _ h => ?_) ?_ ?_⟩
  · obtain ⟨_, rfl⟩ := h
    exact hl
  · rintro i x σ H1 e1 ⟨⟨u, rfl⟩, rfl⟩
    obtain ⟨T, c, w, rfl, ec, hT⟩ := holds_get hpa e1 (Same.refl _)
    obtain ⟨g1, g2, g3⟩ := hG.ok (c, w) (List.mem_of_getElem? ec)
    have g1' : 0 ≤ c := g1
    have g2' : c < (n : Int) := g2
    have g3' : w = 0 ∨ w = 1 := g3
    refine ⟨_, rfl, _, "tuple", true, rfl, .tuple, .inl ⟨⟨_, hT⟩, rfl⟩, _, rfl, iteF ?_⟩
    refine ⟨_, rfl, T, _, rfl, .inr hT, rfl, _, rfl, iteF ?_⟩
    refine ⟨_, rfl, T, _, _, _, rfl, rfl, hT, at0, _, rfl, c, _, rfl, g1', by rw [ln]; exact g2', _, rfl, iteF ?_⟩
    refine ⟨_, rfl, T, _, _, _, rfl, rfl, hT, at1, w, 2, rfl, by omega, by omega, _, rfl, iteF ⟨⟨_, rfl⟩, rfl⟩⟩
  · rintro σ H1 ⟨⟨u, rfl⟩, rfl⟩
    refine ⟨_, rfl, l, rfl, ⟨_, hl⟩, fun D hD => ?_⟩
    refine lc_any (n := hs.length) (fun i τ ys H2 => ∃ v : Option V, τ = [v] ∧ ys = ((hs.map (·.1)).take i).map V.int ∧ H2 D = some (.lst ys) ∧ Same H1 H2) ?_ (fun i τ ys H2 hi h => ?_) (fun i τ ys H2 hi h => ?_) (fun τ ys H2 h => ?_) ?_ ?_
    · exact ⟨none, rfl, rfl, upd_same, same_new' hD _⟩
    · obtain ⟨v, rfl, rfl, hE, s2⟩ := h
      exact ⟨hE, by rw [List.length_map, List.length_take]; omega⟩
    · obtain ⟨v, rfl, rfl, hE, s2⟩ := h
      exact ⟨ws, ws[i]'(by omega), s2.seq hl, List.getElem?_eq_getElem (by omega)⟩
    · obtain ⟨v, rfl, rfl, hE, s2⟩ := h
      exact ⟨ws, s2.seq hl, by omega⟩
    · rintro i τ ys H2 x H3 hi ⟨v, rfl, rfl, hE, s2⟩ ⟨rfl, e1⟩
      obtain ⟨T, c, w, rfl, ec, hT⟩ := holds_get hpa (e1 _ (s2.seq hl)) s2
      refine ⟨_, rfl, T, _, _, _, rfl, rfl, hT, at0, hE, _, rfl, ?_, upd_same, fun b o e => ?_⟩
      · rw [takeS (show (hs.map (·.1))[i]? = some c by rw [List.getElem?_map, ec]; rfl), List.map_append]; rfl
      · rw [upd_ne (ne_of_none e hD)]; exact s2 _ _ e
    rintro τ ys H2 ⟨v, rfl, rfl, hE, s2⟩
    rw [List.take_of_length_le (by rw [List.length_map]; exact Nat.le_refl _)] at hE
    refine ⟨D, hs.map (·.1), rfl, sqL_new hE, by rw [List.length_map]; omega, fun d S hd => ?_⟩
    have s3 := s2.trans (same_new' hd (.set S ((hs.map (·.1)).foldl PyProof.Rows.step_dedup []).length))
    have dn : ((hs.map (·.1)).foldl PyProof.Rows.step_dedup []).length = hs.length := by rw [(dedup_len _).mpr hG.nd, List.length_map]
    have hd' : upd H2 d (.set S ((hs.map (·.1)).foldl PyProof.Rows.step_dedup []).length) d = some (.set S ((hs.map (·.1)).foldl PyProof.Rows.step_dedup []).length) := upd_same
    generalize upd H2 d (.set S ((hs.map (·.1)).foldl PyProof.Rows.step_dedup []).length) = H3 at s3 hd' ⊢
    refine ⟨d, S, _, rfl, hd', _, rfl, l, _, rfl, .inl (s3.seq hl), rfl, _, rfl, ?_⟩
    rw [dn, show ws.length = hs.length from lv]
    refine ite2 (fun e => absurd e (by simp)) (fun _ => ?_)
    have hG' : Good r.1.length hs := by rw [hrn]; exact hG
    refine ⟨_, rfl, _, rfl, t, l, r, hs, rfl, hrt.same s3, hh.same s3, hG', by omega, by omega, fun H4 s4 => ⟨_, rfl, t, _, _, _, rfl, rfl, (s3.trans s4).tup rt1, at1, _, _, rfl, rfl, _, rfl, ?_⟩⟩
    refine ite2 (fun e => ?_) (fun _ => ?_)
    · have e' : r.2 ≤ roomL r hs + r.2 := of_decide_eq_true e
      rw [roomL_eq hG', hrn] at e'
      omega
    · refine ⟨_, rfl, _, rfl, l, n, hs, by rw [ln]; rfl, hh.same (s3.trans s4), hG, hn, by omega, fun t' H5 s5 hr5 => q t' H5 ((s3.trans s4).trans s5) hr5⟩
end
end Nb
namespace Nb
open PySem L2
noncomputable abbrev sTold21 : Stmt := top 32
theorem Told.at {n m : Nat} {rs : List (List Int × Int)} {ls : List Ln} {hd : List (List Int × Int)} (h : Told n m rs ls hd) : ∀ {i : Nat} {l : Ln}, ls[i]? = some l → ∃ r, hd[i]? = some r ∧ TellsL n m rs (hd.take i) l r := by
  induction h with
  | nil => intro i l e; cases e
  | @snoc ls hd l' r' h0 ht ih =>
    intro i l e
    have hle := h0.length
    by_cases hi : i < ls.length
    · rw [List.getElem?_append_left hi] at e
      obtain ⟨r, e1, e2⟩ := ih e
      refine ⟨r, by rw [List.getElem?_append_left (by omega)]; exact e1, ?_⟩
      rw [List.take_append_of_le_length (by omega)]
      exact e2
    · have hl := (List.getElem?_eq_some_iff.mp e).1
      rw [List.length_append] at hl
      have h1 : ([l'] : List Ln).length = 1 := rfl
      have ei : i = ls.length := by omega
      subst ei
      rw [List.getElem?_append_right (Nat.le_refl _), Nat.sub_self] at e
      cases e
      refine ⟨r', by rw [hle, List.getElem?_append_right (Nat.le_refl _), Nat.sub_self]; rfl, ?_⟩
      rw [hle, List.take_left']
      · exact ht
      · rfl
theorem Told.len {n m : Nat} {rs : List (List Int × Int)} {ls : List Ln} {hd : List (List Int × Int)} (h : Told n m rs ls hd) (hr : ∀ r ∈ rs, r.1.length = n) : ∀ r ∈ hd, r.1.length = n := by
  induction h with
  | nil => intro r z; cases z
  | @snoc ls hd l' r' h0 ht ih =>
    intro r z
    rcases List.mem_append.mp z with y | y
    · exact ih r y
    · rw [List.mem_singleton.mp y]
      cases l' with
      | giv k => exact hr _ (List.mem_of_getElem? ht.2)
      | bet => exact hr _ (List.mem_of_getElem? ht.2)
      | shut s hs => obtain ⟨r0, _, _, _, rfl⟩ := ht; exact shut_len _ _
      | eith i j c => obtain ⟨a, b, _, _, _, e, _, _, rfl⟩ := ht; show (a.1.set c 0).length = n; rw [List.length_set]; exact e
theorem pigeon : ∀ (n : Nat) (l : List Nat), l.Nodup → (∀ x ∈ l, x < n) → l.length ≤ n
  | 0, l, _, h => by
    cases l with
    | nil => exact Nat.le_refl _
    | cons a t => exact absurd (h a (List.mem_cons_self ..)) (Nat.not_lt_zero _)
  | n + 1, l, nd, h => by
    have h1 := pigeon n (l.erase n) (nd.erase n) fun x hx => by
      obtain ⟨a, b⟩ := nd.mem_erase_iff.mp hx
      have := h x b
      omega
    rw [List.length_erase] at h1
    split at h1 <;> omega
theorem good_len {n : Nat} {hs : List (Int × Int)} (h : Good n hs) : hs.length ≤ n := by
  have e : (hs.map fun p => p.1.toNat).Nodup := by
    have nd := h.nd
    have ok := h.ok
    clear h
    induction hs with
    | nil => exact List.nodup_nil
    | cons p t ih =>
      rw [List.map_cons, List.nodup_cons] at nd ⊢
      refine ⟨fun z => ?_, ih nd.2 fun q hq => ok q (List.mem_cons_of_mem _ hq)⟩
      obtain ⟨q, hq, eq⟩ := List.mem_map.mp z
      have a1 := (ok q (List.mem_cons_of_mem _ hq)).1
      have a2 := (ok p (List.mem_cons_self ..)).1
      exact nd.1 (List.mem_map.mpr ⟨q, hq, by omega⟩)
  have h5 := pigeon n _ e fun x hx => by
    obtain ⟨q, hq, rfl⟩ := List.mem_map.mp hx
    have := h.ok q hq
    show q.1.toNat < n
    omega
  rw [List.length_map] at h5
  exact h5
noncomputable def spRow21 (K : PySem.W.Frag) : Sp := fun vs H Q _ => ∃ (t h u : Addr) (rs hd : List (List Int × Int)) (cs : List Int) (o : Option Int) (ws : List V) (ln : Ln) (r : List Int × Int) (H0 : Hp), vs = [.ref t, bestV o, .ref h, .ref u] ∧ ProbAt K H t rs cs ∧ SqL K H h ws ∧ RowsAre K H ws hd ∧ hd.length ≤ 1000 ∧ (∀ r ∈ hd, r.1.length = cs.length) ∧ LineAt K H0 H (.ref u) ln ∧ cs.length ≤ 1000 ∧ rs.length ≤ 1000 ∧ TellsL cs.length rs.length (rowsB rs cs o) hd ln r ∧ ∀ t' H', Same H H' → RowAt K H' t' r → Q (.ref t') H'
noncomputable def spTold21 (K : PySem.W.Frag) : Sp := fun vs H Q _ => ∃ (t L : Addr) (rs hd : List (List Int × Int)) (cs : List Int) (o : Option Int) (us : List V) (lns : List Ln) (H0 : Hp), vs = [.ref t, bestV o, .ref L] ∧ ProbAt K H t rs cs ∧ SqL K H L us ∧ LinesAre K H0 H us lns ∧ us.length ≤ 900 ∧ cs.length ≤ 1000 ∧ rs.length ≤ 1000 ∧ (∀ r ∈ rowsB rs cs o, r.1.length = cs.length) ∧ Told cs.length rs.length (rowsB rs cs o) lns hd ∧ ∀ g ws H', Same H H' → H g = none → H' g = some (.lst ws) → RowsAre K H' ws hd → Q (.ref g) H'
theorem RowAt_upd {K : PySem.W.Frag} {H : Hp} {g t : Addr} {ws ys : List V} {r : List Int × Int} (hg : H g = some (.lst ws)) (h : RowAt K H t r) : RowAt K (upd H g (.lst ys)) t r := by
  obtain ⟨p, a, b⟩ := h
  exact ⟨p, SqT_upd hg a, SqT_upd hg b⟩
theorem line_ref {K : PySem.W.Frag} {H0 H : Hp} {v : V} : ∀ {l : Ln}, LineAt K H0 H v l → ∃ u, v = .ref u
  | .giv _, ⟨t, e, _⟩ => ⟨t, e⟩
  | .bet, ⟨t, e, _⟩ => ⟨t, e⟩
  | .shut _ _, ⟨t, _, _, e, _⟩ => ⟨t, e⟩
  | .eith _ _ _, ⟨t, e, _⟩ => ⟨t, e⟩
section
variable {P : Program} {w : World} {K : PySem.W.Frag} {mg : Str → Option Value} {base : Heap} {aT aL : Addr} {fT fL : Str → Option Value}
theorem scTold21 : FnScope ["_law_problem_here", "_law_best", "_law_paper", "_law_heard", "_law_line", "_law_row_here"] ["_law_problem_here", "_law_best", "_law_paper"] (defScope sTold21) := ⟨rfl, rfl, rfl, by decide +kernel, rfl, by decide +kernel, by decide +kernel⟩
theorem okTold21 (F : Fn K mg "_law_told" sTold21) (M : Mg mg) (cl_row : Cal P w K mg base 3 "_law_row" ["_law_problem_here", "_law_best", "_law_heard", "_law_line"] (spRow21 K)) : Cal P w K mg base 4 "_law_told" ["_law_problem_here", "_law_best", "_law_paper"] (spTold21 K) := by
  refine cal_of F scTold21 (fun _ _ _ _ _ _ => bind3 (fun _ _ _ => rfl)) (fun vs H Q E h => ?_) (fun f cdv A outer s H vs Q E hr h => ?_)
  · obtain ⟨t, L, rs, hd, cs, o, us, lns, H0, rfl, _⟩ := h
    rfl
  obtain ⟨t, L, rs, hd, cs, o, us, lns, H0, rfl, hP, hL, hln, hu9, hn, hm, hR1, hto, q⟩ := h
  refine ⟨_, (pss_cons (ps_set (i := 3) scTold21.nd rfl (Or.inl rfl) (pe_lst pa_nil))
    (pss_cons (ps_if (pt_not (pt_val (pe_callB call_isiW rfl M.isinstance bt_isinstance (pa_cons (pv 2) (pa_cons (pe_ty M.list_ bt_list) pa_nil))))) (pss_one (ps_ret pe_non)) pss_nil)
    (pss_cons (ps_for PassesOwn.never rfl (pi_list (pv 2)) (pg_name (i := 4) scTold21.nd rfl (Or.inl rfl) (Or.inl rfl)) (pss_cons (ps_set (i := 5) scTold21.nd rfl (Or.inl rfl) (pe_fn cl_row (hr.mono (by decide)) (pa_cons (pv 0) (pa_cons (pv 1) (pa_cons (pv 3) (pa_cons (pv 4) pa_nil))))))
    (pss_cons (ps_if (pt_cmpR op_isN (pv 5) pe_non (nomark _)) (pss_one (ps_ret pe_non)) pss_nil)
    (pss_one (ps_expr (pe_bm PySem.F.plainAttrs_list PySem.F.slot_list_append PySem.F.type_list_append mt_append (pv 3) (pa_cons (pv 5) pa_nil)))))))
    (pss_one (ps_ret (pv 3)))))), ?_⟩
  refine seq_let4 ?_
  intro rT4 rT3 rT2
  have hz : (2000 : Nat) < sizeLine := by decide
  have l1 := Paired.length hln
  have l2 := hto.length
  refine ⟨by show 0 ≤ sizeLine; decide, fun g hg => ?_⟩
  have s0 := same_new' hg (.lst [])
  have hg0 : upd H g (.lst []) g = some (.lst []) := upd_same
  generalize upd H g (.lst []) = H1 at s0 hg0 ⊢
  refine ⟨_, rfl, _, "list", true, rfl, .list, .inr ⟨⟨_, s0.seq hL⟩, rfl⟩, _, rfl, iteF ?_⟩
  refine ⟨_, rfl, L, rfl, ⟨_, s0.seq hL⟩, for_list (K := K) (a := L) (xs := us) (fun i σ H2 => ∃ (u4 u5 : Option V) (ws : List V), σ = [some (.ref t), some (bestV o), some (.ref L), some (.ref g), u4, u5] ∧ H2 g = some (.lst ws) ∧ RowsAre K H2 ws (hd.take i) ∧ Same H H2) ⟨none, none, [], rfl, hg0, .nil, s0⟩ (fun i σ H2 _ h => ?_) ?_ ?_⟩
  · obtain ⟨u4, u5, ws, rfl, h1, h2, s2⟩ := h
    exact s2.seq hL
  · rintro i x σ H2 e1 ⟨u4, u5, ws, rfl, hg2, hrw, s2⟩
    have hi := (List.getElem?_eq_some_iff.mp e1).1
    obtain ⟨ln, e2, hAt⟩ := Paired.getR hln e1
    obtain ⟨u, rfl⟩ := line_ref hAt
    obtain ⟨r, er, hte⟩ := hto.at e2
    have lw := hrw.length
    rw [List.length_take] at lw
    refine ⟨_, rfl, _, rfl, _, rfl, _, rfl, t, g, u, rs, hd.take i, cs, o, ws, ln, r, H0, rfl, ProbAt.same s2 hP, sqL_new hg2, hrw, by rw [List.length_take]; omega, (fun r hr => hto.len hR1 r (List.mem_of_mem_take hr)), hAt.imp (fun _ _ z => s2.tup z) (fun _ _ _ z => s2 _ _ z), hn, hm, hte, fun t' H3 s3 hr3 => ?_⟩
    refine ⟨_, rfl, rfl, _, rfl, iteF ?_⟩
    refine ⟨_, rfl, .inl ⟨rfl, _, sqL_new (s3 _ _ hg2)⟩, _, rfl, g, _, _, rfl, rfl, s3 _ _ hg2, by omega, ?_⟩
    refine ⟨_, _, _, rfl, upd_same, ?_, fun b o e => by rw [upd_ne (ne_of_none e hg)]; exact s3 _ _ (s2 _ _ e)⟩
    rw [takeS er]
    exact RowsAre.snoc (hrw.imp fun t r z => RowAt_upd (s3 _ _ hg2) (z.same s3)) (RowAt_upd (s3 _ _ hg2) hr3)
  · rintro σ H2 ⟨u4, u5, ws, rfl, hg2, hrw, s2⟩
    rw [show us.length = hd.length by omega, List.take_length] at hrw
    exact ⟨_, rfl, q g ws H2 s2 hg hg2 hrw⟩
end
end Nb
namespace Nb
open PySem L2
noncomputable abbrev sSummed21 : Stmt := top 24
noncomputable abbrev sShared21 : Stmt := top 25
noncomputable abbrev sLike21 : Stmt := top 30
noncomputable abbrev sRow21 : Stmt := top 31
noncomputable def spNo21 : Sp := fun _ _ _ _ => False
theorem spNo21_no (vs : List V) (H : Hp) (Q : VK) (E : XK) : ¬ spNo21 vs H Q E := id
theorem at32 {x y z : V} : atI [x, y, z] 2 = some z := by rfl
theorem at40 {x y z v : V} : atI [x, y, z, v] 0 = some x := by rfl
theorem at41 {x y z v : V} : atI [x, y, z, v] 1 = some y := by rfl
theorem at42 {x y z v : V} : atI [x, y, z, v] 2 = some z := by rfl
theorem at43 {x y z v : V} : atI [x, y, z, v] 3 = some v := by rfl
theorem at10 {x : V} : atI [x] 0 = some x := by rfl
theorem row_at {K : PySem.W.Frag} {H : Hp} {ws : List V} {hd : List (List Int × Int)} {i : Nat} {r : List Int × Int} (h : RowsAre K H ws hd) (e : hd[i]? = some r) : ∃ t, ws[i]? = some (.ref t) ∧ RowAt K H t r := by
  have hi := (List.getElem?_eq_some_iff.mp e).1
  have lw := h.length
  obtain ⟨v, ev⟩ : ∃ v, ws[i]? = some v := ⟨_, List.getElem?_eq_getElem (by omega)⟩
  obtain ⟨t, r', rfl, er, z⟩ := h.get ev
  rw [e] at er
  cases er
  exact ⟨t, ev, z⟩
section
variable {P : Program} {w : World} {K : PySem.W.Frag} {mg : Str → Option Value} {base : Heap} {aT aL : Addr} {fT fL : Str → Option Value}
theorem scSummed21 : FnScope ["_law_problem_here", "_law_heard", "_law_parts", "_law_numbers", "_law_least", "_law_part", "_law_row_here"] ["_law_problem_here", "_law_heard", "_law_parts"] (defScope sSummed21) := ⟨rfl, rfl, rfl, by decide +kernel, rfl, by decide +kernel, by decide +kernel⟩
theorem okSummed21 (F : Fn K mg "_law_summed" sSummed21) (M : Mg mg) : Cal P w K mg base 2 "_law_summed" ["_law_problem_here", "_law_heard", "_law_parts"] (spNo21) := cal_of F scSummed21 (fun _ _ _ _ _ _ => bind3 (fun _ _ _ => rfl)) (fun vs H Q E h => absurd h (spNo21_no vs H Q E)) (fun f cdv A outer s H vs Q E hr h => absurd h (spNo21_no vs H Q E))
theorem scShared21 : FnScope ["_law_row_here", "_law_by", "_law_number"] ["_law_row_here", "_law_by"] (defScope sShared21) := ⟨rfl, rfl, rfl, by decide +kernel, rfl, by decide +kernel, by decide +kernel⟩
theorem okShared21 (F : Fn K mg "_law_shared" sShared21) (M : Mg mg) : Cal P w K mg base 1 "_law_shared" ["_law_row_here", "_law_by"] (spNo21) := cal_of F scShared21 (fun _ _ _ _ _ _ => bind2 (fun _ _ => rfl)) (fun vs H Q E h => absurd h (spNo21_no vs H Q E)) (fun f cdv A outer s H vs Q E hr h => absurd h (spNo21_no vs H Q E))
theorem scLike21 : FnScope ["_law_problem_here", "_law_turn", "_law_many", "_law_rows", "_law_numbers", "_law_least", "_law_moved", "_law_k", "_law_weight"] ["_law_problem_here", "_law_turn"] (defScope sLike21) := ⟨rfl, rfl, rfl, by decide +kernel, rfl, by decide +kernel, by decide +kernel⟩
theorem okLike21 (F : Fn K mg "_law_like" sLike21) (M : Mg mg) : Cal P w K mg base 1 "_law_like" ["_law_problem_here", "_law_turn"] (spNo21) := cal_of F scLike21 (fun _ _ _ _ _ _ => bind2 (fun _ _ => rfl)) (fun vs H Q E h => absurd h (spNo21_no vs H Q E)) (fun f cdv A outer s H vs Q E hr h => absurd h (spNo21_no vs H Q E))
theorem scRow21 : FnScope ["_law_problem_here", "_law_best", "_law_heard", "_law_line"] ["_law_problem_here", "_law_best", "_law_heard", "_law_line"] (defScope sRow21) := ⟨rfl, rfl, rfl, by decide +kernel, rfl, by decide +kernel, by decide +kernel⟩
theorem okRow21 (F : Fn K mg "_law_row" sRow21) (M : Mg mg) (cl_simple : Cal P w K mg base 2 "_law_simple" ["_law_problem_here", "_law_best", "_law_line"] (spSimple K)) (cl_summed : Cal P w K mg base 2 "_law_summed" ["_law_problem_here", "_law_heard", "_law_parts"] (spNo21)) (cl_like : Cal P w K mg base 1 "_law_like" ["_law_problem_here", "_law_turn"] (spNo21)) (cl_is : Cal P w K mg base 1 "_law_is" ["_law_thing", "_law_most_here"] (spIs)) (cl_shared : Cal P w K mg base 1 "_law_shared" ["_law_row_here", "_law_by"] (spNo21)) (cl_shut : Cal P w K mg base 2 "_law_shut" ["_law_row_here", "_law_holds_here"] (spShut21 K)) (cl_either : Cal P w K mg base 1 "_law_either" ["_law_one", "_law_other", "_law_at"] (spEith K)) : Cal P w K mg base 3 "_law_row" ["_law_problem_here", "_law_best", "_law_heard", "_law_line"] (spRow21 K) := by
  refine cal_of F scRow21 (fun _ _ _ _ _ _ => bind4 (fun _ _ _ _ => rfl)) (fun vs H Q E h => ?_) (fun f cdv A outer s H vs Q E hr h => ?_)
  · obtain ⟨t, h, u, rs, hd, cs, o, ws, ln, r, H0, rfl, _⟩ := h
    rfl
  obtain ⟨t, h, u, rs, hd, cs, o, ws, ln, r, H0, rfl, hP, hw, hrw, hd9, hdl, hLn, hn, hm, hT, q⟩ := h
  have hu : (A.deeper (PyProof.Rows.envOfC "_law_row" (defScope sRow21) s.heap.objs.size f cdv)).units + 1 < cLine := Nat.lt_of_le_of_lt (Nat.add_le_add_left (by decide) _) hr.un
  refine ⟨_, (pss_cons (ps_if (PW.pt (pw_or (pt_not (pt_val (pe_callB call_isiW rfl M.isinstance bt_isinstance (pa_cons (pv 3) (pa_cons (pe_ty M.tuple_ bt_tuple) pa_nil))))) (pw_or1 (pt_cmpR op_eq (pe_callB call_len_seq rfl M.len bt_len (pa_cons (pv 3) pa_nil)) pe_int (nomark _))))) (pss_one (ps_ret pe_non)) pss_nil)
    (pss_cons (ps_if (pt_cmpR op_in_seq (pe_ix ix_tup (pv 3) pe_int (fun _ _ => rfl)) (pe_tup (pa_cons pe_str (pa_cons pe_str (pa_cons pe_str (pa_cons pe_str pa_nil))))) rfl) (pss_one (ps_ret (pe_fn cl_simple (hr.mono (by decide)) (pa_cons (pv 0) (pa_cons (pv 1) (pa_cons (pv 3) pa_nil)))))) pss_nil)
    (pss_cons (ps_if (PW.pt (pw_and (pt_cmpR op_eq (pe_ix ix_tup (pv 3) pe_int (fun _ _ => rfl)) pe_str (nomark _)) (pw_and1 (pt_cmpR op_eq (pe_callB call_len_seq rfl M.len bt_len (pa_cons (pv 3) pa_nil)) pe_int (nomark _))))) (pss_one (ps_ret (pe_fn cl_summed (hr.mono (by decide)) (pa_cons (pv 0) (pa_cons (pv 2) (pa_cons (pe_ix ix_tup (pv 3) pe_int (fun _ _ => rfl)) pa_nil)))))) pss_nil)
    (pss_cons (ps_if (PW.pt (pw_and (pt_cmpR op_eq (pe_ix ix_tup (pv 3) pe_int (fun _ _ => rfl)) pe_str (nomark _)) (pw_and1 (pt_cmpR op_eq (pe_callB call_len_seq rfl M.len bt_len (pa_cons (pv 3) pa_nil)) pe_int (nomark _))))) (pss_one (ps_ret (pe_fn cl_like (hr.mono (by decide)) (pa_cons (pv 0) (pa_cons (pe_ix ix_tup (pv 3) pe_int (fun _ _ => rfl)) pa_nil))))) pss_nil)
    (pss_cons (ps_if (PW.pt (pw_or (pt_cmpR op_lt (pe_callB call_len_seq rfl M.len bt_len (pa_cons (pv 3) pa_nil)) pe_int (nomark _)) (pw_or1 (pt_not (pt_val (pe_fn cl_is (hr.mono (by decide)) (pa_cons (pe_ix ix_tup (pv 3) pe_int (fun _ _ => rfl)) (pa_cons (pe_callB call_len_seq rfl M.len bt_len (pa_cons (pv 2) pa_nil)) pa_nil)))))))) (pss_one (ps_ret pe_non)) pss_nil)
    (pss_cons (ps_if (PW.pt (pw_and (pt_cmpR op_eq (pe_ix ix_tup (pv 3) pe_int (fun _ _ => rfl)) pe_str (nomark _)) (pw_and1 (pt_cmpR op_eq (pe_callB call_len_seq rfl M.len bt_len (pa_cons (pv 3) pa_nil)) pe_int (nomark _))))) (pss_one (ps_ret (pe_fn cl_shared (hr.mono (by decide)) (pa_cons (pe_ix ix_list (pv 2) (pe_ix ix_tup (pv 3) pe_int (fun _ _ => rfl)) (fun _ _ => rfl)) (pa_cons (pe_ix ix_tup (pv 3) pe_int (fun _ _ => rfl)) pa_nil))))) pss_nil)
    (pss_cons (ps_if (PW.pt (pw_and (pt_cmpR op_eq (pe_ix ix_tup (pv 3) pe_int (fun _ _ => rfl)) pe_str (nomark _)) (pw_and1 (pt_cmpR op_eq (pe_callB call_len_seq rfl M.len bt_len (pa_cons (pv 3) pa_nil)) pe_int (nomark _))))) (pss_one (ps_ret (pe_fn cl_shut (hr.mono (by decide)) (pa_cons (pe_ix ix_list (pv 2) (pe_ix ix_tup (pv 3) pe_int (fun _ _ => rfl)) (fun _ _ => rfl)) (pa_cons (pe_ix ix_tup (pv 3) pe_int (fun _ _ => rfl)) pa_nil))))) pss_nil)
    (pss_cons (ps_if (PW.pt (pw_and (pt_cmpR op_eq (pe_ix ix_tup (pv 3) pe_int (fun _ _ => rfl)) pe_str (nomark _)) (pw_and (pt_cmpR op_eq (pe_callB call_len_seq rfl M.len bt_len (pa_cons (pv 3) pa_nil)) pe_int (nomark _)) (pw_and (pt_val (pe_fn cl_is (hr.mono (by decide)) (pa_cons (pe_ix ix_tup (pv 3) pe_int (fun _ _ => rfl)) (pa_cons (pe_callB call_len_seq rfl M.len bt_len (pa_cons (pv 2) pa_nil)) pa_nil)))) (pw_and1 (pt_val (pe_fn cl_is (hr.mono (by decide)) (pa_cons (pe_ix ix_tup (pv 3) pe_int (fun _ _ => rfl)) (pa_cons (pe_callB call_len_seq rfl M.len bt_len (pa_cons (pe_ix ix_tup (pv 0) pe_int (fun _ _ => rfl)) pa_nil)) pa_nil))))))))) (pss_one (ps_ret (pe_fn cl_either (hr.mono (by decide)) (pa_cons (pe_ix ix_list (pv 2) (pe_ix ix_tup (pv 3) pe_int (fun _ _ => rfl)) (fun _ _ => rfl)) (pa_cons (pe_ix ix_list (pv 2) (pe_ix ix_tup (pv 3) pe_int (fun _ _ => rfl)) (fun _ _ => rfl)) (pa_cons (pe_ix ix_tup (pv 3) pe_int (fun _ _ => rfl)) pa_nil)))))) pss_nil)
    (pss_one (ps_ret pe_non)))))))))), ?_⟩
  refine seq_let9 ?_
  intro rT9 rT8 rT7 rT6 rT5 rT4 rT3 rT2
  obtain ⟨lP, cP, vP, p1, p2, p3, p4⟩ := id hP
  have lw := hrw.length
  cases ln with
  | giv k =>
    obtain ⟨u', e, hu⟩ := id hLn
    cases e
    refine ⟨_, rfl, _, "tuple", true, rfl, .tuple, .inl ⟨⟨_, hu⟩, rfl⟩, _, rfl, iteF ⟨_, rfl, u, _, rfl, .inr hu, rfl, _, rfl, iteF ?_⟩⟩
    refine ⟨_, rfl, u, _, _, _, rfl, rfl, hu, at0, by show 4 ≤ sizeLine; decide, fun T fT => ?_⟩
    have sT := same_new' fT (.tup [.str "given", .str "low", .str "high", .str "better"])
    refine ⟨T, _, rfl, .inr (sqT_new upd_same), rfl, rfl, _, rfl, ite2 (fun _ => ?_) (fun e => absurd (by decide +kernel) e)⟩
    refine ⟨_, rfl, _, rfl, _, rfl, t, u, rs, cs, o, .giv k, r, rfl, ProbAt.same sT hP, ⟨u, rfl, sT.tup hu⟩, hn, hm, .inr ⟨_, rfl⟩, hT, fun t' H' s' hr' => q t' H' (sT.trans s') hr'⟩
  | bet =>
    obtain ⟨u', e, hu⟩ := id hLn
    cases e
    refine ⟨_, rfl, _, "tuple", true, rfl, .tuple, .inl ⟨⟨_, hu⟩, rfl⟩, _, rfl, iteF ⟨_, rfl, u, _, rfl, .inr hu, rfl, _, rfl, iteF ?_⟩⟩
    refine ⟨_, rfl, u, _, _, _, rfl, rfl, hu, at10, by show 4 ≤ sizeLine; decide, fun T fT => ?_⟩
    have sT := same_new' fT (.tup [.str "given", .str "low", .str "high", .str "better"])
    refine ⟨T, _, rfl, .inr (sqT_new upd_same), rfl, rfl, _, rfl, ite2 (fun _ => ?_) (fun e => absurd (by decide +kernel) e)⟩
    refine ⟨_, rfl, _, rfl, _, rfl, t, u, rs, cs, o, .bet, r, rfl, ProbAt.same sT hP, ⟨u, rfl, sT.tup hu⟩, hn, hm, .inl rfl, hT, fun t' H' s' hr' => q t' H' (sT.trans s') hr'⟩
  | shut s hs =>
    obtain ⟨u', l, ws', e, hu, hl0, hl, hpa⟩ := id hLn
    cases e
    refine ⟨_, rfl, _, "tuple", true, rfl, .tuple, .inl ⟨⟨_, hu⟩, rfl⟩, _, rfl, iteF ⟨_, rfl, u, _, rfl, .inr hu, rfl, _, rfl, iteF ?_⟩⟩
    refine ⟨_, rfl, u, _, _, _, rfl, rfl, hu, at30, by show 4 ≤ sizeLine; decide, fun T fT => ?_⟩
    have sT := same_new' fT (.tup [.str "given", .str "low", .str "high", .str "better"])
    refine ⟨T, _, rfl, .inr (sqT_new upd_same), rfl, rfl, _, rfl, ite2 (fun e => absurd e (by decide +kernel)) (fun _ => ?_)⟩
    generalize upd H T (.tup [.str "given", .str "low", .str "high", .str "better"]) = H1 at sT ⊢
    have hu1 := sT.tup hu
    refine ⟨_, rfl, u, _, _, _, rfl, rfl, hu1, at30, rfl, _, rfl, ite2 (fun e => absurd e (by decide +kernel)) (fun _ => iteF ?_)⟩
    refine ⟨_, rfl, u, _, _, _, rfl, rfl, hu1, at30, rfl, _, rfl, ite2 (fun e => absurd e (by decide +kernel)) (fun _ => iteF ?_)⟩
    obtain ⟨r0, e0, hG0, hr0, rfl⟩ := hT
    obtain ⟨t0, ev0, hR0⟩ := row_at hrw e0
    have hs0 := (List.getElem?_eq_some_iff.mp e0).1
    refine ⟨_, rfl, u, _, rfl, .inr hu1, _, _, rfl, rfl, _, rfl, ite2 (fun e => absurd e (by simp)) (fun _ => ?_)⟩
    refine ⟨_, rfl, u, _, _, _, rfl, rfl, hu1, at31, _, rfl, h, _, rfl, .inl (sT.seq hw), ((s : Nat) : Int), _, rfl, by omega, by omega, _, rfl, iteF ?_⟩
    refine ⟨_, rfl, u, _, _, _, rfl, rfl, hu1, at30, rfl, _, rfl, ite2 (fun e => absurd e (by decide +kernel)) (fun _ => iteF ?_)⟩
    refine ⟨_, rfl, u, _, _, _, rfl, rfl, hu1, at30, rfl, _, rfl, ite2 (fun _ => ?_) (fun e => absurd (by decide +kernel) e)⟩
    refine ⟨_, rfl, u, _, rfl, .inr hu1, rfl, _, rfl, ite2 (fun _ => ?_) (fun e => absurd (by simp) e)⟩
    refine ⟨_, rfl, _, rfl, u, _, _, _, rfl, rfl, hu1, at31, h, _, _, _, rfl, rfl, sT.seq hw, atNat ev0, _, rfl, u, _, _, _, rfl, rfl, hu1, at32, t0, l, r0, hs, cs.length, rfl, hR0.same sT, ⟨ws', sqL_new (sT _ _ hl), PairsAre.imp' hpa fun t xs z => sT.tup z⟩, ?_, hG0, hn, ?_, hr0, fun t' H' s' hr' => q t' H' (sT.trans s') hr'⟩
    · exact hdl r0 (List.mem_of_getElem? e0)
    · have := good_len hG0
      omega
  | eith i j c =>
    obtain ⟨u', e, hu⟩ := id hLn
    cases e
    refine ⟨_, rfl, _, "tuple", true, rfl, .tuple, .inl ⟨⟨_, hu⟩, rfl⟩, _, rfl, iteF ⟨_, rfl, u, _, rfl, .inr hu, rfl, _, rfl, iteF ?_⟩⟩
    refine ⟨_, rfl, u, _, _, _, rfl, rfl, hu, at40, by show 4 ≤ sizeLine; decide, fun T fT => ?_⟩
    have sT := same_new' fT (.tup [.str "given", .str "low", .str "high", .str "better"])
    refine ⟨T, _, rfl, .inr (sqT_new upd_same), rfl, rfl, _, rfl, ite2 (fun e => absurd e (by decide +kernel)) (fun _ => ?_)⟩
    generalize upd H T (.tup [.str "given", .str "low", .str "high", .str "better"]) = H1 at sT ⊢
    have hu1 := sT.tup hu
    refine ⟨_, rfl, u, _, _, _, rfl, rfl, hu1, at40, rfl, _, rfl, ite2 (fun e => absurd e (by decide +kernel)) (fun _ => iteF ?_)⟩
    refine ⟨_, rfl, u, _, _, _, rfl, rfl, hu1, at40, rfl, _, rfl, ite2 (fun e => absurd e (by decide +kernel)) (fun _ => iteF ?_)⟩
    obtain ⟨ra, rb, ea, eb, hcc, hla, hlb, heq, rfl⟩ := hT
    obtain ⟨ta, eva, hRa⟩ := row_at hrw ea
    obtain ⟨tb, evb, hRb⟩ := row_at hrw eb
    have hia := (List.getElem?_eq_some_iff.mp ea).1
    have hib := (List.getElem?_eq_some_iff.mp eb).1
    refine ⟨_, rfl, u, _, rfl, .inr hu1, _, _, rfl, rfl, _, rfl, ite2 (fun e => absurd e (by simp)) (fun _ => ?_)⟩
    refine ⟨_, rfl, u, _, _, _, rfl, rfl, hu1, at41, _, rfl, h, _, rfl, .inl (sT.seq hw), ((i : Nat) : Int), _, rfl, by omega, by omega, _, rfl, iteF ?_⟩
    refine ⟨_, rfl, u, _, _, _, rfl, rfl, hu1, at40, rfl, _, rfl, ite2 (fun e => absurd e (by decide +kernel)) (fun _ => iteF ?_)⟩
    refine ⟨_, rfl, u, _, _, _, rfl, rfl, hu1, at40, rfl, _, rfl, ite2 (fun e => absurd e (by decide +kernel)) (fun _ => iteF ?_)⟩
    refine ⟨_, rfl, u, _, _, _, rfl, rfl, hu1, at40, rfl, _, rfl, ite2 (fun _ => ?_) (fun e => absurd (by decide +kernel) e)⟩
    refine ⟨_, rfl, u, _, rfl, .inr hu1, rfl, _, rfl, ite2 (fun _ => ?_) (fun e => absurd (by simp) e)⟩
    refine ⟨_, rfl, u, _, _, _, rfl, rfl, hu1, at42, _, rfl, h, _, rfl, .inl (sT.seq hw), ((j : Nat) : Int), _, rfl, by omega, by omega, _, rfl, iteT ?_⟩
    refine ⟨_, rfl, u, _, _, _, rfl, rfl, hu1, at43, _, rfl, t, _, _, _, rfl, rfl, sT.tup p1, at1, cP, _, rfl, .inr (sT.tup p4), ((c : Nat) : Int), _, rfl, by omega, by rw [List.length_map]; omega, _, rfl, iteT ?_⟩
    refine ⟨_, rfl, _, rfl, u, _, _, _, rfl, rfl, hu1, at41, h, _, _, _, rfl, rfl, sT.seq hw, atNat eva, _, rfl, _, rfl, u, _, _, _, rfl, rfl, hu1, at42, h, _, _, _, rfl, rfl, sT.seq hw, atNat evb, _, rfl, u, _, _, _, rfl, rfl, hu1, at43, ta, tb, ra, rb, c, cs.length, rfl, hRa.same sT, hRb.same sT, hla, hlb, hn, hcc, heq, fun t' H' s' hr' => q t' H' (sT.trans s') hr'⟩
end
end Nb
namespace Nb
open PySem L2
noncomputable abbrev sEnds21 : Stmt := top 33
noncomputable def spEnds21 (K : PySem.W.Frag) : Sp := fun vs H Q _ => ∃ (a l : Addr) (us : List V) (rs : List (List Int × Int)) (hs : List (Int × Int)) (n : Nat), vs = [.ref a, .ref l, .int (n : Int)] ∧ SqL K H a us ∧ RowsAre K H us rs ∧ HoldsAt K H l hs ∧ Good n hs ∧ n ≤ 100 ∧ rs.length ≤ 100 ∧ (∀ r ∈ rs, r.1.length = n) ∧ ∀ H', Same H H' → Q (.bl (endsL n rs (n + 1) hs)) H'
noncomputable def KnAt (K : PySem.W.Frag) (H : Hp) (kl D : Addr) (n : Nat) (kn : List (Int × Int)) : Prop := ∃ ws, H kl = some (.lst ws) ∧ PairsAre K H ws (kn.map fun p => (p.1, V.int p.2)) ∧ H D = some (.lst ((kn.map (·.1)).map V.int)) ∧ Good n kn ∧ kl ≠ D
section
variable {P : Program} {w : World} {K : PySem.W.Frag} {mg : Str → Option Value} {base : Heap} {aT aL : Addr} {fT fL : Str → Option Value}
theorem scEnds21 : FnScope ["_law_rows", "_law_holds_here", "_law_many", "_law_known", "_law_turn", "_law_held", "_law_row_here", "_law_choice", "_law_worth", "_law_step"] ["_law_rows", "_law_holds_here", "_law_many"] (defScope sEnds21) := ⟨rfl, rfl, rfl, by decide +kernel, rfl, by decide +kernel, by decide +kernel⟩
theorem okEnds21 (F : Fn K mg "_law_ends_broken" sEnds21) (M : Mg mg) (cl_most : Cal P w K mg base 1 "_law_most" ["_law_row_here", "_law_holds_here"] (spMostL K)) : Cal P w K mg base 2 "_law_ends_broken" ["_law_rows", "_law_holds_here", "_law_many"] (spEnds21 K) := by
  refine cal_of F scEnds21 (fun _ _ _ _ _ _ => bind3 (fun _ _ _ => rfl)) (fun vs H Q E h => ?_) (fun f cdv A outer s H vs Q E hr h => ?_)
  · obtain ⟨a, l, us, rs, hs, n, rfl, _⟩ := h
    rfl
  obtain ⟨a, l, us, rs, hs, n, rfl, ha, hrw, hh, hG, hn, hrl, hr1, q⟩ := h
  refine ⟨_, (pss_cons (ps_set (i := 3) scEnds21.nd rfl (Or.inr rfl) (pe_callTy call_list_of rfl M.list_ bt_list (pa_cons (pv 1) pa_nil)))
    (pss_cons (ps_for PassesOwn.never rfl (pi_range1 rfl M.range_ (pa_cons (pe_op op_add (pv 2) pe_int) pa_nil)) (pg_name (i := 4) scEnds21.nd rfl (Or.inl rfl) (Or.inl rfl)) (pss_cons (ps_if (pt_cmpR op_gt (pe_callB call_len_seq rfl M.len bt_len (pa_cons (pe_lc ["_law_row_here", "_law_known"] [none, some 3] rfl (pi_list (pv 0)) (fun _ _ _ => (pg_name (i := 0) (show (["_law_row_here", "_law_known"] : List Str).Nodup by decide +kernel) rfl (Or.inl rfl) (Or.inr rfl))) (fun _ _ _ => (pf_one (pt_cmpR op_lt (pe_fn cl_most (hr.mono (by decide)) (pa_cons (pv 0) (pa_cons (pv 1) pa_nil))) (pe_ix (ix_tupK (K := K) rfl) (pv 0) pe_int (fun _ _ => rfl)) (nomark _)))) (fun _ _ _ => (pv 0))) pa_nil)) pe_int (nomark _)) (pss_one (ps_ret pe_bl)) pss_nil)
    (pss_cons (ps_setC (i := 5) ["_law_choice", "_law_worth"] [none, none] rfl scEnds21.nd rfl (Or.inl rfl) (pi_list (pv 3)) (fun _ _ _ => (pg_pair (K := K) (i := 0) (j := 1) rfl rfl (show (["_law_choice", "_law_worth"] : List Str).Nodup by decide +kernel) rfl rfl rfl rfl)) (fun _ _ _ => pf_nil) (fun _ _ _ => (pv 0)))
    (pss_one (ps_for PassesOwn.never rfl (pi_list (pv 0)) (pg_name (i := 6) scEnds21.nd rfl (Or.inl rfl) (Or.inl rfl)) (pss_one (ps_for PassesOwn.never rfl (pi_range1 rfl M.range_ (pa_cons (pv 2) pa_nil)) (pg_name (i := 7) scEnds21.nd rfl (Or.inl rfl) (Or.inl rfl)) (pss_one (ps_for PassesOwn.never rfl (pi_range1 rfl M.range_ (pa_cons pe_int pa_nil)) (pg_name (i := 8) scEnds21.nd rfl (Or.inl rfl) (Or.inl rfl)) (pss_cons (ps_set (i := 9) scEnds21.nd rfl (Or.inl rfl) (pe_op op_cat (pv 3) (pe_lst (pa_cons (pe_tup (pa_cons (pv 7) (pa_cons (pe_op op_sub pe_int (pv 8)) pa_nil))) pa_nil))))
    (pss_one (ps_if (PW.pt (pw_and (pt_cmpR op_notIn_seq (pv 7) (pv 5) rfl) (pw_and1 (pt_cmpR op_lt (pe_fn cl_most (hr.mono (by decide)) (pa_cons (pv 6) (pa_cons (pv 9) pa_nil))) (pe_ix ix_tup (pv 6) pe_int (fun _ _ => rfl)) (nomark _))))) (pss_cons (ps_set (i := 3) scEnds21.nd rfl (Or.inr rfl) (pe_op op_cat (pv 3) (pe_lst (pa_cons (pe_tup (pa_cons (pv 7) (pa_cons (pv 8) pa_nil))) pa_nil))))
    (pss_one (ps_expr (pe_bm PySem.F.plainAttrs_list PySem.F.slot_list_append PySem.F.type_list_append mt_append (pv 5) (pa_cons (pv 7) pa_nil))))) pss_nil))))))))))))
    (pss_one (ps_ret (pe_cmpR op_gt (pe_callB call_len_seq rfl M.len bt_len (pa_cons (pe_lc ["_law_row_here", "_law_known"] [none, some 3] rfl (pi_list (pv 0)) (fun _ _ _ => (pg_name (i := 0) (show (["_law_row_here", "_law_known"] : List Str).Nodup by decide +kernel) rfl (Or.inl rfl) (Or.inr rfl))) (fun _ _ _ => (pf_one (pt_cmpR op_lt (pe_fn cl_most (hr.mono (by decide)) (pa_cons (pv 0) (pa_cons (pv 1) pa_nil))) (pe_ix (ix_tupK (K := K) rfl) (pv 0) pe_int (fun _ _ => rfl)) (nomark _)))) (fun _ _ _ => (pv 0))) pa_nil)) pe_int (nomark _)))))), ?_⟩
  refine seq_let3 ?_
  intro rT3 rT2
  have hz : (2000 : Nat) < sizeLine := by decide
  have lu := hrw.length
  obtain ⟨ws0, hl0, hpa0⟩ := id hh
  refine ⟨_, rfl, l, ws0, rfl, .inl hl0, fun kl0 fkl0 => ?_⟩
  have s0 := same_new' fkl0 (.lst ws0)
  have hk0 : upd H kl0 (.lst ws0) kl0 = some (.lst ws0) := upd_same
  generalize upd H kl0 (.lst ws0) = H0 at s0 hk0 ⊢
  refine ⟨_, rfl, _, _, rfl, rfl, _, rfl, by omega, by omega, for_range (lo := 0) (n := Int.toNat ((n : Int) + 1)) (fun i σ H1 => ∃ (kl : Addr) (ws : List V) (kn : List (Int × Int)) (u4 u5 u6 u7 u8 u9 : Option V), σ = [some (.ref a), some (.ref l), some (.int (n : Int)), some (.ref kl), u4, u5, u6, u7, u8, u9] ∧ H1 kl = some (.lst ws) ∧ PairsAre K H1 ws (kn.map fun p => (p.1, V.int p.2)) ∧ Good n kn ∧ Same H H1 ∧ endsL n rs (n + 1) hs = endsL n rs (n + 1 - i) kn) ⟨kl0, ws0, hs, none, none, none, none, none, none, rfl, hk0, PairsAre.imp' hpa0 (fun t xs z => s0.tup z), hG, s0, rfl⟩ ?_ ?_⟩
  · rintro i σ H1 hi ⟨kl, ws, kn, u4, u5, u6, u7, u8, u9, rfl, hk, hpa, hGk, s1, he⟩
    refine ⟨_, rfl, a, rfl, ⟨_, s1.seq ha⟩, fun D hD => ?_⟩
    refine lc_any (n := rs.length) (fun m τ ys H2 => ∃ v : Option V, τ = [v, some (.ref kl)] ∧ (ys.length = 0 ↔ ∀ r ∈ rs.take m, ¬ roomF n (hv kn) r < 0) ∧ ys.length ≤ m ∧ H2 D = some (.lst ys) ∧ Same H1 H2) ?_ (fun m τ ys H2 hm h => ?_) (fun m τ ys H2 hm h => ?_) (fun τ ys H2 h => ?_) ?_ ?_
    · exact ⟨none, rfl, ⟨fun _ r hr => absurd hr (by simp), fun _ => rfl⟩, Nat.le_refl _, upd_same, same_new' hD _⟩
    · obtain ⟨v, rfl, hq, hy, hE, s2⟩ := h
      exact ⟨hE, by omega⟩
    · obtain ⟨v, rfl, hq, hy, hE, s2⟩ := h
      exact ⟨us, us[m]'(by omega), (s1.trans s2).seq ha, List.getElem?_eq_getElem (by omega)⟩
    · obtain ⟨v, rfl, hq, hy, hE, s2⟩ := h
      exact ⟨us, (s1.trans s2).seq ha, by omega⟩
    · rintro m τ ys H2 x H3 hm ⟨v, rfl, hq, hy, hE, s2⟩ ⟨rfl, e1⟩
      have s12 := s1.trans s2
      obtain ⟨t, r, rfl, er, hrt⟩ := hrw.get (e1 _ (s12.seq ha))
      obtain ⟨pp, rt1, rt2⟩ := id hrt
      have hrn := hr1 r (List.mem_of_getElem? er)
      have hGr : Good r.1.length kn := by rw [hrn]; exact hGk
      have gl := good_len hGk
      refine ⟨_, rfl, _, rfl, t, kl, r, kn, rfl, hrt.same s12, ⟨ws, sqL_new (s2 _ _ hk), PairsAre.imp' hpa fun t xs z => s2.tup z⟩, hGr, by omega, by omega, fun H4 s4 => ⟨_, rfl, t, _, _, _, rfl, rfl, (s12.trans s4).tup rt1, at1, _, _, rfl, rfl, _, rfl, ?_⟩⟩
      have eR : roomL r kn = roomF n (hv kn) r := by rw [roomL_eq hGr, hrn]
      refine ite2 (fun y => ?_) (fun y => ?_)
      · have y' : roomL r kn + r.2 < r.2 := of_decide_eq_true y
        refine ⟨_, rfl, s4 _ _ hE, _, rfl, ?_, by rw [List.length_append]; exact Nat.succ_le_succ hy, upd_same, fun b o e => ?_⟩
        · rw [List.length_append, takeS er]
          refine ⟨fun z => absurd z (by show ¬ ys.length + 1 = 0; omega), fun z => absurd (show roomF n (hv kn) r < 0 by omega) (z r (List.mem_append_right _ (List.mem_singleton.mpr rfl)))⟩
        · rw [upd_ne (ne_of_none e hD)]; exact s4 _ _ (s2 _ _ e)
      · have y' : ¬ roomL r kn + r.2 < r.2 := fun z => y (decide_eq_true z)
        refine ⟨_, rfl, ?_, by omega, s4 _ _ hE, s2.trans s4⟩
        rw [takeS er, hq]
        refine ⟨fun z r' hr' => ?_, fun z r' hr' => z r' (List.mem_append_left _ hr')⟩
        rcases List.mem_append.mp hr' with w | w
        · exact z r' w
        · rw [List.mem_singleton.mp w]; omega
    rintro τ ys H2 ⟨v, rfl, hq, hy, hE, s2⟩
    rw [List.take_length] at hq
    have hqa : anyB n rs kn = true ↔ 0 < ys.length := by
      rw [anyB_iff]
      constructor
      · rintro ⟨r, hr, z⟩
        rcases Nat.eq_zero_or_pos ys.length with w | w
        · exact absurd z (hq.mp w r hr)
        · exact w
      · intro w
        refine Classical.byContradiction fun z => ?_
        have := hq.mpr fun r hr y => z ⟨r, hr, y⟩
        omega
    have hi' : i < n + 1 := by omega
    have et : n + 1 - i = (n - i) + 1 := by omega
    rw [et] at he
    have he' : endsL n rs (n + 1) hs = if anyB n rs kn = true then true else endsL n rs (n - i) (passL n (allRCW rs n) kn) := he
    refine ⟨D, _, rfl, .inl (sqL_new hE), _, _, rfl, rfl, _, rfl, ite2 (fun c => ?_) (fun c => ?_)⟩
    · have c' : (0 : Int) < ((ys.length : Nat) : Int) := of_decide_eq_true c
      rw [if_pos (hqa.mpr (by omega))] at he'
      have q5 := q H2 (s1.trans s2)
      rw [he'] at q5
      exact q5
    have c' : ¬ (0 : Int) < ((ys.length : Nat) : Int) := fun z => c (decide_eq_true z)
    rw [if_neg (fun z => c' (by have := hqa.mp z; omega))] at he'
    have s12 := s1.trans s2
    have hk2 := s2 _ _ hk
    have hpa2 : PairsAre K H2 ws (kn.map fun p => (p.1, V.int p.2)) := PairsAre.imp' hpa fun t xs z => s2.tup z
    have lw := hpa2.length
    rw [List.length_map] at lw
    have gl := good_len hGk
    clear hE hq hy hqa c c' he
    refine ⟨_, rfl, kl, rfl, ⟨_, sqL_new hk2⟩, fun D2 hD2 => ?_⟩
    refine lc_any (n := kn.length) (fun m τ ys H3 => ∃ u v : Option V, τ = [u, v] ∧ ys = ((kn.map (·.1)).take m).map V.int ∧ H3 D2 = some (.lst ys) ∧ Same H2 H3) ?_ (fun m τ ys H3 hm h => ?_) (fun m τ ys H3 hm h => ?_) (fun τ ys H3 h => ?_) ?_ ?_
    · exact ⟨none, none, rfl, rfl, upd_same, same_new' hD2 _⟩
    · obtain ⟨u, v, rfl, rfl, hE, s3⟩ := h
      exact ⟨hE, by rw [List.length_map, List.length_take]; omega⟩
    · obtain ⟨u, v, rfl, rfl, hE, s3⟩ := h
      exact ⟨ws, ws[m]'(by omega), sqL_new (s3 _ _ hk2), List.getElem?_eq_getElem (by omega)⟩
    · obtain ⟨u, v, rfl, rfl, hE, s3⟩ := h
      exact ⟨ws, sqL_new (s3 _ _ hk2), by omega⟩
    · rintro m τ ys H3 x H4 hm ⟨u, v, rfl, rfl, hE, s3⟩ ⟨rfl, e1⟩
      obtain ⟨T, c, w, rfl, ec, hT⟩ := holds_get hpa2 (e1 _ (sqL_new (s3 _ _ hk2))) s3
      refine ⟨T, _, rfl, hT, rfl, _, _, rfl, _, _, rfl, rfl, ?_⟩
      refine ⟨_, rfl, hE, _, _, rfl, ?_, upd_same, fun b o e => ?_⟩
      · rw [takeS (show (kn.map (·.1))[m]? = some c by rw [List.getElem?_map, ec]; rfl), List.map_append]; rfl
      · rw [upd_ne (ne_of_none e hD2)]; exact s3 _ _ e
    rintro τ ys H3 ⟨u, v, rfl, rfl, hE, s3⟩
    rw [List.take_of_length_le (by rw [List.length_map]; exact Nat.le_refl _)] at hE
    have s13 := s12.trans s3
    have hD2H : H D2 = none := by
      cases e5 : H D2 with
      | none => rfl
      | some o => rw [s12 _ _ e5] at hD2; cases hD2
    have A3 : KnAt K H3 kl D2 n kn := ⟨ws, s3 _ _ hk2, PairsAre.imp' hpa2 (fun t xs z => s3.tup z), hE, hGk, fun z => by rw [z, hD2] at hk2; cases hk2⟩
    refine ⟨_, rfl, a, rfl, ⟨_, s13.seq ha⟩, for_list (K := K) (a := a) (xs := us) (fun j σ H4 => ∃ (kl : Addr) (u6 u7 u8 u9 : Option V), σ = [some (.ref a), some (.ref l), some (.int (n : Int)), some (.ref kl), some (.int (0 + (i : Int))), some (.ref D2), u6, u7, u8, u9] ∧ KnAt K H4 kl D2 n (passL n (allRCW (rs.take j) n) kn) ∧ Same H H4) ⟨kl, _, _, _, _, rfl, A3, s13⟩ (fun j σ H4 _ h => ?_) ?_ ?_⟩
    · obtain ⟨kl, u6, u7, u8, u9, rfl, A4, s4⟩ := h
      exact s4.seq ha
    · rintro j x σ H4 e1 ⟨kl4, u6, u7, u8, u9, rfl, A4, s4⟩
      obtain ⟨t, r, rfl, er, hrt⟩ := hrw.get e1
      obtain ⟨pp, rt1, rt2⟩ := id hrt
      have hrn := hr1 r (List.mem_of_getElem? er)
      have eP : passL n (allRCW (rs.take (j + 1)) n) kn = passL n ((List.range n).flatMap fun c => [(r, c, 0), (r, c, 1)]) (passL n (allRCW (rs.take j) n) kn) := by
        rw [takeS er]
        unfold allRCW passL
        rw [List.flatMap_append, List.foldl_append]
        simp
      rw [eP]
      generalize passL n (allRCW (rs.take j) n) kn = k0 at A4 ⊢
      refine ⟨_, rfl, (n : Int), rfl, by omega, by omega, for_range (lo := 0) (n := ((n : Int)).toNat) (fun c σ H5 => ∃ (kl : Addr) (u7 u8 u9 : Option V), σ = [some (.ref a), some (.ref l), some (.int (n : Int)), some (.ref kl), some (.int (0 + (i : Int))), some (.ref D2), some (.ref t), u7, u8, u9] ∧ KnAt K H5 kl D2 n (passL n ((List.range c).flatMap fun c => [(r, c, 0), (r, c, 1)]) k0) ∧ Same H H5) ⟨kl4, _, _, _, rfl, A4, s4⟩ ?_ ?_⟩
      · rintro c σ H5 hc ⟨kl5, u7, u8, u9, rfl, A5, s5⟩
        have hc' : c < n := hc
        have eC : passL n ((List.range (c + 1)).flatMap fun c => [(r, c, 0), (r, c, 1)]) k0 = passL n [(r, c, 0), (r, c, 1)] (passL n ((List.range c).flatMap fun c => [(r, c, 0), (r, c, 1)]) k0) := by
          rw [List.range_succ]
          unfold passL
          rw [List.flatMap_append, List.foldl_append]
          simp
        rw [eC]
        generalize passL n ((List.range c).flatMap fun c => [(r, c, 0), (r, c, 1)]) k0 = k1 at A5 ⊢
        have ez : (0 : Int) + (c : Int) = ((c : Nat) : Int) := by omega
        rw [ez]
        refine ⟨2, rfl, by omega, by omega, for_range (lo := 0) (n := Int.toNat 2) (fun w σ H6 => ∃ (kl : Addr) (u8 u9 : Option V), σ = [some (.ref a), some (.ref l), some (.int (n : Int)), some (.ref kl), some (.int (0 + (i : Int))), some (.ref D2), some (.ref t), some (.int (c : Int)), u8, u9] ∧ KnAt K H6 kl D2 n (passL n (([(r, c, 0), (r, c, 1)] : List RCW).take w) k1) ∧ Same H H6) ⟨kl5, _, _, rfl, A5, s5⟩ ?_ ?_⟩
        · rintro w σ H6 hw ⟨kl6, u8, u9, rfl, A6, s6⟩
          have hw' : w < 2 := hw
          have hw01 : ((w : Nat) : Int) = 0 ∨ ((w : Nat) : Int) = 1 := by omega
          have eW : passL n (([(r, c, 0), (r, c, 1)] : List RCW).take (w + 1)) k1 = lawStep n r (passL n (([(r, c, 0), (r, c, 1)] : List RCW).take w) k1) c ((w : Nat) : Int) := by
            rcases (show w = 0 ∨ w = 1 by omega) with e | e <;> subst e <;> rfl
          rw [eW]
          generalize passL n (([(r, c, 0), (r, c, 1)] : List RCW).take w) k1 = kk at A6 ⊢
          have ew : (0 : Int) + (w : Int) = ((w : Nat) : Int) := by omega
          rw [ew]
          obtain ⟨ws6, b1, b2, b3, b4, b5⟩ := A6
          have gl6 := good_len b4
          have lw6 := b2.length
          rw [List.length_map] at lw6
          refine ⟨_, rfl, _, rfl, _, rfl, _, _, rfl, rfl, by show 2 ≤ sizeLine; decide, fun T1 f1 => ?_⟩
          have sa := same_new' f1 (.tup [.int ((c : Nat) : Int), .int (1 - ((w : Nat) : Int))])
          have hTa : SqT K (upd H6 T1 (.tup [.int ((c : Nat) : Int), .int (1 - ((w : Nat) : Int))])) T1 [.int ((c : Nat) : Int), .int (1 - ((w : Nat) : Int))] := sqT_new upd_same
          generalize upd H6 T1 (.tup [.int ((c : Nat) : Int), .int (1 - ((w : Nat) : Int))]) = Ha at sa hTa ⊢
          refine ⟨by show 1 ≤ sizeLine; decide, fun B1 fB => ?_⟩
          have sab := same_new' fB (.lst [.ref T1])
          have hB1 : upd Ha B1 (.lst [.ref T1]) B1 = some (.lst [.ref T1]) := upd_same
          generalize upd Ha B1 (.lst [.ref T1]) = Hb at sab hB1 ⊢
          have sb := sa.trans sab
          refine ⟨kl6, B1, _, _, rfl, rfl, sb _ _ b1, hB1, by show ws6.length + 1 ≤ sizeLine; omega, fun S1 fS => ?_⟩
          have sbc := same_new' fS (.lst (ws6 ++ [.ref T1]))
          have hS1 : upd Hb S1 (.lst (ws6 ++ [.ref T1])) S1 = some (.lst (ws6 ++ [.ref T1])) := upd_same
          generalize upd Hb S1 (.lst (ws6 ++ [.ref T1])) = Hc at sbc hS1 ⊢
          have sc := sb.trans sbc
          have s6c := s6.trans sc
          have hhS : HoldsAt K Hc S1 (kk ++ [(((c : Nat) : Int), 1 - ((w : Nat) : Int))]) := ⟨_, sqL_new hS1, by rw [List.map_append]; exact paired_snoc (PairsAre.imp' b2 fun t xs z => sc.tup z) ⟨T1, rfl, (sab.trans sbc).tup hTa⟩⟩
          have same : ∀ Hx, Same Hc Hx → lawStep n r kk c ((w : Nat) : Int) = kk → KnAt K Hx kl6 D2 n (lawStep n r kk c ((w : Nat) : Int)) := fun Hx sx e => by
            rw [e]
            exact ⟨ws6, sx _ _ (sc _ _ b1), PairsAre.imp' b2 (fun t xs z => (sc.trans sx).tup z), sx _ _ (sc _ _ b3), b4, b5⟩
          refine ⟨_, rfl, _, rfl, D2, _, rfl, .inl (sqL_new (sc _ _ b3)), rfl, flat_ints _, _, rfl, ?_⟩
          rw [inV_ints]
          refine ite2 (fun y => ?_) (fun y => iteF ?_)
          · have y' : ¬ ((c : Nat) : Int) ∈ kk.map (·.1) := by
              have y2 : (!decide (((c : Nat) : Int) ∈ kk.map (·.1))) = true := y
              simpa using y2
            have hf : hv kk c = none := hv_none.mpr y'
            have hG7 : Good r.1.length (kk ++ [(((c : Nat) : Int), 1 - ((w : Nat) : Int))]) := by rw [hrn]; exact b4.app hc' hf (by omega)
            refine ⟨_, rfl, _, rfl, t, S1, r, _, rfl, hrt.same s6c, hhS, hG7, by omega, by rw [List.length_append]; show kk.length + 1 ≤ 1001; omega, fun H7 s7 => ⟨_, rfl, t, _, _, _, rfl, rfl, (s6c.trans s7).tup rt1, at1, _, _, rfl, rfl, _, rfl, ?_⟩⟩
            have eR : roomL r (kk ++ [(((c : Nat) : Int), 1 - ((w : Nat) : Int))]) = roomF n (setF (hv kk) c (1 - ((w : Nat) : Int))) r := by rw [roomL_eq hG7, hrn, hv_app _ _ _ hf]
            refine ite2 (fun z => ?_) (fun z => ?_)
            · have z' : roomL r (kk ++ [(((c : Nat) : Int), 1 - ((w : Nat) : Int))]) + r.2 < r.2 := of_decide_eq_true z
              have eL : lawStep n r kk c ((w : Nat) : Int) = kk ++ [(((c : Nat) : Int), ((w : Nat) : Int))] := if_pos ⟨hf, by omega⟩
              rw [eL]
              have sc7 := sc.trans s7
              refine ⟨_, rfl, _, rfl, _, rfl, by show 2 ≤ sizeLine; decide, fun T2 f2 => ?_⟩
              have sd := same_new' f2 (.tup [.int ((c : Nat) : Int), .int ((w : Nat) : Int)])
              have hTd : SqT K (upd H7 T2 (.tup [.int ((c : Nat) : Int), .int ((w : Nat) : Int)])) T2 [.int ((c : Nat) : Int), .int ((w : Nat) : Int)] := sqT_new upd_same
              generalize upd H7 T2 (.tup [.int ((c : Nat) : Int), .int ((w : Nat) : Int)]) = Hd at sd hTd ⊢
              refine ⟨by show 1 ≤ sizeLine; decide, fun B2 fB2 => ?_⟩
              have sde := same_new' fB2 (.lst [.ref T2])
              have hB2 : upd Hd B2 (.lst [.ref T2]) B2 = some (.lst [.ref T2]) := upd_same
              generalize upd Hd B2 (.lst [.ref T2]) = He at sde hB2 ⊢
              have se := sc7.trans (sd.trans sde)
              refine ⟨kl6, B2, _, _, rfl, rfl, se _ _ b1, hB2, by show ws6.length + 1 ≤ sizeLine; omega, fun kl9 fk9 => ?_⟩
              have sef := same_new' fk9 (.lst (ws6 ++ [.ref T2]))
              have hk9 : upd He kl9 (.lst (ws6 ++ [.ref T2])) kl9 = some (.lst (ws6 ++ [.ref T2])) := upd_same
              have nk9 : kl9 ≠ D2 := fun z => by rw [z, se _ _ b3] at fk9; cases fk9
              generalize upd He kl9 (.lst (ws6 ++ [.ref T2])) = Hf at sef hk9 ⊢
              have sf := se.trans sef
              have hD9 := sf _ _ b3
              refine ⟨_, rfl, .inl ⟨rfl, _, sqL_new hD9⟩, _, rfl, D2, _, _, rfl, rfl, hD9, by rw [List.length_map, List.length_map]; omega, ?_⟩
              refine ⟨kl9, _, _, rfl, ⟨ws6 ++ [.ref T2], by rw [upd_ne nk9]; exact hk9, ?_, ?_, b4.app hc' hf hw01, nk9⟩, fun b o e => by rw [upd_ne (ne_of_none e hD2H)]; exact sf _ _ (s6 _ _ e)⟩
              · rw [List.map_append]
                exact paired_snoc (PairsAre.imp' b2 fun t xs z => SqT_upd hD9 (sf.tup z)) ⟨T2, rfl, SqT_upd hD9 ((sde.trans sef).tup hTd)⟩
              · rw [upd_same, List.map_append, List.map_append]; rfl
            · have z' : ¬ roomL r (kk ++ [(((c : Nat) : Int), 1 - ((w : Nat) : Int))]) + r.2 < r.2 := fun q5 => z (decide_eq_true q5)
              exact ⟨kl6, _, _, rfl, same H7 s7 (if_neg fun q5 => z' (by have := q5.2; omega)), s6c.trans s7⟩
          · have y' : ((c : Nat) : Int) ∈ kk.map (·.1) := by
              have y2 : ¬ (!decide (((c : Nat) : Int) ∈ kk.map (·.1))) = true := y
              simpa using y2
            exact ⟨kl6, _, _, rfl, same Hc (Same.refl _) (if_neg fun q5 => hv_none.mp q5.1 y'), s6c⟩
        · rintro σ H6 ⟨kl6, u8, u9, rfl, A6, s6⟩
          exact ⟨kl6, _, _, _, rfl, A6, s6⟩
      · rintro σ H5 ⟨kl5, u7, u8, u9, rfl, A5, s5⟩
        exact ⟨kl5, _, _, _, _, rfl, A5, s5⟩
    · rintro σ H4 ⟨kl4, u6, u7, u8, u9, rfl, A4, s4⟩
      rw [show us.length = rs.length from lu, List.take_length] at A4
      obtain ⟨ws4, k1, k2, k3, k4, k5⟩ := A4
      exact ⟨kl4, ws4, _, _, _, _, _, _, _, rfl, k1, k2, k4, s4, by rw [he', show n + 1 - (i + 1) = n - i by omega]⟩
  · rintro σ H1 ⟨kl, ws, kn, u4, u5, u6, u7, u8, u9, rfl, hk, hpa, hGk, s1, he⟩
    refine ⟨_, rfl, a, rfl, ⟨_, s1.seq ha⟩, fun D hD => ?_⟩
    refine lc_any (n := rs.length) (fun m τ ys H2 => ∃ v : Option V, τ = [v, some (.ref kl)] ∧ (ys.length = 0 ↔ ∀ r ∈ rs.take m, ¬ roomF n (hv kn) r < 0) ∧ ys.length ≤ m ∧ H2 D = some (.lst ys) ∧ Same H1 H2) ?_ (fun m τ ys H2 hm h => ?_) (fun m τ ys H2 hm h => ?_) (fun τ ys H2 h => ?_) ?_ ?_
    · exact ⟨none, rfl, ⟨fun _ r hr => absurd hr (by simp), fun _ => rfl⟩, Nat.le_refl _, upd_same, same_new' hD _⟩
    · obtain ⟨v, rfl, hq, hy, hE, s2⟩ := h
      exact ⟨hE, by omega⟩
    · obtain ⟨v, rfl, hq, hy, hE, s2⟩ := h
      exact ⟨us, us[m]'(by omega), (s1.trans s2).seq ha, List.getElem?_eq_getElem (by omega)⟩
    · obtain ⟨v, rfl, hq, hy, hE, s2⟩ := h
      exact ⟨us, (s1.trans s2).seq ha, by omega⟩
    · rintro m τ ys H2 x H3 hm ⟨v, rfl, hq, hy, hE, s2⟩ ⟨rfl, e1⟩
      have s12 := s1.trans s2
      obtain ⟨t, r, rfl, er, hrt⟩ := hrw.get (e1 _ (s12.seq ha))
      obtain ⟨pp, rt1, rt2⟩ := id hrt
      have hrn := hr1 r (List.mem_of_getElem? er)
      have hGr : Good r.1.length kn := by rw [hrn]; exact hGk
      have gl := good_len hGk
      refine ⟨_, rfl, _, rfl, t, kl, r, kn, rfl, hrt.same s12, ⟨ws, sqL_new (s2 _ _ hk), PairsAre.imp' hpa fun t xs z => s2.tup z⟩, hGr, by omega, by omega, fun H4 s4 => ⟨_, rfl, t, _, _, _, rfl, rfl, (s12.trans s4).tup rt1, at1, _, _, rfl, rfl, _, rfl, ?_⟩⟩
      have eR : roomL r kn = roomF n (hv kn) r := by rw [roomL_eq hGr, hrn]
      refine ite2 (fun y => ?_) (fun y => ?_)
      · have y' : roomL r kn + r.2 < r.2 := of_decide_eq_true y
        refine ⟨_, rfl, s4 _ _ hE, _, rfl, ?_, by rw [List.length_append]; exact Nat.succ_le_succ hy, upd_same, fun b o e => ?_⟩
        · rw [List.length_append, takeS er]
          refine ⟨fun z => absurd z (by show ¬ ys.length + 1 = 0; omega), fun z => absurd (show roomF n (hv kn) r < 0 by omega) (z r (List.mem_append_right _ (List.mem_singleton.mpr rfl)))⟩
        · rw [upd_ne (ne_of_none e hD)]; exact s4 _ _ (s2 _ _ e)
      · have y' : ¬ roomL r kn + r.2 < r.2 := fun z => y (decide_eq_true z)
        refine ⟨_, rfl, ?_, by omega, s4 _ _ hE, s2.trans s4⟩
        rw [takeS er, hq]
        refine ⟨fun z r' hr' => ?_, fun z r' hr' => z r' (List.mem_append_left _ hr')⟩
        rcases List.mem_append.mp hr' with w | w
        · exact z r' w
        · rw [List.mem_singleton.mp w]; omega
    rintro τ ys H2 ⟨v, rfl, hq, hy, hE, s2⟩
    rw [List.take_length] at hq
    have hqa : anyB n rs kn = true ↔ 0 < ys.length := by
      rw [anyB_iff]
      constructor
      · rintro ⟨r, hr, z⟩
        rcases Nat.eq_zero_or_pos ys.length with w | w
        · exact absurd z (hq.mp w r hr)
        · exact w
      · intro w
        refine Classical.byContradiction fun z => ?_
        have := hq.mpr fun r hr y => z ⟨r, hr, y⟩
        omega
    have e0 : n + 1 - Int.toNat ((n : Int) + 1) = 0 := by omega
    rw [e0] at he
    have he' : endsL n rs (n + 1) hs = anyB n rs kn := he
    refine ⟨D, _, rfl, .inl (sqL_new hE), _, _, rfl, rfl, ?_⟩
    have q5 := q H2 (s1.trans s2)
    have e6 : endsL n rs (n + 1) hs = decide ((0 : Int) < ((ys.length : Nat) : Int)) := by
      rw [he', Bool.eq_iff_iff, hqa, decide_eq_true_iff]
      omega
    rw [e6] at q5
    exact q5
end
end Nb
namespace L2
open PySem PySem.Spec PyProof.Rows PySem.SeqAt
section
variable {X : Cx}
theorem op_eqW (hu : X.A.units + 6 < cLine) : OpR X (compareOp .Eq) (fun x y H Q => ∃ (a b : Addr) (s s' : Str) (xs : List V), x = .ref a ∧ y = .ref b ∧ SqT X.K H a (.str s :: xs) ∧ SqT X.K H b [.str s'] ∧ ∀ c : Bool, (c = true ↔ (s = s' ∧ xs = [])) → Q (.bl c) H) := by
  intro pins sh σ H x y v u Q I rx ry h
  obtain ⟨a, b, s, s', xs, rfl, rfl, h1, h2, q⟩ := h
  cases rx
  cases ry
  obtain ⟨its, r, pt, _⟩ := I.tuple h1
  obtain ⟨its', r', pt', _⟩ := I.tuple h2
  have l1 := r.length
  have l2 := r'.length
  obtain ⟨u1, e1, ru1⟩ := r.get (i := 0) (x := .str s) rfl
  obtain ⟨u2, e2, ru2⟩ := r'.get (i := 0) (x := .str s') rfl
  obtain ⟨t1, rfl⟩ := ru1
  obtain ⟨t2, rfl⟩ := ru2
  have l1' : its.length = xs.length + 1 := by rw [← l1]; rfl
  have l2' : its'.length = 1 := by rw [← l2]; rfl
  have key : ∀ j (h1 : j < its.toArray.size) (h2 : j < its'.toArray.size), EqAt X.A.in1 sh its.toArray[j] its'.toArray[j] (s == s') := fun j h1 h2 => by
    rw [List.size_toArray] at h1 h2
    have ej : j = 0 := by omega
    subst ej
    have z1 : its.toArray[0] = .str s t1 := by rw [List.getElem?_eq_getElem (by omega)] at e1; simpa using e1
    have z2 : its'.toArray[0] = .str s' t2 := by rw [List.getElem?_eq_getElem (by omega)] at e2; simpa using e2
    rw [z1, z2]
    exact EqAt.str_str s t1 s' t2
  have rc := RcAt.tuples (A := X.A) pt pt' (by omega) (e := fun _ => s == s') key
  refine rc _ _ _ _ ⟨.bl _, H, I, rfl, q _ ?_⟩
  rw [Bool.and_eq_true, allRange, List.size_toArray, List.size_toArray, l1', l2']
  constructor
  · rintro ⟨z1, z2⟩
    have z2' : xs.length + 1 = 1 := eq_of_beq z2
    exact ⟨eq_of_beq (z1 0 (by omega)), List.eq_nil_of_length_eq_zero (by omega)⟩
  · rintro ⟨z1, z2⟩
    subst z1 z2
    exact ⟨fun _ _ => beq_self_eq_true _, rfl⟩
end
end L2
namespace Nb
open PySem L2
noncomputable abbrev sSimple21 : Stmt := top 23
section
variable {P : Program} {w : World} {K : PySem.W.Frag} {mg : Str → Option Value} {base : Heap} {aT aL : Addr} {fT fL : Str → Option Value}
theorem scSimple21 : FnScope ["_law_problem_here", "_law_best", "_law_line", "_law_numbers"] ["_law_problem_here", "_law_best", "_law_line"] (defScope sSimple21) := ⟨rfl, rfl, rfl, by decide +kernel, rfl, by decide +kernel, by decide +kernel⟩
theorem okSimple21 (F : Fn K mg "_law_simple" sSimple21) (M : Mg mg) (cl_is : Cal P w K mg base 1 "_law_is" ["_law_thing", "_law_most_here"] (spIs)) : Cal P w K mg base 2 "_law_simple" ["_law_problem_here", "_law_best", "_law_line"] (spSimple K) := by
  refine cal_of F scSimple21 (fun _ _ _ _ _ _ => bind3 (fun _ _ _ => rfl)) (fun vs H Q E h => ?_) (fun f cdv A outer s H vs Q E hr h => ?_)
  · obtain ⟨t, u, rs, cs, o, ln, r, rfl, _⟩ := h
    rfl
  obtain ⟨t, u, rs, cs, o, ln, r, rfl, ⟨l, c, vs, ht, hl, hrw, hc⟩, hLn, hn, hm, hw, hT, q⟩ := h
  have hu6 : (A.deeper (PyProof.Rows.envOfC "_law_simple" (defScope sSimple21) s.heap.objs.size f cdv)).units + 6 < cLine := Nat.lt_of_le_of_lt (Nat.add_le_add_left (by decide) _) hr.un
  have hu : (A.deeper (PyProof.Rows.envOfC "_law_simple" (defScope sSimple21) s.heap.objs.size f cdv)).units + 1 < cLine := Nat.lt_of_le_of_lt (Nat.add_le_add_left (by decide) _) hr.un
  refine ⟨_, (pss_cons (ps_set (i := 3) scSimple21.nd rfl (Or.inl rfl) (pe_op op_rep (pe_lst (pa_cons pe_int pa_nil)) (pe_callB call_len_seq rfl M.len bt_len (pa_cons (pe_ix ix_tup (pv 0) pe_int (fun _ _ => rfl)) pa_nil))))
    (pss_cons (ps_if (pt_cmpR (op_eqW hu6) (pv 2) (pe_tup (pa_cons pe_str pa_nil)) (nomark _)) (pss_cons (ps_if (pt_cmpR op_isN (pv 1) pe_non (nomark _)) (pss_one (ps_ret pe_non)) pss_nil)
    (pss_one (ps_ret (pe_tup (pa_cons (pe_callTy call_tuple_of rfl M.tuple_ bt_tuple (pa_cons (pe_lc ["_law_cost"] [none] rfl (pi_tup (pe_ix ix_tup (pv 0) pe_int (fun _ _ => rfl))) (fun _ _ _ => (pg_name (i := 0) (show (["_law_cost"] : List Str).Nodup by decide +kernel) rfl (Or.inl rfl) (Or.inr rfl))) (fun _ _ _ => pf_nil) (fun _ _ _ => (pe_op op_sub pe_int (pv 0)))) pa_nil)) (pa_cons (pe_op op_sub pe_int (pv 1)) pa_nil)))))) pss_nil)
    (pss_cons (ps_if (PW.pt (pw_or (pt_cmpR op_ne (pe_callB call_len_seq rfl M.len bt_len (pa_cons (pv 2) pa_nil)) pe_int (nomark _)) (pw_or1 (pt_not (pt_val (pe_fn cl_is (hr.mono (by decide)) (pa_cons (pe_ix ix_tup (pv 2) pe_int (fun _ _ => rfl)) (pa_cons (pe_ix ix_list (pe_lst (pa_cons (pe_callB call_len_seq rfl M.len bt_len (pa_cons (pv 3) pa_nil)) (pa_cons (pe_callB call_len_seq rfl M.len bt_len (pa_cons (pe_ix ix_tup (pv 0) pe_int (fun _ _ => rfl)) pa_nil)) pa_nil))) (pe_callTy call_int1 rfl M.int_ bt_int (pa_cons (pe_cmpR op_eq (pe_ix ix_tup (pv 2) pe_int (fun _ _ => rfl)) pe_str (nomark _)) pa_nil)) (fun _ _ => rfl)) pa_nil)))))))) (pss_one (ps_ret pe_non)) pss_nil)
    (pss_cons (ps_if (pt_cmpR op_eq (pe_ix ix_tup (pv 2) pe_int (fun _ _ => rfl)) pe_str (nomark _)) (pss_one (ps_ret (pe_ix ix_list (pe_ix ix_tup (pv 0) pe_int (fun _ _ => rfl)) (pe_ix ix_tup (pv 2) pe_int (fun _ _ => rfl)) (fun _ _ => rfl)))) pss_nil)
    (pss_cons (ps_if (pt_cmpR op_eq (pe_ix ix_tup (pv 2) pe_int (fun _ _ => rfl)) pe_str (nomark _)) (pss_cons (ps_asg pe_int (pg_sub (pv 3) (pe_ix ix_tup (pv 2) pe_int (fun _ _ => rfl)) set_list))
    (pss_one (ps_ret (pe_tup (pa_cons (pe_callTy call_tuple_of rfl M.tuple_ bt_tuple (pa_cons (pv 3) pa_nil)) (pa_cons pe_int pa_nil)))))) pss_nil)
    (pss_cons (ps_if (pt_cmpR op_eq (pe_ix ix_tup (pv 2) pe_int (fun _ _ => rfl)) pe_str (nomark _)) (pss_cons (ps_asg (pe_un un_neg pe_int) (pg_sub (pv 3) (pe_ix ix_tup (pv 2) pe_int (fun _ _ => rfl)) set_list))
    (pss_one (ps_ret (pe_tup (pa_cons (pe_callTy call_tuple_of rfl M.tuple_ bt_tuple (pa_cons (pv 3) pa_nil)) (pa_cons (pe_un un_neg pe_int) pa_nil)))))) pss_nil)
    (pss_one (ps_ret pe_non)))))))), ?_⟩
  refine seq_let7 ?_
  intro rT7 rT6 rT5 rT4 rT3 rT2
  have hz : (2000 : Nat) < sizeLine := by decide
  have lr := hrw.length
  have lc : (cs.map V.int).length = cs.length := List.length_map ..
  refine ⟨by show 1 ≤ sizeLine; decide, fun p0 hp0 => ?_⟩
  have s0 := same_new' hp0 (.lst [.int 0])
  have hp0' : upd H p0 (.lst [.int 0]) p0 = some (.lst [.int 0]) := upd_same
  generalize upd H p0 (.lst [.int 0]) = H0 at s0 hp0' ⊢
  refine ⟨_, rfl, t, _, _, _, rfl, rfl, s0.tup ht, at1, c, _, rfl, .inr (s0.tup hc), p0, (((cs.map V.int).length : Nat) : Int), _, rfl, rfl, hp0', by omega, by omega, by show 1 * ((((cs.map V.int).length : Nat) : Int)).toNat ≤ sizeLine; omega, fun g0 hg0 => ?_⟩
  have e0 : (List.replicate ((((cs.map V.int).length : Nat) : Int)).toNat [V.int 0]).flatten = (List.replicate (cs.map V.int).length (0 : Int)).map V.int := rep0 _
  rw [e0]
  have s01 := s0.trans (same_new' hg0 (.lst ((List.replicate (cs.map V.int).length (0 : Int)).map V.int)))
  have hg1 : upd H0 g0 (.lst ((List.replicate (cs.map V.int).length (0 : Int)).map V.int)) g0 = some (.lst ((List.replicate (cs.map V.int).length (0 : Int)).map V.int)) := upd_same
  generalize upd H0 g0 (.lst ((List.replicate (cs.map V.int).length (0 : Int)).map V.int)) = H1 at s01 hg1 ⊢
  refine ⟨_, rfl, by show 1 ≤ sizeLine; decide, fun T hT1 => ?_⟩
  have sT := same_new' hT1 (.tup [.str "better"])
  have hTT : SqT K (upd H1 T (.tup [.str "better"])) T [.str "better"] := sqT_new upd_same
  generalize upd H1 T (.tup [.str "better"]) = H2 at sT hTT ⊢
  have s2 := s01.trans sT
  rcases hw with rfl | ⟨k, rfl⟩
  · obtain ⟨u', e, hu⟩ := id hLn
    cases e
    refine ⟨u, T, _, _, [], rfl, rfl, s2.tup hu, hTT, fun cc hcc => ?_⟩
    rw [hcc.mpr ⟨rfl, rfl⟩]
    refine ⟨_, rfl, iteT ?_⟩
    cases o with
    | none => exact absurd hT.1 (show ¬ rs.length = rs.length + 1 by omega)
    | some b =>
      have er : r = betterRow cs b := by
        have h5 : (rs ++ [betterRow cs b])[rs.length]? = some r := hT.2
        rw [List.getElem?_append_right (Nat.le_refl _), Nat.sub_self] at h5
        exact (Option.some.inj h5).symm
      subst er
      refine ⟨_, rfl, rfl, _, rfl, iteF ?_⟩
      refine ⟨_, rfl, t, _, _, _, rfl, rfl, s2.tup ht, at1, c, rfl, ⟨_, s2.tup hc⟩, fun D hD => ?_⟩
      refine lc_any (n := cs.length) (fun i τ ys H3 => ∃ v : Option V, τ = [v] ∧ ys = ((cs.map fun c => -c).take i).map V.int ∧ H3 D = some (.lst ys) ∧ Same H2 H3) ?_ (fun i τ ys H3 hi h => ?_) (fun i τ ys H3 hi h => ?_) (fun τ ys H3 h => ?_) ?_ ?_
      · exact ⟨none, rfl, rfl, upd_same, same_new' hD _⟩
      · obtain ⟨v, rfl, rfl, hE, s3⟩ := h
        exact ⟨hE, by rw [List.length_map, List.length_take]; omega⟩
      · obtain ⟨v, rfl, rfl, hE, s3⟩ := h
        exact ⟨_, .int cs[i], (s2.trans s3).tup hc, by rw [List.getElem?_map, List.getElem?_eq_getElem hi]; rfl⟩
      · obtain ⟨v, rfl, rfl, hE, s3⟩ := h
        exact ⟨_, (s2.trans s3).tup hc, by rw [List.length_map]; exact Nat.le_refl _⟩
      · rintro i τ ys H3 x H4 hi ⟨v, rfl, rfl, hE, s3⟩ ⟨rfl, e1⟩
        obtain ⟨z, ez, rfl⟩ := getMapI (e1 _ ((s2.trans s3).tup hc))
        refine ⟨_, rfl, _, _, rfl, rfl, hE, _, rfl, ?_, upd_same, fun b' o e => ?_⟩
        · rw [takeS (show (cs.map fun c => -c)[i]? = some (-z) by rw [List.getElem?_map, ez]; rfl), List.map_append]
          show _ ++ [V.int (0 - z)] = _
          rw [Int.zero_sub]; rfl
        · rw [upd_ne (ne_of_none e hD)]; exact s3 _ _ e
      · rintro τ ys H3 ⟨v, rfl, rfl, hE, s3⟩
        rw [List.take_of_length_le (by rw [List.length_map]; exact Nat.le_refl _)] at hE
        refine ⟨D, _, rfl, .inl ⟨sqL_new hE, fun l2 hl2 => ⟨_, rfl, _, _, rfl, rfl, by show 2 ≤ sizeLine; decide, fun t2 ht2 => ?_⟩⟩⟩
        exact q t2 _ (((s2.trans s3).trans (same_new' hl2 _)).trans (same_new' ht2 _)) (row_new ht2)
  · obtain ⟨u', e, hu⟩ := id hLn
    cases e
    refine ⟨u, T, _, _, [.int ((k : Nat) : Int)], rfl, rfl, s2.tup hu, hTT, fun cc hcc => ?_⟩
    have ec : cc = false := by cases cc with | false => rfl | true => exact absurd (hcc.mp rfl).2 (by simp)
    rw [ec]
    refine ⟨_, rfl, iteF ?_⟩
    have hu2 := s2.tup hu
    obtain ⟨hk, er⟩ := hT
    have er' : rs[k]? = some r := by
      cases o with
      | none => exact er
      | some b =>
        have h5 : (rs ++ [betterRow cs b])[k]? = some r := er
        rw [List.getElem?_append_left hk] at h5
        exact h5
    obtain ⟨tr, evr, hRr⟩ := row_at hrw er'
    refine ⟨_, rfl, u, _, rfl, .inr hu2, rfl, _, rfl, ite2 (fun e => absurd e (by simp)) (fun _ => ?_)⟩
    refine ⟨_, rfl, u, _, _, _, rfl, rfl, hu2, at1, _, rfl, g0, _, rfl, .inl (sqL_new (sT _ _ hg1)), _, rfl, t, _, _, _, rfl, rfl, s2.tup ht, at0, l, _, rfl, .inl (s2.seq hl), by show 2 ≤ sizeLine; decide, fun B hB => ?_⟩
    have sB := same_new' hB (.lst [.int ((((List.replicate (cs.map V.int).length (0 : Int)).map V.int).length : Nat) : Int), .int ((vs.length : Nat) : Int)])
    have hB' : upd H2 B (.lst [.int ((((List.replicate (cs.map V.int).length (0 : Int)).map V.int).length : Nat) : Int), .int ((vs.length : Nat) : Int)]) B = some (.lst [.int ((((List.replicate (cs.map V.int).length (0 : Int)).map V.int).length : Nat) : Int), .int ((vs.length : Nat) : Int)]) := upd_same
    generalize upd H2 B (.lst [.int ((((List.replicate (cs.map V.int).length (0 : Int)).map V.int).length : Nat) : Int), .int ((vs.length : Nat) : Int)]) = H3 at sB hB' ⊢
    have s3 := s2.trans sB
    have hu3 := sB.tup hu2
    refine ⟨_, rfl, u, _, _, _, rfl, rfl, hu3, at0, rfl, .inr ⟨_, rfl, ?_⟩⟩
    rw [if_pos (by decide +kernel)]
    refine ⟨B, _, _, _, rfl, rfl, sqL_new hB', at1, ((k : Nat) : Int), _, rfl, by omega, by omega, _, rfl, iteF ?_⟩
    refine ⟨_, rfl, u, _, _, _, rfl, rfl, hu3, at0, rfl, _, rfl, ite2 (fun _ => ?_) (fun e => absurd (by decide +kernel) e)⟩
    exact ⟨_, rfl, t, _, _, _, rfl, rfl, s3.tup ht, at0, _, rfl, u, _, _, _, rfl, rfl, hu3, at1, l, _, _, _, rfl, rfl, s3.seq hl, atNat evr, q tr _ s3 (hRr.same s3)⟩
end
end Nb
namespace Nb
open PySem L2
noncomputable abbrev sLaw21 : Stmt := top 34
noncomputable def spLawB (K : PySem.W.Frag) : Sp := fun vs H Q _ => ∃ (a : Addr) (ns : List Int), vs = [.ref a] ∧ SqL K H a (ns.map V.int) ∧ ns.length ≤ 63 ∧ (∀ n ∈ ns, Bits n) ∧ ∀ H', Q (.bl true) H'
theorem pairLD {K : PySem.W.Frag} {H : Hp} {a : Addr} {v w : V} {d e : D} (h : SqL K H a [v, w]) (h1 : HasD K H v d) (h2 : HasD K H w e) : HasD K H (.ref a) (.lst [d, e]) := by
  refine .lst h rfl fun i v x e1 e2 => ?_
  match i with
  | 0 => simp at e1 e2; subst e1 e2; exact h1
  | 1 => simp at e1 e2; subst e1 e2; exact h2
  | i + 2 => simp at e1
theorem alikePairLL {n : Nat} {a b c d : D} (h1 : Alike n a c) (h2 : Alike n b d) : Alike (n + 1) (.lst [a, b]) (.lst [c, d]) := by
  refine .lst fun i x y e1 e2 => ?_
  match i with
  | 0 => simp at e1 e2; subst e1 e2; exact h1
  | 1 => simp at e1 e2; subst e1 e2; exact h2
  | i + 2 => simp at e1
theorem name_cut {t1 t2 : TS} {D : Ends} {i : Nat} {x : V} {σ : St} {H : Hp} (Pv : St → Hp → Prop) (h2 : ∀ σ' H', Pv σ' H' → t2 D σ' H') (h1 : (∀ σ' H', Pv σ' H' → t2 D σ' H') → t1 { D with nx := t2 D } (σ.set i (some x)) H) : gName i x σ H ({ D with nx := tSeq t1 t2 D } : Ends).nx := h1 h2
theorem best2 (e z : Int) : ∃ o : Option Int, atI [V.non, V.int e] (z % 2) = some (bestV o) := by
  rcases (show z % 2 = 0 ∨ z % 2 = 1 by omega) with h | h
  · rw [h]; exact ⟨none, rfl⟩
  · rw [h]; exact ⟨some e, rfl⟩
theorem rows_last {K : PySem.W.Frag} {H : Hp} {r : List Int × Int} {ws : List V} {hd : List (List Int × Int)} (h : RowsAre K H ws hd) (e : hd.getLast? = some r) : ∃ wi t0, ws = wi ++ [.ref t0] ∧ RowAt K H t0 r := by
  have l := h.length
  obtain ⟨hi, rfl⟩ : ∃ hi, hd = hi ++ [r] := by
    obtain ⟨ys, ey⟩ := List.getLast?_eq_some_iff.mp e
    exact ⟨ys, ey⟩
  rw [List.length_append] at l
  have l' : ws.length = hi.length + 1 := l
  have hw : ws = ws.take hi.length ++ [ws[hi.length]'(by omega)] := by
    rw [← List.take_succ_eq_append_getElem (by omega), List.take_of_length_le (by omega)]
  obtain ⟨t, r', e1, e2, h1⟩ := h.get (i := hi.length) (List.getElem?_eq_getElem (by omega))
  rw [List.getElem?_append_right (Nat.le_refl _), Nat.sub_self] at e2
  cases e2
  rw [e1] at hw
  exact ⟨_, t, hw, h1⟩
theorem row_updL {K : PySem.W.Frag} {H : Hp} {t g : Addr} {r : List Int × Int} {xs ys : List V} (hg : H g = some (.lst xs)) (h : RowAt K H t r) : RowAt K (upd H g (.lst ys)) t r := by
  obtain ⟨p, h1, h2⟩ := h
  exact ⟨p, SqT_upd hg h1, SqT_upd hg h2⟩
structure Clr (K : PySem.W.Frag) (H7 H11 : Hp) (L : Addr) (uL : List V) (Hx : Hp) : Prop where
  same : Same H7 Hx
  ln : Hx L = some (.lst uL)
  tup : ∀ {t : Addr} {xs : List V}, SqT K H11 t xs → SqT K Hx t xs
  lst : ∀ {b : Addr} {ws : List V}, H11 b = some (.lst ws) → ∃ ws', Hx b = some (.lst ws')
theorem Clr.clear {K : PySem.W.Frag} {H7 H11 Hx : Hp} {L b : Addr} {uL ws : List V} (h : Clr K H7 H11 L uL Hx) (h0 : H7 b = none) (nL : b ≠ L) (hb : Hx b = some (.lst ws)) : Clr K H7 H11 L uL (upd Hx b (.lst [])) := by
  refine ⟨fun c o e => ?_, ?_, fun z => SqT_upd hb (h.tup z), fun {c us} z => ?_⟩
  · rw [upd_ne (ne_of_none e h0)]; exact h.same _ _ e
  · rw [upd_ne nL.symm]; exact h.ln
  · by_cases e : c = b
    · rw [e]; exact ⟨[], upd_same⟩
    · rw [upd_ne e]; exact h.lst z
theorem line_parts {K : PySem.W.Frag} {H0 H : Hp} {v : V} : ∀ {ln : Ln}, LineAt K H0 H v ln → ∃ t xs, v = .ref t ∧ SqT K H t xs ∧ ∀ x ∈ xs, (∃ z, x = .int z) ∨ (∃ s, x = .str s) ∨ ∃ b ws, x = .ref b ∧ H0 b = none ∧ H b = some (.lst ws)
  | .giv k, ⟨t, e, h⟩ => ⟨t, _, e, h, fun x hx => by
    simp only [List.mem_cons, List.not_mem_nil, or_false] at hx
    rcases hx with rfl | rfl
    · exact .inr (.inl ⟨_, rfl⟩)
    · exact .inl ⟨_, rfl⟩⟩
  | .bet, ⟨t, e, h⟩ => ⟨t, _, e, h, fun x hx => by
    simp only [List.mem_cons, List.not_mem_nil, or_false] at hx
    subst hx
    exact .inr (.inl ⟨_, rfl⟩)⟩
  | .shut s hs, ⟨t, l, ws, e, h, h1, h2, h3⟩ => ⟨t, _, e, h, fun x hx => by
    simp only [List.mem_cons, List.not_mem_nil, or_false] at hx
    rcases hx with rfl | rfl | rfl
    · exact .inr (.inl ⟨_, rfl⟩)
    · exact .inl ⟨_, rfl⟩
    · exact .inr (.inr ⟨_, _, rfl, h1, h2⟩)⟩
  | .eith i j c, ⟨t, e, h⟩ => ⟨t, _, e, h, fun x hx => by
    simp only [List.mem_cons, List.not_mem_nil, or_false] at hx
    rcases hx with rfl | rfl | rfl | rfl
    · exact .inr (.inl ⟨_, rfl⟩)
    · exact .inl ⟨_, rfl⟩
    · exact .inl ⟨_, rfl⟩
    · exact .inl ⟨_, rfl⟩⟩
section
variable {P : Program} {w : World} {K : PySem.W.Frag} {mg : Str → Option Value} {base : Heap} {aT aL : Addr} {fT fL : Str → Option Value}
theorem scLaw21 : FnScope ["_law_script", "_law_problem_here", "_law_many", "_law_best", "_law_rows", "_law_k", "_law_holds_here", "_law_handed", "_law_turn", "_law_paper", "_law_heard", "_law_line", "_law_part"] ["_law_script"] (defScope sLaw21) := ⟨rfl, rfl, rfl, by decide +kernel, rfl, by decide +kernel, by decide +kernel⟩
theorem okLaw21 {f : Addr} {fd : FuncData} (F : Fun K "law" "law" sLaw21 f fd) (M : Mg mg) {C : Addr} (cl_problem : Cal P w K mg base 3 "_law_problem" ["_law_script", "_law_most_here", "_law_rows_most"] (spProblem20 K)) (cl_cell_at : Cal P w K mg base 1 "_law_cell_at" ["_law_script", "_law_k"] (spCellB K)) (cl_left : Cal P w K mg base 2 "_law_left" ["_law_script", "_law_k"] (spLeftB K)) (cl_holds : Cal P w K mg base 3 "_law_holds" ["_law_left_here", "_law_many"] (spHolds20 K)) (cl_copy : Cal P w K mg base 1 "_law_copy" ["_law_problem_here"] (spCopy21 K)) (c_passed_lines : Cal P w K mg base 4 "passed_lines" ["problem", "best", "holds"] (spPLines K C)) (cl_ends_broken : Cal P w K mg base 2 "_law_ends_broken" ["_law_rows", "_law_holds_here", "_law_many"] (spEnds21 K)) (cl_told : Cal P w K mg base 4 "_law_told" ["_law_problem_here", "_law_best", "_law_paper"] (spTold21 K)) (cl_shut_out : Cal P w K mg base 1 "_law_shut_out" ["_law_many", "_law_holds_here"] (spShutO K)) : FnOk P w K mg base CX0 5 f fd ["_law_script"] (spLawB K) := by
  refine F.ok scLaw21 (fun vs H Q E h => ?_) (fun cdv A outer s H vs Q E hr h => ?_)
  · obtain ⟨a, ns, rfl, _⟩ := h
    rfl
  obtain ⟨a, ns, rfl, hS, h63, hB, q⟩ := h
  have hu6 : (A.deeper (PyProof.Rows.envOfC "law" (defScope sLaw21) s.heap.objs.size f cdv)).units + 6 < cLine := Nat.lt_of_le_of_lt (Nat.add_le_add_left (by decide) _) hr.un
  refine ⟨_, (pss_cons (ps_set (i := 1) scLaw21.nd rfl (Or.inl rfl) (pe_fn cl_problem (hr.mono (by decide)) (pa_cons (pv 0) (pa_cons pe_int (pa_cons pe_int pa_nil)))))
    (pss_cons (ps_set (i := 2) scLaw21.nd rfl (Or.inl rfl) (pe_callB call_len_seq rfl M.len bt_len (pa_cons (pe_ix ix_tup (pv 1) pe_int (fun _ _ => rfl)) pa_nil)))
    (pss_cons (ps_set (i := 3) scLaw21.nd rfl (Or.inl rfl) (pe_ix ix_list (pe_lst (pa_cons pe_non (pa_cons (pe_op op_sub (pe_op op_mod (pe_op op_fdiv (pe_fn cl_cell_at (hr.mono (by decide)) (pa_cons (pv 0) (pa_cons pe_int pa_nil))) pe_int) pe_int) pe_int) pa_nil))) (pe_op op_mod (pe_fn cl_cell_at (hr.mono (by decide)) (pa_cons (pv 0) (pa_cons pe_int pa_nil))) pe_int) (fun _ _ => rfl)))
    (pss_cons (ps_set (i := 4) scLaw21.nd rfl (Or.inl rfl) (pe_callTy call_list_of rfl M.list_ bt_list (pa_cons (pe_ix ix_tup (pv 1) pe_int (fun _ _ => rfl)) pa_nil)))
    (pss_cons (ps_if (pt_cmpR op_notN (pv 3) pe_non (nomark _)) (pss_one (ps_expr (pe_bm PySem.F.plainAttrs_list PySem.F.slot_list_append PySem.F.type_list_append mt_append (pv 4) (pa_cons (pe_tup (pa_cons (pe_callTy call_tuple_of rfl M.tuple_ bt_tuple (pa_cons (pe_lc ["_law_cost"] [none] rfl (pi_tup (pe_ix ix_tup (pv 1) pe_int (fun _ _ => rfl))) (fun _ _ _ => (pg_name (i := 0) (show (["_law_cost"] : List Str).Nodup by decide +kernel) rfl (Or.inl rfl) (Or.inr rfl))) (fun _ _ _ => pf_nil) (fun _ _ _ => (pe_op op_sub pe_int (pv 0)))) pa_nil)) (pa_cons (pe_op op_sub pe_int (pv 3)) pa_nil))) pa_nil)))) pss_nil)
    (pss_cons (ps_for PassesOwn.never rfl (pi_range1 rfl M.range_ (pa_cons pe_int pa_nil)) (pg_name (i := 5) scLaw21.nd rfl (Or.inl rfl) (Or.inl rfl)) (pss_cons (ps_set (i := 6) scLaw21.nd rfl (Or.inl rfl) (pe_fn cl_holds (hr.mono (by decide)) (pa_cons (pe_fn cl_left (hr.mono (by decide)) (pa_cons (pv 0) (pa_cons (pe_op op_add pe_int (pv 5)) pa_nil))) (pa_cons (pv 2) pa_nil))))
    (pss_cons (ps_set (i := 7) scLaw21.nd rfl (Or.inl rfl) (pe_lst (pa_cons (pe_fn cl_copy (hr.mono (by decide)) (pa_cons (pv 1) pa_nil)) (pa_cons (pe_callTy call_list_of rfl M.list_ bt_list (pa_cons (pv 6) pa_nil)) pa_nil))))
    (pss_one (ps_for PassesOwn.never rfl (pi_range1 rfl M.range_ (pa_cons pe_int pa_nil)) (pg_name (i := 8) scLaw21.nd rfl (Or.inl rfl) (Or.inl rfl)) (pss_cons (ps_set (i := 9) scLaw21.nd rfl (Or.inl rfl) (pe_fn c_passed_lines (hr.mono (by decide)) (pa_cons (pe_ix ix_list (pv 7) pe_int (fun _ _ => rfl)) (pa_cons (pv 3) (pa_cons (pe_ix ix_list (pv 7) pe_int (fun _ _ => rfl)) pa_nil)))))
    (pss_cons (ps_if (pt_cmpR (op_neD (n := 6) hu6) (pv 7) (pe_lst (pa_cons (pv 1) (pa_cons (pv 6) pa_nil))) (nomark _)) (pss_one (ps_ret pe_bl)) pss_nil)
    (pss_one (ps_if (pt_val (pe_fn cl_ends_broken (hr.mono (by decide)) (pa_cons (pv 4) (pa_cons (pv 6) (pa_cons (pv 2) pa_nil))))) (pss_cons (ps_set (i := 10) scLaw21.nd rfl (Or.inl rfl) (pe_fn cl_told (hr.mono (by decide)) (pa_cons (pv 1) (pa_cons (pv 3) (pa_cons (pv 9) pa_nil)))))
    (pss_cons (ps_if (PW.pt (pw_or (pt_cmpR op_isN (pv 10) pe_non (nomark _)) (pw_or (pt_cmpR op_eq (pe_callB call_len_seq rfl M.len bt_len (pa_cons (pv 10) pa_nil)) pe_int (nomark _)) (pw_or1 (pt_cmpR (op_neD (n := 6) hu6) (pe_ix ix_list (pv 10) (pe_un un_neg pe_int) (fun _ _ => rfl)) (pe_fn cl_shut_out (hr.mono (by decide)) (pa_cons (pv 2) (pa_cons (pv 6) pa_nil))) (nomark _)))))) (pss_one (ps_ret pe_bl)) pss_nil)
    (pss_cons (ps_for PassesOwn.never rfl (pi_list (pv 9)) (pg_name (i := 11) scLaw21.nd rfl (Or.inl rfl) (Or.inl rfl)) (pss_one (ps_for PassesOwn.never rfl (pi_tup (pv 11)) (pg_name (i := 12) scLaw21.nd rfl (Or.inl rfl) (Or.inl rfl)) (pss_one (ps_if (pt_val (pe_callB call_isiW rfl M.isinstance bt_isinstance (pa_cons (pv 12) (pa_cons (pe_ty M.list_ bt_list) pa_nil)))) (pss_one (ps_expr (pe_bm0 PySem.F.plainAttrs_list PySem.F.slot_list_clear PySem.F.type_list_clear mt_clear (pv 12)))) pss_nil)))))
    (pss_one (ps_expr (pe_bm0 PySem.F.plainAttrs_list PySem.F.slot_list_clear PySem.F.type_list_clear mt_clear (pv 9))))))) (pss_one (ps_if (pt_cmpR op_notN (pv 9) pe_non (nomark _)) (pss_one (ps_ret pe_bl)) pss_nil)))))))))))
    (pss_one (ps_ret pe_bl)))))))), ?_⟩
  refine seq_let7 ?_
  intro rT7 rT6 rT5 rT4 rT3 rT2
  have hz : (20000 : Nat) < sizeLine := by decide
  have up : ∀ {Hy Hz : Hp} {g : Addr}, Hz g = none → Same Hy Hz → Hy g = none := fun {Hy Hz g} h s => by
    cases e5 : Hy g with
    | none => rfl
    | some o => rw [s _ _ e5] at h; cases h
  refine ⟨_, rfl, a, ns, 7, 6, rfl, hS, hB, by decide, by decide, by decide, by decide, fun t rs cs H1 s1 pt hr1 hcl hrl => ?_⟩
  obtain ⟨l, c, vs, ht, hl, hrw, hc⟩ := id pt
  have lv := hrw.length
  refine ⟨_, rfl, t, _, _, _, rfl, rfl, ht, at1, c, _, rfl, .inr hc, ?_⟩
  rw [show (cs.map V.int).length = cs.length from List.length_map ..]
  refine ⟨_, rfl, a, ns, 9, rfl, s1.seq hS, hB, by decide, fun z0 _ => ⟨_, _, rfl, rfl, ⟨by decide, by decide⟩, _, _, rfl, rfl, (by show (0 : Int) < _; decide +kernel), _, _, rfl, rfl, by show 2 ≤ sizeLine; decide, fun bl fbl => ?_⟩⟩
  have sB := same_new' fbl (.lst [.non, .int (z0 / 2 % 9 - 4)])
  refine ⟨_, rfl, a, ns, 9, rfl, (s1.trans sB).seq hS, hB, by decide, fun z1 _ => ⟨_, _, rfl, rfl, (by show (0 : Int) < _; decide +kernel), ?_⟩⟩
  obtain ⟨o, eo⟩ := best2 (z0 / 2 % 9 - 4) z1
  refine ⟨bl, _, _, _, rfl, rfl, sqL_new upd_same, eo, ?_⟩
  generalize upd H1 bl (.lst [.non, .int (z0 / 2 % 9 - 4)]) = H1b at sB ⊢
  refine ⟨_, rfl, t, _, _, _, rfl, rfl, sB.tup ht, at0, l, vs, rfl, .inl (sB.seq hl), fun R fR => ?_⟩
  have fR1 : H1 R = none := up fR sB
  refine name_cut (fun σ' H' => ∃ us : List V, σ' = [some (.ref a), some (.ref t), some (.int ((cs.length : Nat) : Int)), some (bestV o), some (.ref R), none, none, none, none, none, none, none, none] ∧ H' R = some (.lst us) ∧ RowsAre K H' us (rowsB rs cs o) ∧ Same H1 H') ?_ fun REST => ?_
  rotate_left
  · have sR := sB.trans (same_new' fR (.lst vs))
    have hR0 : upd H1b R (.lst vs) R = some (.lst vs) := upd_same
    generalize upd H1b R (.lst vs) = H2 at sR hR0 ⊢
    cases o with
    | none => exact ⟨_, rfl, rfl, _, rfl, iteF (REST _ _ ⟨vs, rfl, hR0, hrw.imp fun _ _ z => z.same sR, sR⟩)⟩
    | some b =>
      refine ⟨_, rfl, rfl, _, rfl, iteT ?_⟩
      have hc2 := sR.tup hc
      refine ⟨_, rfl, .inl ⟨rfl, _, sqL_new hR0⟩, _, rfl, t, _, _, _, rfl, rfl, sR.tup ht, at1, c, rfl, ⟨_, hc2⟩, fun D hD => ?_⟩
      refine lc_any (n := cs.length) (fun i τ ys H3 => ∃ v : Option V, τ = [v] ∧ ys = ((cs.map fun c => -c).take i).map V.int ∧ H3 D = some (.lst ys) ∧ Same H2 H3) ?_ (fun i τ ys H3 hi h => ?_) (fun i τ ys H3 hi h => ?_) (fun τ ys H3 h => ?_) ?_ ?_
      · exact ⟨none, rfl, rfl, upd_same, same_new' hD _⟩
      · obtain ⟨v, rfl, rfl, hE, s3⟩ := h
        exact ⟨hE, by rw [List.length_map, List.length_take]; omega⟩
      · obtain ⟨v, rfl, rfl, hE, s3⟩ := h
        exact ⟨_, .int cs[i], s3.tup hc2, by rw [List.getElem?_map, List.getElem?_eq_getElem hi]; rfl⟩
      · obtain ⟨v, rfl, rfl, hE, s3⟩ := h
        exact ⟨_, s3.tup hc2, by rw [List.length_map]; exact Nat.le_refl _⟩
      · rintro i τ ys H3 x H4 hi ⟨v, rfl, rfl, hE, s3⟩ ⟨rfl, e1⟩
        obtain ⟨z, ez, rfl⟩ := getMapI (e1 _ (s3.tup hc2))
        refine ⟨_, rfl, _, _, rfl, rfl, hE, _, rfl, ?_, upd_same, fun b' o e => ?_⟩
        · rw [takeS (show (cs.map fun c => -c)[i]? = some (0 - z) by rw [List.getElem?_map, ez, Int.zero_sub]; rfl), List.map_append]; rfl
        · rw [upd_ne (ne_of_none e hD)]; exact s3 _ _ e
      · rintro τ ys H3 ⟨v, rfl, rfl, hE, s3⟩
        rw [List.take_of_length_le (by rw [List.length_map]; exact Nat.le_refl _)] at hE
        refine ⟨D, _, rfl, .inl ⟨sqL_new hE, fun l2 hl2 => ⟨_, rfl, _, _, rfl, rfl, by show 2 ≤ sizeLine; decide, fun t2 ht2 => ?_⟩⟩⟩
        have hrow := row_new (K := K) (z := 1 - b) ht2
        have s4 := (s3.trans (same_new' hl2 (.tup ((cs.map fun c => -c).map V.int)))).trans (same_new' ht2 (.tup [.ref l2, .int (1 - b)]))
        refine ⟨R, _, _, rfl, rfl, s4 _ _ hR0, by omega, REST _ _ ⟨_, rfl, upd_same, ?_, fun b' o e => ?_⟩⟩
        · exact RowsAre.snoc (hrw.imp fun _ _ z => row_updL (s4 _ _ hR0) (z.same (sR.trans s4))) (row_updL (s4 _ _ hR0) hrow)
        · rw [upd_ne (ne_of_none e fR1)]; exact (sR.trans s4) _ _ e
  · rintro σ' H2 ⟨us, rfl, hR, hus, s2⟩
    have hR1 : ∀ r ∈ rowsB rs cs o, r.1.length = cs.length := fun r hr => by
      cases o with
      | none => exact hr1 r hr
      | some b =>
        rcases List.mem_append.mp hr with z | z
        · exact hr1 r z
        · rw [List.mem_singleton.mp z]; show (cs.map fun c => -c).length = _; rw [List.length_map]
    have hRl : (rowsB rs cs o).length ≤ rs.length + 1 := by
      cases o with
      | none => exact Nat.le_succ _
      | some b => show (rs ++ [betterRow cs b]).length ≤ _; rw [List.length_append]; exact Nat.le_refl _
    refine ⟨3, rfl, by decide, by decide, for_range (lo := 0) (n := (3 : Int).toNat) (fun i σ H3 => (∃ u5 u6 u7 u8 u9 u10 u11 u12 : Option V, σ = [some (.ref a), some (.ref t), some (.int ((cs.length : Nat) : Int)), some (bestV o), some (.ref R), u5, u6, u7, u8, u9, u10, u11, u12]) ∧ Same H2 H3) ⟨⟨_, _, _, _, _, _, _, _, rfl⟩, Same.refl _⟩ ?_ ?_⟩
    · rintro i σ H3 hi ⟨⟨u5, u6, u7, u8, u9, u10, u11, u12, rfl⟩, s3⟩
      have hi' : i < 3 := hi
      refine ⟨_, rfl, _, rfl, _, _, rfl, rfl, a, ns, _, rfl, ((s1.trans s2).trans s3).seq hS, hB, by omega, fun lf x f flf hx => ?_⟩
      refine ⟨_, rfl, lf, x, f, cs.length, rfl, upd_same, hx, by omega, fun g hs ws H4 kp fg hg hpa hG hlen => ?_⟩
      have s4 : Same H3 H4 := fun b o e => kp b o (ne_of_none e flf) (by rw [upd_ne (ne_of_none e flf)]; exact e)
      have s24 := s3.trans s4
      have s14 := s2.trans s24
      have hh : HoldsAt K H4 g hs := ⟨ws, sqL_new hg, hpa⟩
      refine ⟨_, rfl, t, rs, cs, rfl, ProbAt.same s14 pt, fun T g1 H5 s5 fT fg1 hP => ?_⟩
      refine ⟨_, rfl, g, ws, rfl, .inl (sqL_new (s5 _ _ hg)), fun l2 fl2 => ?_⟩
      refine ⟨by show 2 ≤ sizeLine; decide, fun hd fhd => ?_⟩
      have s56 := (same_new' fl2 (.lst ws)).trans (same_new' fhd (.lst [.ref T, .ref l2]))
      have hl2 := (same_new' fhd (.lst [.ref T, .ref l2])) _ _ (upd_same (H := H5) (a := l2) (o := .lst ws))
      have hhd : upd (upd H5 l2 (.lst ws)) hd (.lst [.ref T, .ref l2]) hd = some (.lst [.ref T, .ref l2]) := upd_same
      generalize upd (upd H5 l2 (.lst ws)) hd (.lst [.ref T, .ref l2]) = H6 at hl2 hhd s56 ⊢
      have s46 := s5.trans s56
      have s16 := s14.trans s46
      have hP6 := hP.same s56
      have hh6 : HoldsAt K H6 g hs := hh.same s46
      have hl6 : HoldsAt K H6 l2 hs := ⟨ws, sqL_new hl2, PairsAre.same s46 hpa⟩
      have s26 := s24.trans s46
      have hDD : ∀ {Hx : Hp} {e : Addr}, Same H6 Hx → Hx e = none → HasD K (upd Hx e (.lst [.ref t, .ref g])) (.ref hd) (.lst [probD rs cs, .lst (hs.map holdD)]) ∧ HasD K (upd Hx e (.lst [.ref t, .ref g])) (.ref e) (.lst [probD rs cs, .lst (hs.map holdD)]) := fun {Hx e} sx fe => by
        have se := sx.trans (same_new' fe (.lst [.ref t, .ref g]))
        obtain ⟨c9, vs9, p1, p2, p3, p4⟩ := hP6.same se
        exact ⟨pairLD (sqL_new (se _ _ hhd)) (ProbAt.hasD ⟨g1, c9, vs9, p1, sqL_new p2, p3, p4⟩) (HoldsAt.hasD (hl6.same se)), pairLD (sqL_new upd_same) (ProbAt.hasD (ProbAt.same (s16.trans se) pt)) (HoldsAt.hasD (hh6.same se))⟩
      have hEI := ends_iff hR1 (cs.length + 1) hs hG (by have := (free_le cs.length (hv hs)).2; omega)
      refine ⟨2, rfl, by decide, by decide, for_range (lo := 0) (n := (2 : Int).toNat) (fun j σ H7 => (∃ u8 u9 u10 u11 u12 : Option V, σ = [some (.ref a), some (.ref t), some (.int ((cs.length : Nat) : Int)), some (bestV o), some (.ref R), some (.int (0 + (i : Int))), some (.ref g), some (.ref hd), u8, u9, u10, u11, u12]) ∧ Same H6 H7) ⟨⟨_, _, _, _, _, rfl⟩, Same.refl _⟩ ?_ ?_⟩
      · rintro j σ H7 hj ⟨⟨u8, u9, u10, u11, u12, rfl⟩, s7⟩
        refine ⟨_, rfl, hd, _, _, _, rfl, rfl, sqL_new (s7 _ _ hhd), at0, _, rfl, _, rfl, hd, _, _, _, rfl, rfl, sqL_new (s7 _ _ hhd), at1, T, l2, g1, rs, cs, hs, o, rfl, hP6.same s7, hl6.same s7, hG, hr1, by omega, by omega, by omega, fun nE H8 s8 => ?_, fun yE L uL lns hd' HL H8 s8 fL sHL nHL hL hLn hTd hlL hlast => ?_⟩
        · have s68 := s7.trans s8
          refine ⟨_, rfl, _, rfl, _, rfl, by show 2 ≤ sizeLine; decide, fun e fe => ?_⟩
          obtain ⟨d1, d2⟩ := hDD s68 fe
          refine ⟨hd, e, _, _, rfl, rfl, d1, d2, alikePairLL (n := 5) (alikeProb (n := 1) rs rs cs cs) (alikeHolds (n := 3) hs hs), fun c' hc' => ?_⟩
          rw [hc'.mpr rfl]
          have s9 := s68.trans (same_new' fe (.lst [.ref t, .ref g]))
          refine ⟨_, rfl, iteF ⟨_, rfl, _, rfl, _, rfl, R, g, us, _, hs, cs.length, rfl, sqL_new ((s26.trans s9) _ _ hR), hus.imp (fun _ _ z => z.same (s26.trans s9)), hh6.same s9, hG, by omega, by omega, hR1, fun H9 s10 => ?_⟩⟩
          rw [show endsL cs.length (rowsB rs cs o) (cs.length + 1) hs = false from Bool.eq_false_iff.mpr fun z => nE (hEI.mp z)]
          exact ⟨_, rfl, iteF ⟨_, rfl, rfl, _, rfl, iteF ⟨⟨_, _, _, _, _, rfl⟩, s9.trans s10⟩⟩⟩
        · have s68 := s7.trans s8
          refine ⟨_, rfl, _, rfl, _, rfl, by show 2 ≤ sizeLine; decide, fun e fe => ?_⟩
          obtain ⟨d1, d2⟩ := hDD s68 fe
          refine ⟨hd, e, _, _, rfl, rfl, d1, d2, alikePairLL (n := 5) (alikeProb (n := 1) rs rs cs cs) (alikeHolds (n := 3) hs hs), fun c' hc' => ?_⟩
          rw [hc'.mpr rfl]
          have s8a := same_new' fe (.lst [.ref t, .ref g])
          generalize upd H8 e (.lst [.ref t, .ref g]) = H8e at s8a ⊢
          have s9 := s68.trans s8a
          refine ⟨_, rfl, iteF ⟨_, rfl, _, rfl, _, rfl, R, g, us, _, hs, cs.length, rfl, sqL_new ((s26.trans s9) _ _ hR), hus.imp (fun _ _ z => z.same (s26.trans s9)), hh6.same s9, hG, by omega, by omega, hR1, fun H9 s10 => ?_⟩⟩
          rw [show endsL cs.length (rowsB rs cs o) (cs.length + 1) hs = true from hEI.mpr yE]
          have sb := s8a.trans s10
          have s69 := s9.trans s10
          have hLn9 : LinesAre K HL H9 uL lns := hLn.imp (fun _ _ z => sb.tup z) (fun _ _ _ z => sb _ _ z)
          refine ⟨_, rfl, iteT ⟨_, rfl, _, rfl, _, rfl, t, L, rs, hd', cs, o, uL, lns, HL, rfl, ProbAt.same (s16.trans s69) pt, sqL_new (sb _ _ hL), hLn9, hlL, by omega, by omega, hR1, hTd, fun gh wh H10 s11 fgh hgh hrh => ?_⟩⟩
          obtain ⟨wi, tl, rfl, hlt⟩ := rows_last hrh hlast
          refine ⟨_, rfl, rfl, _, rfl, iteF ?_⟩
          refine ⟨_, rfl, gh, _, rfl, .inl (sqL_new hgh), rfl, _, rfl, ite2 (fun y => absurd y ?_) (fun _ => ?_)⟩
          · intro y2
            have y3 := of_decide_eq_true y2
            injection y3 with y4
            rw [List.length_append] at y4
            have y5 : ((wi.length + 1 : Nat) : Int) = 0 := y4
            omega
          refine ⟨_, rfl, _, rfl, gh, _, _, _, rfl, rfl, sqL_new hgh, atI_last _ _, _, rfl, _, rfl, g, cs.length, hs, rfl, hh6.same (s69.trans s11), hG, by omega, by omega, fun ts H11 s12 hrs => ?_⟩
          refine ⟨tl, ts, _, _, rfl, rfl, RowAt.hasD (hlt.same s12), RowAt.hasD hrs, alikePair (n := 5) (alikeInts _ _) (.int _ _), fun c2 hc2 => ?_⟩
          rw [hc2.mpr rfl]
          have s911 := s11.trans s12
          have hLn11 : LinesAre K HL H11 uL lns := hLn9.imp (fun _ _ z => s911.tup z) (fun _ _ _ z => s911 _ _ z)
          have s711 := (s8.trans sb).trans s911
          refine ⟨_, rfl, iteF ⟨_, rfl, L, rfl, ⟨_, sqL_new (s911 _ _ (sb _ _ hL))⟩, for_list (K := K) (a := L) (xs := uL) (fun k σ Hx => (∃ u11 u12 : Option V, σ = [some (.ref a), some (.ref t), some (.int ((cs.length : Nat) : Int)), some (bestV o), some (.ref R), some (.int (0 + (i : Int))), some (.ref g), some (.ref hd), some (.int (0 + (j : Int))), some (.ref L), some (.ref gh), u11, u12]) ∧ Clr K H7 H11 L uL Hx) ⟨⟨_, _, rfl⟩, s711, s911 _ _ (sb _ _ hL), fun z => z, fun z => ⟨_, z⟩⟩ (fun k σ Hx _ h => sqL_new h.2.ln) ?_ ?_⟩⟩
          · rintro k v σ Hx e1 ⟨⟨u11, u12, rfl⟩, A⟩
            obtain ⟨ln, _, hLA⟩ := Paired.getR hLn11 e1
            obtain ⟨tl2, xs, rfl, hT, hparts⟩ := line_parts hLA
            refine ⟨_, rfl, tl2, rfl, ⟨_, A.tup hT⟩, for_tup (K := K) (a := tl2) (xs := xs) (fun m σ Hy => (∃ u12 : Option V, σ = [some (.ref a), some (.ref t), some (.int ((cs.length : Nat) : Int)), some (bestV o), some (.ref R), some (.int (0 + (i : Int))), some (.ref g), some (.ref hd), some (.int (0 + (j : Int))), some (.ref L), some (.ref gh), some (.ref tl2), u12]) ∧ Clr K H7 H11 L uL Hy) ⟨⟨_, rfl⟩, A⟩ (fun m σ Hy _ h => h.2.tup hT) ?_ ?_⟩
            · rintro m x σ Hy e2 ⟨⟨u12, rfl⟩, B⟩
              rcases hparts x (List.mem_of_getElem? e2) with ⟨z, rfl⟩ | ⟨z, rfl⟩ | ⟨b, wb, rfl, h0, hb⟩
              · exact ⟨_, rfl, _, "list", false, rfl, .list, rfl, _, rfl, iteF ⟨⟨_, rfl⟩, B⟩⟩
              · exact ⟨_, rfl, _, "list", false, rfl, .list, rfl, _, rfl, iteF ⟨⟨_, rfl⟩, B⟩⟩
              · obtain ⟨wb', hb'⟩ := B.lst hb
                exact ⟨_, rfl, _, "list", true, rfl, .list, .inr ⟨⟨_, sqL_new hb'⟩, rfl⟩, _, rfl, iteT ⟨_, rfl, .inl ⟨rfl, _, sqL_new hb'⟩, b, _, rfl, rfl, hb', ⟨_, rfl⟩, B.clear (up h0 sHL) (fun y => nHL (by rw [← y]; exact h0)) hb'⟩⟩
            · rintro σ Hy ⟨⟨u12, rfl⟩, B⟩
              exact ⟨⟨_, _, rfl⟩, B⟩
          · rintro σ Hx ⟨⟨u11, u12, rfl⟩, A⟩
            refine ⟨_, rfl, .inl ⟨rfl, _, sqL_new A.ln⟩, L, uL, rfl, rfl, A.ln, ⟨_, _, _, _, _, rfl⟩, fun b o e => ?_⟩
            rw [upd_ne (ne_of_none (s7 _ _ e) fL)]
            exact A.same _ _ (s7 _ _ e)
      · rintro σ H7 ⟨⟨u8, u9, u10, u11, u12, rfl⟩, s7⟩
        exact ⟨⟨_, _, _, _, _, _, _, _, rfl⟩, s26.trans s7⟩
    · rintro σ H3 ⟨⟨u5, u6, u7, u8, u9, u10, u11, u12, rfl⟩, s3⟩
      exact q H3
end
end Nb
namespace Nb
open PySem L2
noncomputable def htop (i : Nat) : Stmt := PySem.Challenge.pw_nonebetter_k21_shut_outs_by_passing_on.main.body.getD i (.Pass ⟨0, 0, 0, 0⟩)
noncomputable def hob0 (i : Nat) (P : PySem.Params) : PySem.Obj :=
  bif Nat.beq i 2 then PySem.Obj.mk PySem.Value.none Option.none (PySem.Data.dict #[]) #[] else
  bif Nat.beq i 3 then PySem.Obj.mk (PySem.Value.type "dict") Option.none (PySem.Data.dict #[PySem.DictEntry.mk (PySem.PyData.keyHash P (PySem.Str.ofString "__name__")) (PySem.Value.str (PySem.Str.ofString "__name__") 165) (PySem.Value.str (PySem.Str.ofString "law_nonebetter_k21_shut_outs_by_passing_on") 332), PySem.DictEntry.mk (PySem.PyData.keyHash P (PySem.Str.ofString "__doc__")) (PySem.Value.str (PySem.Str.ofString "__doc__") 166) PySem.Value.none, PySem.DictEntry.mk (PySem.PyData.keyHash P (PySem.Str.ofString "__package__")) (PySem.Value.str (PySem.Str.ofString "__package__") 167) PySem.Value.none, PySem.DictEntry.mk (PySem.PyData.keyHash P (PySem.Str.ofString "__loader__")) (PySem.Value.str (PySem.Str.ofString "__loader__") 168) (PySem.Value.builtin "__main__.__loader__#opaque"), PySem.DictEntry.mk (PySem.PyData.keyHash P (PySem.Str.ofString "__spec__")) (PySem.Value.str (PySem.Str.ofString "__spec__") 169) PySem.Value.none, PySem.DictEntry.mk (PySem.PyData.keyHash P (PySem.Str.ofString "__annotations__")) (PySem.Value.str (PySem.Str.ofString "__annotations__") 170) (PySem.Value.ref 6), PySem.DictEntry.mk (PySem.PyData.keyHash P (PySem.Str.ofString "__builtins__")) (PySem.Value.str (PySem.Str.ofString "__builtins__") 171) (PySem.Value.ref 4), PySem.DictEntry.mk (PySem.PyData.keyHash P (PySem.Str.ofString "__file__")) (PySem.Value.str (PySem.Str.ofString "__file__") 173) (PySem.Value.str (PySem.Str.ofString "/claim/cut.py") 172), PySem.DictEntry.mk (PySem.PyData.keyHash P (PySem.Str.ofString "__cached__")) (PySem.Value.str (PySem.Str.ofString "__cached__") 174) PySem.Value.none, PySem.DictEntry.mk (PySem.PyData.keyHash P (PySem.Str.ofString "better_row")) (PySem.Value.str (PySem.Str.ofString "better_row") 194) (PySem.Value.ref 19), PySem.DictEntry.mk (PySem.PyData.keyHash P (PySem.Str.ofString "rows_below")) (PySem.Value.str (PySem.Str.ofString "rows_below") 202) (PySem.Value.ref 26), PySem.DictEntry.mk (PySem.PyData.keyHash P (PySem.Str.ofString "Sheet")) (PySem.Value.str (PySem.Str.ofString "Sheet") 250) (PySem.Value.ref 57), PySem.DictEntry.mk (PySem.PyData.keyHash P (PySem.Str.ofString "most_of")) (PySem.Value.str (PySem.Str.ofString "most_of") 265) (PySem.Value.ref 68), PySem.DictEntry.mk (PySem.PyData.keyHash P (PySem.Str.ofString "lowers")) (PySem.Value.str (PySem.Str.ofString "lowers") 275) (PySem.Value.ref 75), PySem.DictEntry.mk (PySem.PyData.keyHash P (PySem.Str.ofString "first_broken")) (PySem.Value.str (PySem.Str.ofString "first_broken") 284) (PySem.Value.ref 82), PySem.DictEntry.mk (PySem.PyData.keyHash P (PySem.Str.ofString "first_forced")) (PySem.Value.str (PySem.Str.ofString "first_forced") 299) (PySem.Value.ref 89), PySem.DictEntry.mk (PySem.PyData.keyHash P (PySem.Str.ofString "passed")) (PySem.Value.str (PySem.Str.ofString "passed") 305) (PySem.Value.ref 94), PySem.DictEntry.mk (PySem.PyData.keyHash P (PySem.Str.ofString "steps_needed")) (PySem.Value.str (PySem.Str.ofString "steps_needed") 311) (PySem.Value.ref 99), PySem.DictEntry.mk (PySem.PyData.keyHash P (PySem.Str.ofString "put_steps")) (PySem.Value.str (PySem.Str.ofString "put_steps") 317) (PySem.Value.ref 104), PySem.DictEntry.mk (PySem.PyData.keyHash P (PySem.Str.ofString "passed_lines")) (PySem.Value.str (PySem.Str.ofString "passed_lines") 331) (PySem.Value.ref 111), PySem.DictEntry.mk (PySem.PyData.keyHash P (PySem.Str.ofString "_law_mix")) (PySem.Value.str (PySem.Str.ofString "_law_mix") 342) (PySem.Value.ref 118), PySem.DictEntry.mk (PySem.PyData.keyHash P (PySem.Str.ofString "_law_cell_at")) (PySem.Value.str (PySem.Str.ofString "_law_cell_at") 350) (PySem.Value.ref 125), PySem.DictEntry.mk (PySem.PyData.keyHash P (PySem.Str.ofString "_law_left")) (PySem.Value.str (PySem.Str.ofString "_law_left") 358) (PySem.Value.ref 132), PySem.DictEntry.mk (PySem.PyData.keyHash P (PySem.Str.ofString "_law_draw")) (PySem.Value.str (PySem.Str.ofString "_law_draw") 367) (PySem.Value.ref 139), PySem.DictEntry.mk (PySem.PyData.keyHash P (PySem.Str.ofString "_law_problem")) (PySem.Value.str (PySem.Str.ofString "_law_problem") 373) (PySem.Value.ref 144), PySem.DictEntry.mk (PySem.PyData.keyHash P (PySem.Str.ofString "_law_holds")) (PySem.Value.str (PySem.Str.ofString "_law_holds") 385) (PySem.Value.ref 151), PySem.DictEntry.mk (PySem.PyData.keyHash P (PySem.Str.ofString "_law_copy")) (PySem.Value.str (PySem.Str.ofString "_law_copy") 392) (PySem.Value.ref 158), PySem.DictEntry.mk (PySem.PyData.keyHash P (PySem.Str.ofString "_law_is")) (PySem.Value.str (PySem.Str.ofString "_law_is") 400) (PySem.Value.ref 165), PySem.DictEntry.mk (PySem.PyData.keyHash P (PySem.Str.ofString "_law_simple")) (PySem.Value.str (PySem.Str.ofString "_law_simple") 406) (PySem.Value.ref 170), PySem.DictEntry.mk (PySem.PyData.keyHash P (PySem.Str.ofString "_law_summed")) (PySem.Value.str (PySem.Str.ofString "_law_summed") 412) (PySem.Value.ref 175), PySem.DictEntry.mk (PySem.PyData.keyHash P (PySem.Str.ofString "_law_shared")) (PySem.Value.str (PySem.Str.ofString "_law_shared") 418) (PySem.Value.ref 180), PySem.DictEntry.mk (PySem.PyData.keyHash P (PySem.Str.ofString "_law_most")) (PySem.Value.str (PySem.Str.ofString "_law_most") 424) (PySem.Value.ref 185), PySem.DictEntry.mk (PySem.PyData.keyHash P (PySem.Str.ofString "_law_shut_out")) (PySem.Value.str (PySem.Str.ofString "_law_shut_out") 430) (PySem.Value.ref 190), PySem.DictEntry.mk (PySem.PyData.keyHash P (PySem.Str.ofString "_law_shut")) (PySem.Value.str (PySem.Str.ofString "_law_shut") 436) (PySem.Value.ref 195), PySem.DictEntry.mk (PySem.PyData.keyHash P (PySem.Str.ofString "_law_either")) (PySem.Value.str (PySem.Str.ofString "_law_either") 446) (PySem.Value.ref 202), PySem.DictEntry.mk (PySem.PyData.keyHash P (PySem.Str.ofString "_law_like")) (PySem.Value.str (PySem.Str.ofString "_law_like") 452) (PySem.Value.ref 207), PySem.DictEntry.mk (PySem.PyData.keyHash P (PySem.Str.ofString "_law_row")) (PySem.Value.str (PySem.Str.ofString "_law_row") 462) (PySem.Value.ref 214), PySem.DictEntry.mk (PySem.PyData.keyHash P (PySem.Str.ofString "_law_told")) (PySem.Value.str (PySem.Str.ofString "_law_told") 474) (PySem.Value.ref 221), PySem.DictEntry.mk (PySem.PyData.keyHash P (PySem.Str.ofString "_law_ends_broken")) (PySem.Value.str (PySem.Str.ofString "_law_ends_broken") 480) (PySem.Value.ref 226), PySem.DictEntry.mk (PySem.PyData.keyHash P (PySem.Str.ofString "law")) (PySem.Value.str (PySem.Str.ofString "law") 486) (PySem.Value.ref 231)] 40) #[] else
  bif Nat.beq i 15 then PySem.Obj.mk (PySem.Value.type "tuple") Option.none (PySem.Data.seq #[]) #[] else
  bif Nat.beq i 18 then PySem.Obj.mk (PySem.Value.type "code") Option.none (PySem.Data.fields #[PySem.Value.str (PySem.Str.ofString "better_row") 189, PySem.Value.str (PySem.Str.ofString "better_row") 190, PySem.Value.str (PySem.Str.ofString "/claim/cut.py") 191, PySem.Value.int 2 0, PySem.Value.int 2 0, PySem.Value.int 0 0, PySem.Value.int 0 0, PySem.Value.int 3 0, PySem.Value.ref 15, PySem.Value.bool Bool.true, PySem.Value.int 181 0, PySem.Value.ref 16, PySem.Value.none, PySem.Value.none, PySem.Value.none, PySem.Value.ref 17, PySem.Value.int 192 0, PySem.Value.int 2 0, PySem.Value.str (PySem.Str.ofString "/claim/cut.py") 193]) #[] else
  PySem.Obj.mk (PySem.Value.type "function") (Option.none) (PySem.Data.func (PySem.FuncData.mk (PySem.Str.ofString "better_row") (PySem.Str.ofString "better_row") (L2.defArgs (htop 1)) (PySem.FuncBody.stmts (L2.defBody (htop 1))) (L2.defScope (htop 1)) (3) ([]) (PySem.Value.none) (PySem.Value.none) (PySem.Value.none) (PySem.Value.str (PySem.Str.ofString "nonebetter.lines") 187) (Option.none) (PySem.Value.ref 18) (PySem.Value.none) (0))) (#[])
noncomputable def hob1 (i : Nat) (P : PySem.Params) : PySem.Obj :=
  bif Nat.beq i 20 then PySem.Obj.mk (PySem.Value.type "tuple") Option.none (PySem.Data.seq #[]) #[] else
  bif Nat.beq i 22 then PySem.Obj.mk (PySem.Value.type "tuple") Option.none (PySem.Data.seq #[PySem.Value.str (PySem.Str.ofString "problem") 198, PySem.Value.str (PySem.Str.ofString "best") 199]) #[] else
  bif Nat.beq i 23 then PySem.Obj.mk (PySem.Value.type "tuple") Option.none (PySem.Data.seq #[]) #[] else
  bif Nat.beq i 25 then PySem.Obj.mk (PySem.Value.type "code") Option.none (PySem.Data.fields #[PySem.Value.str (PySem.Str.ofString "rows_below") 195, PySem.Value.str (PySem.Str.ofString "rows_below") 196, PySem.Value.str (PySem.Str.ofString "/claim/cut.py") 197, PySem.Value.int 4 0, PySem.Value.int 2 0, PySem.Value.int 0 0, PySem.Value.int 0 0, PySem.Value.int 3 0, PySem.Value.ref 20, PySem.Value.bool Bool.true, PySem.Value.int 181 0, PySem.Value.ref 21, PySem.Value.none, PySem.Value.ref 22, PySem.Value.ref 23, PySem.Value.ref 24, PySem.Value.int 200 0, PySem.Value.int 4 0, PySem.Value.str (PySem.Str.ofString "/claim/cut.py") 201]) #[] else
  PySem.Obj.mk (PySem.Value.type "function") (Option.none) (PySem.Data.func (PySem.FuncData.mk (PySem.Str.ofString "rows_below") (PySem.Str.ofString "rows_below") (L2.defArgs (htop 2)) (PySem.FuncBody.stmts (L2.defBody (htop 2))) (L2.defScope (htop 2)) (3) ([]) (PySem.Value.none) (PySem.Value.none) (PySem.Value.none) (PySem.Value.str (PySem.Str.ofString "nonebetter.lines") 187) (Option.none) (PySem.Value.ref 25) (PySem.Value.none) (0))) (#[])
noncomputable def hob2 (i : Nat) (P : PySem.Params) : PySem.Obj :=
  bif Nat.beq i 34 then PySem.Obj.mk (PySem.Value.type "tuple") Option.none (PySem.Data.seq #[]) #[] else
  bif Nat.beq i 36 then PySem.Obj.mk (PySem.Value.type "tuple") Option.none (PySem.Data.seq #[PySem.Value.str (PySem.Str.ofString "self") 218, PySem.Value.str (PySem.Str.ofString "rows") 219]) #[] else
  bif Nat.beq i 37 then PySem.Obj.mk (PySem.Value.type "tuple") Option.none (PySem.Data.seq #[]) #[] else
  bif Nat.beq i 39 then PySem.Obj.mk (PySem.Value.type "code") Option.none (PySem.Data.fields #[PySem.Value.str (PySem.Str.ofString "__init__") 215, PySem.Value.str (PySem.Str.ofString "Sheet.__init__") 216, PySem.Value.str (PySem.Str.ofString "/claim/cut.py") 217, PySem.Value.int 10 0, PySem.Value.int 2 0, PySem.Value.int 0 0, PySem.Value.int 0 0, PySem.Value.int 3 0, PySem.Value.ref 34, PySem.Value.bool Bool.true, PySem.Value.int 181 0, PySem.Value.ref 35, PySem.Value.none, PySem.Value.ref 36, PySem.Value.ref 37, PySem.Value.ref 38, PySem.Value.int 220 0, PySem.Value.int 10 0, PySem.Value.str (PySem.Str.ofString "/claim/cut.py") 221]) #[] else
  PySem.Obj.mk (PySem.Value.type "function") Option.none (PySem.Data.func (PySem.FuncData.mk (PySem.Str.ofString "__init__") (PySem.Str.ofString "Sheet.__init__") (PySem.Arguments.mk [] [PySem.Arg.mk (PySem.Str.ofString "self") Option.none (PySem.Pos.mk 10 17 10 21), PySem.Arg.mk (PySem.Str.ofString "rows") Option.none (PySem.Pos.mk 10 23 10 27)] Option.none [] [] Option.none []) (PySem.FuncBody.stmts [PySem.Stmt.Assign [PySem.Expr.Attribute (PySem.Expr.Name (PySem.Str.ofString "self") (PySem.Pos.mk 11 8 11 12)) (PySem.Str.ofString "rows") (PySem.Pos.mk 11 8 11 17)] (PySem.Expr.Name (PySem.Str.ofString "rows") (PySem.Pos.mk 11 20 11 24)) (PySem.Pos.mk 11 8 11 24), PySem.Stmt.Assign [PySem.Expr.Attribute (PySem.Expr.Name (PySem.Str.ofString "self") (PySem.Pos.mk 12 8 12 12)) (PySem.Str.ofString "lines") (PySem.Pos.mk 12 8 12 18)] (PySem.Expr.List [] (PySem.Pos.mk 12 21 12 23)) (PySem.Pos.mk 12 8 12 23), PySem.Stmt.Assign [PySem.Expr.Attribute (PySem.Expr.Name (PySem.Str.ofString "self") (PySem.Pos.mk 13 8 13 12)) (PySem.Str.ofString "places") (PySem.Pos.mk 13 8 13 19)] (PySem.Expr.Dict [] [] (PySem.Pos.mk 13 22 13 24)) (PySem.Pos.mk 13 8 13 24)]) (PySem.Scope.mk PySem.ScopeKind.function [(PySem.Str.ofString "self", PySem.NameKind.local), (PySem.Str.ofString "rows", PySem.NameKind.local)] Bool.false Bool.false []) 3 [] PySem.Value.none PySem.Value.none PySem.Value.none (PySem.Value.str (PySem.Str.ofString "nonebetter.lines") 187) Option.none (PySem.Value.ref 39) PySem.Value.none 0)) #[]
noncomputable def hob3 (i : Nat) (P : PySem.Params) : PySem.Obj :=
  bif Nat.beq i 41 then PySem.Obj.mk (PySem.Value.type "tuple") Option.none (PySem.Data.seq #[]) #[] else
  bif Nat.beq i 43 then PySem.Obj.mk (PySem.Value.type "tuple") Option.none (PySem.Data.seq #[PySem.Value.str (PySem.Str.ofString "self") 226, PySem.Value.str (PySem.Str.ofString "line") 227]) #[] else
  bif Nat.beq i 44 then PySem.Obj.mk (PySem.Value.type "tuple") Option.none (PySem.Data.seq #[]) #[] else
  bif Nat.beq i 46 then PySem.Obj.mk (PySem.Value.type "code") Option.none (PySem.Data.fields #[PySem.Value.str (PySem.Str.ofString "put") 223, PySem.Value.str (PySem.Str.ofString "Sheet.put") 224, PySem.Value.str (PySem.Str.ofString "/claim/cut.py") 225, PySem.Value.int 15 0, PySem.Value.int 2 0, PySem.Value.int 0 0, PySem.Value.int 0 0, PySem.Value.int 3 0, PySem.Value.ref 41, PySem.Value.bool Bool.true, PySem.Value.int 181 0, PySem.Value.ref 42, PySem.Value.none, PySem.Value.ref 43, PySem.Value.ref 44, PySem.Value.ref 45, PySem.Value.int 228 0, PySem.Value.int 15 0, PySem.Value.str (PySem.Str.ofString "/claim/cut.py") 229]) #[] else
  PySem.Obj.mk (PySem.Value.type "function") Option.none (PySem.Data.func (PySem.FuncData.mk (PySem.Str.ofString "put") (PySem.Str.ofString "Sheet.put") (PySem.Arguments.mk [] [PySem.Arg.mk (PySem.Str.ofString "self") Option.none (PySem.Pos.mk 15 12 15 16), PySem.Arg.mk (PySem.Str.ofString "line") Option.none (PySem.Pos.mk 15 18 15 22)] Option.none [] [] Option.none []) (PySem.FuncBody.stmts [PySem.Stmt.Expr (PySem.Expr.Call (PySem.Expr.Attribute (PySem.Expr.Attribute (PySem.Expr.Name (PySem.Str.ofString "self") (PySem.Pos.mk 16 8 16 12)) (PySem.Str.ofString "lines") (PySem.Pos.mk 16 8 16 18)) (PySem.Str.ofString "append") (PySem.Pos.mk 16 8 16 25)) [PySem.Expr.Name (PySem.Str.ofString "line") (PySem.Pos.mk 16 26 16 30)] [] (PySem.Pos.mk 16 8 16 31)) (PySem.Pos.mk 16 8 16 31), PySem.Stmt.Return (Option.some (PySem.Expr.BinOp (PySem.Expr.Call (PySem.Expr.Name (PySem.Str.ofString "len") (PySem.Pos.mk 17 15 17 18)) [PySem.Expr.Attribute (PySem.Expr.Name (PySem.Str.ofString "self") (PySem.Pos.mk 17 19 17 23)) (PySem.Str.ofString "lines") (PySem.Pos.mk 17 19 17 29)] [] (PySem.Pos.mk 17 15 17 30)) PySem.Operator.Sub (PySem.Expr.Constant (PySem.Const.int 1) 0 (PySem.Pos.mk 17 33 17 34)) (PySem.Pos.mk 17 15 17 34))) (PySem.Pos.mk 17 8 17 34)]) (PySem.Scope.mk PySem.ScopeKind.function [(PySem.Str.ofString "self", PySem.NameKind.local), (PySem.Str.ofString "line", PySem.NameKind.local), (PySem.Str.ofString "len", PySem.NameKind.globalImplicit)] Bool.false Bool.false []) 3 [] PySem.Value.none PySem.Value.none PySem.Value.none (PySem.Value.str (PySem.Str.ofString "nonebetter.lines") 187) Option.none (PySem.Value.ref 46) PySem.Value.none 0)) #[]
noncomputable def hob4 (i : Nat) (P : PySem.Params) : PySem.Obj :=
  bif Nat.beq i 48 then PySem.Obj.mk (PySem.Value.type "tuple") Option.none (PySem.Data.seq #[]) #[] else
  bif Nat.beq i 50 then PySem.Obj.mk (PySem.Value.type "tuple") Option.none (PySem.Data.seq #[PySem.Value.str (PySem.Str.ofString "self") 234, PySem.Value.str (PySem.Str.ofString "number") 235, PySem.Value.str (PySem.Str.ofString "line") 236]) #[] else
  bif Nat.beq i 51 then PySem.Obj.mk (PySem.Value.type "tuple") Option.none (PySem.Data.seq #[]) #[] else
  bif Nat.beq i 53 then PySem.Obj.mk (PySem.Value.type "code") Option.none (PySem.Data.fields #[PySem.Value.str (PySem.Str.ofString "line_of") 231, PySem.Value.str (PySem.Str.ofString "Sheet.line_of") 232, PySem.Value.str (PySem.Str.ofString "/claim/cut.py") 233, PySem.Value.int 19 0, PySem.Value.int 2 0, PySem.Value.int 0 0, PySem.Value.int 0 0, PySem.Value.int 3 0, PySem.Value.ref 48, PySem.Value.bool Bool.true, PySem.Value.int 181 0, PySem.Value.ref 49, PySem.Value.none, PySem.Value.ref 50, PySem.Value.ref 51, PySem.Value.ref 52, PySem.Value.int 237 0, PySem.Value.int 19 0, PySem.Value.str (PySem.Str.ofString "/claim/cut.py") 238]) #[] else
  PySem.Obj.mk (PySem.Value.type "function") Option.none (PySem.Data.func (PySem.FuncData.mk (PySem.Str.ofString "line_of") (PySem.Str.ofString "Sheet.line_of") (PySem.Arguments.mk [] [PySem.Arg.mk (PySem.Str.ofString "self") Option.none (PySem.Pos.mk 19 16 19 20), PySem.Arg.mk (PySem.Str.ofString "number") Option.none (PySem.Pos.mk 19 22 19 28)] Option.none [] [] Option.none []) (PySem.FuncBody.stmts [PySem.Stmt.If (PySem.Expr.Compare (PySem.Expr.Name (PySem.Str.ofString "number") (PySem.Pos.mk 20 11 20 17)) [PySem.CmpOp.NotIn] [PySem.Expr.Attribute (PySem.Expr.Name (PySem.Str.ofString "self") (PySem.Pos.mk 20 25 20 29)) (PySem.Str.ofString "places") (PySem.Pos.mk 20 25 20 36)] (PySem.Pos.mk 20 11 20 36)) [PySem.Stmt.Assign [PySem.Expr.Name (PySem.Str.ofString "line") (PySem.Pos.mk 21 12 21 16)] (PySem.Expr.IfExp (PySem.Expr.Compare (PySem.Expr.Name (PySem.Str.ofString "number") (PySem.Pos.mk 21 40 21 46)) [PySem.CmpOp.Lt] [PySem.Expr.Attribute (PySem.Expr.Name (PySem.Str.ofString "self") (PySem.Pos.mk 21 49 21 53)) (PySem.Str.ofString "rows") (PySem.Pos.mk 21 49 21 58)] (PySem.Pos.mk 21 40 21 58)) (PySem.Expr.Tuple [PySem.Expr.Constant (PySem.Const.str (PySem.Str.ofString "given")) 0 (PySem.Pos.mk 21 20 21 27), PySem.Expr.Name (PySem.Str.ofString "number") (PySem.Pos.mk 21 29 21 35)] 0 (PySem.Pos.mk 21 19 21 36)) (PySem.Expr.Tuple [PySem.Expr.Constant (PySem.Const.str (PySem.Str.ofString "better")) 0 (PySem.Pos.mk 21 65 21 73)] 0 (PySem.Pos.mk 21 64 21 75)) (PySem.Pos.mk 21 19 21 75)) (PySem.Pos.mk 21 12 21 75), PySem.Stmt.Assign [PySem.Expr.Subscript (PySem.Expr.Attribute (PySem.Expr.Name (PySem.Str.ofString "self") (PySem.Pos.mk 22 12 22 16)) (PySem.Str.ofString "places") (PySem.Pos.mk 22 12 22 23)) (PySem.Expr.Name (PySem.Str.ofString "number") (PySem.Pos.mk 22 24 22 30)) (PySem.Pos.mk 22 12 22 31)] (PySem.Expr.Call (PySem.Expr.Attribute (PySem.Expr.Name (PySem.Str.ofString "self") (PySem.Pos.mk 22 34 22 38)) (PySem.Str.ofString "put") (PySem.Pos.mk 22 34 22 42)) [PySem.Expr.Name (PySem.Str.ofString "line") (PySem.Pos.mk 22 43 22 47)] [] (PySem.Pos.mk 22 34 22 48)) (PySem.Pos.mk 22 12 22 48)] [] (PySem.Pos.mk 20 8 22 48), PySem.Stmt.Return (Option.some (PySem.Expr.Subscript (PySem.Expr.Attribute (PySem.Expr.Name (PySem.Str.ofString "self") (PySem.Pos.mk 23 15 23 19)) (PySem.Str.ofString "places") (PySem.Pos.mk 23 15 23 26)) (PySem.Expr.Name (PySem.Str.ofString "number") (PySem.Pos.mk 23 27 23 33)) (PySem.Pos.mk 23 15 23 34))) (PySem.Pos.mk 23 8 23 34)]) (PySem.Scope.mk PySem.ScopeKind.function [(PySem.Str.ofString "self", PySem.NameKind.local), (PySem.Str.ofString "number", PySem.NameKind.local), (PySem.Str.ofString "line", PySem.NameKind.local)] Bool.false Bool.false []) 3 [] PySem.Value.none PySem.Value.none PySem.Value.none (PySem.Value.str (PySem.Str.ofString "nonebetter.lines") 187) Option.none (PySem.Value.ref 53) PySem.Value.none 0)) #[]
noncomputable def hob5 (i : Nat) (P : PySem.Params) : PySem.Obj :=
  bif Nat.beq i 55 then PySem.Obj.mk (PySem.Value.type "tuple") Option.none (PySem.Data.seq #[PySem.Value.str (PySem.Str.ofString "lines") 240, PySem.Value.str (PySem.Str.ofString "places") 241, PySem.Value.str (PySem.Str.ofString "rows") 242]) #[] else
  bif Nat.beq i 56 then PySem.Obj.mk (PySem.Value.type "dict") Option.none (PySem.Data.dict #[PySem.DictEntry.mk (PySem.PyData.keyHash P (PySem.Str.ofString "__module__")) (PySem.Value.str (PySem.Str.ofString "__module__") 210) (PySem.Value.str (PySem.Str.ofString "nonebetter.lines") 187), PySem.DictEntry.mk (PySem.PyData.keyHash P (PySem.Str.ofString "__firstlineno__")) (PySem.Value.str (PySem.Str.ofString "__firstlineno__") 214) (PySem.Value.int 8 213), PySem.DictEntry.mk (PySem.PyData.keyHash P (PySem.Str.ofString "__init__")) (PySem.Value.str (PySem.Str.ofString "__init__") 222) (PySem.Value.ref 40), PySem.DictEntry.mk (PySem.PyData.keyHash P (PySem.Str.ofString "put")) (PySem.Value.str (PySem.Str.ofString "put") 230) (PySem.Value.ref 47), PySem.DictEntry.mk (PySem.PyData.keyHash P (PySem.Str.ofString "line_of")) (PySem.Value.str (PySem.Str.ofString "line_of") 239) (PySem.Value.ref 54), PySem.DictEntry.mk (PySem.PyData.keyHash P (PySem.Str.ofString "__static_attributes__")) (PySem.Value.str (PySem.Str.ofString "__static_attributes__") 243) (PySem.Value.ref 55), PySem.DictEntry.mk (PySem.PyData.keyHash P (PySem.Str.ofString "__dict__")) (PySem.Value.str (PySem.Str.ofString "__dict__") 245) (PySem.Value.ref 58), PySem.DictEntry.mk (PySem.PyData.keyHash P (PySem.Str.ofString "__weakref__")) (PySem.Value.str (PySem.Str.ofString "__weakref__") 247) (PySem.Value.ref 59), PySem.DictEntry.mk (PySem.PyData.keyHash P (PySem.Str.ofString "__doc__")) (PySem.Value.str (PySem.Str.ofString "__doc__") 248) PySem.Value.none] 4) #[] else
  bif Nat.beq i 57 then PySem.Obj.mk (PySem.Value.type "type") Option.none (PySem.Data.cls (PySem.ClassData.mk (PySem.Str.ofString "Sheet") [PySem.Value.type "object"] [PySem.Value.ref 57, PySem.Value.type "object"] 56 (PySem.Str.ofString "Sheet") Bool.true [] [] Bool.false Option.none Bool.false)) #[Option.none, Option.none, Option.some (PySem.Value.str (PySem.Str.ofString "Sheet") 203), Option.some (PySem.Value.str (PySem.Str.ofString "Sheet") 211), Option.some (PySem.Value.builtin "object.__new__"), Option.some (PySem.Value.bool Bool.true)] else
  bif Nat.beq i 58 then PySem.Obj.mk (PySem.Value.type "getset_descriptor") Option.none (PySem.Data.fields #[PySem.Value.str (PySem.Str.ofString "__dict__") 244, PySem.Value.ref 57, PySem.Value.builtin "function.__dict__", PySem.Value.builtin "function.__dict__#set"]) #[] else
  PySem.Obj.mk (PySem.Value.type "getset_descriptor") Option.none (PySem.Data.fields #[PySem.Value.str (PySem.Str.ofString "__weakref__") 246, PySem.Value.ref 57, PySem.Value.builtin "ExceptionGroup.__weakref__", PySem.Value.none]) #[]
noncomputable def hob6 (i : Nat) (P : PySem.Params) : PySem.Obj :=
  bif Nat.beq i 62 then PySem.Obj.mk (PySem.Value.type "tuple") Option.none (PySem.Data.seq #[]) #[] else
  bif Nat.beq i 64 then PySem.Obj.mk (PySem.Value.type "tuple") Option.none (PySem.Data.seq #[PySem.Value.str (PySem.Str.ofString "row") 256, PySem.Value.str (PySem.Str.ofString "holds") 257, PySem.Value.str (PySem.Str.ofString "held") 258, PySem.Value.str (PySem.Str.ofString "most") 259, PySem.Value.str (PySem.Str.ofString "choice") 260, PySem.Value.str (PySem.Str.ofString "number") 261, PySem.Value.str (PySem.Str.ofString "worth") 262]) #[] else
  bif Nat.beq i 65 then PySem.Obj.mk (PySem.Value.type "tuple") Option.none (PySem.Data.seq #[]) #[] else
  bif Nat.beq i 67 then PySem.Obj.mk (PySem.Value.type "code") Option.none (PySem.Data.fields #[PySem.Value.str (PySem.Str.ofString "most_of") 253, PySem.Value.str (PySem.Str.ofString "most_of") 254, PySem.Value.str (PySem.Str.ofString "/claim/cut.py") 255, PySem.Value.int 25 0, PySem.Value.int 2 0, PySem.Value.int 0 0, PySem.Value.int 0 0, PySem.Value.int 3 0, PySem.Value.ref 62, PySem.Value.bool Bool.true, PySem.Value.int 181 0, PySem.Value.ref 63, PySem.Value.none, PySem.Value.ref 64, PySem.Value.ref 65, PySem.Value.ref 66, PySem.Value.int 263 0, PySem.Value.int 25 0, PySem.Value.str (PySem.Str.ofString "/claim/cut.py") 264]) #[] else
  PySem.Obj.mk (PySem.Value.type "function") (Option.none) (PySem.Data.func (PySem.FuncData.mk (PySem.Str.ofString "most_of") (PySem.Str.ofString "most_of") (L2.defArgs (htop 5)) (PySem.FuncBody.stmts (L2.defBody (htop 5))) (L2.defScope (htop 5)) (3) ([]) (PySem.Value.none) (PySem.Value.none) (PySem.Value.none) (PySem.Value.str (PySem.Str.ofString "nonebetter.rows") 251) (Option.none) (PySem.Value.ref 67) (PySem.Value.none) (0))) (#[])
noncomputable def hob7 (i : Nat) (P : PySem.Params) : PySem.Obj :=
  bif Nat.beq i 69 then PySem.Obj.mk (PySem.Value.type "tuple") Option.none (PySem.Data.seq #[]) #[] else
  bif Nat.beq i 71 then PySem.Obj.mk (PySem.Value.type "tuple") Option.none (PySem.Data.seq #[PySem.Value.str (PySem.Str.ofString "number") 271, PySem.Value.str (PySem.Str.ofString "worth") 272]) #[] else
  bif Nat.beq i 72 then PySem.Obj.mk (PySem.Value.type "tuple") Option.none (PySem.Data.seq #[]) #[] else
  bif Nat.beq i 74 then PySem.Obj.mk (PySem.Value.type "code") Option.none (PySem.Data.fields #[PySem.Value.str (PySem.Str.ofString "lowers") 268, PySem.Value.str (PySem.Str.ofString "lowers") 269, PySem.Value.str (PySem.Str.ofString "/claim/cut.py") 270, PySem.Value.int 34 0, PySem.Value.int 2 0, PySem.Value.int 0 0, PySem.Value.int 0 0, PySem.Value.int 3 0, PySem.Value.ref 69, PySem.Value.bool Bool.true, PySem.Value.int 181 0, PySem.Value.ref 70, PySem.Value.none, PySem.Value.ref 71, PySem.Value.ref 72, PySem.Value.ref 73, PySem.Value.int 273 0, PySem.Value.int 34 0, PySem.Value.str (PySem.Str.ofString "/claim/cut.py") 274]) #[] else
  PySem.Obj.mk (PySem.Value.type "function") (Option.none) (PySem.Data.func (PySem.FuncData.mk (PySem.Str.ofString "lowers") (PySem.Str.ofString "lowers") (L2.defArgs (htop 7)) (PySem.FuncBody.stmts (L2.defBody (htop 7))) (L2.defScope (htop 7)) (3) ([]) (PySem.Value.none) (PySem.Value.none) (PySem.Value.none) (PySem.Value.str (PySem.Str.ofString "nonebetter.passing") 266) (Option.none) (PySem.Value.ref 74) (PySem.Value.none) (0))) (#[])
noncomputable def hob8 (i : Nat) (P : PySem.Params) : PySem.Obj :=
  bif Nat.beq i 76 then PySem.Obj.mk (PySem.Value.type "tuple") Option.none (PySem.Data.seq #[]) #[] else
  bif Nat.beq i 78 then PySem.Obj.mk (PySem.Value.type "tuple") Option.none (PySem.Data.seq #[PySem.Value.str (PySem.Str.ofString "spares") 279, PySem.Value.str (PySem.Str.ofString "number") 280, PySem.Value.str (PySem.Str.ofString "spare") 281]) #[] else
  bif Nat.beq i 79 then PySem.Obj.mk (PySem.Value.type "tuple") Option.none (PySem.Data.seq #[]) #[] else
  bif Nat.beq i 81 then PySem.Obj.mk (PySem.Value.type "code") Option.none (PySem.Data.fields #[PySem.Value.str (PySem.Str.ofString "first_broken") 276, PySem.Value.str (PySem.Str.ofString "first_broken") 277, PySem.Value.str (PySem.Str.ofString "/claim/cut.py") 278, PySem.Value.int 36 0, PySem.Value.int 1 0, PySem.Value.int 0 0, PySem.Value.int 0 0, PySem.Value.int 3 0, PySem.Value.ref 76, PySem.Value.bool Bool.true, PySem.Value.int 181 0, PySem.Value.ref 77, PySem.Value.none, PySem.Value.ref 78, PySem.Value.ref 79, PySem.Value.ref 80, PySem.Value.int 282 0, PySem.Value.int 36 0, PySem.Value.str (PySem.Str.ofString "/claim/cut.py") 283]) #[] else
  PySem.Obj.mk (PySem.Value.type "function") (Option.none) (PySem.Data.func (PySem.FuncData.mk (PySem.Str.ofString "first_broken") (PySem.Str.ofString "first_broken") (L2.defArgs (htop 8)) (PySem.FuncBody.stmts (L2.defBody (htop 8))) (L2.defScope (htop 8)) (3) ([]) (PySem.Value.none) (PySem.Value.none) (PySem.Value.none) (PySem.Value.str (PySem.Str.ofString "nonebetter.passing") 266) (Option.none) (PySem.Value.ref 81) (PySem.Value.none) (0))) (#[])
noncomputable def hob9 (i : Nat) (P : PySem.Params) : PySem.Obj :=
  bif Nat.beq i 83 then PySem.Obj.mk (PySem.Value.type "tuple") Option.none (PySem.Data.seq #[]) #[] else
  bif Nat.beq i 85 then PySem.Obj.mk (PySem.Value.type "tuple") Option.none (PySem.Data.seq #[PySem.Value.str (PySem.Str.ofString "rows") 288, PySem.Value.str (PySem.Str.ofString "spares") 289, PySem.Value.str (PySem.Str.ofString "reaches") 290, PySem.Value.str (PySem.Str.ofString "held") 291, PySem.Value.str (PySem.Str.ofString "number") 292, PySem.Value.str (PySem.Str.ofString "row") 293, PySem.Value.str (PySem.Str.ofString "spare") 294, PySem.Value.str (PySem.Str.ofString "choice") 295, PySem.Value.str (PySem.Str.ofString "here") 296]) #[] else
  bif Nat.beq i 86 then PySem.Obj.mk (PySem.Value.type "tuple") Option.none (PySem.Data.seq #[]) #[] else
  bif Nat.beq i 88 then PySem.Obj.mk (PySem.Value.type "code") Option.none (PySem.Data.fields #[PySem.Value.str (PySem.Str.ofString "first_forced") 285, PySem.Value.str (PySem.Str.ofString "first_forced") 286, PySem.Value.str (PySem.Str.ofString "/claim/cut.py") 287, PySem.Value.int 41 0, PySem.Value.int 4 0, PySem.Value.int 0 0, PySem.Value.int 0 0, PySem.Value.int 3 0, PySem.Value.ref 83, PySem.Value.bool Bool.true, PySem.Value.int 181 0, PySem.Value.ref 84, PySem.Value.none, PySem.Value.ref 85, PySem.Value.ref 86, PySem.Value.ref 87, PySem.Value.int 297 0, PySem.Value.int 41 0, PySem.Value.str (PySem.Str.ofString "/claim/cut.py") 298]) #[] else
  PySem.Obj.mk (PySem.Value.type "function") (Option.none) (PySem.Data.func (PySem.FuncData.mk (PySem.Str.ofString "first_forced") (PySem.Str.ofString "first_forced") (L2.defArgs (htop 9)) (PySem.FuncBody.stmts (L2.defBody (htop 9))) (L2.defScope (htop 9)) (3) ([]) (PySem.Value.none) (PySem.Value.none) (PySem.Value.none) (PySem.Value.str (PySem.Str.ofString "nonebetter.passing") 266) (Option.none) (PySem.Value.ref 88) (PySem.Value.none) (0))) (#[])
noncomputable def hob10 (i : Nat) (P : PySem.Params) : PySem.Obj :=
  bif Nat.beq i 90 then PySem.Obj.mk (PySem.Value.type "tuple") Option.none (PySem.Data.seq #[]) #[] else
  bif Nat.beq i 93 then PySem.Obj.mk (PySem.Value.type "code") Option.none (PySem.Data.fields #[PySem.Value.str (PySem.Str.ofString "passed") 300, PySem.Value.str (PySem.Str.ofString "passed") 301, PySem.Value.str (PySem.Str.ofString "/claim/cut.py") 302, PySem.Value.int 49 0, PySem.Value.int 2 0, PySem.Value.int 0 0, PySem.Value.int 0 0, PySem.Value.int 3 0, PySem.Value.ref 90, PySem.Value.bool Bool.true, PySem.Value.int 181 0, PySem.Value.ref 91, PySem.Value.none, PySem.Value.none, PySem.Value.none, PySem.Value.ref 92, PySem.Value.int 303 0, PySem.Value.int 49 0, PySem.Value.str (PySem.Str.ofString "/claim/cut.py") 304]) #[] else
  bif Nat.beq i 94 then PySem.Obj.mk (PySem.Value.type "function") (Option.none) (PySem.Data.func (PySem.FuncData.mk (PySem.Str.ofString "passed") (PySem.Str.ofString "passed") (L2.defArgs (htop 10)) (PySem.FuncBody.stmts (L2.defBody (htop 10))) (L2.defScope (htop 10)) (3) ([]) (PySem.Value.none) (PySem.Value.none) (PySem.Value.none) (PySem.Value.str (PySem.Str.ofString "nonebetter.passing") 266) (Option.none) (PySem.Value.ref 93) (PySem.Value.none) (0))) (#[]) else
  bif Nat.beq i 95 then PySem.Obj.mk (PySem.Value.type "tuple") Option.none (PySem.Data.seq #[]) #[] else
  PySem.Obj.mk (PySem.Value.type "code") Option.none (PySem.Data.fields #[PySem.Value.str (PySem.Str.ofString "steps_needed") 306, PySem.Value.str (PySem.Str.ofString "steps_needed") 307, PySem.Value.str (PySem.Str.ofString "/claim/cut.py") 308, PySem.Value.int 68 0, PySem.Value.int 3 0, PySem.Value.int 0 0, PySem.Value.int 0 0, PySem.Value.int 3 0, PySem.Value.ref 95, PySem.Value.bool Bool.true, PySem.Value.int 181 0, PySem.Value.ref 96, PySem.Value.none, PySem.Value.none, PySem.Value.none, PySem.Value.ref 97, PySem.Value.int 309 0, PySem.Value.int 68 0, PySem.Value.str (PySem.Str.ofString "/claim/cut.py") 310]) #[]
noncomputable def hob11 (i : Nat) (P : PySem.Params) : PySem.Obj :=
  bif Nat.beq i 99 then PySem.Obj.mk (PySem.Value.type "function") (Option.none) (PySem.Data.func (PySem.FuncData.mk (PySem.Str.ofString "steps_needed") (PySem.Str.ofString "steps_needed") (L2.defArgs (htop 11)) (PySem.FuncBody.stmts (L2.defBody (htop 11))) (L2.defScope (htop 11)) (3) ([]) (PySem.Value.none) (PySem.Value.none) (PySem.Value.none) (PySem.Value.str (PySem.Str.ofString "nonebetter.passing") 266) (Option.none) (PySem.Value.ref 98) (PySem.Value.none) (0))) (#[]) else
  bif Nat.beq i 100 then PySem.Obj.mk (PySem.Value.type "tuple") Option.none (PySem.Data.seq #[]) #[] else
  bif Nat.beq i 103 then PySem.Obj.mk (PySem.Value.type "code") Option.none (PySem.Data.fields #[PySem.Value.str (PySem.Str.ofString "put_steps") 312, PySem.Value.str (PySem.Str.ofString "put_steps") 313, PySem.Value.str (PySem.Str.ofString "/claim/cut.py") 314, PySem.Value.int 76 0, PySem.Value.int 4 0, PySem.Value.int 0 0, PySem.Value.int 0 0, PySem.Value.int 3 0, PySem.Value.ref 100, PySem.Value.bool Bool.true, PySem.Value.int 181 0, PySem.Value.ref 101, PySem.Value.none, PySem.Value.none, PySem.Value.none, PySem.Value.ref 102, PySem.Value.int 315 0, PySem.Value.int 76 0, PySem.Value.str (PySem.Str.ofString "/claim/cut.py") 316]) #[] else
  bif Nat.beq i 104 then PySem.Obj.mk (PySem.Value.type "function") (Option.none) (PySem.Data.func (PySem.FuncData.mk (PySem.Str.ofString "put_steps") (PySem.Str.ofString "put_steps") (L2.defArgs (htop 12)) (PySem.FuncBody.stmts (L2.defBody (htop 12))) (L2.defScope (htop 12)) (3) ([]) (PySem.Value.none) (PySem.Value.none) (PySem.Value.none) (PySem.Value.str (PySem.Str.ofString "nonebetter.passing") 266) (Option.none) (PySem.Value.ref 103) (PySem.Value.none) (0))) (#[]) else
  PySem.Obj.mk (PySem.Value.type "tuple") Option.none (PySem.Data.seq #[]) #[]
noncomputable def hob12 (i : Nat) (P : PySem.Params) : PySem.Obj :=
  bif Nat.beq i 107 then PySem.Obj.mk (PySem.Value.type "tuple") Option.none (PySem.Data.seq #[PySem.Value.str (PySem.Str.ofString "problem") 321, PySem.Value.str (PySem.Str.ofString "best") 322, PySem.Value.str (PySem.Str.ofString "holds") 323, PySem.Value.str (PySem.Str.ofString "rows") 324, PySem.Value.str (PySem.Str.ofString "outcome") 325, PySem.Value.str (PySem.Str.ofString "forced") 326, PySem.Value.str (PySem.Str.ofString "broken") 327, PySem.Value.str (PySem.Str.ofString "sheet") 328]) #[] else
  bif Nat.beq i 108 then PySem.Obj.mk (PySem.Value.type "tuple") Option.none (PySem.Data.seq #[]) #[] else
  bif Nat.beq i 110 then PySem.Obj.mk (PySem.Value.type "code") Option.none (PySem.Data.fields #[PySem.Value.str (PySem.Str.ofString "passed_lines") 318, PySem.Value.str (PySem.Str.ofString "passed_lines") 319, PySem.Value.str (PySem.Str.ofString "/claim/cut.py") 320, PySem.Value.int 89 0, PySem.Value.int 3 0, PySem.Value.int 0 0, PySem.Value.int 0 0, PySem.Value.int 3 0, PySem.Value.ref 105, PySem.Value.bool Bool.true, PySem.Value.int 181 0, PySem.Value.ref 106, PySem.Value.none, PySem.Value.ref 107, PySem.Value.ref 108, PySem.Value.ref 109, PySem.Value.int 329 0, PySem.Value.int 89 0, PySem.Value.str (PySem.Str.ofString "/claim/cut.py") 330]) #[] else
  bif Nat.beq i 111 then PySem.Obj.mk (PySem.Value.type "function") (Option.none) (PySem.Data.func (PySem.FuncData.mk (PySem.Str.ofString "passed_lines") (PySem.Str.ofString "passed_lines") (L2.defArgs (htop 13)) (PySem.FuncBody.stmts (L2.defBody (htop 13))) (L2.defScope (htop 13)) (3) ([]) (PySem.Value.none) (PySem.Value.none) (PySem.Value.none) (PySem.Value.str (PySem.Str.ofString "nonebetter.passing") 266) (Option.none) (PySem.Value.ref 110) (PySem.Value.none) (0))) (#[]) else
  PySem.Obj.mk (PySem.Value.type "tuple") Option.none (PySem.Data.seq #[]) #[]
noncomputable def hob13 (i : Nat) (P : PySem.Params) : PySem.Obj :=
  bif Nat.beq i 114 then PySem.Obj.mk (PySem.Value.type "tuple") Option.none (PySem.Data.seq #[PySem.Value.str (PySem.Str.ofString "_law_number") 337, PySem.Value.str (PySem.Str.ofString "_law_k") 338, PySem.Value.str (PySem.Str.ofString "_law_mixed") 339]) #[] else
  bif Nat.beq i 115 then PySem.Obj.mk (PySem.Value.type "tuple") Option.none (PySem.Data.seq #[]) #[] else
  bif Nat.beq i 117 then PySem.Obj.mk (PySem.Value.type "code") Option.none (PySem.Data.fields #[PySem.Value.str (PySem.Str.ofString "_law_mix") 334, PySem.Value.str (PySem.Str.ofString "_law_mix") 335, PySem.Value.str (PySem.Str.ofString "/claim/cut.py") 336, PySem.Value.int 100 0, PySem.Value.int 2 0, PySem.Value.int 0 0, PySem.Value.int 0 0, PySem.Value.int 3 0, PySem.Value.ref 112, PySem.Value.bool Bool.true, PySem.Value.int 181 0, PySem.Value.ref 113, PySem.Value.none, PySem.Value.ref 114, PySem.Value.ref 115, PySem.Value.ref 116, PySem.Value.int 340 0, PySem.Value.int 100 0, PySem.Value.str (PySem.Str.ofString "/claim/cut.py") 341]) #[] else
  bif Nat.beq i 118 then PySem.Obj.mk (PySem.Value.type "function") (Option.none) (PySem.Data.func (PySem.FuncData.mk (PySem.Str.ofString "_law_mix") (PySem.Str.ofString "_law_mix") (L2.defArgs (htop 15)) (PySem.FuncBody.stmts (L2.defBody (htop 15))) (L2.defScope (htop 15)) (3) ([]) (PySem.Value.none) (PySem.Value.none) (PySem.Value.none) (PySem.Value.str (PySem.Str.ofString "law_nonebetter_k21_shut_outs_by_passing_on") 332) (Option.none) (PySem.Value.ref 117) (PySem.Value.none) (0))) (#[]) else
  PySem.Obj.mk (PySem.Value.type "tuple") Option.none (PySem.Data.seq #[]) #[]
noncomputable def hob14 (i : Nat) (P : PySem.Params) : PySem.Obj :=
  bif Nat.beq i 121 then PySem.Obj.mk (PySem.Value.type "tuple") Option.none (PySem.Data.seq #[PySem.Value.str (PySem.Str.ofString "_law_script") 346, PySem.Value.str (PySem.Str.ofString "_law_k") 347]) #[] else
  bif Nat.beq i 122 then PySem.Obj.mk (PySem.Value.type "tuple") Option.none (PySem.Data.seq #[]) #[] else
  bif Nat.beq i 124 then PySem.Obj.mk (PySem.Value.type "code") Option.none (PySem.Data.fields #[PySem.Value.str (PySem.Str.ofString "_law_cell_at") 343, PySem.Value.str (PySem.Str.ofString "_law_cell_at") 344, PySem.Value.str (PySem.Str.ofString "/claim/cut.py") 345, PySem.Value.int 103 0, PySem.Value.int 2 0, PySem.Value.int 0 0, PySem.Value.int 0 0, PySem.Value.int 3 0, PySem.Value.ref 119, PySem.Value.bool Bool.true, PySem.Value.int 181 0, PySem.Value.ref 120, PySem.Value.none, PySem.Value.ref 121, PySem.Value.ref 122, PySem.Value.ref 123, PySem.Value.int 348 0, PySem.Value.int 103 0, PySem.Value.str (PySem.Str.ofString "/claim/cut.py") 349]) #[] else
  bif Nat.beq i 125 then PySem.Obj.mk (PySem.Value.type "function") (Option.none) (PySem.Data.func (PySem.FuncData.mk (PySem.Str.ofString "_law_cell_at") (PySem.Str.ofString "_law_cell_at") (L2.defArgs (htop 16)) (PySem.FuncBody.stmts (L2.defBody (htop 16))) (L2.defScope (htop 16)) (3) ([]) (PySem.Value.none) (PySem.Value.none) (PySem.Value.none) (PySem.Value.str (PySem.Str.ofString "law_nonebetter_k21_shut_outs_by_passing_on") 332) (Option.none) (PySem.Value.ref 124) (PySem.Value.none) (0))) (#[]) else
  PySem.Obj.mk (PySem.Value.type "tuple") Option.none (PySem.Data.seq #[]) #[]
noncomputable def hob15 (i : Nat) (P : PySem.Params) : PySem.Obj :=
  bif Nat.beq i 128 then PySem.Obj.mk (PySem.Value.type "tuple") Option.none (PySem.Data.seq #[PySem.Value.str (PySem.Str.ofString "_law_script") 354, PySem.Value.str (PySem.Str.ofString "_law_k") 355]) #[] else
  bif Nat.beq i 129 then PySem.Obj.mk (PySem.Value.type "tuple") Option.none (PySem.Data.seq #[]) #[] else
  bif Nat.beq i 131 then PySem.Obj.mk (PySem.Value.type "code") Option.none (PySem.Data.fields #[PySem.Value.str (PySem.Str.ofString "_law_left") 351, PySem.Value.str (PySem.Str.ofString "_law_left") 352, PySem.Value.str (PySem.Str.ofString "/claim/cut.py") 353, PySem.Value.int 107 0, PySem.Value.int 2 0, PySem.Value.int 0 0, PySem.Value.int 0 0, PySem.Value.int 3 0, PySem.Value.ref 126, PySem.Value.bool Bool.true, PySem.Value.int 181 0, PySem.Value.ref 127, PySem.Value.none, PySem.Value.ref 128, PySem.Value.ref 129, PySem.Value.ref 130, PySem.Value.int 356 0, PySem.Value.int 107 0, PySem.Value.str (PySem.Str.ofString "/claim/cut.py") 357]) #[] else
  bif Nat.beq i 132 then PySem.Obj.mk (PySem.Value.type "function") (Option.none) (PySem.Data.func (PySem.FuncData.mk (PySem.Str.ofString "_law_left") (PySem.Str.ofString "_law_left") (L2.defArgs (htop 17)) (PySem.FuncBody.stmts (L2.defBody (htop 17))) (L2.defScope (htop 17)) (3) ([]) (PySem.Value.none) (PySem.Value.none) (PySem.Value.none) (PySem.Value.str (PySem.Str.ofString "law_nonebetter_k21_shut_outs_by_passing_on") 332) (Option.none) (PySem.Value.ref 131) (PySem.Value.none) (0))) (#[]) else
  PySem.Obj.mk (PySem.Value.type "tuple") Option.none (PySem.Data.seq #[]) #[]
noncomputable def hob16 (i : Nat) (P : PySem.Params) : PySem.Obj :=
  bif Nat.beq i 135 then PySem.Obj.mk (PySem.Value.type "tuple") Option.none (PySem.Data.seq #[PySem.Value.str (PySem.Str.ofString "_law_left_here") 362, PySem.Value.str (PySem.Str.ofString "_law_base") 363, PySem.Value.str (PySem.Str.ofString "_law_digit") 364]) #[] else
  bif Nat.beq i 136 then PySem.Obj.mk (PySem.Value.type "tuple") Option.none (PySem.Data.seq #[]) #[] else
  bif Nat.beq i 138 then PySem.Obj.mk (PySem.Value.type "code") Option.none (PySem.Data.fields #[PySem.Value.str (PySem.Str.ofString "_law_draw") 359, PySem.Value.str (PySem.Str.ofString "_law_draw") 360, PySem.Value.str (PySem.Str.ofString "/claim/cut.py") 361, PySem.Value.int 109 0, PySem.Value.int 2 0, PySem.Value.int 0 0, PySem.Value.int 0 0, PySem.Value.int 3 0, PySem.Value.ref 133, PySem.Value.bool Bool.true, PySem.Value.int 181 0, PySem.Value.ref 134, PySem.Value.none, PySem.Value.ref 135, PySem.Value.ref 136, PySem.Value.ref 137, PySem.Value.int 365 0, PySem.Value.int 109 0, PySem.Value.str (PySem.Str.ofString "/claim/cut.py") 366]) #[] else
  bif Nat.beq i 139 then PySem.Obj.mk (PySem.Value.type "function") (Option.none) (PySem.Data.func (PySem.FuncData.mk (PySem.Str.ofString "_law_draw") (PySem.Str.ofString "_law_draw") (L2.defArgs (htop 18)) (PySem.FuncBody.stmts (L2.defBody (htop 18))) (L2.defScope (htop 18)) (3) ([]) (PySem.Value.none) (PySem.Value.none) (PySem.Value.none) (PySem.Value.str (PySem.Str.ofString "law_nonebetter_k21_shut_outs_by_passing_on") 332) (Option.none) (PySem.Value.ref 138) (PySem.Value.none) (0))) (#[]) else
  PySem.Obj.mk (PySem.Value.type "tuple") Option.none (PySem.Data.seq #[]) #[]
noncomputable def hob17 (i : Nat) (P : PySem.Params) : PySem.Obj :=
  bif Nat.beq i 143 then PySem.Obj.mk (PySem.Value.type "code") Option.none (PySem.Data.fields #[PySem.Value.str (PySem.Str.ofString "_law_problem") 368, PySem.Value.str (PySem.Str.ofString "_law_problem") 369, PySem.Value.str (PySem.Str.ofString "/claim/cut.py") 370, PySem.Value.int 116 0, PySem.Value.int 3 0, PySem.Value.int 0 0, PySem.Value.int 0 0, PySem.Value.int 3 0, PySem.Value.ref 140, PySem.Value.bool Bool.true, PySem.Value.int 181 0, PySem.Value.ref 141, PySem.Value.none, PySem.Value.none, PySem.Value.none, PySem.Value.ref 142, PySem.Value.int 371 0, PySem.Value.int 116 0, PySem.Value.str (PySem.Str.ofString "/claim/cut.py") 372]) #[] else
  bif Nat.beq i 144 then PySem.Obj.mk (PySem.Value.type "function") (Option.none) (PySem.Data.func (PySem.FuncData.mk (PySem.Str.ofString "_law_problem") (PySem.Str.ofString "_law_problem") (L2.defArgs (htop 19)) (PySem.FuncBody.stmts (L2.defBody (htop 19))) (L2.defScope (htop 19)) (3) ([]) (PySem.Value.none) (PySem.Value.none) (PySem.Value.none) (PySem.Value.str (PySem.Str.ofString "law_nonebetter_k21_shut_outs_by_passing_on") 332) (Option.none) (PySem.Value.ref 143) (PySem.Value.none) (0))) (#[]) else
  bif Nat.beq i 145 then PySem.Obj.mk (PySem.Value.type "tuple") Option.none (PySem.Data.seq #[]) #[] else
  bif Nat.beq i 147 then PySem.Obj.mk (PySem.Value.type "tuple") Option.none (PySem.Data.seq #[PySem.Value.str (PySem.Str.ofString "_law_left_here") 377, PySem.Value.str (PySem.Str.ofString "_law_many") 378, PySem.Value.str (PySem.Str.ofString "_law_holds_here") 379, PySem.Value.str (PySem.Str.ofString "_law_choice") 380, PySem.Value.str (PySem.Str.ofString "_law_worth") 381, PySem.Value.str (PySem.Str.ofString "_law_place") 382]) #[] else
  PySem.Obj.mk (PySem.Value.type "tuple") Option.none (PySem.Data.seq #[]) #[]
noncomputable def hob18 (i : Nat) (P : PySem.Params) : PySem.Obj :=
  bif Nat.beq i 150 then PySem.Obj.mk (PySem.Value.type "code") Option.none (PySem.Data.fields #[PySem.Value.str (PySem.Str.ofString "_law_holds") 374, PySem.Value.str (PySem.Str.ofString "_law_holds") 375, PySem.Value.str (PySem.Str.ofString "/claim/cut.py") 376, PySem.Value.int 127 0, PySem.Value.int 2 0, PySem.Value.int 0 0, PySem.Value.int 0 0, PySem.Value.int 3 0, PySem.Value.ref 145, PySem.Value.bool Bool.true, PySem.Value.int 181 0, PySem.Value.ref 146, PySem.Value.none, PySem.Value.ref 147, PySem.Value.ref 148, PySem.Value.ref 149, PySem.Value.int 383 0, PySem.Value.int 127 0, PySem.Value.str (PySem.Str.ofString "/claim/cut.py") 384]) #[] else
  bif Nat.beq i 151 then PySem.Obj.mk (PySem.Value.type "function") (Option.none) (PySem.Data.func (PySem.FuncData.mk (PySem.Str.ofString "_law_holds") (PySem.Str.ofString "_law_holds") (L2.defArgs (htop 20)) (PySem.FuncBody.stmts (L2.defBody (htop 20))) (L2.defScope (htop 20)) (3) ([]) (PySem.Value.none) (PySem.Value.none) (PySem.Value.none) (PySem.Value.str (PySem.Str.ofString "law_nonebetter_k21_shut_outs_by_passing_on") 332) (Option.none) (PySem.Value.ref 150) (PySem.Value.none) (0))) (#[]) else
  bif Nat.beq i 152 then PySem.Obj.mk (PySem.Value.type "tuple") Option.none (PySem.Data.seq #[]) #[] else
  bif Nat.beq i 154 then PySem.Obj.mk (PySem.Value.type "tuple") Option.none (PySem.Data.seq #[PySem.Value.str (PySem.Str.ofString "_law_problem_here") 389]) #[] else
  PySem.Obj.mk (PySem.Value.type "tuple") Option.none (PySem.Data.seq #[]) #[]
noncomputable def hob19 (i : Nat) (P : PySem.Params) : PySem.Obj :=
  bif Nat.beq i 157 then PySem.Obj.mk (PySem.Value.type "code") Option.none (PySem.Data.fields #[PySem.Value.str (PySem.Str.ofString "_law_copy") 386, PySem.Value.str (PySem.Str.ofString "_law_copy") 387, PySem.Value.str (PySem.Str.ofString "/claim/cut.py") 388, PySem.Value.int 135 0, PySem.Value.int 1 0, PySem.Value.int 0 0, PySem.Value.int 0 0, PySem.Value.int 3 0, PySem.Value.ref 152, PySem.Value.bool Bool.true, PySem.Value.int 181 0, PySem.Value.ref 153, PySem.Value.none, PySem.Value.ref 154, PySem.Value.ref 155, PySem.Value.ref 156, PySem.Value.int 390 0, PySem.Value.int 135 0, PySem.Value.str (PySem.Str.ofString "/claim/cut.py") 391]) #[] else
  bif Nat.beq i 158 then PySem.Obj.mk (PySem.Value.type "function") (Option.none) (PySem.Data.func (PySem.FuncData.mk (PySem.Str.ofString "_law_copy") (PySem.Str.ofString "_law_copy") (L2.defArgs (htop 21)) (PySem.FuncBody.stmts (L2.defBody (htop 21))) (L2.defScope (htop 21)) (3) ([]) (PySem.Value.none) (PySem.Value.none) (PySem.Value.none) (PySem.Value.str (PySem.Str.ofString "law_nonebetter_k21_shut_outs_by_passing_on") 332) (Option.none) (PySem.Value.ref 157) (PySem.Value.none) (0))) (#[]) else
  bif Nat.beq i 159 then PySem.Obj.mk (PySem.Value.type "tuple") Option.none (PySem.Data.seq #[]) #[] else
  bif Nat.beq i 161 then PySem.Obj.mk (PySem.Value.type "tuple") Option.none (PySem.Data.seq #[PySem.Value.str (PySem.Str.ofString "_law_thing") 396, PySem.Value.str (PySem.Str.ofString "_law_most_here") 397]) #[] else
  PySem.Obj.mk (PySem.Value.type "tuple") Option.none (PySem.Data.seq #[]) #[]
noncomputable def hob20 (i : Nat) (P : PySem.Params) : PySem.Obj :=
  bif Nat.beq i 164 then PySem.Obj.mk (PySem.Value.type "code") Option.none (PySem.Data.fields #[PySem.Value.str (PySem.Str.ofString "_law_is") 393, PySem.Value.str (PySem.Str.ofString "_law_is") 394, PySem.Value.str (PySem.Str.ofString "/claim/cut.py") 395, PySem.Value.int 137 0, PySem.Value.int 2 0, PySem.Value.int 0 0, PySem.Value.int 0 0, PySem.Value.int 3 0, PySem.Value.ref 159, PySem.Value.bool Bool.true, PySem.Value.int 181 0, PySem.Value.ref 160, PySem.Value.none, PySem.Value.ref 161, PySem.Value.ref 162, PySem.Value.ref 163, PySem.Value.int 398 0, PySem.Value.int 137 0, PySem.Value.str (PySem.Str.ofString "/claim/cut.py") 399]) #[] else
  bif Nat.beq i 165 then PySem.Obj.mk (PySem.Value.type "function") (Option.none) (PySem.Data.func (PySem.FuncData.mk (PySem.Str.ofString "_law_is") (PySem.Str.ofString "_law_is") (L2.defArgs (htop 22)) (PySem.FuncBody.stmts (L2.defBody (htop 22))) (L2.defScope (htop 22)) (3) ([]) (PySem.Value.none) (PySem.Value.none) (PySem.Value.none) (PySem.Value.str (PySem.Str.ofString "law_nonebetter_k21_shut_outs_by_passing_on") 332) (Option.none) (PySem.Value.ref 164) (PySem.Value.none) (0))) (#[]) else
  bif Nat.beq i 166 then PySem.Obj.mk (PySem.Value.type "tuple") Option.none (PySem.Data.seq #[]) #[] else
  bif Nat.beq i 169 then PySem.Obj.mk (PySem.Value.type "code") Option.none (PySem.Data.fields #[PySem.Value.str (PySem.Str.ofString "_law_simple") 401, PySem.Value.str (PySem.Str.ofString "_law_simple") 402, PySem.Value.str (PySem.Str.ofString "/claim/cut.py") 403, PySem.Value.int 139 0, PySem.Value.int 3 0, PySem.Value.int 0 0, PySem.Value.int 0 0, PySem.Value.int 3 0, PySem.Value.ref 166, PySem.Value.bool Bool.true, PySem.Value.int 181 0, PySem.Value.ref 167, PySem.Value.none, PySem.Value.none, PySem.Value.none, PySem.Value.ref 168, PySem.Value.int 404 0, PySem.Value.int 139 0, PySem.Value.str (PySem.Str.ofString "/claim/cut.py") 405]) #[] else
  PySem.Obj.mk (PySem.Value.type "function") (Option.none) (PySem.Data.func (PySem.FuncData.mk (PySem.Str.ofString "_law_simple") (PySem.Str.ofString "_law_simple") (L2.defArgs (htop 23)) (PySem.FuncBody.stmts (L2.defBody (htop 23))) (L2.defScope (htop 23)) (3) ([]) (PySem.Value.none) (PySem.Value.none) (PySem.Value.none) (PySem.Value.str (PySem.Str.ofString "law_nonebetter_k21_shut_outs_by_passing_on") 332) (Option.none) (PySem.Value.ref 169) (PySem.Value.none) (0))) (#[])
noncomputable def hob21 (i : Nat) (P : PySem.Params) : PySem.Obj :=
  bif Nat.beq i 171 then PySem.Obj.mk (PySem.Value.type "tuple") Option.none (PySem.Data.seq #[]) #[] else
  bif Nat.beq i 174 then PySem.Obj.mk (PySem.Value.type "code") Option.none (PySem.Data.fields #[PySem.Value.str (PySem.Str.ofString "_law_summed") 407, PySem.Value.str (PySem.Str.ofString "_law_summed") 408, PySem.Value.str (PySem.Str.ofString "/claim/cut.py") 409, PySem.Value.int 156 0, PySem.Value.int 3 0, PySem.Value.int 0 0, PySem.Value.int 0 0, PySem.Value.int 3 0, PySem.Value.ref 171, PySem.Value.bool Bool.true, PySem.Value.int 181 0, PySem.Value.ref 172, PySem.Value.none, PySem.Value.none, PySem.Value.none, PySem.Value.ref 173, PySem.Value.int 410 0, PySem.Value.int 156 0, PySem.Value.str (PySem.Str.ofString "/claim/cut.py") 411]) #[] else
  bif Nat.beq i 175 then PySem.Obj.mk (PySem.Value.type "function") (Option.none) (PySem.Data.func (PySem.FuncData.mk (PySem.Str.ofString "_law_summed") (PySem.Str.ofString "_law_summed") (L2.defArgs (htop 24)) (PySem.FuncBody.stmts (L2.defBody (htop 24))) (L2.defScope (htop 24)) (3) ([]) (PySem.Value.none) (PySem.Value.none) (PySem.Value.none) (PySem.Value.str (PySem.Str.ofString "law_nonebetter_k21_shut_outs_by_passing_on") 332) (Option.none) (PySem.Value.ref 174) (PySem.Value.none) (0))) (#[]) else
  bif Nat.beq i 176 then PySem.Obj.mk (PySem.Value.type "tuple") Option.none (PySem.Data.seq #[]) #[] else
  PySem.Obj.mk (PySem.Value.type "code") Option.none (PySem.Data.fields #[PySem.Value.str (PySem.Str.ofString "_law_shared") 413, PySem.Value.str (PySem.Str.ofString "_law_shared") 414, PySem.Value.str (PySem.Str.ofString "/claim/cut.py") 415, PySem.Value.int 170 0, PySem.Value.int 2 0, PySem.Value.int 0 0, PySem.Value.int 0 0, PySem.Value.int 3 0, PySem.Value.ref 176, PySem.Value.bool Bool.true, PySem.Value.int 181 0, PySem.Value.ref 177, PySem.Value.none, PySem.Value.none, PySem.Value.none, PySem.Value.ref 178, PySem.Value.int 416 0, PySem.Value.int 170 0, PySem.Value.str (PySem.Str.ofString "/claim/cut.py") 417]) #[]
noncomputable def hob22 (i : Nat) (P : PySem.Params) : PySem.Obj :=
  bif Nat.beq i 180 then PySem.Obj.mk (PySem.Value.type "function") (Option.none) (PySem.Data.func (PySem.FuncData.mk (PySem.Str.ofString "_law_shared") (PySem.Str.ofString "_law_shared") (L2.defArgs (htop 25)) (PySem.FuncBody.stmts (L2.defBody (htop 25))) (L2.defScope (htop 25)) (3) ([]) (PySem.Value.none) (PySem.Value.none) (PySem.Value.none) (PySem.Value.str (PySem.Str.ofString "law_nonebetter_k21_shut_outs_by_passing_on") 332) (Option.none) (PySem.Value.ref 179) (PySem.Value.none) (0))) (#[]) else
  bif Nat.beq i 181 then PySem.Obj.mk (PySem.Value.type "tuple") Option.none (PySem.Data.seq #[]) #[] else
  bif Nat.beq i 184 then PySem.Obj.mk (PySem.Value.type "code") Option.none (PySem.Data.fields #[PySem.Value.str (PySem.Str.ofString "_law_most") 419, PySem.Value.str (PySem.Str.ofString "_law_most") 420, PySem.Value.str (PySem.Str.ofString "/claim/cut.py") 421, PySem.Value.int 177 0, PySem.Value.int 2 0, PySem.Value.int 0 0, PySem.Value.int 0 0, PySem.Value.int 3 0, PySem.Value.ref 181, PySem.Value.bool Bool.true, PySem.Value.int 181 0, PySem.Value.ref 182, PySem.Value.none, PySem.Value.none, PySem.Value.none, PySem.Value.ref 183, PySem.Value.int 422 0, PySem.Value.int 177 0, PySem.Value.str (PySem.Str.ofString "/claim/cut.py") 423]) #[] else
  bif Nat.beq i 185 then PySem.Obj.mk (PySem.Value.type "function") (Option.none) (PySem.Data.func (PySem.FuncData.mk (PySem.Str.ofString "_law_most") (PySem.Str.ofString "_law_most") (L2.defArgs (htop 26)) (PySem.FuncBody.stmts (L2.defBody (htop 26))) (L2.defScope (htop 26)) (3) ([]) (PySem.Value.none) (PySem.Value.none) (PySem.Value.none) (PySem.Value.str (PySem.Str.ofString "law_nonebetter_k21_shut_outs_by_passing_on") 332) (Option.none) (PySem.Value.ref 184) (PySem.Value.none) (0))) (#[]) else
  PySem.Obj.mk (PySem.Value.type "tuple") Option.none (PySem.Data.seq #[]) #[]
noncomputable def hob23 (i : Nat) (P : PySem.Params) : PySem.Obj :=
  bif Nat.beq i 189 then PySem.Obj.mk (PySem.Value.type "code") Option.none (PySem.Data.fields #[PySem.Value.str (PySem.Str.ofString "_law_shut_out") 425, PySem.Value.str (PySem.Str.ofString "_law_shut_out") 426, PySem.Value.str (PySem.Str.ofString "/claim/cut.py") 427, PySem.Value.int 181 0, PySem.Value.int 2 0, PySem.Value.int 0 0, PySem.Value.int 0 0, PySem.Value.int 3 0, PySem.Value.ref 186, PySem.Value.bool Bool.true, PySem.Value.int 181 0, PySem.Value.ref 187, PySem.Value.none, PySem.Value.none, PySem.Value.none, PySem.Value.ref 188, PySem.Value.int 428 0, PySem.Value.int 181 0, PySem.Value.str (PySem.Str.ofString "/claim/cut.py") 429]) #[] else
  bif Nat.beq i 190 then PySem.Obj.mk (PySem.Value.type "function") (Option.none) (PySem.Data.func (PySem.FuncData.mk (PySem.Str.ofString "_law_shut_out") (PySem.Str.ofString "_law_shut_out") (L2.defArgs (htop 27)) (PySem.FuncBody.stmts (L2.defBody (htop 27))) (L2.defScope (htop 27)) (3) ([]) (PySem.Value.none) (PySem.Value.none) (PySem.Value.none) (PySem.Value.str (PySem.Str.ofString "law_nonebetter_k21_shut_outs_by_passing_on") 332) (Option.none) (PySem.Value.ref 189) (PySem.Value.none) (0))) (#[]) else
  bif Nat.beq i 191 then PySem.Obj.mk (PySem.Value.type "tuple") Option.none (PySem.Data.seq #[]) #[] else
  bif Nat.beq i 194 then PySem.Obj.mk (PySem.Value.type "code") Option.none (PySem.Data.fields #[PySem.Value.str (PySem.Str.ofString "_law_shut") 431, PySem.Value.str (PySem.Str.ofString "_law_shut") 432, PySem.Value.str (PySem.Str.ofString "/claim/cut.py") 433, PySem.Value.int 186 0, PySem.Value.int 2 0, PySem.Value.int 0 0, PySem.Value.int 0 0, PySem.Value.int 3 0, PySem.Value.ref 191, PySem.Value.bool Bool.true, PySem.Value.int 181 0, PySem.Value.ref 192, PySem.Value.none, PySem.Value.none, PySem.Value.none, PySem.Value.ref 193, PySem.Value.int 434 0, PySem.Value.int 186 0, PySem.Value.str (PySem.Str.ofString "/claim/cut.py") 435]) #[] else
  PySem.Obj.mk (PySem.Value.type "function") (Option.none) (PySem.Data.func (PySem.FuncData.mk (PySem.Str.ofString "_law_shut") (PySem.Str.ofString "_law_shut") (L2.defArgs (htop 28)) (PySem.FuncBody.stmts (L2.defBody (htop 28))) (L2.defScope (htop 28)) (3) ([]) (PySem.Value.none) (PySem.Value.none) (PySem.Value.none) (PySem.Value.str (PySem.Str.ofString "law_nonebetter_k21_shut_outs_by_passing_on") 332) (Option.none) (PySem.Value.ref 194) (PySem.Value.none) (0))) (#[])
noncomputable def hob24 (i : Nat) (P : PySem.Params) : PySem.Obj :=
  bif Nat.beq i 196 then PySem.Obj.mk (PySem.Value.type "tuple") Option.none (PySem.Data.seq #[]) #[] else
  bif Nat.beq i 198 then PySem.Obj.mk (PySem.Value.type "tuple") Option.none (PySem.Data.seq #[PySem.Value.str (PySem.Str.ofString "_law_one") 440, PySem.Value.str (PySem.Str.ofString "_law_other") 441, PySem.Value.str (PySem.Str.ofString "_law_at") 442, PySem.Value.str (PySem.Str.ofString "_law_k") 443]) #[] else
  bif Nat.beq i 199 then PySem.Obj.mk (PySem.Value.type "tuple") Option.none (PySem.Data.seq #[]) #[] else
  bif Nat.beq i 201 then PySem.Obj.mk (PySem.Value.type "code") Option.none (PySem.Data.fields #[PySem.Value.str (PySem.Str.ofString "_law_either") 437, PySem.Value.str (PySem.Str.ofString "_law_either") 438, PySem.Value.str (PySem.Str.ofString "/claim/cut.py") 439, PySem.Value.int 196 0, PySem.Value.int 3 0, PySem.Value.int 0 0, PySem.Value.int 0 0, PySem.Value.int 3 0, PySem.Value.ref 196, PySem.Value.bool Bool.true, PySem.Value.int 181 0, PySem.Value.ref 197, PySem.Value.none, PySem.Value.ref 198, PySem.Value.ref 199, PySem.Value.ref 200, PySem.Value.int 444 0, PySem.Value.int 196 0, PySem.Value.str (PySem.Str.ofString "/claim/cut.py") 445]) #[] else
  PySem.Obj.mk (PySem.Value.type "function") (Option.none) (PySem.Data.func (PySem.FuncData.mk (PySem.Str.ofString "_law_either") (PySem.Str.ofString "_law_either") (L2.defArgs (htop 29)) (PySem.FuncBody.stmts (L2.defBody (htop 29))) (L2.defScope (htop 29)) (3) ([]) (PySem.Value.none) (PySem.Value.none) (PySem.Value.none) (PySem.Value.str (PySem.Str.ofString "law_nonebetter_k21_shut_outs_by_passing_on") 332) (Option.none) (PySem.Value.ref 201) (PySem.Value.none) (0))) (#[])
noncomputable def hob25 (i : Nat) (P : PySem.Params) : PySem.Obj :=
  bif Nat.beq i 203 then PySem.Obj.mk (PySem.Value.type "tuple") Option.none (PySem.Data.seq #[]) #[] else
  bif Nat.beq i 206 then PySem.Obj.mk (PySem.Value.type "code") Option.none (PySem.Data.fields #[PySem.Value.str (PySem.Str.ofString "_law_like") 447, PySem.Value.str (PySem.Str.ofString "_law_like") 448, PySem.Value.str (PySem.Str.ofString "/claim/cut.py") 449, PySem.Value.int 201 0, PySem.Value.int 2 0, PySem.Value.int 0 0, PySem.Value.int 0 0, PySem.Value.int 3 0, PySem.Value.ref 203, PySem.Value.bool Bool.true, PySem.Value.int 181 0, PySem.Value.ref 204, PySem.Value.none, PySem.Value.none, PySem.Value.none, PySem.Value.ref 205, PySem.Value.int 450 0, PySem.Value.int 201 0, PySem.Value.str (PySem.Str.ofString "/claim/cut.py") 451]) #[] else
  bif Nat.beq i 207 then PySem.Obj.mk (PySem.Value.type "function") (Option.none) (PySem.Data.func (PySem.FuncData.mk (PySem.Str.ofString "_law_like") (PySem.Str.ofString "_law_like") (L2.defArgs (htop 30)) (PySem.FuncBody.stmts (L2.defBody (htop 30))) (L2.defScope (htop 30)) (3) ([]) (PySem.Value.none) (PySem.Value.none) (PySem.Value.none) (PySem.Value.str (PySem.Str.ofString "law_nonebetter_k21_shut_outs_by_passing_on") 332) (Option.none) (PySem.Value.ref 206) (PySem.Value.none) (0))) (#[]) else
  bif Nat.beq i 208 then PySem.Obj.mk (PySem.Value.type "tuple") Option.none (PySem.Data.seq #[]) #[] else
  PySem.Obj.mk (PySem.Value.type "tuple") Option.none (PySem.Data.seq #[PySem.Value.str (PySem.Str.ofString "_law_problem_here") 456, PySem.Value.str (PySem.Str.ofString "_law_best") 457, PySem.Value.str (PySem.Str.ofString "_law_heard") 458, PySem.Value.str (PySem.Str.ofString "_law_line") 459]) #[]
noncomputable def hob26 (i : Nat) (P : PySem.Params) : PySem.Obj :=
  bif Nat.beq i 211 then PySem.Obj.mk (PySem.Value.type "tuple") Option.none (PySem.Data.seq #[]) #[] else
  bif Nat.beq i 213 then PySem.Obj.mk (PySem.Value.type "code") Option.none (PySem.Data.fields #[PySem.Value.str (PySem.Str.ofString "_law_row") 453, PySem.Value.str (PySem.Str.ofString "_law_row") 454, PySem.Value.str (PySem.Str.ofString "/claim/cut.py") 455, PySem.Value.int 220 0, PySem.Value.int 4 0, PySem.Value.int 0 0, PySem.Value.int 0 0, PySem.Value.int 3 0, PySem.Value.ref 208, PySem.Value.bool Bool.true, PySem.Value.int 181 0, PySem.Value.ref 209, PySem.Value.none, PySem.Value.ref 210, PySem.Value.ref 211, PySem.Value.ref 212, PySem.Value.int 460 0, PySem.Value.int 220 0, PySem.Value.str (PySem.Str.ofString "/claim/cut.py") 461]) #[] else
  bif Nat.beq i 214 then PySem.Obj.mk (PySem.Value.type "function") (Option.none) (PySem.Data.func (PySem.FuncData.mk (PySem.Str.ofString "_law_row") (PySem.Str.ofString "_law_row") (L2.defArgs (htop 31)) (PySem.FuncBody.stmts (L2.defBody (htop 31))) (L2.defScope (htop 31)) (3) ([]) (PySem.Value.none) (PySem.Value.none) (PySem.Value.none) (PySem.Value.str (PySem.Str.ofString "law_nonebetter_k21_shut_outs_by_passing_on") 332) (Option.none) (PySem.Value.ref 213) (PySem.Value.none) (0))) (#[]) else
  bif Nat.beq i 215 then PySem.Obj.mk (PySem.Value.type "tuple") Option.none (PySem.Data.seq #[]) #[] else
  PySem.Obj.mk (PySem.Value.type "tuple") Option.none (PySem.Data.seq #[PySem.Value.str (PySem.Str.ofString "_law_problem_here") 466, PySem.Value.str (PySem.Str.ofString "_law_best") 467, PySem.Value.str (PySem.Str.ofString "_law_paper") 468, PySem.Value.str (PySem.Str.ofString "_law_heard") 469, PySem.Value.str (PySem.Str.ofString "_law_line") 470, PySem.Value.str (PySem.Str.ofString "_law_row_here") 471]) #[]
noncomputable def hob27 (i : Nat) (P : PySem.Params) : PySem.Obj :=
  bif Nat.beq i 218 then PySem.Obj.mk (PySem.Value.type "tuple") Option.none (PySem.Data.seq #[]) #[] else
  bif Nat.beq i 220 then PySem.Obj.mk (PySem.Value.type "code") Option.none (PySem.Data.fields #[PySem.Value.str (PySem.Str.ofString "_law_told") 463, PySem.Value.str (PySem.Str.ofString "_law_told") 464, PySem.Value.str (PySem.Str.ofString "/claim/cut.py") 465, PySem.Value.int 238 0, PySem.Value.int 3 0, PySem.Value.int 0 0, PySem.Value.int 0 0, PySem.Value.int 3 0, PySem.Value.ref 215, PySem.Value.bool Bool.true, PySem.Value.int 181 0, PySem.Value.ref 216, PySem.Value.none, PySem.Value.ref 217, PySem.Value.ref 218, PySem.Value.ref 219, PySem.Value.int 472 0, PySem.Value.int 238 0, PySem.Value.str (PySem.Str.ofString "/claim/cut.py") 473]) #[] else
  bif Nat.beq i 221 then PySem.Obj.mk (PySem.Value.type "function") (Option.none) (PySem.Data.func (PySem.FuncData.mk (PySem.Str.ofString "_law_told") (PySem.Str.ofString "_law_told") (L2.defArgs (htop 32)) (PySem.FuncBody.stmts (L2.defBody (htop 32))) (L2.defScope (htop 32)) (3) ([]) (PySem.Value.none) (PySem.Value.none) (PySem.Value.none) (PySem.Value.str (PySem.Str.ofString "law_nonebetter_k21_shut_outs_by_passing_on") 332) (Option.none) (PySem.Value.ref 220) (PySem.Value.none) (0))) (#[]) else
  bif Nat.beq i 222 then PySem.Obj.mk (PySem.Value.type "tuple") Option.none (PySem.Data.seq #[]) #[] else
  PySem.Obj.mk (PySem.Value.type "code") Option.none (PySem.Data.fields #[PySem.Value.str (PySem.Str.ofString "_law_ends_broken") 475, PySem.Value.str (PySem.Str.ofString "_law_ends_broken") 476, PySem.Value.str (PySem.Str.ofString "/claim/cut.py") 477, PySem.Value.int 248 0, PySem.Value.int 3 0, PySem.Value.int 0 0, PySem.Value.int 0 0, PySem.Value.int 3 0, PySem.Value.ref 222, PySem.Value.bool Bool.true, PySem.Value.int 181 0, PySem.Value.ref 223, PySem.Value.none, PySem.Value.none, PySem.Value.none, PySem.Value.ref 224, PySem.Value.int 478 0, PySem.Value.int 248 0, PySem.Value.str (PySem.Str.ofString "/claim/cut.py") 479]) #[]
noncomputable def hob28 (i : Nat) (P : PySem.Params) : PySem.Obj :=
  bif Nat.beq i 226 then PySem.Obj.mk (PySem.Value.type "function") (Option.none) (PySem.Data.func (PySem.FuncData.mk (PySem.Str.ofString "_law_ends_broken") (PySem.Str.ofString "_law_ends_broken") (L2.defArgs (htop 33)) (PySem.FuncBody.stmts (L2.defBody (htop 33))) (L2.defScope (htop 33)) (3) ([]) (PySem.Value.none) (PySem.Value.none) (PySem.Value.none) (PySem.Value.str (PySem.Str.ofString "law_nonebetter_k21_shut_outs_by_passing_on") 332) (Option.none) (PySem.Value.ref 225) (PySem.Value.none) (0))) (#[]) else
  bif Nat.beq i 227 then PySem.Obj.mk (PySem.Value.type "tuple") Option.none (PySem.Data.seq #[]) #[] else
  bif Nat.beq i 230 then PySem.Obj.mk (PySem.Value.type "code") Option.none (PySem.Data.fields #[PySem.Value.str (PySem.Str.ofString "law") 481, PySem.Value.str (PySem.Str.ofString "law") 482, PySem.Value.str (PySem.Str.ofString "/claim/cut.py") 483, PySem.Value.int 262 0, PySem.Value.int 1 0, PySem.Value.int 0 0, PySem.Value.int 0 0, PySem.Value.int 3 0, PySem.Value.ref 227, PySem.Value.bool Bool.true, PySem.Value.int 181 0, PySem.Value.ref 228, PySem.Value.none, PySem.Value.none, PySem.Value.none, PySem.Value.ref 229, PySem.Value.int 484 0, PySem.Value.int 262 0, PySem.Value.str (PySem.Str.ofString "/claim/cut.py") 485]) #[] else
  PySem.Obj.mk (PySem.Value.type "function") (Option.none) (PySem.Data.func (PySem.FuncData.mk (PySem.Str.ofString "law") (PySem.Str.ofString "law") (L2.defArgs (htop 34)) (PySem.FuncBody.stmts (L2.defBody (htop 34))) (L2.defScope (htop 34)) (3) ([]) (PySem.Value.none) (PySem.Value.none) (PySem.Value.none) (PySem.Value.str (PySem.Str.ofString "law_nonebetter_k21_shut_outs_by_passing_on") 332) (Option.none) (PySem.Value.ref 230) (PySem.Value.none) (0))) (#[])
noncomputable def hob (i : Nat) (P : PySem.Params) : PySem.Obj := (bif Nat.ble i 119 then (bif Nat.ble i 68 then (bif Nat.ble i 40 then (bif Nat.ble i 19 then hob0 i P else (bif Nat.ble i 26 then hob1 i P else hob2 i P)) else (bif Nat.ble i 54 then (bif Nat.ble i 47 then hob3 i P else hob4 i P) else (bif Nat.ble i 59 then hob5 i P else hob6 i P))) else (bif Nat.ble i 89 then (bif Nat.ble i 75 then hob7 i P else (bif Nat.ble i 82 then hob8 i P else hob9 i P)) else (bif Nat.ble i 105 then (bif Nat.ble i 98 then hob10 i P else hob11 i P) else (bif Nat.ble i 112 then hob12 i P else hob13 i P)))) else (bif Nat.ble i 170 then (bif Nat.ble i 140 then (bif Nat.ble i 126 then hob14 i P else (bif Nat.ble i 133 then hob15 i P else hob16 i P)) else (bif Nat.ble i 155 then (bif Nat.ble i 148 then hob17 i P else hob18 i P) else (bif Nat.ble i 162 then hob19 i P else hob20 i P))) else (bif Nat.ble i 202 then (bif Nat.ble i 186 then (bif Nat.ble i 179 then hob21 i P else hob22 i P) else (bif Nat.ble i 195 then hob23 i P else hob24 i P)) else (bif Nat.ble i 217 then (bif Nat.ble i 210 then hob25 i P else hob26 i P) else (bif Nat.ble i 225 then hob27 i P else hob28 i P)))))
noncomputable def heapK : PySem.Params → PySem.W.Frag := fun P => (nat_lit 2, hob (nat_lit 2) P) :: (nat_lit 3, hob (nat_lit 3) P) :: (nat_lit 15, hob (nat_lit 15) P) :: (nat_lit 18, hob (nat_lit 18) P) :: (nat_lit 19, hob (nat_lit 19) P) :: (nat_lit 20, hob (nat_lit 20) P) :: (nat_lit 22, hob (nat_lit 22) P) :: (nat_lit 23, hob (nat_lit 23) P) :: (nat_lit 25, hob (nat_lit 25) P) :: (nat_lit 26, hob (nat_lit 26) P) :: (nat_lit 34, hob (nat_lit 34) P) :: (nat_lit 36, hob (nat_lit 36) P) :: (nat_lit 37, hob (nat_lit 37) P) :: (nat_lit 39, hob (nat_lit 39) P) :: (nat_lit 40, hob (nat_lit 40) P) :: (nat_lit 41, hob (nat_lit 41) P) :: (nat_lit 43, hob (nat_lit 43) P) :: (nat_lit 44, hob (nat_lit 44) P) :: (nat_lit 46, hob (nat_lit 46) P) :: (nat_lit 47, hob (nat_lit 47) P) :: (nat_lit 48, hob (nat_lit 48) P) :: (nat_lit 50, hob (nat_lit 50) P) :: (nat_lit 51, hob (nat_lit 51) P) :: (nat_lit 53, hob (nat_lit 53) P) :: (nat_lit 54, hob (nat_lit 54) P) :: (nat_lit 55, hob (nat_lit 55) P) :: (nat_lit 56, hob (nat_lit 56) P) :: (nat_lit 57, hob (nat_lit 57) P) :: (nat_lit 58, hob (nat_lit 58) P) :: (nat_lit 59, hob (nat_lit 59) P) :: (nat_lit 62, hob (nat_lit 62) P) :: (nat_lit 64, hob (nat_lit 64) P) :: (nat_lit 65, hob (nat_lit 65) P) :: (nat_lit 67, hob (nat_lit 67) P) :: (nat_lit 68, hob (nat_lit 68) P) :: (nat_lit 69, hob (nat_lit 69) P) :: (nat_lit 71, hob (nat_lit 71) P) :: (nat_lit 72, hob (nat_lit 72) P) :: (nat_lit 74, hob (nat_lit 74) P) :: (nat_lit 75, hob (nat_lit 75) P) :: (nat_lit 76, hob (nat_lit 76) P) :: (nat_lit 78, hob (nat_lit 78) P) :: (nat_lit 79, hob (nat_lit 79) P) :: (nat_lit 81, hob (nat_lit 81) P) :: (nat_lit 82, hob (nat_lit 82) P) :: (nat_lit 83, hob (nat_lit 83) P) :: (nat_lit 85, hob (nat_lit 85) P) :: (nat_lit 86, hob (nat_lit 86) P) :: (nat_lit 88, hob (nat_lit 88) P) :: (nat_lit 89, hob (nat_lit 89) P) :: (nat_lit 90, hob (nat_lit 90) P) :: (nat_lit 93, hob (nat_lit 93) P) :: (nat_lit 94, hob (nat_lit 94) P) :: (nat_lit 95, hob (nat_lit 95) P) :: (nat_lit 98, hob (nat_lit 98) P) :: (nat_lit 99, hob (nat_lit 99) P) :: (nat_lit 100, hob (nat_lit 100) P) :: (nat_lit 103, hob (nat_lit 103) P) :: (nat_lit 104, hob (nat_lit 104) P) :: (nat_lit 105, hob (nat_lit 105) P) :: (nat_lit 107, hob (nat_lit 107) P) :: (nat_lit 108, hob (nat_lit 108) P) :: (nat_lit 110, hob (nat_lit 110) P) :: (nat_lit 111, hob (nat_lit 111) P) :: (nat_lit 112, hob (nat_lit 112) P) :: (nat_lit 114, hob (nat_lit 114) P) :: (nat_lit 115, hob (nat_lit 115) P) :: (nat_lit 117, hob (nat_lit 117) P) :: (nat_lit 118, hob (nat_lit 118) P) :: (nat_lit 119, hob (nat_lit 119) P) :: (nat_lit 121, hob (nat_lit 121) P) :: (nat_lit 122, hob (nat_lit 122) P) :: (nat_lit 124, hob (nat_lit 124) P) :: (nat_lit 125, hob (nat_lit 125) P) :: (nat_lit 126, hob (nat_lit 126) P) :: (nat_lit 128, hob (nat_lit 128) P) :: (nat_lit 129, hob (nat_lit 129) P) :: (nat_lit 131, hob (nat_lit 131) P) :: (nat_lit 132, hob (nat_lit 132) P) :: (nat_lit 133, hob (nat_lit 133) P) :: (nat_lit 135, hob (nat_lit 135) P) :: (nat_lit 136, hob (nat_lit 136) P) :: (nat_lit 138, hob (nat_lit 138) P) :: (nat_lit 139, hob (nat_lit 139) P) :: (nat_lit 140, hob (nat_lit 140) P) :: (nat_lit 143, hob (nat_lit 143) P) :: (nat_lit 144, hob (nat_lit 144) P) :: (nat_lit 145, hob (nat_lit 145) P) :: (nat_lit 147, hob (nat_lit 147) P) :: (nat_lit 148, hob (nat_lit 148) P) :: (nat_lit 150, hob (nat_lit 150) P) :: (nat_lit 151, hob (nat_lit 151) P) :: (nat_lit 152, hob (nat_lit 152) P) :: (nat_lit 154, hob (nat_lit 154) P) :: (nat_lit 155, hob (nat_lit 155) P) :: (nat_lit 157, hob (nat_lit 157) P) :: (nat_lit 158, hob (nat_lit 158) P) :: (nat_lit 159, hob (nat_lit 159) P) :: (nat_lit 161, hob (nat_lit 161) P) :: (nat_lit 162, hob (nat_lit 162) P) :: (nat_lit 164, hob (nat_lit 164) P) :: (nat_lit 165, hob (nat_lit 165) P) :: (nat_lit 166, hob (nat_lit 166) P) :: (nat_lit 169, hob (nat_lit 169) P) :: (nat_lit 170, hob (nat_lit 170) P) :: (nat_lit 171, hob (nat_lit 171) P) :: (nat_lit 174, hob (nat_lit 174) P) :: (nat_lit 175, hob (nat_lit 175) P) :: (nat_lit 176, hob (nat_lit 176) P) :: (nat_lit 179, hob (nat_lit 179) P) :: (nat_lit 180, hob (nat_lit 180) P) :: (nat_lit 181, hob (nat_lit 181) P) :: (nat_lit 184, hob (nat_lit 184) P) :: (nat_lit 185, hob (nat_lit 185) P) :: (nat_lit 186, hob (nat_lit 186) P) :: (nat_lit 189, hob (nat_lit 189) P) :: (nat_lit 190, hob (nat_lit 190) P) :: (nat_lit 191, hob (nat_lit 191) P) :: (nat_lit 194, hob (nat_lit 194) P) :: (nat_lit 195, hob (nat_lit 195) P) :: (nat_lit 196, hob (nat_lit 196) P) :: (nat_lit 198, hob (nat_lit 198) P) :: (nat_lit 199, hob (nat_lit 199) P) :: (nat_lit 201, hob (nat_lit 201) P) :: (nat_lit 202, hob (nat_lit 202) P) :: (nat_lit 203, hob (nat_lit 203) P) :: (nat_lit 206, hob (nat_lit 206) P) :: (nat_lit 207, hob (nat_lit 207) P) :: (nat_lit 208, hob (nat_lit 208) P) :: (nat_lit 210, hob (nat_lit 210) P) :: (nat_lit 211, hob (nat_lit 211) P) :: (nat_lit 213, hob (nat_lit 213) P) :: (nat_lit 214, hob (nat_lit 214) P) :: (nat_lit 215, hob (nat_lit 215) P) :: (nat_lit 217, hob (nat_lit 217) P) :: (nat_lit 218, hob (nat_lit 218) P) :: (nat_lit 220, hob (nat_lit 220) P) :: (nat_lit 221, hob (nat_lit 221) P) :: (nat_lit 222, hob (nat_lit 222) P) :: (nat_lit 225, hob (nat_lit 225) P) :: (nat_lit 226, hob (nat_lit 226) P) :: (nat_lit 227, hob (nat_lit 227) P) :: (nat_lit 230, hob (nat_lit 230) P) :: (nat_lit 231, hob (nat_lit 231) P) :: []
theorem all_ok {P : Program} {w : World} {K : PySem.W.Frag} {mg : Str → Option Value} {base : Heap} (M : Mg mg) {C fI fP fL : Addr} {fdI fdP fdL : FuncData} (T : ShTxt K mg C) (mkI : Mk K C fI) (FI : Fun K "__init__" "Sheet.__init__" sShInit fI fdI) (bI : Binds K fdI ["self", "rows"] []) (FP : Fun K "put" "Sheet.put" sShPut fP fdP) (bP : Binds K fdP ["self", "line"] []) (mP : Meth K C "put" fP) (FL : Fun K "line_of" "Sheet.line_of" sShLine fL fdL) (bL : Binds K fdL ["self", "number"] []) (mL : Meth K C "line_of" fL) (F1 : Fn K mg "better_row" sBetterRow) (F2 : Fn K mg "rows_below" sRowsB) (F3 : Fn K mg "most_of" sMost) (F4 : Fn K mg "lowers" sLowers) (F5 : Fn K mg "first_broken" sFirstB) (F6 : Fn K mg "first_forced" sFirstF) (F7 : Fn K mg "passed" sPassed) (F8 : Fn K mg "steps_needed" sNeed) (F9 : Fn K mg "_law_mix" sMixB) (F10 : Fn K mg "_law_cell_at" sCell) (F11 : Fn K mg "_law_left" sLeftB) (F12 : Fn K mg "_law_draw" sDraw) (F13 : Fn K mg "_law_problem" sProblem20) (F14 : Fn K mg "_law_holds" sHolds20) (F15 : Fn K mg "_law_most" sMost21) (F16 : Fn K mg "_law_shut_out" sShutO) (F17 : Fn K mg "_law_is" sIs21) (F18 : Fn K mg "_law_either" sEith) (F19 : Fn K mg "_law_copy" sCopy21) (F20 : Fn K mg "_law_shut" sShut21) (F21 : Fn K mg "_law_simple" sSimple21) (F22 : Fn K mg "_law_summed" sSummed21) (F23 : Fn K mg "_law_shared" sShared21) (F24 : Fn K mg "_law_like" sLike21) (F25 : Fn K mg "_law_row" sRow21) (F26 : Fn K mg "_law_told" sTold21) (F27 : Fn K mg "_law_ends_broken" sEnds21) (F28 : Fn K mg "put_steps" sPutS) (F29 : Fn K mg "passed_lines" sPLines) {f : Addr} {fd : FuncData} (F30 : Fun K "law" "law" sLaw21 f fd) : FnOk P w K mg base CX0 5 f fd ["_law_script"] (spLawB K) := by
  have h_c_better_row := okBetterRow (P := P) (w := w) (base := base) F1 M
  have h_c_rows_below := okRowsB (P := P) (w := w) (base := base) F2 M h_c_better_row
  have h_c_most_of := okMost (P := P) (w := w) (base := base) F3 M
  have h_c_lowers := okLowers (P := P) (w := w) (base := base) F4 M
  have h_c_first_broken := okFirstB (P := P) (w := w) (base := base) F5 M
  have h_c_first_forced := okFirstF (P := P) (w := w) (base := base) F6 M
  have h_c_passed := okPassed (P := P) (w := w) (base := base) F7 M h_c_most_of h_c_first_broken h_c_first_forced h_c_lowers
  have h_c_steps_needed := okNeed (P := P) (w := w) (base := base) F8 M h_c_lowers
  have h_cl_mix := okMixB (P := P) (w := w) (base := base) F9 M
  have h_cl_cell_at := okCell (P := P) (w := w) (base := base) F10 M
  have h_cl_left := okLeftB (P := P) (w := w) (base := base) F11 M h_cl_cell_at
  have h_cl_draw := okDraw (P := P) (w := w) (base := base) F12 M h_cl_mix
  have h_cl_problem := okProblem20 (P := P) (w := w) (base := base) F13 M h_cl_cell_at h_cl_left h_cl_draw
  have h_cl_holds := okHolds20 (P := P) (w := w) (base := base) F14 M h_cl_draw
  have h_cl_most := okMost21 (P := P) (w := w) (base := base) F15 M
  have h_cl_shut_out := okShutO (P := P) (w := w) (base := base) F16 M
  have h_cl_is := okIs21 (P := P) (w := w) (base := base) F17 M
  have h_cl_either := okEith (P := P) (w := w) (base := base) F18 M
  have h_cl_copy := okCopy21 (P := P) (w := w) (base := base) F19 M
  have h_cl_shut := okShut21 (P := P) (w := w) (base := base) F20 M h_cl_is h_cl_most h_cl_shut_out
  have h_cl_simple := okSimple21 (P := P) (w := w) (base := base) F21 M h_cl_is
  have h_cl_summed := okSummed21 (P := P) (w := w) (base := base) F22 M
  have h_cl_shared := okShared21 (P := P) (w := w) (base := base) F23 M
  have h_cl_like := okLike21 (P := P) (w := w) (base := base) F24 M
  have h_cl_row := okRow21 (P := P) (w := w) (base := base) F25 M h_cl_simple h_cl_summed h_cl_like h_cl_is h_cl_shared h_cl_shut h_cl_either
  have h_cl_told := okTold21 (P := P) (w := w) (base := base) F26 M h_cl_row
  have h_cl_ends_broken := okEnds21 (P := P) (w := w) (base := base) F27 M h_cl_most
  have h_c_put_steps := okPutS (P := P) (w := w) (base := base) F28 M T (okShP FP M T) bP mP (okShL FL M T (okShP FP M T) bP mP) bL mL
  have h_c_passed_lines := okPLines (P := P) (w := w) (base := base) F29 M T (okShI FI T) bI mkI h_c_rows_below h_c_passed h_c_steps_needed h_c_put_steps
  have h_c_law := okLaw21 (P := P) (w := w) (base := base) F30 M h_cl_problem h_cl_cell_at h_cl_left h_cl_holds h_cl_copy h_c_passed_lines h_cl_ends_broken h_cl_told h_cl_shut_out
  exact h_c_law
theorem walk {l : PySem.W.OpenLaw} {q : Program} {loose : List Str} {XP : (Str → Option Value) → Heap → Prop} {YP : World → Heap → Prop} {d : DefRec} {K : Params → PySem.W.Frag} (hn : l.most = some 63) (hdf : d.params.defaults = [])
    (hY : ∀ (w : World) (h : Heap), YP w h → (K w.params).In h)
    (F : ∀ (w : World) (mg : Str → Option Value) (fa : Addr) (h : Heap), (K w.params).In h → h.Ns mainGlobals mg → mg d.name = some (.ref fa) →
      ∃ fd : FuncData, (∀ (s : Shared) (u : Value), BindsTo s fd ⟨[u], []⟩ [("_law_script", u)]) ∧ ∀ base : Heap, (K w.params).In base → base.Ns mainGlobals mg → FnOk l.prog w (K w.params) mg base CX0 5 fa fd ["_law_script"] (spLawB (K w.params))) :
    PySem.W.WalkO q loose XP YP l.row.toRowW d [] (fun f vs => PySem.call f vs) :=
  L2.walk_ofB (n := 63) (k := 5) (x := "_law_script") (CX := fun _ => CX0) (sp := fun w => spLawB (K w.params)) hn (by decide) hdf ⟨rfl, by decide, by decide⟩ hY F (fun _ _ a ns hl hb hS => ⟨a, ns, rfl, hS, hl, hb, fun _ => rfl⟩) fun _ _ _ _ _ z => z
end Nb
open PySem PySem.W PyProof.Rows
set_option maxRecDepth 100000 in
set_option maxHeartbeats 0 in
theorem PySem.Challenge.cw_nonebetter_k21_shut_outs_by_passing_on_holds : PySem.Challenge.rw_nonebetter_k21_shut_outs_by_passing_on.Holds := by
  w_on; refine PySem.W.holds_law (by kernel_rfl) fun said => ?_; o_head (PySem.W.kHook Nb.heapK (nat_lit 2 :: nat_lit 3 :: nat_lit 15 :: nat_lit 18 :: nat_lit 19 :: nat_lit 20 :: nat_lit 22 :: nat_lit 23 :: nat_lit 25 :: nat_lit 26 :: nat_lit 34 :: nat_lit 36 :: nat_lit 37 :: nat_lit 39 :: nat_lit 40 :: nat_lit 41 :: nat_lit 43 :: nat_lit 44 :: nat_lit 46 :: nat_lit 47 :: nat_lit 48 :: nat_lit 50 :: nat_lit 51 :: nat_lit 53 :: nat_lit 54 :: nat_lit 55 :: nat_lit 56 :: nat_lit 57 :: nat_lit 58 :: nat_lit 59 :: nat_lit 62 :: nat_lit 64 :: nat_lit 65 :: nat_lit 67 :: nat_lit 68 :: nat_lit 69 :: nat_lit 71 :: nat_lit 72 :: nat_lit 74 :: nat_lit 75 :: nat_lit 76 :: nat_lit 78 :: nat_lit 79 :: nat_lit 81 :: nat_lit 82 :: nat_lit 83 :: nat_lit 85 :: nat_lit 86 :: nat_lit 88 :: nat_lit 89 :: nat_lit 90 :: nat_lit 93 :: nat_lit 94 :: nat_lit 95 :: nat_lit 98 :: nat_lit 99 :: nat_lit 100 :: nat_lit 103 :: nat_lit 104 :: nat_lit 105 :: nat_lit 107 :: nat_lit 108 :: nat_lit 110 :: nat_lit 111 :: nat_lit 112 :: nat_lit 114 :: nat_lit 115 :: nat_lit 117 :: nat_lit 118 :: nat_lit 119 :: nat_lit 121 :: nat_lit 122 :: nat_lit 124 :: nat_lit 125 :: nat_lit 126 :: nat_lit 128 :: nat_lit 129 :: nat_lit 131 :: nat_lit 132 :: nat_lit 133 :: nat_lit 135 :: nat_lit 136 :: nat_lit 138 :: nat_lit 139 :: nat_lit 140 :: nat_lit 143 :: nat_lit 144 :: nat_lit 145 :: nat_lit 147 :: nat_lit 148 :: nat_lit 150 :: nat_lit 151 :: nat_lit 152 :: nat_lit 154 :: nat_lit 155 :: nat_lit 157 :: nat_lit 158 :: nat_lit 159 :: nat_lit 161 :: nat_lit 162 :: nat_lit 164 :: nat_lit 165 :: nat_lit 166 :: nat_lit 169 :: nat_lit 170 :: nat_lit 171 :: nat_lit 174 :: nat_lit 175 :: nat_lit 176 :: nat_lit 179 :: nat_lit 180 :: nat_lit 181 :: nat_lit 184 :: nat_lit 185 :: nat_lit 186 :: nat_lit 189 :: nat_lit 190 :: nat_lit 191 :: nat_lit 194 :: nat_lit 195 :: nat_lit 196 :: nat_lit 198 :: nat_lit 199 :: nat_lit 201 :: nat_lit 202 :: nat_lit 203 :: nat_lit 206 :: nat_lit 207 :: nat_lit 208 :: nat_lit 210 :: nat_lit 211 :: nat_lit 213 :: nat_lit 214 :: nat_lit 215 :: nat_lit 217 :: nat_lit 218 :: nat_lit 220 :: nat_lit 221 :: nat_lit 222 :: nat_lit 225 :: nat_lit 226 :: nat_lit 227 :: nat_lit 230 :: nat_lit 231 :: []) (fun _ => by kernel_rfl)); (case hw => w_witness2)
  k_fill
  refine Nb.walk (l := PySem.Challenge.rw_nonebetter_k21_shut_outs_by_passing_on) rfl rfl (fun w h Y => PySem.W.kIn_of Y) ?F
  case F =>
    intro w mg fa h KX G hmg
    have F1 : L2.Fn (L2.KOf KX) mg "better_row" Nb.sBetterRow := by
      dsimp only [L2.KOf]
      refine' L2.fn_mk KX G ?a ?l ?c ?k
      (case a => k_is); (case l => k_is); (case c => k_is); (case k => k_is)
    have F2 : L2.Fn (L2.KOf KX) mg "rows_below" Nb.sRowsB := by
      dsimp only [L2.KOf]
      refine' L2.fn_mk KX G ?a ?l ?c ?k
      (case a => k_is); (case l => k_is); (case c => k_is); (case k => k_is)
    have F3 : L2.Fn (L2.KOf KX) mg "most_of" Nb.sMost := by
      dsimp only [L2.KOf]
      refine' L2.fn_mk KX G ?a ?l ?c ?k
      (case a => k_is); (case l => k_is); (case c => k_is); (case k => k_is)
    have F4 : L2.Fn (L2.KOf KX) mg "lowers" Nb.sLowers := by
      dsimp only [L2.KOf]
      refine' L2.fn_mk KX G ?a ?l ?c ?k
      (case a => k_is); (case l => k_is); (case c => k_is); (case k => k_is)
    have F5 : L2.Fn (L2.KOf KX) mg "first_broken" Nb.sFirstB := by
      dsimp only [L2.KOf]
      refine' L2.fn_mk KX G ?a ?l ?c ?k
      (case a => k_is); (case l => k_is); (case c => k_is); (case k => k_is)
    have F6 : L2.Fn (L2.KOf KX) mg "first_forced" Nb.sFirstF := by
      dsimp only [L2.KOf]
      refine' L2.fn_mk KX G ?a ?l ?c ?k
      (case a => k_is); (case l => k_is); (case c => k_is); (case k => k_is)
    have F7 : L2.Fn (L2.KOf KX) mg "passed" Nb.sPassed := by
      dsimp only [L2.KOf]
      refine' L2.fn_mk KX G ?a ?l ?c ?k
      (case a => k_is); (case l => k_is); (case c => k_is); (case k => k_is)
    have F8 : L2.Fn (L2.KOf KX) mg "steps_needed" Nb.sNeed := by
      dsimp only [L2.KOf]
      refine' L2.fn_mk KX G ?a ?l ?c ?k
      (case a => k_is); (case l => k_is); (case c => k_is); (case k => k_is)
    have F9 : L2.Fn (L2.KOf KX) mg "_law_mix" Nb.sMixB := by
      dsimp only [L2.KOf]
      refine' L2.fn_mk KX G ?a ?l ?c ?k
      (case a => k_is); (case l => k_is); (case c => k_is); (case k => k_is)
    have F10 : L2.Fn (L2.KOf KX) mg "_law_cell_at" Nb.sCell := by
      dsimp only [L2.KOf]
      refine' L2.fn_mk KX G ?a ?l ?c ?k
      (case a => k_is); (case l => k_is); (case c => k_is); (case k => k_is)
    have F11 : L2.Fn (L2.KOf KX) mg "_law_left" Nb.sLeftB := by
      dsimp only [L2.KOf]
      refine' L2.fn_mk KX G ?a ?l ?c ?k
      (case a => k_is); (case l => k_is); (case c => k_is); (case k => k_is)
    have F12 : L2.Fn (L2.KOf KX) mg "_law_draw" Nb.sDraw := by
      dsimp only [L2.KOf]
      refine' L2.fn_mk KX G ?a ?l ?c ?k
      (case a => k_is); (case l => k_is); (case c => k_is); (case k => k_is)
    have F13 : L2.Fn (L2.KOf KX) mg "_law_problem" Nb.sProblem20 := by
      dsimp only [L2.KOf]
      refine' L2.fn_mk KX G ?a ?l ?c ?k
      (case a => k_is); (case l => k_is); (case c => k_is); (case k => k_is)
    have F14 : L2.Fn (L2.KOf KX) mg "_law_holds" Nb.sHolds20 := by
      dsimp only [L2.KOf]
      refine' L2.fn_mk KX G ?a ?l ?c ?k
      (case a => k_is); (case l => k_is); (case c => k_is); (case k => k_is)
    have F15 : L2.Fn (L2.KOf KX) mg "_law_most" Nb.sMost21 := by
      dsimp only [L2.KOf]
      refine' L2.fn_mk KX G ?a ?l ?c ?k
      (case a => k_is); (case l => k_is); (case c => k_is); (case k => k_is)
    have F16 : L2.Fn (L2.KOf KX) mg "_law_shut_out" Nb.sShutO := by
      dsimp only [L2.KOf]
      refine' L2.fn_mk KX G ?a ?l ?c ?k
      (case a => k_is); (case l => k_is); (case c => k_is); (case k => k_is)
    have F17 : L2.Fn (L2.KOf KX) mg "_law_is" Nb.sIs21 := by
      dsimp only [L2.KOf]
      refine' L2.fn_mk KX G ?a ?l ?c ?k
      (case a => k_is); (case l => k_is); (case c => k_is); (case k => k_is)
    have F18 : L2.Fn (L2.KOf KX) mg "_law_either" Nb.sEith := by
      dsimp only [L2.KOf]
      refine' L2.fn_mk KX G ?a ?l ?c ?k
      (case a => k_is); (case l => k_is); (case c => k_is); (case k => k_is)
    have F19 : L2.Fn (L2.KOf KX) mg "_law_copy" Nb.sCopy21 := by
      dsimp only [L2.KOf]
      refine' L2.fn_mk KX G ?a ?l ?c ?k
      (case a => k_is); (case l => k_is); (case c => k_is); (case k => k_is)
    have F20 : L2.Fn (L2.KOf KX) mg "_law_shut" Nb.sShut21 := by
      dsimp only [L2.KOf]
      refine' L2.fn_mk KX G ?a ?l ?c ?k
      (case a => k_is); (case l => k_is); (case c => k_is); (case k => k_is)
    have F21 : L2.Fn (L2.KOf KX) mg "_law_simple" Nb.sSimple21 := by
      dsimp only [L2.KOf]
      refine' L2.fn_mk KX G ?a ?l ?c ?k
      (case a => k_is); (case l => k_is); (case c => k_is); (case k => k_is)
    have F22 : L2.Fn (L2.KOf KX) mg "_law_summed" Nb.sSummed21 := by
      dsimp only [L2.KOf]
      refine' L2.fn_mk KX G ?a ?l ?c ?k
      (case a => k_is); (case l => k_is); (case c => k_is); (case k => k_is)
    have F23 : L2.Fn (L2.KOf KX) mg "_law_shared" Nb.sShared21 := by
      dsimp only [L2.KOf]
      refine' L2.fn_mk KX G ?a ?l ?c ?k
      (case a => k_is); (case l => k_is); (case c => k_is); (case k => k_is)
    have F24 : L2.Fn (L2.KOf KX) mg "_law_like" Nb.sLike21 := by
      dsimp only [L2.KOf]
      refine' L2.fn_mk KX G ?a ?l ?c ?k
      (case a => k_is); (case l => k_is); (case c => k_is); (case k => k_is)
    have F25 : L2.Fn (L2.KOf KX) mg "_law_row" Nb.sRow21 := by
      dsimp only [L2.KOf]
      refine' L2.fn_mk KX G ?a ?l ?c ?k
      (case a => k_is); (case l => k_is); (case c => k_is); (case k => k_is)
    have F26 : L2.Fn (L2.KOf KX) mg "_law_told" Nb.sTold21 := by
      dsimp only [L2.KOf]
      refine' L2.fn_mk KX G ?a ?l ?c ?k
      (case a => k_is); (case l => k_is); (case c => k_is); (case k => k_is)
    have F27 : L2.Fn (L2.KOf KX) mg "_law_ends_broken" Nb.sEnds21 := by
      dsimp only [L2.KOf]
      refine' L2.fn_mk KX G ?a ?l ?c ?k
      (case a => k_is); (case l => k_is); (case c => k_is); (case k => k_is)
    have F28 : L2.Fn (L2.KOf KX) mg "put_steps" Nb.sPutS := by
      dsimp only [L2.KOf]
      refine' L2.fn_mk KX G ?a ?l ?c ?k
      (case a => k_is); (case l => k_is); (case c => k_is); (case k => k_is)
    have F29 : L2.Fn (L2.KOf KX) mg "passed_lines" Nb.sPLines := by
      dsimp only [L2.KOf]
      refine' L2.fn_mk KX G ?a ?l ?c ?k
      (case a => k_is); (case l => k_is); (case c => k_is); (case k => k_is)
    have F30 : L2.Fn (L2.KOf KX) mg "law" Nb.sLaw21 := by
      dsimp only [L2.KOf]
      refine' L2.fn_mk KX G ?a ?l ?c ?k
      (case a => k_is); (case l => k_is); (case c => k_is); (case k => k_is)
    have M : Nb.Mg mg := by
      refine' ⟨PySem.W.mg_none_of KX G ?m_len, PySem.W.mg_none_of KX G ?m_min, PySem.W.mg_none_of KX G ?m_max, PySem.W.mg_none_of KX G ?m_sum, PySem.W.mg_none_of KX G ?m_all, PySem.W.mg_none_of KX G ?m_any, PySem.W.mg_none_of KX G ?m_abs, PySem.W.mg_none_of KX G ?m_isinstance, PySem.W.mg_none_of KX G ?m_sorted, PySem.W.mg_none_of KX G ?m_range_, PySem.W.mg_none_of KX G ?m_zip_, PySem.W.mg_none_of KX G ?m_tuple_, PySem.W.mg_none_of KX G ?m_list_, PySem.W.mg_none_of KX G ?m_int_, PySem.W.mg_none_of KX G ?m_bool_, PySem.W.mg_none_of KX G ?m_dict_, PySem.W.mg_none_of KX G ?m_enumerate_, PySem.W.mg_none_of KX G ?m_reversed_, PySem.W.mg_none_of KX G ?m_ValueError_, PySem.W.mg_none_of KX G ?m_set_, PySem.W.mg_none_of KX G ?m_str_⟩
      (case m_len => k_is)
      (case m_min => k_is)
      (case m_max => k_is)
      (case m_sum => k_is)
      (case m_all => k_is)
      (case m_any => k_is)
      (case m_abs => k_is)
      (case m_isinstance => k_is)
      (case m_sorted => k_is)
      (case m_range_ => k_is)
      (case m_zip_ => k_is)
      (case m_tuple_ => k_is)
      (case m_list_ => k_is)
      (case m_int_ => k_is)
      (case m_bool_ => k_is)
      (case m_dict_ => k_is)
      (case m_enumerate_ => k_is)
      (case m_reversed_ => k_is)
      (case m_ValueError_ => k_is)
      (case m_set_ => k_is)
      (case m_str_ => k_is)
    have CL : ∃ (C fI fP fL : Addr) (fdI fdP fdL : FuncData), Nb.ShTxt (L2.KOf KX) mg C ∧ L2.Mk (L2.KOf KX) C fI ∧ L2.Fun (L2.KOf KX) "__init__" "Sheet.__init__" Nb.sShInit fI fdI ∧ L2.Fun (L2.KOf KX) "put" "Sheet.put" Nb.sShPut fP fdP ∧ L2.Meth (L2.KOf KX) C "put" fP ∧ L2.Fun (L2.KOf KX) "line_of" "Sheet.line_of" Nb.sShLine fL fdL ∧ L2.Meth (L2.KOf KX) C "line_of" fL := by
      dsimp only [L2.KOf]
      refine' ⟨_, _, _, _, _, _, _, ⟨⟨?pg, ?hd, ?po, ?sa⟩, ?nR, ?nL, ?nP, PySem.W.mg_of KX G ?aC⟩, ⟨?mk, ?a1, ?i1, ?kc⟩, L2.fun_mk (st := Nb.sShInit) ?l1 ?c1 ?k1, L2.fun_mk (st := Nb.sShPut) ?l2 ?c2 ?k2, ⟨?a2, ?i2, ?m2⟩, L2.fun_mk (st := Nb.sShLine) ?l3 ?c3 ?k3, ⟨?a3, ?i3, ?m3⟩⟩
      (case aC => k_is); (case a1 => k_is); (case i1 => k_is); (case l1 => k_is); (case c1 => k_is); (case k1 => k_is)
      (case a2 => k_is); (case i2 => k_is); (case l2 => k_is); (case c2 => k_is); (case k2 => k_is); (case m2 => k_is)
      (case a3 => k_is); (case i3 => k_is); (case l3 => k_is); (case c3 => k_is); (case k3 => k_is); (case m3 => k_is)
      (case pg => k_is); (case hd => k_is); (case po => k_is); (case sa => k_is); (case mk => k_is); (case kc => k_is)
      (case nR => unfold L2.NoAttr; k_is); (case nL => unfold L2.NoAttr; k_is); (case nP => unfold L2.NoAttr; k_is)
    obtain ⟨C, fI, fP, fL, fdI, fdP, fdL, T, mkI, FI, FP, mP, FL, mL⟩ := CL
    have bI := FI.binds (ps := ["self", "rows"]) fun _ _ _ _ _ _ us hl => match us, hl with | [_, _], _ => rfl
    have bP := FP.binds (ps := ["self", "line"]) fun _ _ _ _ _ _ us hl => match us, hl with | [_, _], _ => rfl
    have bL := FL.binds (ps := ["self", "number"]) fun _ _ _ _ _ _ us hl => match us, hl with | [_, _], _ => rfl
    obtain ⟨f, fd, FF, hm⟩ := F30
    have e0 := hmg.symm.trans hm
    cases e0
    refine' ⟨fd, ?b, fun base kb nb => Nb.all_ok M T mkI FI bI FP bP mP FL bL mL F1 F2 F3 F4 F5 F6 F7 F8 F9 F10 F11 F12 F13 F14 F15 F16 F17 F18 F19 F20 F21 F22 F23 F24 F25 F26 F27 F28 F29 FF⟩
    obtain ⟨oc, od, kV, doc, pm, an, cdv, ct, osl, rfl, lk, hcd⟩ := FF.ex
    exact fun s u => .of_eq rfl

